import PyProof.Rows.All
import Wide.All
import OpenK.AllK
import Wide.FinOn
import Lean
import PyProof.EqAt
import PyProof.EqKinds
import PyProof.TupleCall
import PyProof.SetKind
import PyProof.SetNew
import PyProof.SetRoads
import PyProof.Walks
import PyProof.Rows.SetListFold
import PyProof.Seq
import PyProof.Rows.SortShell
import PyProof.TupleIter
import PyProof.CollectWalk
import PyProof.ReprRoads
import PyProof.EqLayable
import PyProof.ReprLen
import PyProof.WalkInts
import PyProof.SeqI3
import PyProof.ListMulRoad
import PyProof.ZipIter
import PyProof.EnumFor
import PyProof.EnumMake
import PyProof.Draws
import PyProof.Rows.ZipGen
import PyProof.LayNew
import PyProof.WalksMore
import PyProof.IsiTupleAll
import PyProof.Rows.Range3
import PyProof.Rows.SumAny
import PyProof.Rows.CallKwBuiltin
import PyProof.MinMaxWalk
import PySem.Challenge.RW_boxcover_k28_heights_and_skylines
open PySem renaming wpAny_bind → U0, wpAny_pure → U0c, wpAny_newObj_type → U17, mem_of_lookup → U2f, wpAny_truthy_bool → U2g, wpAny_holding → U2j, wpAny_setField → U3, wpAny_call_entry → U3m, wpAny_rule → U3p, wpAny_setState_of → U31, wpAny_askSetting → U38, wpAny_pyIter_list → U4l, wpAny_passesOwn → U40, wpAny_updateSeq → U43, wpAny_Call_Name_kw → U45, wpAny_mono → U5a, wpAny_seqItems → U5c, wpAny_tryCatch → U5e, wpAny_typeOf → U5s, wpAny_setEntries_of → U5x, wpAny_isInstance → U6g, wpAny_execs_nil → U6l, wpAny_ite_false → U6o, wpAny_letGo → U6s, call → U6v
open PySem.W renaming Frag → U0a, nsIn → U0t, keepIn → U05, fnOf → U09, codeIn → U1a, mg_of → U1o, mg_none_of → U1q, kia_one → U2m, kitOne → U20, findIn → U5b, cellsFrom_some → U5l, OpenLaw → U5u, methodObj → U57, instObj → U6k, lookIn → U6t, WalkO → U6y
open Option renaming bind_some → U0b, map_bind → U0y, some → U1g, map_eq_some_iff → U2e, map → U2q, isSome_iff_exists → U46, toList_some → U5, map_some → U5w
open PySem.Heap renaming get?_push_of_some → U0d, lt_size → U0k, get?_push_size → U0r, get?_update_other → U0z, SameBut → U13, get?_update_self → U2k, size_push → U2l
open Array renaming length_toList → U0e, toList_append → U1r, getElem?_eq_getElem → U1w, getElem?_toList → U2a, getD_eq_getD_getElem? → U2n, getElem_toList → U3d, toList_extract → U3e, toList_reverse → U4w, perm_iff_toList_perm → U4x, toList_push → U6a
open List renaming length_cons → U0f, length_map → U0g, getElem?_eq_some_iff → U0h, length_append → U0i, size_toArray → U0j, map_cons → U0n, mem_cons_of_mem → U0o, replicate → U0p, getElem?_eq_getElem → U0q, map_map → U0s, mem_cons → U0u, getElem?_map → U0v, append_assoc → U0w, getElem?_append_left → U00, mem_append_right → U01, replicate_succ → U02, mem_cons_self → U04, length_nil → U1b, replicate_zero → U1d, pairwise_append → U1e, getElem?_append_right → U1f, length_take → U1i, append_nil → U1j, mem_singleton → U1k, mem_append → U1l, map_nil → U1m, take_append_drop → U1n, lookup_cons → U1p, length_drop → U1s, length_replicate → U1t, perm_append_comm → U1v, getD_eq_getElem?_getD → U1x, nil_append → U1y, mem_of_getElem? → U12, cons_append → U15, Perm → U16, map_append → U18, take_of_length_le → U2d, flatten_cons → U2i, length_eq_zero_iff → U2o, getElem?_set_self → U2r, drop_eq_getElem_cons → U2t, extract_eq_take_drop → U2u, mem_append_left → U2y, getElem?_set_ne → U2z, foldl_cons → U22, Nodup → U26, all_eq_true → U27, length_singleton → U29, pairwise_iff_getElem → U3a, length → U3b, mem_map → U3f, foldl_append → U3g, take_append_of_le_length → U3i, getElem_of_mem → U3j, mem_range → U3k, range → U3o, pairwise_cons → U3s, mem_filter → U3v, mem_iff_getElem? → U3w, getElem?_toArray → U3x, length_pos_iff → U4, getElem?_replicate → U4a, length_set → U4e, lookup_append → U4f, drop_drop → U4q, getElem_mem → U4u, not_mem_nil → U4v, filterMap_cons → U4y, mergeSort_perm → U4z, nodup_cons → U41, drop_zero → U5d, drop_left → U5f, take_sublist → U5i, take_length → U5p, getElem?_eq_none → U5q, foldl → U5t, take_succ → U51, getElem?_drop → U52, getElem?_take → U53, Pairwise → U55, drop_sublist → U59, length_range → U6b, reverse_perm → U6c, ext_getElem? → U6d, isEmpty_nil → U6h, of_mem_zip → U6m, forIn_cons → U6n, lookup → U6r
open Nat renaming le_refl → U0l, lt_of_lt_of_le → U03, le_trans → U08, ne_of_lt → U1c, reduceAdd → U10, reduceSub → U11, le_of_lt → U2c, zero_le → U3c, ne_of_gt → U3q, lt_of_le_of_lt → U3r, zero_add → U37, lt_irrefl → U4b, le_succ → U4h, lt_succ_of_lt → U4m, lt_succ_self → U4t, lt_trans → U44, add_zero → U49, add_sub_cancel_left → U5h, le_add_right → U5o, not_lt → U6w, add_assoc → U60, mul_comm → U62, le_of_eq → U63
open Bool renaming and_eq_true → U0m, false_ne_true → U06, false_eq_true → U07, eq_iff_iff → U4d, not_true → U5n, true_and → U6z, true_xor → U61
open Option.some renaming inj → U0x
open PySem.SetTable renaming below → U1h, grown → U34, probe → U50
open List.Perm renaming append_left → U1u, refl → U4o, cons → U6u
open PySem.NameKind renaming free → U1z, cell → U25
open PySem.Heap.SameBut renaming update → U14
open PySem.SeqAt renaming shaped → U19
open PyProof.Rows renaming slot_tuple_getitem → U2b, callWith_type1 → U4s
open PySem.Obj renaming mapSeq → U2h, mapFields → U3h
open PySem.Around renaming under_plainId → U2p
open PySem.Value renaming none → U2s, type → U24, ref → U28, bool → U4c, int → U4r
open PySem.PyData renaming depth → U2v, shown → U3u, depthAll → U3z, canLay0 → U35, shownAll → U4g, canLayAll0 → U5k, showable → U5v, eqv → U6x
open PySem.F renaming slot_list_append → U2w, type_list_append → U2x, plainAttrs_list → U21, plain_max_loop → U3n, called_set → U39, slot_tuple_mul → U4i, args_tuple_add_2 → U47, entry_tuple_add → U5g, slot_tuple_add → U5m, entry_max_loop → U6j
open PySem.PassesOwn renaming never → U23
open Ne renaming symm → U3l
open PySem.Manifest renaming ParamKind → U3t, Receiver → U5j
open ForInStep renaming yield → U3y
open PySem.Manifest.ParamKind renaming posOnly → U30
open False renaming elim → U32
open PySem.Builtin.Slice renaming slicePlaces → U33, sliceAdjust → U42
open PySem.Builtin.Tuple renaming tupleExact → U36
open Int renaming le_refl → U4j, toNat_natCast → U4n, le_of_lt → U4p, emod_lt_of_pos → U54, le_trans → U6i, le_antisymm → U6p, emod_nonneg → U6q
open PySem.SetTable.below renaming go → U4k
open PySem.Builtin.List renaming listTooLong → U48
open PySem.Str renaming ofString → U5r
open Sum renaming inl → U5y, inr → U5z
open PySem.Shared renaming TypeIs → U56
open List.Pairwise renaming nil → U58
open PySem.SetTable.probe renaming go → U6
open True renaming intro → U6e
open Or renaming inr → U6f, inl → U64
noncomputable section
set_option Elab.async false
set_option maxRecDepth 10000
set_option linter.all false
set_option maxHeartbeats 4000000
namespace PySem.W.Fast
def tw7439133417412415815:=0
def tw12599962876054290535:=0
def tw11894148854356056832:=0
def tw4421197604003201378:=0
def tw2959614614231403893:=0
def tw8236876004769898740:=0
def tw17085966145459774215:=0
def tw6832204740368861336:=0
def tw163558548302966780:=0
def tw7270368484129932148:=0
def tw17430221827845362173:=0
def tw8222550990693080874:=0
def tw16479407530958987185:=0
def tw15986489409972423816:=0
def tw7527292764201182573:=0
def tw14485630856823223890:=0
def tw4419231441251279467:=0
def tw14665698423166156768:=0
def tw13894084681836296823:=0
def tw4758030339771027110:=0
def tw16835213652970364370:=0
def tw10685609485858654143:=0
def tw6469017354777824835:=0
def tw10461921126057574636:=0
def tw6773027706195578223:=0
def tw2671831544924558498:=0
def tw10261177426205460908:=0
def tw4361029015089775523:=0
def tw13582646171737699691:=0
def tw9680907687822565809:=0
def tw18000593185636852100:=0
def tw15470521352532738396:=0
def tw11147882997565901149:=0
def tw1178688356591621834:=0
def tw9909330493882285766:=0
def tw4372398863705848502:=0
def tw17807835857897787729:=0
def tw7873766793430140777:=0
def tw3496700845268706935:=0
def tw10615913705540831664:=0
def tw1336448504941107621:=0
def tw12676210445143045751:=0
def tw9323711860292937324:=0
def tw4481581579907524728:=0
def tw7199787904307717842:=0
def tw6320403626031297643:=0
def tw4812021908816555614:=0
def tw3949985243907450212:=0
def tw10672395697816355750:=0
def tw10938780543106981722:=0
def tw17407215766109862897:=0
def tw9953872817305206355:=0
def tw13509388980111546996:=0
def tw9474728296731520158:=0
def tw2087928406106097942:=0
def tw3112875736607832520:=0
def tw1224483339473445563:=0
def tw12090381436556183546:=0
def tw15538316676603069005:=0
def tw14729738998988358147:=0
def tw1837440398015863626:=0
def tw1329618734324993307:=0
def tw7416766309000464095:=0
def tw6435810753031013593:=0
def tw13037096095500583740:=0
def tw5897096020169557996:=0
def tw5208804373105988467:=0
def tw6502702415669348950:=0
def tw8261510698582598195:=0
def tw16054419301508674670:=0
def tw8268916163105763586:=0
def tw6161324966265153692:=0
def tw17311894993680349880:=0
def tw4522962692450275580:=0
def tw583190038798381272:=0
def tw17574624863465889542:=0
def tw17341365743775839472:=0
def tw8753334441567768628:=0
def tw16882436868941433680:=0
def tw5530443246301711868:=0
def tw3724212392369527430:=0
def tw4102945337292838007:=0
def tw11366082243848482743:=0
def tw3411588170031141764:=0
def tw16932914792951368122:=0
def tw9031066538679803953:=0
def tw3967913013432163921:=0
def tw14474611612988336933:=0
def tw17129297578919987247:=0
def tw7796030132524780337:=0
def tw1997689979554884667:=0
def tw15498101283857182416:=0
def tw13207658190045126181:=0
def tw13345464836621344724:=0
def tw13539776620694505985:=0
def tw1927642572042206632:=0
def tw16686622922648822421:=0
def tw3284110784198476177:=0
def tw9111141361518754064:=0
def tw6667142993331183497:=0
def tw5862611350989124880:=0
def tw16399250183135496320:=0
def tw13092679625433994042:=0
def tw8278605002763536372:=0
def tw8618048303671552842:=0
def tw12132974135003684527:=0
def tw12178798084361915959:=0
def tw7668218684787124874:=0
def tw16655308070266532160:=0
def tw92569887813183797:=0
end PySem.W.Fast
section
set_option maxRecDepth 100000
namespace L2
open PySem PySem.Spec PyProof.Rows
abbrev Key:=Sum Int Str
def aB:Key->Value->Bool
 |.inl k,v=>Value.isInt k v
 |.inr x,v=>Value.isStrOf x v
def mL(w:World):Key->Int
 |.inl k=>hashInt k
 |.inr x=>hashStr w x
theorem Ed:∀{k:Key} {v:Value},aB k v=true->(∃i t,k=U5y i/\v=U4r i t)∨(∃x t,k=U5z x/\v=Value.str x t)
 |.inl i,v,h=>by
  obtain⟨t,e⟩:=Value.isInt_shape (k:=i) (v:=v) h
  exact .inl ⟨i,t,rfl,e⟩
 |.inr x,v,h=>by
  obtain⟨t,e⟩:=Value.isStrOf_shape (x:=x) (v:=v) h
  exact .inr ⟨x,t,rfl,e⟩
theorem iZ(a b:Int):decide ((U5y a:Key)=U5y b)=(a==b):=by
 by_cases e:a=b
 .subst e;simp
 .have h:¬(U5y a:Key)=U5y b:=fun q=>e (U5y.inj q)
  rw[decide_eq_false h]
  exact(beq_eq_false_iff_ne.mpr e).symm
theorem iV(a b:Str):decide ((U5z a:Key)=U5z b)=decide (a=b):=by
 by_cases e:a=b
 .subst e;simp
 .have h:¬(U5z a:Key)=U5z b:=fun q=>e (U5z.inj q)
  rw[decide_eq_false h,decide_eq_false e]
theorem iY(a:Int)(b:Str):decide ((U5y a:Key)=U5z b)=false:=decide_eq_false (fun q=>nomatch q)
theorem iW(a:Str)(b:Int):decide ((U5z a:Key)=U5y b)=false:=decide_eq_false (fun q=>nomatch q)
def Qy(prog:Program)(w:World):PySem.KeyKind prog w Key where
 is:=aB
 hash:=mL w
 inj:=fun v a b ha hb=>by
  rcases Ed ha with ⟨i,t,rfl,rfl⟩|⟨x,t,rfl,rfl⟩
  .rcases Ed hb with ⟨j,u,rfl,e⟩|⟨y,u,rfl,e⟩
   .injection e with e1 _;rw[e1]
   .exact nomatch e
  .rcases Ed hb with ⟨j,u,rfl,e⟩|⟨y,u,rfl,e⟩
   .exact nomatch e
   .injection e with e1 _;rw[e1]
 byValue:=fun k v h=>by
  rcases Ed h with ⟨i,t,rfl,rfl⟩|⟨x,t,rfl,rfl⟩<;>rfl
 pyHash:=fun hv h=>by
  rcases Ed hv with ⟨i,t,rfl,rfl⟩|⟨x,t,rfl,rfl⟩
  .exact wpAny_pyHash_int h
  .exact wpAny_pyHash_str h
 eqBool:=fun hu hv h=>by
  rcases Ed hu with ⟨i,t,rfl,rfl⟩|⟨x,t,rfl,rfl⟩
  .rcases Ed hv with ⟨j,u,rfl,rfl⟩|⟨y,u,rfl,rfl⟩
   .rw[iZ] at h;exact wpAny_eqBool_int h
   .rw[iY] at h;exact SeqAt.EqAt.int_str i t y u _ _ _ _ h
  .rcases Ed hv with ⟨j,u,rfl,rfl⟩|⟨y,u,rfl,rfl⟩
   .rw[iW] at h;exact SeqAt.EqAt.str_int x t j u _ _ _ _ h
   .rw[iV] at h;exact wpAny_eqBool_str h
 «strs»:=fun k x t v h=>by
  rcases Ed h with ⟨i,u,rfl,e⟩|⟨y,u,rfl,e⟩
  .exact nomatch e
  .injection e with e1 _
   subst e1
   cases v<;>rfl
end L2
namespace L2
open PySem PySem.Spec PyProof.Rows
inductive V where
 |non|bl (b:Bool)|int (i:Int)|str (x:Str)|byt (b:Array UInt8)|flt (b:UInt64)|ref (a:Addr)|ty (n:String)
 deriving DecidableEq
def RelV:V->Value->Prop
 |.non,u=>u=U2s
 |.bl b,u=>u=U4c b
 |.int i,u=>∃t,u=U4r i t
 |.str x,u=>∃t,u=Value.str x t
 |.byt b,u=>∃t,u=Value.bytes b t
 |.flt b,u=>∃t,u=Value.float b t
 |.ref a,u=>u=U28 a
 |.ty n,u=>u=U24 n
abbrev Vals:List V->List Value->Prop:=Paired RelV
theorem Vals.length{xs:List V}{us:List Value}(r:Vals xs us):xs.length=us.length:=Paired.length r
theorem Vals.get:∀{xs:List V} {us:List Value} {i:Nat} {x:V},Vals xs us->xs[i]?=some x->∃u,us[i]?=some u/\RelV x u
 |_,_,_,_,.nil,e=>by simp at e
 |_,_,0,_,.cons r _,e=>by simp at e;subst e;exact⟨_,rfl,r⟩
 |_,_,i+1,x,.cons _ t,e=>by
  obtain⟨u,h1,h2⟩:=Vals.get (i:=i) (x:=x) t (by simpa using e)
  exact⟨u,by simpa using h1,h2⟩
theorem Vals.set{x:V}{u:Value}(r:RelV x u):∀{xs:List V} {us:List Value} (i:Nat),Vals xs us->Vals (xs.set i x) (us.set i u)
 |_,_,_,.nil=>.nil
 |_,_,0,.cons _ t=>.cons r t
 |_,_,i+1,.cons q t=>.cons q (Vals.set r i t)
theorem Vals.append:∀{xs ys:List V} {us ws:List Value},Vals xs us->Vals ys ws->Vals (xs++ys) (us++ws)
 |_,_,_,_,.nil,s=>s
 |_,_,_,_,.cons r t,s=>.cons r (Vals.append t s)
theorem Vals.take:∀{xs:List V} {us:List Value} (n:Nat),Vals xs us->Vals (xs.take n) (us.take n)
 |_,_,0,_=>.nil
 |_,_,_+1,.nil=>.nil
 |_,_,n+1,.cons r t=>.cons r (Vals.take n t)
theorem Vals.drop:∀{xs:List V} {us:List Value} (n:Nat),Vals xs us->Vals (xs.drop n) (us.drop n)
 |_,_,0,r=>r
 |_,_,_+1,.nil=>.nil
 |_,_,n+1,.cons _ t=>Vals.drop n t
def Yr:Option V->Option Value->Prop
 |some v,some u=>RelV v u
 |none,none=>True
 |_,_=>False
def KV{κ:Type}:List (κ×V)->List (κ×Value)->Prop:=Paired fun(p:κ×V) (q:κ×Value)=>p.1=q.1/\RelV p.2 q.2
def kV:Key->V
 |.inl i=>.int i
 |.inr x=>.str x
inductive HO where
  /-- a list -/
 |lst (xs:List V)
  /-- a tuple (never changes) -/
 |tup (xs:List V)
  /-- a dict whose keys are ints and texts; one whose keys are tuples of ints and texts (the empty one is both) -/
 |dK (kvs:List (Key×V))|dT (kvs:List (List Key×V))
  /-- a set of ints: its members, its size -/
 |set (S:Int->Bool) (n:Nat)
  /-- an instance of the class at C, its dict at dx, its attributes -/
 |ins (C dx:Addr) (fs:List (Str×V))
  /-- the dict of the instance at x -/
 |own (x:Addr)
  /-- the dict of an exception -/
 |xd (fs:List (Str×V))
  /-- a bound method, f of x -/
 |met (f x:Addr)
  /-- a range object lo, lo + 1, .. below hi -/
 |rng (lo hi:Int)
  /-- a thing that is known to the object (the script; a dict while a loop walks it): read, never written while it is so -/
 |frz (o:Obj) (u:HO)
  /-- a code object's table -/
 |tbl (ps:Array Value)
  /-- any other thing, by what is true of its one object (a def of one's own: SetO a S n := HO.ext fun h => ..) -/
 |ext (φ:Heap->Prop)
abbrev Hp:=Addr->Option HO
def upd(H:Hp)(a:Addr)(o:HO):Hp:=fun b=>if b=a then some o else H b
theorem CN{H:Hp}{a:Addr}{o:HO}:upd H a o a=some o:=by unfold upd;rw[if_pos rfl]
theorem BK{H:Hp}{a b:Addr}{o:HO}(h:b≠a):upd H a o b=H b:=by unfold upd;rw[if_neg h]
theorem CZ{H:Hp}{a b:Addr}{o:HO}(h:H a=some o)(h':H b=none):a≠b:=by
 intro e;subst e;rw[h] at h';cases h'
section
variable(P:Program)(w:World)
def DK(H:Hp)(h:Heap)(a:Addr):HO->Prop
 |.lst xs=>xs.length<=sizeLine/\∃(its:List Value)(n:Nat),Vals xs its/\h.get? a=some { cls:=.type "list",data:=.seq its.toArray n }
 |.tup xs=>xs.length<=sizeLine/\∃its:List Value,Vals xs its/\IsTup h a its.toArray
 |.dK kvs=>kvs.length<=sizeLine/\(a==sysModules)=false/\∃vs,KV kvs vs/\h.DictOf (Qy P w) a vs
 |.dT kvs=>kvs.length<=sizeLine/\(a==sysModules)=false/\∃xs:List (List Key×Addr×Value),
   Paired (fun(p:List Key×V) (q:List Key×Addr×Value)=>p.1=q.1/\H q.2.1=some (.tup (p.1.map kV))/\RelV p.2 q.2.2) kvs xs /\
   ∃o es ep,h.get? a=some o/\o.ExactDict/\o.data=.dict es ep/\es.toList=xs.map (entryOfKey (tupleKind (Qy P w)))/\(xs.map (·.1)).Nodup
 |.set S n=>h.SetOf (intKind P w) a S n
 |.ins C dx fs=>H dx=some (.own a)/\fs.length<=1000/\dx≠a/\h.get? a=some (U6k C dx) /\
   ∃mA,h.Ns1 dx mA/\(∀f,Yr (fs.lookup f) (mA f))/\PySem.Within mA (fs.map (·.1))
 |.own _=>∃o,h.get? a=some o
 |.xd fs=>∃mA,h.Ns1 a mA/\∀f,Yr (fs.lookup f) (mA f)
 |.rng lo hi=>∃t u v,h.get? a=some { cls:=.type "range",data:=.fields #[.int lo t,.int hi u,.int 1 v] }
 |.frz o u=>h.get? a=some o/\DK H h a u
 |.tbl ps=>h.get? a=some { cls:=.none,data:=.fields ps }
 |.met f x=>h.get? a=some (U57 (.ref f) (.ref x))
 |.ext φ=>φ h/\(∃o,h.get? a=some o)/\∀h1 h2:Heap,φ h1->(∀o,h1.get? a=some o->h2.get? a=some o)->φ h2
def HOk(H:Hp)(h:Heap):Prop:=∀a o,H a=some o->DK P w H h a o
end
section
variable{P:Program}{w:World}{H H':Hp}{h h':Heap}{a:Addr}{o:HO}
theorem DK.lt(x:DK P w H h a o):a<h.objs.size:=by
 cases o with
 |lst xs=>obtain⟨_,_,_,_,e⟩:=x;exact U0k e
 |tup xs=>obtain⟨_,_,_,p⟩:=x;exact p.lt
 |dK kvs=>obtain⟨_,_,_,_,o,_,_,e,_⟩:=x;exact U0k e
 |dT kvs=>obtain⟨_,_,_,_,o,_,_,e,_⟩:=x;exact U0k e
 |set S n=>obtain⟨o,_,_,_,e,_⟩:=x;exact U0k e
 |ins C dx fs=>obtain⟨_,_,_,e,_⟩:=x;exact U0k e
 |own y=>obtain⟨_,e⟩:=x;exact U0k e
 |xd fs=>obtain⟨_,⟨_,_,_,e,_⟩,_⟩:=x;exact U0k e
 |rng lo hi=>obtain⟨_,_,_,e⟩:=x;exact U0k e
 |frz ob u=>obtain⟨e,_⟩:=x;exact U0k e
 |tbl ps=>exact U0k (show h.get? a=some _ from x)
 |met f y=>exact U0k (show h.get? a=some _ from x)
 |ext φ=>obtain⟨_,⟨_,e⟩,_⟩:=x;exact U0k e
theorem Paired.fV{α β:Type}{F G:α->β->Prop}:∀{l₁:List α} {l₂:List β},Paired F l₁ l₂->(∀a b,F a b->G a b)->Paired G l₁ l₂
 |_,_,.nil,_=>.nil
 |_,_,.cons r t,f=>.cons (f _ _ r) (Paired.fV t f)
theorem DK.stay(x:DK P w H h a o)(k:∀b u,(b=a∨H b=some (.own a))->h.get? b=some u->h'.get? b=some u)
  (ho:∀b,H b=some (.own a)->H' b=some (.own a)) (ht:∀b xs,H b=some (.tup xs)->H' b=some (.tup xs)):DK P w H' h' a o:=by
 induction o with
 |lst xs=>obtain⟨z,its,n,r,e⟩:=x;exact⟨z,its,n,r,k _ _ (.inl rfl) e⟩
 |tup xs=>obtain⟨z,its,r,ob,e,c⟩:=x;exact⟨z,its,r,ob,k _ _ (.inl rfl) e,c⟩
 |dK kvs=>obtain⟨z,y,vs,r,ob,es,ep,e,c⟩:=x;exact⟨z,y,vs,r,ob,es,ep,k _ _ (.inl rfl) e,c⟩
 |dT kvs =>
  obtain⟨z,y,xs,r,ob,es,ep,e,c⟩:=x
  exact⟨z,y,xs,Paired.fV r fun p q z=>⟨z.1,ht _ _ z.2.1,z.2.2⟩,ob,es,ep,k _ _ (.inl rfl) e,c⟩
 |set S n=>obtain⟨ob,es,ep,t,e,c⟩:=x;exact⟨ob,es,ep,t,k _ _ (.inl rfl) e,c⟩
 |ins C dx fs =>
  obtain⟨d,z,ne,e,mA,⟨od,es,ep,e2,c⟩,r⟩:=x
  exact⟨ho _ d,z,ne,k _ _ (.inl rfl) e,mA,⟨od,es,ep,k _ _ (.inr d) e2,c⟩,r⟩
 |own y=>obtain⟨ob,e⟩:=x;exact⟨ob,k _ _ (.inl rfl) e⟩
 |xd fs=>obtain⟨mA,⟨od,es,ep,e,c⟩,r⟩:=x;exact⟨mA,⟨od,es,ep,k _ _ (.inl rfl) e,c⟩,r⟩
 |rng lo hi=>obtain⟨t,u,v,e⟩:=x;exact⟨t,u,v,k _ _ (.inl rfl) e⟩
 |frz ob u ih=>obtain⟨e,q⟩:=x;exact⟨k _ _ (.inl rfl) e,ih q⟩
 |tbl ps =>
  have e:h.get? a=some { cls:=.none,data:=.fields ps }:=x
  show h'.get? a=some { cls:=.none,data:=.fields ps }
  exact k a _ (.inl rfl) e
 |met f y =>
  have e:h.get? a=some (U57 (.ref f) (.ref y)):=x
  show h'.get? a=some (U57 (.ref f) (.ref y))
  exact k a _ (.inl rfl) e
 |ext φ=>obtain⟨p,⟨o,e⟩,st⟩:=x;exact⟨st _ _ p fun o q=>k _ _ (.inl rfl) q,⟨o,k _ _ (.inl rfl) e⟩,st⟩
theorem HOk.lt(x:HOk P w H h)(e:H a=some o):a<h.objs.size:=(x a o e).lt
theorem HOk.fresh(x:HOk P w H h)(e:h.objs.size<=a):H a=none:=by
 cases q:H a with
 |none=>rfl
 |some u=>exact absurd (U03 (x.lt q) e) (U4b _)
theorem HOk.kept(x:HOk P w H h)(k:∀b u,h.get? b=some u->h'.get? b=some u):HOk P w H h':=fun a o e =>
 (x a o e).stay (fun b u _ q=>k b u q) (fun _ q=>q) fun _ _ q=>q
theorem HOk.laid(x:HOk P w H h)(k:∀b u,h.get? b=some u->h'.get? b=some u)(hp:h.objs.size<=a)(new:DK P w (upd H a o) h' a o):HOk P w (upd H a o) h':=fun b u e=>by
 have hn:=x.fresh hp
 by_cases hb:b=a
 .subst hb;rw[CN] at e;cases e;exact new
 .rw[BK hb] at e
  exact(x b u e).stay (fun c v _ q=>k c v q) (fun c q=>by rw[BK (CZ q hn)];exact q) fun c xs q=>by rw[BK (CZ q hn)];exact q
end
def Rd(H:Hp)(a:Addr)(u:HO):Prop:=H a=some u∨∃o,H a=some (.frz o u)
theorem Rd.ok{P:Program}{w:World}{H:Hp}{h:Heap}{a:Addr}{u:HO}(r:Rd H a u)(x:HOk P w H h):DK P w H h a u:=by
 rcases r with r|⟨o,r⟩
 .exact x a u r
 .obtain⟨_,q⟩:=x a _ r
  exact q
def Mut:Option HO->Prop
 |some (.lst _)=>True
 |some (.dK _)=>True
 |some (.dT _)=>True
 |some (.set _ _)=>True
 |some (.ins _ _ _)=>True
 |some (.ext _)=>True
 |_=>False
section
variable{P:Program}{w:World}{H:Hp}{h h':Heap}{x e:Addr}{o':HO}
theorem HOk.write(ok:HOk P w H h)(mu:Mut (H x))(he:e=x∨H e=some (.own x))(k:∀b u,b≠e->h.get? b=some u->h'.get? b=some u)(heo:∃u,h'.get? e=some u)
  (new:DK P w (upd H x o') h' x o'):HOk P w (upd H x o') h':=fun b u q=>by
 have nown:∀c y,H c=some (.own y)->c≠x:=fun c y r z=>by subst z;rw[r] at mu;exact mu
 have ntup:∀c xs,H c=some (.tup xs)->c≠x:=fun c xs r z=>by subst z;rw[r] at mu;exact mu
 by_cases hb:b=x
 .subst hb;rw[CN] at q;cases q;exact new
 .rw[BK hb] at q
  by_cases hbe:b=e
  .have q':H b=some (.own x):=by
    rcases he with z|z
    .exact absurd (hbe.trans z) hb
    .rw[hbe];exact z
   rw[q] at q';cases q'
   obtain⟨v,hv⟩:=heo
   exact⟨v,by rw[hbe];exact hv⟩
  .refine(ok b u q).stay (fun c v hc r=>k c v ?_ r) (fun c r=>by rw[BK (nown c b r)];exact r) fun c xs r=>by rw[BK (ntup c xs r)];exact r
   rcases hc with rfl|hc
   .exact hbe
   .rintro rfl
    rcases he with z|z
    .exact nown c b hc z
    .rw[hc] at z;cases z;exact hb rfl
end
structure Un(fs ex:List Addr)(H H':Hp)(h h':Heap):Prop where
 keep:∀b o,h.get? b=some o->H b=none->b ∉ fs->b ∉ ex->h'.get? b=some o
 slot:∀b o,h.get? b=some o->H b=none->b∈fs->b ∉ ex->∃sl,h'.get? b=some { o with slots:=sl }
 free:∀b o,h.get? b=some o->H b=none->b ∉ ex->H' b=none
 there:∀b o,h.get? b=some o->b ∉ ex->∃o',h'.get? b=some o'
 tups:∀b xs,H b=some (.tup xs)->H' b=some (.tup xs)
 frzs:∀b o u,H b=some (.frz o u)->H' b=some (.frz o u)
 tbls:∀b ps,H b=some (.tbl ps)->∃more,H' b=some (.tbl (ps++more))
 sy:H sysModules=none->H' sysModules=none
section
variable{fs fs' ex ex':List Addr}{H H1 H2:Hp}{h h1 h2 h':Heap}{a x e:Addr}{o:HO}
theorem Un.any(u:Un fs ex H H1 h h1){b:Addr}{ob:Obj}(q:h.get? b=some ob)(n:H b=none)(hx:b ∉ ex):∃sl,h1.get? b=some { ob with slots:=sl }:=by
 by_cases hb:b∈fs
 .exact u.slot b ob q n hb hx
 .exact⟨ob.slots,u.keep b ob q n hb hx⟩
theorem Un.kept(k:∀b u,h.get? b=some u->h'.get? b=some u):Un fs ex H H h h' :=
 ⟨fun b ob q _ _ _=>k b ob q,fun b ob q _ _ _=>⟨ob.slots,k b ob q⟩,fun _ _ _ n _=>n,fun b ob q _=>⟨ob,k b ob q⟩,fun _ _ q=>q,fun _ _ _ q=>q,fun _ ps q=>⟨#[],by rw[q];simp⟩,id⟩
theorem Un.refl:Un fs ex H H h h:=Un.kept fun _ _ q=>q
theorem Un.laid(k:∀b u,h.get? b=some u->h'.get? b=some u)(hp:h.objs.size<=a)(hn:H a=none)(hsy:sysModules≠a):Un fs ex H (upd H a o) h h' where
 sy:=fun n=>by rw[BK hsy];exact n
 keep:=fun b u q _ _ _=>k b u q
 slot:=fun b u q _ _ _=>⟨u.slots,k b u q⟩
 free:=fun b u q n _=>by rw[BK (U1c (U03 (U0k q) hp))];exact n
 there:=fun b u q _=>⟨u,k b u q⟩
 tups:=fun b xs q=>by rw[BK (CZ q hn)];exact q
 frzs:=fun b u xs q=>by rw[BK (CZ q hn)];exact q
 tbls:=fun b ps q=>⟨#[],by rw[BK (CZ q hn),q];simp⟩
theorem Un.write(mu:Mut (H x))(he:e=x∨H e=some (.own x))(k:∀b u,b≠e->h.get? b=some u->h'.get? b=some u)(heo:∃u,h'.get? e=some u):Un fs ex H (upd H x o) h h':=by
 have hx:∀b,H b=none->b≠x:=fun b n z=>by subst z;rw[n] at mu;exact mu
 have hb:∀b,H b=none->b≠e:=fun b n z=>by
  subst z
  rcases he with r|r
  .exact hx b n r
  .rw[n] at r;cases r
 have hm:∀b u,H b=some u->¬Mut (some u)->b≠x:=fun b u q nm z=>by subst z;rw[q] at mu;exact nm mu
 refine⟨fun b u q n _ _=>k b u (hb b n) q,fun b u q n _ _=>⟨u.slots,k b u (hb b n) q⟩,fun b u q n _=>by rw[BK (hx b n)];exact n,fun b u q _=>?_,
  fun b xs q=>by rw[BK (hm b _ q fun z=>z)];exact q,fun b u xs q=>by rw[BK (hm b _ q fun z=>z)];exact q,fun b ps q=>⟨#[],by rw[BK (hm b _ q fun z=>z),q];simp⟩,fun n=>by rw[BK (hx _ n)];exact n⟩
 by_cases hbe:b=e
 .subst hbe;exact heo
 .exact⟨u,k b u hbe q⟩
end
def trk(h:Heap)(H:Hp):List Addr:=(U3o h.objs.size).filter fun a=>(H a).isSome
def M6(h:Heap)(H:Hp):Heap:=PySem.W.hideAll h (trk h H)
theorem YF(h:Heap)(H:Hp):(M6 h H).objs.size=h.objs.size:=PySem.W.hideAll_size _ _
theorem Zi{h:Heap}{H:Hp}{b:Addr}{o:Obj}(e:h.get? b=some o)(n:H b=none):(M6 h H).get? b=some o :=
 PySem.W.hideAll_get _ e fun hm=>by
  have q:(H b).isSome=true:=(U3v.mp hm).2
  rw[n] at q;simp at q
theorem bf{h:Heap}{H:Hp}{b:Addr}{o:Obj}(e:(M6 h H).get? b=some o):h.get? b=some o/\H b=none:=by
 have e':h.get? b=some o:=PySem.W.of_hideAll (trk h H) e
 refine⟨e',?_⟩
 cases q:H b with
 |none=>rfl
 |some x =>
  have hm:b∈trk h H:=U3v.mpr ⟨U3k.mpr (U0k e'),by simp[q]⟩
  have z:(M6 h H).get? b=none:=PySem.W.hideAll_none (trk h H) hm
  rw[z] at e;cases e
def dO(g h:Heap)(L:Addr):List (Addr×Obj):=(U3o h.objs.size).filterMap fun a=>if a=L∨(g.get? a).isSome=true then none else (h.get? a).map fun o=>(a,o)
def rest(g h:Heap)(L d:Addr):List (Addr×Obj):=(dO g h L).filter fun p=>decide (p.1≠d)
end L2
namespace L2
open PySem PySem.Spec PyProof.Rows
structure Mod(K:U0a)(mg:Str->Option Value)(base:Heap):Prop where
 kin:K.In base
 glob:base.Ns mainGlobals mg
 blt:∃mb,base.Ns builtinsNs mb/\∀x:Str,x≠"__name__"->mb x=bootBuiltins x
 nolimit:base.NoLimit
/-- the context: a def's body (or a comprehension's block) running. base: fixed through the whole law; s₀, H₀: the entry; outer: the frames whose slots others may change (a def's callers); stack: all frames that run;
   ex: iterators that were made ahead of the entry and are walked here (a comprehension's); fn: the names whose cells were made at the entry (a def: all; a comprehension's block: its own); calm: not within an except suite; pn: pins that every state bears; xe: what is wanted of an exception that leaves the code -/
structure Cx where
 prog:Program
 w:World
 K:U0a
 mg:Str->Option Value
 base:Heap
 A:Around
 N:List Str
 s₀:Shared
 H₀:Hp
 env:Env
 outer:List Env
 stack:List Env
 ex:List Addr
 fn:Str->Bool
 calm:Bool
 pn:List (Addr×Obj)
 xe:Value->Shared->Prop
def frs(l:List Env):List Addr:=l.filterMap (·.frame)
abbrev Cx.fs(X:Cx):List Addr:=frs X.outer
def Vis(sc:Scope)(x:Str):Prop:=sc.names.lookup x=some .local∨sc.names.lookup x=some .cell∨sc.names.lookup x=some .free
def Loc(sc:Scope)(x:Str):Prop:=sc.names.lookup x=some .local∨sc.names.lookup x=some .cell
def Look(env:Env)(h:Heap)(m:Str->Option Value)(x:Str)(u:Value):Prop :=
 (env.kindOf x=some .local/\m x=some u)∨((env.kindOf x=some .cell∨env.kindOf x=some .free)/\∃c,env.cells.lookup x=some c/\h.IsCell c (some u))
structure Cx.Ok(X:Cx):Prop where
 mod:Mod X.K X.mg X.base
 kind:X.env.scope.kind=.function
 glob:X.env.globals=mainGlobals
 blt:X.env.builtins=builtinsNs
 above:X.s₀.heap.objs.size<=X.env.locals
 inj:∀x y c,X.env.cells.lookup x=some c->X.env.cells.lookup y=some c->x=y
 has:∀x,(X.env.kindOf x=some .cell∨X.env.kindOf x=some .free)->∃c,X.env.cells.lookup x=some c
 cab:∀x c,X.fn x=true->X.env.cells.lookup x=some c->X.s₀.heap.objs.size<=c
 hd:X.calm=true->X.A.handled=none
 frames:X.A.frames=some X.stack
 stk:X.stack=X.outer∨(X.stack=X.env::X.outer/\X.env.frame=some X.env.locals)
 exf:∀b∈X.ex,b≠X.env.locals/\∀x c,X.env.cells.lookup x=some c->c≠b
 bs:∀b o,X.base.get? b=some o->X.s₀.heap.get? b=some o/\X.H₀ b=none
 bsz:X.base.objs.size<=X.s₀.heap.objs.size
 noex:∀b o,X.base.get? b=some o->b ∉ X.ex
 exfs:∀b∈X.ex,b ∉ X.fs
 K4:X.s₀.heap.FunFrames X.base X.outer
 frf:∀b∈X.fs,X.H₀ b=none
 sy:X.H₀ sysModules=none
structure Inv(X:Cx)(pins:List (Addr×Obj))(σ:List (Option V))(H:Hp)(s:Shared):Prop where
 ok:X.Ok
 os:s.os=X.s₀.os
 bare:AllBare s.gens
 base:Un X.fs X.ex X.H₀ H X.s₀.heap s.heap
 loc:∃m,s.heap.Ns X.env.locals m/\∀(i:Nat)(x:Str)(v:V),X.N[i]?=some x->σ[i]?=some (some v)->Vis X.env.scope x->∃u,RelV v u/\Look X.env s.heap m x u
 cell:∀x c,X.env.cells.lookup x=some c->∃v,s.heap.IsCell c v
 free:H X.env.locals=none
 freeC:∀x c,X.env.cells.lookup x=some c->H c=none
 pin:∀p∈X.pn++pins,s.heap.get? p.1=some p.2/\H p.1=none/\p.1≠X.env.locals/\p.1 ∉ X.fs/\∀v,p.2.data≠.cell v
 hok:HOk X.prog X.w H s.heap
 len:σ.length=X.N.length
section
variable{X:Cx}{pins:List (Addr×Obj)}{σ:List (Option V)}{H H':Hp}{s:Shared}{h':Heap}
theorem Cx.Ok.mH(ok:X.Ok){b:Addr}{o:Obj}(e:X.base.get? b=some o):b ∉ X.fs:=fun hb=>by
 have:=(ok.K4.mem hb).1
 rw[e] at this;cases this
theorem Inv.bs(I:Inv X pins σ H s):∀b o,X.base.get? b=some o->s.heap.get? b=some o/\H b=none:=fun b o e =>
 ⟨I.base.keep b o (I.ok.bs b o e).1 (I.ok.bs b o e).2 (I.ok.mH e) (I.ok.noex b o e),I.base.free b o (I.ok.bs b o e).1 (I.ok.bs b o e).2 (I.ok.noex b o e)⟩
theorem Inv.bk(I:Inv X pins σ H s):∀b o,X.base.get? b=some o->s.heap.get? b=some o:=fun b o e=>(I.bs b o e).1
theorem Inv.mod(I:Inv X pins σ H s):Mod X.K X.mg X.base:=I.ok.mod
theorem Inv.kIn(I:Inv X pins σ H s):X.K.In s.heap:=I.ok.mod.kin.keeps I.bk
theorem Inv.fr(I:Inv X pins σ H s):∃m,Fr X.base X.env.locals s.heap m :=
 let ⟨m,hn,_⟩:=I.loc
 ⟨m,hn,I.bk,U08 I.ok.bsz I.ok.above⟩
theorem Inv.lt(I:Inv X pins σ H s):X.env.locals<s.heap.objs.size:=let ⟨_,hn,_⟩:=I.loc;hn.lt
theorem Inv.sz(I:Inv X pins σ H s):X.s₀.heap.objs.size<=s.heap.objs.size:=U08 I.ok.above (U2c I.lt)
theorem Inv.Yi(I:Inv X pins σ H s){a:Addr}(h:s.heap.objs.size<=a):a ∉ X.fs:=fun hb=>by
 obtain⟨_,o,ho,_⟩:=I.ok.K4.mem hb
 exact absurd (U03 (U0k ho) (U08 I.sz h)) (U4b _)
theorem Inv.cne(I:Inv X pins σ H s):∀x c,X.env.cells.lookup x=some c->c≠X.env.locals:=fun x c e z=>by
 obtain⟨v,o,ho,hd⟩:=I.cell x c e
 obtain⟨m,⟨o',es,ep,ho',hd',_⟩,_⟩:=I.loc
 rw[z,ho'] at ho;cases ho;rw[hd'] at hd;cases hd
theorem Inv.K4(I:Inv X pins σ H s):s.heap.FunFrames X.base X.outer:=by
 have all:∀(l:List Env),(∀b∈frs l,b∈X.fs)->X.s₀.heap.FunFrames X.base l->s.heap.FunFrames X.base l:=by
  intro l
  induction l with
  |nil=>intro _ _;trivial
  |cons env r ih =>
   intro hs hl
   obtain⟨hk,⟨L,o,hf,hn,ho,hd⟩,hr⟩:=hl
   have hL:L∈X.fs:=hs L (by unfold frs;rw[U4y,hf];exact U04)
   obtain⟨sl,e⟩:=I.base.slot L o ho (I.ok.frf L hL) hL fun z=>I.ok.exfs L z hL
   exact⟨hk,⟨L,_,hf,hn,e,hd⟩,ih (fun b hb=>hs b (by unfold frs;rw[U4y,hf];exact U0o _ hb)) hr⟩
 exact all X.outer (fun _ hb=>hb) I.ok.K4
theorem Inv.stack(I:Inv X pins σ H s):s.heap.FunFrames X.base X.stack:=by
 rcases I.ok.stk with e|⟨e,hf⟩
 .rw[e];exact I.K4
 .rw[e]
  obtain⟨m,hn,_⟩:=I.loc
  refine .cons (by rw[I.ok.kind];decide) hf hn ?_ I.K4
  exact Heap.get?_none_of_le (U08 I.ok.bsz I.ok.above)
theorem Inv.NZ(I:Inv X pins σ H s):∀b∈frs X.stack,b∈X.env.locals::X.fs:=fun b hb=>by
 rcases I.ok.stk with e|⟨e,hf⟩
 .rw[e] at hb;exact U0o _ hb
 .rw[e] at hb
  unfold frs at hb
  rw[U4y,hf] at hb
  exact hb
theorem Inv.VP(I:Inv X pins σ H s):∀b∈frs X.stack,H b=none:=fun b hb=>by
 rcases U0u.mp (I.NZ b hb) with e|hb
 .rw[e];exact I.free
 .obtain⟨_,o,ho,_⟩:=I.ok.K4.mem hb
  exact I.base.free b o ho (I.ok.frf b hb) fun z=>I.ok.exfs b z hb
theorem Inv.Yn(I:Inv X pins σ H s):sysModules<s.heap.objs.size:=by
 obtain⟨o,_,_,e,_⟩:=I.ok.mod.glob
 exact U44 (by decide:(1:Nat)<3) (U0k (I.bk _ _ e))
theorem Inv.Pb(I:Inv X pins σ H s):H sysModules=none:=I.base.sy I.ok.sy
theorem Inv.step{g':Array GenState}{t':Nat}{d':Drawn}{ch:List Addr}(I:Inv X pins σ H s)
  (hch:∀b∈ch,(b∈X.ex∨X.s₀.heap.objs.size<=b)/\b≠X.env.locals/\(∀x c,X.env.cells.lookup x=some c->c≠b)/\∀p∈X.pn++pins,p.1≠b)
  (keep:∀b o,b≠X.env.locals->b ∉ X.fs->b ∉ ch->s.heap.get? b=some o->H b=none->h'.get? b=some o)
  (slot:∀b o,b≠X.env.locals->b∈X.fs->b ∉ ch->s.heap.get? b=some o->H b=none->∃sl,h'.get? b=some { o with slots:=sl }) (free:∀b o,b ∉ ch->s.heap.get? b=some o->H b=none->H' b=none)
  (there:∀b o,b ∉ ch->s.heap.get? b=some o->∃o',h'.get? b=some o')
  (tups:∀b xs,H b=some (.tup xs)->H' b=some (.tup xs)) (frzs:∀b o u,H b=some (.frz o u)->H' b=some (.frz o u)) (tbls:∀b ps,H b=some (.tbl ps)->∃more,H' b=some (.tbl (ps++more)))
  (ns:∀m,s.heap.Ns X.env.locals m->h'.Ns X.env.locals m) (hok:HOk X.prog X.w H' h') (hg:AllBare g') (sy:H sysModules=none->H' sysModules=none) :
  Inv X pins σ H' { s with heap:=h',gens:=g',drawn:=d',toks:=t' }:=by
 have neL:∀b o,X.s₀.heap.get? b=some o->b≠X.env.locals:=fun b o e=>U1c (U03 (U0k e) I.ok.above)
 have neC:∀b o,X.s₀.heap.get? b=some o->b ∉ X.ex->b ∉ ch:=fun b o e hx hb=>by
  rcases(hch b hb).1 with z|z
  .exact hx z
  .exact absurd (U03 (U0k e) z) (U4b _)
 have cellK:∀x c,X.env.cells.lookup x=some c->∀v,s.heap.IsCell c v->h'.IsCell c v:=fun x c e v ⟨o,ho,hd⟩=>by
  have nch:c ∉ ch:=fun z=>(hch c z).2.2.1 x c e rfl
  by_cases hc:c∈X.fs
  .obtain⟨sl,q⟩:=slot c o (I.cne x c e) hc nch ho (I.freeC x c e)
   exact⟨_,q,hd⟩
  .exact⟨o,keep c o (I.cne x c e) hc nch ho (I.freeC x c e),hd⟩
 refine⟨I.ok,I.os,hg,⟨fun b o e n hb hx=>?_,fun b o e n hb hx=>?_,fun b o e n hx=>?_,fun b o e hx=>?_,fun b xs e=>tups b xs (I.base.tups b xs e),fun b o xs e=>frzs b o xs (I.base.frzs b o xs e),fun b ps e=>?_,fun n=>sy (I.base.sy n)⟩,?_,fun x c e=>?_,?_,fun x c e=>?_,fun p hp=>?_,hok,I.len⟩
 .exact keep b o (neL b o e) hb (neC b o e hx) (I.base.keep b o e n hb hx) (I.base.free b o e n hx)
 .obtain⟨sl,e1⟩:=I.base.slot b o e n hb hx
  obtain⟨sl',e2⟩:=slot b _ (neL b o e) hb (neC b o e hx) e1 (I.base.free b o e n hx)
  exact⟨sl',e2⟩
 .obtain⟨o',e1⟩:=I.base.there b o e hx
  exact free b o' (neC b o e hx) e1 (I.base.free b o e n hx)
 .obtain⟨o',e1⟩:=I.base.there b o e hx
  exact there b o' (neC b o e hx) e1
 .obtain⟨m1,e1⟩:=I.base.tbls b ps e
  obtain⟨m2,e2⟩:=tbls b _ e1
  exact⟨m1++m2,by rw[e2,Array.append_assoc]⟩
 .obtain⟨m,hn,hl⟩:=I.loc
  refine⟨m,ns m hn,fun i x v e1 e2 e3=>?_⟩
  obtain⟨u,r,l⟩:=hl i x v e1 e2 e3
  refine⟨u,r,?_⟩
  rcases l with l|⟨k,c,e,z⟩
  .exact .inl l
  .exact .inr ⟨k,c,e,cellK x c e _ z⟩
 .obtain⟨v,z⟩:=I.cell x c e
  exact⟨v,cellK x c e v z⟩
 .obtain⟨m,⟨o,_,_,ho,_⟩,_⟩:=I.loc
  exact free _ o (fun z=>(hch _ z).2.1 rfl) ho I.free
 .obtain⟨v,o,ho,hd⟩:=I.cell x c e
  exact free c o (fun z=>(hch c z).2.2.1 x c e rfl) ho (I.freeC x c e)
 .obtain⟨e,n,ne,nf,d⟩:=I.pin p hp
  have nch:p.1 ∉ ch:=fun z=>(hch p.1 z).2.2.2 p hp rfl
  exact⟨keep p.1 p.2 ne nf nch e n,free p.1 p.2 nch e n,ne,nf,d⟩
theorem Inv.un{t':Nat}(I:Inv X pins σ H s)(u:Un X.fs [] H H' s.heap h')(hok:HOk X.prog X.w H' h'):Inv X pins σ H' { s with heap:=h',toks:=t' }:=by
 obtain⟨m,⟨o,es,ep,ho,r⟩,_⟩:=id I.loc
 obtain⟨sl,hL⟩:=u.any ho I.free (by simp)
 exact I.step (g':=s.gens) (d':=s.drawn) (ch:=[]) (fun _ z=>nomatch z) (fun b o _ hb _ e n=>u.keep b o e n hb (by simp)) (fun b o _ hb _ e n=>u.slot b o e n hb (by simp)) (fun b o _ e n=>u.free b o e n (by simp)) (fun b o _ e=>u.there b o e (by simp)) u.tups u.frzs u.tbls (fun m' hm=>by
  obtain⟨o',es',ep',ho',r'⟩:=hm
  rw[ho] at ho';cases ho'
  exact⟨_,es',ep',hL,r'⟩) hok I.bare u.sy
theorem Inv.call{g':Array GenState}{t':Nat}{d':Drawn}{ch:List Addr}(I:Inv X pins σ H s)(u:Un (frs X.stack) ch H H' s.heap h')(hok:HOk X.prog X.w H' h')(hg:AllBare g')
  (hch:∀b∈ch,(b∈X.ex∨X.s₀.heap.objs.size<=b)/\b≠X.env.locals/\(∀x c,X.env.cells.lookup x=some c->c≠b)/\∀p∈X.pn++pins,p.1≠b) :
  Inv X pins σ H' { s with heap:=h',gens:=g',drawn:=d',toks:=t' }:=by
 obtain⟨m,⟨o,es,ep,ho,r⟩,_⟩:=id I.loc
 obtain⟨sl,hL⟩:=u.any ho I.free fun z=>(hch _ z).2.1 rfl
 exact I.step (ch:=ch) hch (fun b o hL hb hc e n=>u.keep b o e n (fun z=>(U0u.mp (I.NZ b z)).elim hL hb) hc) (fun b o _ _ hc e n=>u.any e n hc) (fun b o hc e n=>u.free b o e n hc) (fun b o hc e=>u.there b o e hc) u.tups u.frzs u.tbls (fun m' hm=>by
  obtain⟨o',es',ep',ho',r'⟩:=hm
  rw[ho] at ho';cases ho'
  exact⟨_,es',ep',hL,r'⟩) hok hg u.sy
theorem Inv.turned{t':Nat}{it:Addr}(I:Inv X pins σ H s)(k:∀b o,b≠it->s.heap.get? b=some o->h'.get? b=some o)(hn:H it=none)(hL:it≠X.env.locals)
  (h1:it∈X.ex∨X.s₀.heap.objs.size<=it) (h2:∀x c,X.env.cells.lookup x=some c->c≠it) (h3:∀p∈X.pn++pins,p.1≠it):Inv X pins σ H { s with heap:=h',toks:=t' }:=by
 have nit:∀b u,H b=some u->b≠it:=fun b u e z=>by rw[z,hn] at e;cases e
 refine I.step (g':=s.gens) (d':=s.drawn) (ch:=[it]) (fun b hb=>?_) (fun b o _ _ hc e _=>k b o (fun z=>hc (by simp[z])) e) (fun b o _ _ hc e _=>⟨o.slots,k b o (fun z=>hc (by simp[z])) e⟩) (fun _ _ _ _ n=>n)
  (fun b o hc e=>⟨o,k b o (fun z=>hc (by simp[z])) e⟩) (fun _ _ e=>e) (fun _ _ _ e=>e) (fun b ps e=>⟨#[],by rw[e];simp⟩) (fun m hm=>?_) (fun b u e=>?_) I.bare id
 .have e:b=it:=by simpa using hb
  subst e
  exact⟨h1,hL,h2,h3⟩
 .obtain⟨o,es,ep,ho,r⟩:=hm
  exact⟨o,es,ep,k _ o (U3l hL) ho,r⟩
 .refine(I.hok b u e).stay (fun c v hc q=>k c v ?_ q) (fun _ q=>q) fun _ _ q=>q
  rcases hc with z|z
  .rw[z];exact nit b u e
  .exact nit c _ z
theorem Inv.tok(I:Inv X pins σ H s)(t:Nat):Inv X pins σ H { s with toks:=t }:=I.un (h':=s.heap) (t':=t) Un.refl I.hok
theorem Inv.kept{t':Nat}(I:Inv X pins σ H s)(k:∀b u,s.heap.get? b=some u->h'.get? b=some u):Inv X pins σ H { s with heap:=h',toks:=t' }:=I.un (Un.kept k) (I.hok.kept k)
theorem Inv.laid{a:Addr}{o:HO}{t':Nat}(I:Inv X pins σ H s)(k:∀b u,s.heap.get? b=some u->h'.get? b=some u)(hp:s.heap.objs.size<=a)(new:DK X.prog X.w (upd H a o) h' a o) :
  Inv X pins σ (upd H a o) { s with heap:=h',toks:=t' }:=I.un (Un.laid k hp (I.hok.fresh hp) (U1c (U03 I.Yn hp))) (I.hok.laid k hp new)
theorem Inv.write{x e:Addr}{o:HO}{t':Nat}(I:Inv X pins σ H s)(mu:Mut (H x))(he:e=x∨H e=some (.own x))(k:∀b u,b≠e->s.heap.get? b=some u->h'.get? b=some u)(heo:∃u,h'.get? e=some u)
  (new:DK X.prog X.w (upd H x o) h' x o):Inv X pins σ (upd H x o) { s with heap:=h',toks:=t' }:=I.un (Un.write mu he k heo) (I.hok.write mu he k heo new)
theorem Inv.weak{σ':List (Option V)}(I:Inv X pins σ H s)(hl:σ'.length=σ.length)(w:∀(i:Nat) v,σ'[i]?=some (some v)->σ[i]?=some (some v)):Inv X pins σ' H s :=
 ⟨I.ok,I.os,I.bare,I.base,let ⟨m,hn,hl'⟩:=I.loc;⟨m,hn,fun i x v e1 e2 e3=>hl' i x v e1 (w i v e2) e3⟩,I.cell,I.free,I.freeC,I.pin,I.hok,hl.trans I.len⟩
theorem Inv.Og{pins':List (Addr×Obj)}(I:Inv X pins σ H s)(h:∀p∈pins',s.heap.get? p.1=some p.2/\H p.1=none/\p.1≠X.env.locals/\p.1 ∉ X.fs/\∀v,p.2.data≠.cell v):Inv X pins' σ H s :=
 ⟨I.ok,I.os,I.bare,I.base,I.loc,I.cell,I.free,I.freeC,fun p hp=>(U1l.mp hp).elim (fun z=>I.pin p (U2y _ z)) (h p),I.hok,I.len⟩
theorem Tp{N:List Str}(hN:N.Nodup){i j:Nat}{x:Str}(a:N[i]?=some x)(b:N[j]?=some x):i=j:=by
 obtain⟨h1,e1⟩:=U0h.mp a
 obtain⟨h2,e2⟩:=U0h.mp b
 exact(List.getElem_inj hN).mp (e1.trans e2.symm)
theorem Xn{M:Model}{A:Around}{E:Value->Shared->Prop}{i:Nat}{x:Str}{v:V}{u:Value}{Q:Unit->Shared->Prop}(I:Inv X pins σ H s)(hN:X.N.Nodup)(hi:X.N[i]?=some x)(hx:Loc X.env.scope x)(r:RelV v u)
  (h:∀s',Inv X pins (σ.set i (some v)) H s'->(∃a,U13 a s.heap s'.heap/\(a=X.env.locals∨X.env.cells.lookup x=some a))->Q () s') (hf:X.fn x=true∨X.env.scope.names.lookup x=some .local:=by first|exact .inl rfl|exact .inr rfl|assumption):wpAny M A (storeName X.env x u) Q E s:=by
 obtain⟨m,hn,hl⟩:=id I.loc
 have hcls:(X.env.scope.kind==.class||(X.env.scope.kind==.module&&X.env.locals != X.env.globals))=false:=by rw[I.ok.kind];rfl
 have hiσ:i<σ.length:=by rw[I.len];exact(U0h.mp hi).1
 have cne:=I.cne
 have tracked:∀{a:Addr} {h':Heap},(∃o,s.heap.get? a=some o/\H a=none)->U13 a s.heap h'->HOk X.prog X.w H h':=fun {a h'} ha hs b ob e=>by
  obtain⟨_,_,hfree⟩:=ha
  refine(I.hok b ob e).stay (fun c w' hc q=>(hs.2 c ?_).trans q) (fun _ q=>q) fun _ _ q=>q
  rintro rfl
  rcases hc with rfl|hc
  .rw[hfree] at e;cases e
  .rw[hfree] at hc;cases hc
 rcases hx with hk|hk
 .refine wpAny_storeName_local hk hn (fun h' hn' hs=>?_) hcls
  obtain⟨oL,_,_,hoL,_⟩:=id hn
  refine h _ ⟨I.ok,I.os,I.bare,⟨fun b o e n hb hx=>?_,fun b o e n hb hx=>?_,I.base.free,fun b o e hx=>?_,I.base.tups,I.base.frzs,I.base.tbls,I.base.sy⟩,⟨_,hn',fun j y v' e1 e2 e3=>?_⟩,fun y c e=>?_,I.free,I.freeC,fun p hp=>?_,tracked ⟨oL,hoL,I.free⟩ hs,by simpa using I.len⟩ ⟨_,hs,.inl rfl⟩
  .exact(hs.2 b (U1c (U03 (U0k e) I.ok.above))).trans (I.base.keep b o e n hb hx)
  .obtain⟨sl,e1⟩:=I.base.slot b o e n hb hx
   exact⟨sl,(hs.2 b (U1c (U03 (U0k e) I.ok.above))).trans e1⟩
  .obtain⟨o',e1⟩:=I.base.there b o e hx
   exact⟨o',(hs.2 b (U1c (U03 (U0k e) I.ok.above))).trans e1⟩
  .by_cases hj:j=i
   .subst hj
    rw[hi] at e1;cases e1
    rw[U2r hiσ] at e2
    cases e2
    exact⟨u,r,.inl ⟨hk,by simp⟩⟩
   .rw[U2z (U3l hj)] at e2
    obtain⟨u',r',q⟩:=hl j y v' e1 e2 e3
    refine⟨u',r',?_⟩
    rcases q with ⟨k,e⟩|⟨k,c,e,z⟩
    .refine .inl ⟨k,?_⟩
     have:y≠x:=fun e=>hj (Tp hN e1 (e ▸ hi))
     simp[this,e]
    .exact .inr ⟨k,c,e,z.sameBut hs (cne y c e)⟩
  .obtain⟨w',z⟩:=I.cell y c e
   exact⟨w',z.sameBut hs (cne y c e)⟩
  .obtain⟨e,n,ne,nf,d⟩:=I.pin p hp
   exact⟨(hs.2 p.1 ne).trans e,n,ne,nf,d⟩
 .have hfn:X.fn x=true:=by
   rcases hf with z|z
   .exact z
   .rw[z] at hk;cases hk
  obtain⟨c,hc⟩:=I.ok.has x (.inl hk)
  obtain⟨w',z⟩:=I.cell x c hc
  refine wpAny_storeName_cell I.ok.kind hk hc z (fun h' hc' hs=>?_)
  obtain⟨oc,hoc,hocd⟩:=id z
  refine h { s with heap:=h' } ⟨I.ok,I.os,I.bare,⟨fun b o e n hb hx=>?_,fun b o e n hb hx=>?_,I.base.free,fun b o e hx=>?_,I.base.tups,I.base.frzs,I.base.tbls,I.base.sy⟩,⟨m,hn.sameBut hs (U3l (cne x c hc)),fun j y v' e1 e2 e3=>?_⟩,fun y c' e=>?_,I.free,I.freeC,fun p hp=>?_,tracked ⟨oc,hoc,I.freeC x c hc⟩ hs,by simpa using I.len⟩ ⟨c,hs,.inr hc⟩
  .exact(hs.2 b (U1c (U03 (U0k e) (I.ok.cab x c hfn hc)))).trans (I.base.keep b o e n hb hx)
  .obtain⟨sl,e1⟩:=I.base.slot b o e n hb hx
   exact⟨sl,(hs.2 b (U1c (U03 (U0k e) (I.ok.cab x c hfn hc)))).trans e1⟩
  .obtain⟨o',e1⟩:=I.base.there b o e hx
   exact⟨o',(hs.2 b (U1c (U03 (U0k e) (I.ok.cab x c hfn hc)))).trans e1⟩
  .by_cases hj:j=i
   .subst hj
    rw[hi] at e1;cases e1
    rw[U2r hiσ] at e2
    cases e2
    exact⟨u,r,.inr ⟨.inl hk,c,hc,hc'⟩⟩
   .rw[U2z (U3l hj)] at e2
    obtain⟨u',r',q⟩:=hl j y v' e1 e2 e3
    refine⟨u',r',?_⟩
    rcases q with q|⟨k,c',e,z'⟩
    .exact .inl q
    .refine .inr ⟨k,c',e,z'.sameBut hs ?_⟩
     rintro rfl
     exact hj (Tp hN e1 (I.ok.inj _ _ _ e hc ▸ hi))
  .by_cases hcc:c'=c
   .subst hcc;exact⟨_,hc'⟩
   .obtain⟨w2,z2⟩:=I.cell y c' e
    exact⟨w2,z2.sameBut hs hcc⟩
  .obtain⟨e,n,ne,nf,d⟩:=I.pin p hp
   refine⟨(hs.2 p.1 ?_).trans e,n,ne,nf,d⟩
   intro q
   rw[q,hoc] at e
   have q':oc=p.2:=U0x e
   exact d w' (by rw[←q'];exact hocd)
theorem Tc{M:Model}{A:Around}{E:Value->Shared->Prop}{i:Nat}{x:Str}{v:V}{u:Value}{Q:Unit->Shared->Prop}(I:Inv X pins σ H s)(hN:X.N.Nodup)(hi:X.N[i]?=some x)(hx:Loc X.env.scope x)(r:RelV v u)
  (h:∀s',Inv X pins (σ.set i (some v)) H s'->Q () s') (hf:X.fn x=true∨X.env.scope.names.lookup x=some .local:=by first|exact .inl rfl|exact .inr rfl|assumption):wpAny M A (storeName X.env x u) Q E s :=
 Xn I hN hi hx r (fun s' I' _=>h s' I') hf
theorem Inv.call'{s':Shared}{ch:List Addr}(I:Inv X pins σ H s)(ho:s'.os=s.os)(u:Un (frs X.stack) ch H H' s.heap s'.heap)(hok:HOk X.prog X.w H' s'.heap)(hg:AllBare s'.gens)
  (hch:∀b∈ch,(b∈X.ex∨X.s₀.heap.objs.size<=b)/\b≠X.env.locals/\(∀x c,X.env.cells.lookup x=some c->c≠b)/\∀p∈X.pn++pins,p.1≠b):Inv X pins σ H' s':=by
 obtain⟨h',g',d',t',o'⟩:=s'
 have e:o'=s.os:=ho
 subst e
 exact I.call (g':=g') (t':=t') (d':=d') u hok hg hch
end
abbrev XK:=Value->Option Addr->Hp->Prop
abbrev St:=List (Option V)
abbrev VK:=V->Hp->Prop
abbrev TE:=St->Hp->VK->Prop
abbrev TT:=St->Hp->(Bool->Hp->Prop)->Prop
abbrev TA:=St->Hp->(List V->Hp->Prop)->Prop
structure Ends where
 nx:St->Hp->Prop
 rt:VK
 bk:St->Hp->Prop:=fun _ _=>False
 ct:St->Hp->Prop:=fun _ _=>False
abbrev TS:=Ends->St->Hp->Prop
def EP(X:Cx)(pins:List (Addr×Obj))(σ:St)(Q:VK)(u:Value)(s':Shared):Prop:=∃v H',Inv X pins σ H' s'/\RelV v u/\Q v H'
def TP(X:Cx)(pins:List (Addr×Obj))(σ:St)(Q:Bool->Hp->Prop)(b:Bool)(s':Shared):Prop:=∃H',Inv X pins σ H' s'/\Q b H'
def AP(X:Cx)(pins:List (Addr×Obj))(σ:St)(Q:List V->Hp->Prop)(us:List Value)(s':Shared):Prop:=∃vs H',Inv X pins σ H' s'/\Vals vs us/\Q vs H'
def SP(X:Cx)(pins:List (Addr×Obj))(D:Ends)(f:Flow)(s':Shared):Prop :=
 match f with
 |.next=>∃σ' H',Inv X pins σ' H' s'/\D.nx σ' H'
 |.brk=>∃σ' H',Inv X pins σ' H' s'/\D.bk σ' H'
 |.cont=>∃σ' H',Inv X pins σ' H' s'/\D.ct σ' H'
 |.ret u=>∃v σ' H',Inv X pins σ' H' s'/\RelV v u/\D.rt v H'
def PE(X:Cx)(e:Expr)(t:TE):Prop :=
 ∀(pins:List (Addr×Obj))(s:Shared)(σ:St)(H:Hp)(Q:VK),Inv X pins σ H s->t σ H Q->wpAny (model X.prog X.w) X.A (eval e X.env) (EP X pins σ Q) X.xe s
def PT(X:Cx)(e:Expr)(t:TT):Prop :=
 ∀(pins:List (Addr×Obj))(s:Shared)(σ:St)(H:Hp)(Q:Bool->Hp->Prop),Inv X pins σ H s->t σ H Q->wpAny (model X.prog X.w) X.A (isTrue e X.env (eval e X.env)) (TP X pins σ Q) X.xe s
def PW(X:Cx)(e:Expr)(t:TT):Prop :=
 ∀(whole:Sem Value)(pins:List (Addr×Obj))(s:Shared)(σ:St)(H:Hp)(Q:Bool->Hp->Prop),Inv X pins σ H s->t σ H Q->wpAny (model X.prog X.w) X.A (isTrue e X.env whole) (TP X pins σ Q) X.xe s
theorem PW.pt{X:Cx}{e:Expr}{t:TT}(h:PW X e t):PT X e t:=h _
def PA(X:Cx)(es:List Expr)(t:TA):Prop :=
 ∀(pos:Pos)(pins:List (Addr×Obj))(s:Shared)(σ:St)(H:Hp)(Q:List V->Hp->Prop),Inv X pins σ H s->t σ H Q->wpAny (model X.prog X.w) X.A (spliced (backTo pos (starEach es X.env))) (AP X pins σ Q) X.xe s
def PS(X:Cx)(st:Stmt)(t:TS):Prop :=
 ∀(pins:List (Addr×Obj))(s:Shared)(σ:St)(H:Hp)(D:Ends),Inv X pins σ H s->t D σ H->wpAny (model X.prog X.w) X.A (exec st X.env) (SP X pins D) X.xe s
def PSs(X:Cx)(st:List Stmt)(t:TS):Prop :=
 ∀(pins:List (Addr×Obj))(s:Shared)(σ:St)(H:Hp)(D:Ends),Inv X pins σ H s->t D σ H->wpAny (model X.prog X.w) X.A (execs st X.env) (SP X pins D) X.xe s
theorem thn{α:Type}{t:Sem α}{Q Q':α->Shared->Prop}{M:Model}{A:Around}{E:Value->Shared->Prop}{s:Shared}(h:wpAny M A t Q E s)(hQ:∀a s,Q a s->Q' a s):wpAny M A t Q' E s:=U5a h hQ fun _ _ x=>x
end L2
namespace L2
open PySem PySem.Spec PyProof.Rows
section
variable{X:Cx}
theorem bin{a b:Expr}{ta tb:TE}(ha:PE X a ta)(hb:PE X b tb){pins:List (Addr×Obj)}{s:Shared}{σ:St}{H:Hp}{R:V->V->Hp->Prop}(I:Inv X pins σ H s)(h:ta σ H fun x H1=>tb σ H1 fun y H2=>R x y H2)
  {α:Type} {Q:α->Shared->Prop} {f:Value->Value->Sem α}
  (hf:∀v u s2 x y H2,Inv X pins σ H2 s2->RelV x v->RelV y u->R x y H2->wpAny (model X.prog X.w) X.A (f v u) Q X.xe s2) :
  wpAny (model X.prog X.w) X.A (eval a X.env) (fun v s₁=>wpAny (model X.prog X.w) X.A (eval b X.env) (fun u s₂=>wpAny (model X.prog X.w) X.A (f v u) Q X.xe s₂) X.xe s₁) X.xe s:=by
 refine thn (ha pins s σ H _ I h) fun v s1 ⟨x,H1,I1,r1,q1⟩=>?_
 refine thn (hb pins s1 σ H1 _ I1 q1) fun u s2 ⟨y,H2,I2,r2,q2⟩=>?_
 exact hf v u s2 x y H2 I2 r1 r2 q2
def eV(i:Nat):TE:=fun σ H Q=>∃v,σ[i]?=some (some v)/\Q v H
def tC(v:V):TE:=fun _ H Q=>Q v H
theorem XF{i:Nat}{x:Str}{pos:Pos}(hN:X.N[i]?=some x)(hv:Vis X.env.scope x)(hd:(x==("__debug__":Str))=false:=by decide)(hcd:(x==("__classdict__":Str))=false:=by decide):PE X (.Name x pos) (eV i):=by
 intro pins s σ H Q I h
 obtain⟨v,e,h⟩:=h
 obtain⟨m,hn,hl⟩:=I.loc
 obtain⟨u,r,l⟩:=hl i x v hN e hv
 have fin:EP X pins σ Q u s:=⟨v,H,I,r,h⟩
 rcases l with ⟨hk,hm⟩|⟨hk,c,hc,hcell⟩
 .exact wpAny_Name (wpAny_loadName_local I.ok.kind hk hn hm fin) hd
 .rcases hk with hk|hk
  .exact wpAny_Name (wpAny_loadName_cell I.ok.kind hk hc hcell fin) hd
  .exact wpAny_Name (wpAny_loadName_free I.ok.kind hk hc hcell fin hcd) hd
theorem XJ{i j pos}:PE X (.Constant (.int i) j pos) (tC (.int i)):=fun _ _ _ H _ I h=>wpAny_Constant_int ⟨.int i,H,I.tok _,⟨_,rfl⟩,h⟩
theorem jw{b j pos}:PE X (.Constant (.bool b) j pos) (tC (.bl b)):=fun _ _ _ H _ I h=>Constant_bool ⟨.bl b,H,I,rfl,h⟩
def Gl(X:Cx)(x:Str):Prop:=X.env.kindOf x=some .globalImplicit
theorem cR{E:Value->Shared->Prop}{pins:List (Addr×Obj)}{s:Shared}{σ:St}{H:Hp}{x:Str}{u:Value}{pos:Pos}{Q:Value->Shared->Prop}(I:Inv X pins σ H s)(hg:Gl X x)(hm:X.mg x=some u)(h:Q u s)
  (hd:(x==("__debug__":Str))=false:=by decide):wpAny (model X.prog X.w) X.A (eval (.Name x pos) X.env) Q E s :=
 Calls.Name_function_global I.ok.kind hg (Calls.loadGlobal_global (by rw[I.ok.glob];exact I.mod.glob.keeps I.bk) hm h) hd
theorem Lf{E:Value->Shared->Prop}{pins:List (Addr×Obj)}{s:Shared}{σ:St}{H:Hp}{x:Str}{u:Value}{pos:Pos}{Q:Value->Shared->Prop}(I:Inv X pins σ H s)(hg:Gl X x)(hm:X.mg x=none)(hv:bootBuiltins x=some u)(h:Q u s)
  (hn:x≠"__name__":=by decide) (hd:(x==("__debug__":Str))=false:=by decide):wpAny (model X.prog X.w) X.A (eval (.Name x pos) X.env) Q E s:=by
 obtain⟨mb,h1,h2⟩:=I.mod.blt
 exact Calls.Name_function_global I.ok.kind hg (Calls.loadGlobal_builtin (by rw[I.ok.glob];exact I.mod.glob.keeps I.bk) hm (by rw[I.ok.blt];exact h1.keeps I.bk) ((h2 x hn).trans hv) h) hd
theorem bV{x:Str}{v:V}{u:Value}{pos:Pos}(hg:Gl X x)(hm:X.mg x=none)(hv:bootBuiltins x=some u)(r:RelV v u)(hn:x≠"__name__":=by decide)(hd:(x==("__debug__":Str))=false:=by decide):PE X (.Name x pos) (tC v) :=
 fun _ _ _ H _ I h=>Lf I hg hm hv ⟨v,H,I,r,h⟩ hn hd
variable{a b:Expr}{ta tb:TE}{pos:Pos}
def PC(X:Cx)(op:CmpOp)(a b:Expr)(t:TE):Prop :=
 ∀(pins:List (Addr×Obj))(s:Shared)(σ:St)(H:Hp)(Q:VK),Inv X pins σ H s->t σ H Q ->
  wpAny (model X.prog X.w) X.A (eval a X.env) (fun v s₁=>wpAny (model X.prog X.w) X.A (eval b X.env) (fun u s₂=>wpAny (model X.prog X.w) X.A (compareOp op v u) (EP X pins σ Q) X.xe s₂) X.xe s₁) X.xe s
theorem ZS(b:Expr){op:CmpOp}(h:op≠.In)(h2:op≠.NotIn):behindInMarks op b=false:=by
 have e1:(op==CmpOp.In)=false:=by cases op<;>first|rfl|exact absurd rfl h
 have e2:(op==CmpOp.NotIn)=false:=by cases op<;>first|rfl|exact absurd rfl h2
 cases b<;>simp[behindInMarks,e1,e2]
def tB(t:TE):TT:=fun σ H Q=>t σ H fun x H1=>∃c,x=.bl c/\Q c H1
theorem nQ{op:CmpOp}{t:TE}(h:PC X op a b t)(h1:behindInMarks op b=false:=by first|exact ZS _ (by decide) (by decide)|rfl):PT X (.Compare a [op] [b] pos) (tB t):=by
 intro pins s σ H Q I hw
 refine wpAny_isTrue_Compare1 (thn (h pins s σ H _ I hw) fun v s1 h1=>thn h1 fun u s2 h2=>thn h2 fun c s3 ⟨x,H1,I1,r1,q1⟩=>?_) h1
 obtain⟨d,rfl,q⟩:=q1
 cases r1
 exact U2g ⟨H1,I1,q⟩
theorem gO{e:Expr}{t:TE}(h:PE X e t)(he:∀whole,isTrue e X.env whole=(do let v ←whole;standAt e.pos;holding [v] (truthy v)):=by intro _;rfl):PT X e (tB t):=by
 intro pins s σ H Q I hw
 refine isTrue_plain (thn (h pins s σ H _ I hw) fun v s1 ⟨x,H1,I1,r1,q1⟩=>?_) (he _)
 obtain⟨d,rfl,q⟩:=q1
 cases r1
 exact U2g ⟨H1,I1,q⟩
variable{tA tB':TT}{rest:List Expr}
def K1(t u:TT):TT:=fun σ H Q=>t σ H fun c H1=>if c=true then u σ H1 Q else Q false H1
def tOr(t u:TT):TT:=fun σ H Q=>t σ H fun c H1=>if c=true then Q true H1 else u σ H1 Q
def M4(t:TT):TT:=fun σ H Q=>t σ H fun c H1=>Q (!c) H1
theorem bD(ha:PT X a tA):PW X (.BoolOp .And [a] pos) tA:=by
 intro wh pins s σ H Q I h
 refine isTrue_and (thn (ha pins s σ H Q I h) fun c s1 e=>?_)
 cases c with
 |true=>exact isTrue_and_nil e
 |false=>exact e
theorem gK(ha:PT X a tA):PW X (.BoolOp .Or [a] pos) tA:=by
 intro wh pins s σ H Q I h
 refine isTrue_or (thn (ha pins s σ H Q I h) fun c s1 e=>?_)
 cases c with
 |false=>exact isTrue_or_nil e
 |true=>exact e
theorem gM(ha:PT X a tA)(hb:PW X (.BoolOp .And (b::rest) pos) tB'):PW X (.BoolOp .And (a::b::rest) pos) (K1 tA tB'):=by
 intro wh pins s σ H Q I h
 refine isTrue_and (thn (ha pins s σ H _ I h) fun c s1 ⟨H1,I1,q1⟩=>?_)
 cases c with
 |true=>exact hb wh pins s1 σ H1 Q I1 q1
 |false=>exact⟨H1,I1,q1⟩
theorem jl(ha:PT X a tA)(hb:PW X (.BoolOp .Or (b::rest) pos) tB'):PW X (.BoolOp .Or (a::b::rest) pos) (tOr tA tB'):=by
 intro wh pins s σ H Q I h
 refine isTrue_or (thn (ha pins s σ H _ I h) fun c s1 ⟨H1,I1,q1⟩=>?_)
 cases c with
 |true=>exact⟨H1,I1,q1⟩
 |false=>exact hb wh pins s1 σ H1 Q I1 q1
theorem gP(ha:PT X a tA):PT X (.UnaryOp .Not a pos) (M4 tA):=by
 intro pins s σ H Q I h
 exact isTrue_not (ha pins s σ H (fun c H1=>Q (!c) H1) I h)
def jf(ta tb:TE):TE:=fun σ H Q=>ta σ H fun x H1=>∃c,x=.bl c/\if c=true then tb σ H1 Q else Q (.bl false) H1
def lY(ta tb:TE):TE:=fun σ H Q=>ta σ H fun x H1=>∃c,x=.bl c/\if c=true then Q (.bl true) H1 else tb σ H1 Q
def jY(ta:TE):TE:=fun σ H Q=>ta σ H fun x H1=>∃c,x=.bl c/\Q (.bl (!c)) H1
theorem gn{op}{t:TE}(h:PE X a t):PE X (.BoolOp op [a] pos) t:=fun pins s σ H Q I hw=>BoolOp_one (h pins s σ H Q I hw)
theorem iB(ha:PE X a ta)(hb:PE X (.BoolOp .And (b::rest) pos) tb):PE X (.BoolOp .And (a::b::rest) pos) (jf ta tb):=by
 intro pins s σ H Q I h
 refine BoolOp_and (thn (ha pins s σ H _ I h) fun v s1 ⟨x,H1,I1,r1,q1⟩=>?_)
 obtain⟨c,rfl,q1⟩:=q1
 cases r1
 refine U2g ?_
 cases c with
 |true=>exact hb pins s1 σ H1 Q I1 q1
 |false=>exact⟨.bl false,H1,I1,rfl,q1⟩
theorem jq(ha:PE X a ta)(hb:PE X (.BoolOp .Or (b::rest) pos) tb):PE X (.BoolOp .Or (a::b::rest) pos) (lY ta tb):=by
 intro pins s σ H Q I h
 refine BoolOp_or (thn (ha pins s σ H _ I h) fun v s1 ⟨x,H1,I1,r1,q1⟩=>?_)
 obtain⟨c,rfl,q1⟩:=q1
 cases r1
 refine U2g ?_
 cases c with
 |false=>exact hb pins s1 σ H1 Q I1 q1
 |true=>exact⟨.bl true,H1,I1,rfl,q1⟩
theorem gq(ha:PE X a ta):PE X (.UnaryOp .Not a pos) (jY ta):=by
 intro pins s σ H Q I h
 refine UnaryOp_ (thn (ha pins s σ H _ I h) fun v s1 ⟨x,H1,I1,r1,q1⟩=>?_)
 obtain⟨c,rfl,q1⟩:=q1
 cases r1
 exact not_of (U2g ⟨.bl (!c),H1,I1,rfl,q1⟩)
end
end L2
namespace L2
open PySem PySem.Spec PyProof.Rows
def SqL(K:U0a)(H:Hp)(a:Addr)(xs:List V):Prop :=
 Rd H a (.lst xs) ∨
  ∃(o:Obj)(its:Array Value)(n:Nat),K.lookup a=some o/\o.cls=.type "list"/\o.dict=none/\o.data=.seq its n/\its.size<=sizeLine/\Vals xs its.toList
def SqT(K:U0a)(H:Hp)(a:Addr)(xs:List V):Prop :=
 Rd H a (.tup xs) ∨
  ∃(o:Obj)(its:Array Value)(n:Nat),K.lookup a=some o/\o.cls=.type "tuple"/\o.data=.seq its n/\its.size<=sizeLine/\Vals xs its.toList
def mR:Value->Option V
 |.none=>some .non
 |.bool b=>some (.bl b)
 |.int i _=>some (.int i)
 |.str x _=>some (.str x)
 |.bytes b _=>some (.byt b)
 |.float b _=>some (.flt b)
 |.ref a=>some (.ref a)
 |.type n=>some (.ty n)
 |_=>none
theorem RelV.abs{x:V}{u:Value}(r:RelV x u):mR u=some x:=by
 cases x with
 |non=>cases r;rfl
 |bl _=>cases r;rfl
 |int _=>obtain⟨t,rfl⟩:=r;rfl
 |str _=>obtain⟨t,rfl⟩:=r;rfl
 |byt _=>obtain⟨t,rfl⟩:=r;rfl
 |flt _=>obtain⟨t,rfl⟩:=r;rfl
 |ref _=>cases r;rfl
 |ty _=>cases r;rfl
theorem RelV.inj{x y:V}{u:Value}(r:RelV x u)(q:RelV y u):x=y:=U0x (r.abs.symm.trans q.abs)
theorem Vals.inj:∀{xs ys:List V} {us:List Value},Vals xs us->Vals ys us->xs=ys
 |_,_,_,.nil,.nil=>rfl
 |_,_,_,.cons r t,.cons r' t'=>by rw[r.inj r',Vals.inj t t']
section
variable{X:Cx}{pins:List (Addr×Obj)}{σ:St}{H:Hp}{s:Shared}{a:Addr}{xs ys:List V}
theorem SqL.of{K:U0a}(h:H a=some (.lst xs)):SqL K H a xs:=.inl (.inl h)
theorem SqT.of{K:U0a}(h:H a=some (.tup xs)):SqT K H a xs:=.inl (.inl h)
theorem Inv.list(I:Inv X pins σ H s)(h:SqL X.K H a xs):∃its:List Value,Vals xs its/\PlainL s.heap a its.toArray/\xs.length<=sizeLine:=by
 rcases h with h|⟨o,its,n,hk,hc,hd,hs,hz,r⟩
 .obtain⟨z,its,n,r,e⟩:=h.ok I.hok
  exact⟨its,r,⟨_,n,e,rfl,rfl,rfl⟩,z⟩
 .refine⟨its.toList,r,⟨o,n,I.kIn a o hk,hc,hd,by simpa using hs⟩,?_⟩
  have e:=r.length
  simp only[U0e] at e
  omega
theorem Inv.tuple(I:Inv X pins σ H s)(h:SqT X.K H a xs):∃its:List Value,Vals xs its/\IsTup s.heap a its.toArray/\xs.length<=sizeLine:=by
 rcases h with h|⟨o,its,n,hk,hc,hs,hz,r⟩
 .obtain⟨z,its,r,p⟩:=h.ok I.hok
  exact⟨its,r,p,z⟩
 .refine⟨its.toList,r,⟨o,I.kIn a o hk,hc,n,by simpa using hs⟩,?_⟩
  have e:=r.length
  simp only[U0e] at e
  omega
theorem Inv.Za(I:Inv X pins σ H s)(h:SqL X.K H a xs)(h':SqL X.K H a ys):xs=ys:=by
 obtain⟨its,r,⟨o,n,e,_,_,d⟩,_⟩:=I.list h
 obtain⟨its',r',⟨o',n',e',_,_,d'⟩,_⟩:=I.list h'
 rw[e] at e';cases e'
 rw[d] at d'
 injection d' with d1 _
 have:its=its':=by simpa using congrArg Array.toList d1
 subst this
 exact r.inj r'
theorem Inv.Xm(I:Inv X pins σ H s)(h:SqT X.K H a xs)(h':SqT X.K H a ys):xs=ys:=by
 obtain⟨its,r,⟨o,e,_,n,d⟩,_⟩:=I.tuple h
 obtain⟨its',r',⟨o',e',_,n',d'⟩,_⟩:=I.tuple h'
 rw[e] at e';cases e'
 rw[d] at d'
 injection d' with d1 _
 have:its=its':=by simpa using congrArg Array.toList d1
 subst this
 exact r.inj r'
end
abbrev Cx.wish(X:Cx)(E:Value->Shared->Prop):Cx:={ X with xe:=E }
abbrev Cx.nox(X:Cx):Cx:=X.wish fun _ _=>False
theorem Cx.Ok.wish{X:Cx}(ok:X.Ok)(E:Value->Shared->Prop):(X.wish E).Ok :=
 ⟨ok.mod,ok.kind,ok.glob,ok.blt,ok.above,ok.inj,ok.has,ok.cab,ok.hd,ok.frames,ok.stk,ok.exf,ok.bs,ok.bsz,ok.noex,ok.exfs,ok.K4,ok.frf,ok.sy⟩
theorem Cx.Ok.JH{X:Cx}{E:Value->Shared->Prop}(ok:(X.wish E).Ok):X.Ok :=
 ⟨ok.mod,ok.kind,ok.glob,ok.blt,ok.above,ok.inj,ok.has,ok.cab,ok.hd,ok.frames,ok.stk,ok.exf,ok.bs,ok.bsz,ok.noex,ok.exfs,ok.K4,ok.frf,ok.sy⟩
section
variable{X:Cx}{pins:List (Addr×Obj)}{σ:St}{H:Hp}{s:Shared}{E:Value->Shared->Prop}
theorem Inv.wish(I:Inv X pins σ H s)(E:Value->Shared->Prop):Inv (X.wish E) pins σ H s:=⟨I.ok.wish E,I.os,I.bare,I.base,I.loc,I.cell,I.free,I.freeC,I.pin,I.hok,I.len⟩
theorem Inv.JH(I:Inv (X.wish E) pins σ H s):Inv X pins σ H s:=⟨I.ok.JH,I.os,I.bare,I.base,I.loc,I.cell,I.free,I.freeC,I.pin,I.hok,I.len⟩
theorem SP.JH{D:Ends}{f:Flow}{s':Shared}(h:SP (X.wish E) pins D f s'):SP X pins D f s':=by
 cases f with
 |next=>obtain⟨σ',H',I,q⟩:=h;exact⟨σ',H',I.JH,q⟩
 |brk=>obtain⟨σ',H',I,q⟩:=h;exact⟨σ',H',I.JH,q⟩
 |cont=>obtain⟨σ',H',I,q⟩:=h;exact⟨σ',H',I.JH,q⟩
 |ret u=>obtain⟨v,σ',H',I,r,q⟩:=h;exact⟨v,σ',H',I.JH,r,q⟩
theorem PSs.nox{st:List Stmt}{t:TS}(h:PSs X.nox st t):PSs X st t:=fun pins s σ H D I hw =>
 U5a (h pins s σ H D (I.wish _) hw) (fun _ _ q=>q.JH) fun _ _ z=>U32 z
end
section
variable{X:Cx}{st:Stmt}{rest:List Stmt}{t u:TS}{e:Expr}{te:TE}{pos:Pos}
def jZ:TS:=fun D σ H=>D.nx σ H
def lW(t u:TS):TS:=fun D σ H=>t { D with nx:=u D } σ H
theorem bJ:PSs X [] jZ:=fun _ _ σ H _ I h=>U6l ⟨σ,H,I,h⟩
theorem ZK(h1:PS X st t)(h2:PSs X rest u):PSs X (st::rest) (lW t u):=by
 intro pins s σ H D I h
 refine wpAny_execs_cons (thn (h1 pins s σ H { D with nx:=u D } I h) fun f s1 q=>?_)
 cases f with
 |next =>
  obtain⟨σ',H',I',q⟩:=q
  exact h2 pins s1 σ' H' D I' q
 |ret v=>exact q
 |brk=>exact q
 |cont=>exact q
theorem bI(h1:PS X st t):PSs X [st] t:=by
 intro pins s σ H D I h
 refine wpAny_execs_cons (thn (h1 pins s σ H D I h) fun f s1 q=>?_)
 cases f with
 |next=>exact U6l q
 |ret v=>exact q
 |brk=>exact q
 |cont=>exact q
theorem Inv.quiet{pins:List (Addr×Obj)}{σ:St}{H:Hp}{s:Shared}(I:Inv X pins σ H s):interactive X.env=false:=by simp[interactive,I.ok.kind]
def jd(te:TE):TS:=fun D σ H=>te σ H fun _ H1=>D.nx σ H1
theorem bK(he:PE X e te)(hs:swapsWith e none pos.line X.env=pure false:=by rfl):PS X (.Expr e pos) (jd te):=by
 intro pins s σ H D I h
 exact wpAny_Expr_any (thn (he pins s σ H _ I h) fun v s1 ⟨x,H1,I1,r1,q1⟩=>⟨σ,H1,I1,q1⟩) I.quiet hs
def lX(te:TE):TS:=fun D σ H=>te σ H D.rt
theorem gR(he:PE X e te):PS X (.Return (some e) pos) (lX te):=by
 intro pins s σ H D I h
 exact wpAny_Return_some (thn (he pins s σ H _ I h) fun v s1 ⟨x,H1,I1,r1,q1⟩=>⟨x,σ,H1,I1,r1,q1⟩)
def lq(c:TT)(t u:TS):TS:=fun D σ H=>c σ H fun b H1=>if b=true then t D σ H1 else u D σ H1
theorem jm{c:Expr}{a b:List Stmt}{tc:TT}(hc:PT X c tc)(ha:PSs X a t)(hb:PSs X b u):PS X (.If c a b pos) (lq tc t u):=by
 intro pins s σ H D I h
 refine wpAny_If (thn (hc pins s σ H _ I h) fun d s1 ⟨H1,I1,q1⟩=>?_)
 cases d with
 |true=>exact ha pins s1 σ H1 D I1 q1
 |false=>exact hb pins s1 σ H1 D I1 q1
def gA:TS:=fun _ _ _=>False
theorem ZL:PS X st gA:=fun _ _ _ _ _ _ h=>h.elim
end
abbrev TG:=V->St->Hp->(St->Hp->Prop)->Prop
abbrev TGs:=List V->St->Hp->(St->Hp->Prop)->Prop
def PG(X:Cx)(target:Expr)(t:TG):Prop :=
 ∀(pins:List (Addr×Obj))(s:Shared)(σ:St)(H:Hp)(v:V)(u:Value)(Q:St->Hp->Prop),Inv X pins σ H s->RelV v u->t v σ H Q ->
  wpAny (model X.prog X.w) X.A (assign target X.env u) (fun _ s'=>∃σ' H',Inv X pins σ' H' s'/\Q σ' H') X.xe s
def PGs(X:Cx)(ts:List Expr)(t:TGs):Prop :=
 ∀(pins:List (Addr×Obj))(s:Shared)(σ:St)(H:Hp)(vs:List V)(us:List Value)(Q:St->Hp->Prop),Inv X pins σ H s->Vals vs us->t vs σ H Q ->
  wpAny (model X.prog X.w) X.A (assignInOrder ((assignEach ts X.env).map (·.2)) us) (fun _ s'=>∃σ' H',Inv X pins σ' H' s'/\Q σ' H') X.xe s
abbrev Yo:=V->V->V->Hp->(Hp->Prop)->Prop
def fZ(X:Cx)(t:Yo):Prop :=
 ∀(pins:List (Addr×Obj))(s:Shared)(σ:St)(H:Hp)(o i v:V)(ov iv u:Value)(Q:Hp->Prop),Inv X pins σ H s->RelV o ov->RelV i iv->RelV v u->t o i v H Q ->
  wpAny (model X.prog X.w) X.A (setItem ov iv u) (fun _ s'=>∃H',Inv X pins σ H' s'/\Q H') X.xe s
section
variable{X:Cx}{pos:Pos}
def Sg(i:Nat):TG:=fun v σ H Q=>Q (σ.set i (some v)) H
theorem bO{i:Nat}{x:Str}(hN:X.N.Nodup)(hi:X.N[i]?=some x)(hx:Loc X.env.scope x)(hf:X.fn x=true∨X.env.scope.names.lookup x=some .local:=by first|exact .inl rfl|exact .inr rfl|assumption):PG X (.Name x pos) (Sg i):=by
 intro pins s σ H v u Q I r h
 exact wpAny_assign_Name (Tc I hN hi hx r (fun s' I'=>⟨_,H,I',h⟩) hf)
def Yk:TGs:=fun vs σ H Q=>vs=[]/\Q σ H
def WR(t:TG)(u:TGs):TGs:=fun vs σ H Q=>∃v r,vs=v::r/\t v σ H fun σ' H'=>u r σ' H' Q
theorem bN:PGs X [] Yk:=by
 intro pins s σ H vs us Q I r h
 obtain⟨e,h⟩:=h
 subst e
 cases r
 exact assignInOrder_nil ⟨σ,H,I,h⟩
theorem ZP{e:Expr}{es:List Expr}{t:TG}{u:TGs}(h1:PG X e t)(h2:PGs X es u)
  (hs:(assignEach (e::es) X.env).map (·.2)=assign e X.env::(assignEach es X.env).map (·.2):=by rfl):PGs X (e::es) (WR t u):=by
 intro pins s σ H vs us Q I r h
 obtain⟨v,vr,e1,h⟩:=h
 subst e1
 cases r with
 |cons r rr =>
  rw[hs]
  refine assignInOrder_cons (thn (h1 pins s σ H _ _ _ I r h) fun _ s1 ⟨σ1,H1,I1,q1⟩=>?_)
  exact h2 pins s1 σ1 H1 _ _ Q I1 rr q1
def Yj(K:U0a)(n:Nat)(t:TGs):TG:=fun v σ H Q=>∃a xs,v=.ref a/\SqT K H a xs/\xs.length=n/\t xs σ H Q
theorem gY{es:List Expr}{k:Nat}{t:TGs}{n:Nat}(hc:X.calm=true)(h:PGs X es t)
  (hn:(assignEach es X.env).length=n:=by rfl) (hst:(assignEach es X.env).findIdx? (·.1)=none:=by rfl):PG X (.Tuple es k pos) (Yj X.K n t):=by
 intro pins s σ H v u Q I r hw
 obtain⟨a,xs,e1,hq,hl,hw⟩:=hw
 subst e1
 cases r
 obtain⟨its,rv,ht,hz⟩:=I.tuple hq
 refine assign_Tuple_tuple (I.ok.hd hc) ht (by simp[hn,←hl,rv.length]) hst fun h' hx=>?_
 have I1:Inv X pins σ H { s with heap:=h' }:=I.kept (t':=s.toks) fun b o e=>hx b o (U1c (U0k e)) e
 exact h pins _ σ H xs _ Q I1 (by simpa using rv) hw
def mO(to ti:TE)(t:Yo):TG:=fun v σ H Q=>to σ H fun o H1=>ti σ H1 fun i H2=>t o i v H2 fun H3=>Q σ H3
theorem gZ{o i:Expr}{to ti:TE}{t:Yo}(ho:PE X o to)(hi:PE X i ti)(hs:fZ X t)
  (ha:∀v,assign (.Subscript o i pos) X.env v=(do
   let ov ←holding [v] (eval o X.env)
   let iv ←holding [v,ov] (eval i X.env)
   standAt pos
   holding [v,ov,iv] (setItem ov iv v)
   release [v,ov,iv] []):=by intro _;rfl):PG X (.Subscript o i pos) (mO to ti t):=by
 intro pins s σ H v u Q I r h
 rw[ha]
 refine U0 (U2j (thn (ho pins s σ H _ I h) fun ov s1 ⟨x,H1,I1,r1,q1⟩=>?_))
 refine U0 (U2j (thn (hi pins s1 σ H1 _ I1 q1) fun iv s2 ⟨y,H2,I2,r2,q2⟩=>?_))
 refine U0 (wpAny_standAt (U0 (U2j (thn (hs pins s2 σ H2 x y v ov iv u _ I2 r1 r2 r q2) fun _ s3 ⟨H3,I3,q3⟩=>?_))))
 exact wpAny_release ⟨σ,H3,I3,q3⟩
def eY(te:TE)(g:TG):TS:=fun D σ H=>te σ H fun x H1=>g x σ H1 D.nx
theorem XD{tg e:Expr}{te:TE}{g:TG}(he:PE X e te)(hg:PG X tg g)(hs:swapsWithSole [tg] e pos.line X.env=pure false:=by rfl)(hw:swappedStores [tg] e X.env=pure none:=by rfl)
  (h1:(assignEach [tg] X.env).map (·.2)=[assign tg X.env]:=by rfl):PS X (.Assign [tg] e pos) (eY te g):=by
 intro pins s σ H D I h
 refine wpAny_Assign_stores (thn (he pins s σ H _ I h) fun v s1 ⟨x,H1,I1,r1,q1⟩=>?_) hs hw
 rw[h1]
 exact thn (hg pins s1 σ H1 x v _ I1 r1 q1) fun _ s2 q=>q
theorem gQ{i:Nat}{x:Str}{e:Expr}{te:TE}{pos':Pos}(hN:X.N.Nodup)(hi:X.N[i]?=some x)(hx:Loc X.env.scope x)(he:PE X e te)(hs:swapsWith e (some (.Name x pos')) pos.line X.env=pure false:=by rfl)(hf:X.fn x=true∨X.env.scope.names.lookup x=some .local:=by first|exact .inl rfl|exact .inr rfl|assumption) :
  PS X (.Assign [.Name x pos'] e pos) (eY te (Sg i)):=by
 intro pins s σ H D I h
 refine wpAny_Assign_Name (thn (he pins s σ H _ I h) fun v s1 ⟨y,H1,I1,r1,q1⟩=>?_) hs
 exact Tc I1 hN hi hx r1 (fun s2 I2=>⟨_,H1,I2,q1⟩) hf
end
section
variable{X:Cx}{pos:Pos}
end
structure It where
 go:Nat->Hp->Prop
 yld:Nat->Hp->V->Hp->Prop
 stop:Nat->Hp->Prop
def NQ(X:Cx)(pins:List (Addr×Obj))(H:Hp)(b:Addr):Prop :=
 H b=none/\b≠X.env.locals/\b ∉ X.fs/\(b∈X.ex∨X.s₀.heap.objs.size<=b)/\(∀x c,X.env.cells.lookup x=some c->c≠b)/\∀p∈X.pn++pins,p.1≠b
theorem Inv.Yl{X:Cx}{pins:List (Addr×Obj)}{σ:St}{H H':Hp}{s:Shared}{b:Addr}(I:Inv X pins σ H s)(hb:s.heap.objs.size<=b)(hn:H' b=none):NQ X pins H' b:=by
 refine⟨hn,U3q (U03 I.lt hb),I.Yi hb,.inr (U08 I.sz hb),fun x c e z=>?_,fun p hp z=>?_⟩
 .obtain⟨v,q⟩:=I.cell x c e
  exact absurd (U03 q.lt (by rw[z];exact hb)) (U4b _)
 .exact absurd (U03 (U0k (I.pin p hp).1) (by rw[z];exact hb)) (U4b _)
structure Turn(P:Program)(w:World)(K:U0a)(tg:Expr)(J:It)(fp:List Addr)(it:Addr)(tn:Nat->Heap->Prop):Prop where
 mem:it∈fp
 obj:∀i h,tn i h->∀b∈fp,∃o,h.get? b=some o/\∀v,o.data≠.cell v
 keep:∀i h h',tn i h->(∀b∈fp,∀o,h.get? b=some o->h'.get? b=some o)->tn i h'
 item:∀(X:Cx),X.prog=P->X.w=w->X.K=K->X.calm=true->∀(i:Nat)(pins:List (Addr×Obj))(s:Shared)(σ:St)(H:Hp)(E:Value->Shared->Prop),Inv X pins σ H s->(∀b∈fp,NQ X pins H b)->tn i s.heap->J.go i H ->
  wpAny (model P w) X.A (pyNext (.ref it)) (fun r s1=>∃u,r=some u /\
   wpAny (model P w) X.A (letOwnedTupleGo tg (.ref it) u) (fun _ s2=>∃x H',Inv X pins σ H' s2/\RelV x u/\J.yld i H x H'/\tn (i+1) s2.heap/\∀b∈fp,H' b=none) E s1) E s
 done:∀(X:Cx),X.prog=P->X.w=w->X.K=K->X.calm=true->∀(i:Nat)(pins:List (Addr×Obj))(s:Shared)(σ:St)(H:Hp)(E:Value->Shared->Prop),Inv X pins σ H s->(∀b∈fp,NQ X pins H b)->tn i s.heap->J.stop i H ->
  wpAny (model P w) X.A (pyNext (.ref it)) (fun r s1=>r=none/\Inv X pins σ H s1) E s
 self:∀(A:Around)(i:Nat)(s:Shared)(Q:Value->Shared->Prop)(E:Value->Shared->Prop),tn i s.heap->Q (.ref it) s->wpAny (model P w) A (pyIter (.ref it)) Q E s
abbrev TI:=St->Hp->(It->Hp->Prop)->Prop
def PIE(X:Cx)(pins:List (Addr×Obj))(σ:St)(tg:Expr)(R:It->Hp->Prop)(itv:Value)(s2:Shared):Prop :=
 ∃(it:Addr)(fp:List Addr)(tn:Nat->Heap->Prop)(J:It)(H':Hp),itv=.ref it/\Inv X pins σ H' s2/\Turn X.prog X.w X.K tg J fp it tn/\tn 0 s2.heap/\(∀b∈fp,NQ X pins H' b)/\R J H'
def PI(X:Cx)(tg iter:Expr)(wi:TI):Prop :=
 ∀(pins:List (Addr×Obj))(s:Shared)(σ:St)(H:Hp)(R:It->Hp->Prop),Inv X pins σ H s->wi σ H R ->
  wpAny (model X.prog X.w) X.A (eval iter X.env) (fun v s1=>wpAny (model X.prog X.w) X.A (pyIter v) (PIE X pins σ tg R) X.xe s1) X.xe s
theorem WQ{M:Model}{A:Around}{E:Value->Shared->Prop}{s:Shared}{tg:Expr}{it:Addr}{u:Value}{o:Obj}{n:String}{vs:Array Value}{Q:Unit->Shared->Prop}(ho:s.heap.get? it=some o)(hc:o.cls=.type n)(hd:o.data=.fields vs)
  (hn:["enumerate","zip","dict_itemiterator","dict_reverseitemiterator","odict_iterator","itertools.zip_longest","itertools.pairwise"].contains n=false) (hQ:Q () s):wpAny M A (letOwnedTupleGo tg (.ref it) u) Q E s:=by
 unfold letOwnedTupleGo
 cases tg<;>first
  |exact U0c hQ
  |(cases u<;>first
    |exact U0c hQ
    |(refine U0 (wpAny_load ho ?_)
      rw[hc,hd]
      show wpAny M A (if (["enumerate","zip","dict_itemiterator","dict_reverseitemiterator","odict_iterator","itertools.zip_longest","itertools.pairwise"].contains n&&vs[0]?==some (rawInt _))=true then _ else _) Q E s
      rw[if_neg (by intro h;rw[hn,Bool.false_and] at h;cases h)]
      exact U0c hQ))
def Itl(K:U0a)(a:Addr):It :=
 ⟨fun i H=>∃xs x,SqL K H a xs/\xs[i]?=some x,fun i H x H'=>H'=H/\∀xs,SqL K H a xs->xs[i]?=some x,fun i H=>∃xs,SqL K H a xs/\xs.length<=i⟩
def Itt(K:U0a)(a:Addr):It :=
 ⟨fun i H=>∃xs x,SqT K H a xs/\xs[i]?=some x,fun i H x H'=>H'=H/\∀xs,SqT K H a xs->xs[i]?=some x,fun i H=>∃xs,SqT K H a xs/\xs.length<=i⟩
def Itr(lo:Int)(n:Nat):It:=⟨fun i _=>i<n,fun i H x H'=>H'=H/\x=.int (lo+i),fun i _=>n<=i⟩
theorem Xl{P:Program}{w:World}{K:U0a}{tg:Expr}(a it:Addr):Turn P w K tg (Itl K a) [it] it (fun i h=>h.IsListIter it a i) where
 mem:=by simp
 obj:=fun i h st b hb=>by
  have e:b=it:=by simpa using hb
  subst e
  obtain⟨o,e,c,d⟩:=st
  exact⟨o,e,fun v z=>by rw[d] at z;cases z⟩
 keep:=fun i h h' st k=>st.at fun o e=>k it (by simp) o e
 item:=by
  intro X hP hw hK hc i pins s σ H E I hf st hg
  subst hP hw hK
  obtain⟨xs,x,hq,hx⟩:=hg
  obtain⟨its,rv,p,hz⟩:=I.list hq
  obtain⟨u,hu,ru⟩:=rv.get hx
  obtain⟨f0,f1,f2,f3,f4,f5⟩:=hf it (by simp)
  refine wpAny_pyNext_list_item st p.isList (x:=u) (by simpa using hu) fun h' st' sb=>?_
  have I1:Inv X pins σ H { s with heap:=h' }:=I.turned (t':=s.toks) (fun b o hb e=>(sb.2 b hb).trans e) f0 f1 f3 f4 f5
  obtain⟨o,e,c,d⟩:=id st'
  exact⟨u,rfl,WQ (s:={ s with heap:=h' }) e c d (by decide) ⟨x,H,I1,ru,⟨rfl,fun ys hy=>by rw[I.Za hy hq];exact hx⟩,st',fun b hb=>(hf b hb).1⟩⟩
 done:=by
  intro X hP hw hK hc i pins s σ H E I hf st hg
  subst hP hw hK
  obtain⟨xs,hq,hx⟩:=hg
  obtain⟨its,rv,p,hz⟩:=I.list hq
  obtain⟨f0,f1,f2,f3,f4,f5⟩:=hf it (by simp)
  have hl:=rv.length
  exact wpAny_pyNext_list_end (I.ok.hd hc) st p.isList (by simp;omega) fun h' eb=>⟨rfl,I.turned (t':=s.toks) (fun b o hb e=>eb b o hb e) f0 f1 f3 f4 f5⟩
 self:=fun _ _ _ _ _ st h=>wpAny_pyIter_listiter st h
theorem WX{P:Program}{w:World}{K:U0a}{tg:Expr}(a it:Addr):Turn P w K tg (Itt K a) [it] it (fun i h=>h.IsTupleIter it a i) where
 mem:=by simp
 obj:=fun i h st b hb=>by
  have e:b=it:=by simpa using hb
  subst e
  obtain⟨o,e,c,d⟩:=st
  exact⟨o,e,fun v z=>by rw[d] at z;cases z⟩
 keep:=fun i h h' st k=>st.at fun o e=>k it (by simp) o e
 item:=by
  intro X hP hw hK hc i pins s σ H E I hf st hg
  subst hP hw hK
  obtain⟨xs,x,hq,hx⟩:=hg
  obtain⟨its,rv,p,hz⟩:=I.tuple hq
  obtain⟨u,hu,ru⟩:=rv.get hx
  obtain⟨f0,f1,f2,f3,f4,f5⟩:=hf it (by simp)
  refine wpAny_pyNext_tuple_item st (show s.heap.IsTuple a its.toArray from p) (x:=u) (by simpa using hu) fun h' st' sb=>?_
  have I1:Inv X pins σ H { s with heap:=h' }:=I.turned (t':=s.toks) (fun b o hb e=>(sb.2 b hb).trans e) f0 f1 f3 f4 f5
  obtain⟨o,e,c,d⟩:=id st'
  exact⟨u,rfl,WQ (s:={ s with heap:=h' }) e c d (by decide) ⟨x,H,I1,ru,⟨rfl,fun ys hy=>by rw[I.Xm hy hq];exact hx⟩,st',fun b hb=>(hf b hb).1⟩⟩
 done:=by
  intro X hP hw hK hc i pins s σ H E I hf st hg
  subst hP hw hK
  obtain⟨xs,hq,hx⟩:=hg
  obtain⟨its,rv,p,hz⟩:=I.tuple hq
  obtain⟨f0,f1,f2,f3,f4,f5⟩:=hf it (by simp)
  have hl:=rv.length
  exact wpAny_pyNext_tuple_end (I.ok.hd hc) st (show s.heap.IsTuple a its.toArray from p) (by simp;omega) fun h' eb=>⟨rfl,I.turned (t':=s.toks) (fun b o hb e=>eb b o hb e) f0 f1 f3 f4 f5⟩
 self:=fun _ _ _ _ _ st h=>wpAny_pyIter_tupleiter st h
theorem WY{P:Program}{w:World}{K:U0a}{tg:Expr}(it:Addr)(lo:Int)(n:Nat):Turn P w K tg (Itr lo n) [it] it (fun i h=>IsRangeIter h it (lo+(i:Nat)*1) ((n:Int)-(i:Nat)) 1) where
 mem:=by simp
 obj:=fun i h st b hb=>by
  have e:b=it:=by simpa using hb
  subst e
  exact⟨_,st,fun v z=>by
   have z':Data.fields _=Data.cell v:=z
   cases z'⟩
 keep:=fun i h h' st k=>k it (by simp) _ st
 item:=by
  intro X hP hw hK hc i pins s σ H E I hf st hg
  subst hP hw hK
  obtain⟨f0,f1,f2,f3,f4,f5⟩:=hf it (by simp)
  have W:=Walks.range (prog:=X.prog) (w:=X.w) (I.ok.hd hc) it lo 1 n
  refine W.item i s _ _ hg st fun v h' tk hv st' kk=>?_
  obtain⟨t,rfl⟩:=hv
  have I1:Inv X pins σ H { s with heap:=h',toks:=tk }:=I.turned (fun b o hb e=>kk b o (by simpa using hb) e) f0 f1 f3 f4 f5
  refine⟨_,rfl,WQ (s:={ s with heap:=h',toks:=tk }) (n:="range_iterator") st' rfl rfl (by decide) ⟨.int (lo+i),H,I1,⟨t,?_⟩,⟨rfl,rfl⟩,st',fun b hb=>(hf b hb).1⟩⟩
  rw[Int.mul_one]
 done:=by
  intro X hP hw hK hc i pins s σ H E I hf st hg
  subst hP hw hK
  obtain⟨f0,f1,f2,f3,f4,f5⟩:=hf it (by simp)
  exact wpAny_pyNext_range_end (I.ok.hd hc) st (by have:n<=i:=hg;omega) fun h' eb=>⟨rfl,I.turned (t':=s.toks) (fun b o hb e=>eb b o hb e) f0 f1 f3 f4 f5⟩
 self:=fun _ _ _ _ _ st h=>wpAny_pyIter_rangeiter st h
end L2
namespace L2
open PySem PySem.Spec PyProof.Rows
section
variable{X:Cx}{tg:Expr}
theorem Tg{pins:List (Addr×Obj)}{σ:St}{H:Hp}{s:Shared}{R:It->Hp->Prop}{E:Value->Shared->Prop}{lo hi:Int}{t u v:Tok}{tk:Nat}(I:Inv X pins σ H s)(h1:-(2^62)<=lo)(h2:lo<2^62)(h3:-(2^62)<=hi)(h4:hi<2^62)
  (q:R (Itr lo (hi-lo).toNat) H):wpAny (model X.prog X.w) X.A (pyIter (.ref s.heap.objs.size)) (PIE X pins σ tg R) E { s with heap:=s.heap.push { cls:=.type "range",data:=.fields #[.int lo t,.int hi u,.int 1 v] },toks:=tk }:=by
 refine wpAny_pyIter_range (IsRange.new ..) (small_one h1 h2 h3 h4) ?_
 have I1:Inv X pins σ H { s with heap:=s.heap.push { cls:=.type "range",data:=.fields #[.int lo t,.int hi u,.int 1 v] },toks:=tk }:=I.kept fun b o e=>U0d _ e
 refine⟨(s.heap.push { cls:=.type "range",data:=.fields #[.int lo t,.int hi u,.int 1 v] }).objs.size,[(s.heap.push { cls:=.type "range",data:=.fields #[.int lo t,.int hi u,.int 1 v] }).objs.size],_,_,H,rfl,
  I1.kept (t':=tk) fun b o e=>U0d _ e,WY _ lo (hi-lo).toNat,?_,fun b hb=>?_,q⟩
 .have e1:lo+((0:Nat):Int)*1=lo:=by simp
  have e2:(((hi-lo).toNat:Nat):Int)-((0:Nat):Int)=Builtin.Range.rangeSize lo hi 1:=by rw[rangeSize_one];split<;>omega
  show IsRangeIter _ _ (lo+((0:Nat):Int)*1) ((((hi-lo).toNat:Nat):Int)-((0:Nat):Int)) 1
  rw[e1,e2]
  exact U0r _ rfl
 .have e:b=(s.heap.push { cls:=.type "range",data:=.fields #[.int lo t,.int hi u,.int 1 v] }).objs.size:=by simpa using hb
  subst e
  exact I1.Yl (U0l _) (I1.hok.fresh (U0l _))
def lA(ta:TA):TI:=fun σ H R=>ta σ H fun vs H1=>∃j:Int,vs=[.int j]/\-(2^62)<=j/\j<2^62/\R (Itr 0 j.toNat) H1
def kj(ta:TA):TI:=fun σ H R=>ta σ H fun vs H1=>∃i j:Int,vs=[.int i,.int j]/\(-(2^62)<=i/\i<2^62/\-(2^62)<=j/\j<2^62)/\R (Itr i (j-i).toNat) H1
theorem Xz{a:Expr}{ta:TA}{p pos:Pos}(hg:Gl X "range")(hm:X.mg "range"=none)(ha:PA X [a] ta)(hs:starEach [a] X.env=[(false,eval a X.env)]:=by rfl):PI X tg (.Call (.Name "range" p) [a] [] pos) (lA ta):=by
 intro pins s σ H R I h
 refine Call_ (Lf I hg hm boot_range (U4s (thn (ha pos pins s σ H _ I h) fun us s1 ⟨vs,H1,I1,r1,q1⟩=>?_) hs rfl))
 obtain⟨j,e,q1,q2,q⟩:=q1
 subst e
 cases r1 with
 |cons r rr =>
  cases rr
  obtain⟨t,rfl⟩:=r
  exact call_range_1 (Tg I1 (by omega) (by omega) q1 q2 (by simpa using q))
theorem Xy{a b:Expr}{ta:TA}{p pos:Pos}(hg:Gl X "range")(hm:X.mg "range"=none)(ha:PA X [a,b] ta)(hs:starEach [a,b] X.env=[(false,eval a X.env),(false,eval b X.env)]:=by rfl)(hs2:starEach [b] X.env=[(false,eval b X.env)]:=by rfl) :
  PI X tg (.Call (.Name "range" p) [a,b] [] pos) (kj ta):=by
 intro pins s σ H R I h
 refine Call_ (Lf I hg hm boot_range (U4s (thn (ha pos pins s σ H _ I h) fun us s1 ⟨vs,H1,I1,r1,q1⟩=>?_) (by rw[hs,hs2]) (by rw[hs2];rfl)))
 obtain⟨i,j,e,⟨q1,q2,q3,q4⟩,q⟩:=q1
 subst e
 cases r1 with
 |cons r rr =>
  cases rr with
  |cons r' rr =>
   cases rr
   obtain⟨t,rfl⟩:=r
   obtain⟨t',rfl⟩:=r'
   exact call_range_2 (Tg I1 q1 q2 q3 q4 q)
def lu(wi:TI)(g:TG)(tb:TS):TS:=fun D σ H=>wi σ H fun J H1=>∃W:Nat->Nat->St->Hp->Prop,(∃m,W 0 m σ H1)/\∀i m σ H,W i m σ H ->
 (J.stop i H/\D.nx σ H)∨(J.go i H/\∃N:St->Hp->Prop,(∀σ' H',N σ' H'->∃m',m'<m/\W (i+1) m' σ' H')/\∀x H',J.yld i H x H'->g x σ H' fun σ2 H2=>tb { D with nx:=N,ct:=N,bk:=D.nx } σ2 H2)
def JL(fp:List Addr)(h:Heap):List (Addr×Obj):=fp.filterMap fun b=>(h.get? b).map fun o=>(b,o)
theorem Jk{fp:List Addr}{h:Heap}{b:Addr}{o:Obj}(hb:b∈fp)(e:h.get? b=some o):(b,o)∈JL fp h:=List.mem_filterMap.mpr ⟨b,hb,by rw[e];rfl⟩
theorem RT{fp:List Addr}{h:Heap}{p:Addr×Obj}(hp:p∈JL fp h):p.1∈fp/\h.get? p.1=some p.2:=by
 obtain⟨b,hb,e⟩:=List.mem_filterMap.mp hp
 cases q:h.get? b with
 |none=>rw[q] at e;cases e
 |some o =>
  rw[q] at e
  have e':(b,o)=p:=U0x e
  subst e'
  exact⟨hb,q⟩
theorem Inv.pinned{pins:List (Addr×Obj)}{σ:St}{H:Hp}{s:Shared}{fp:List Addr}(I:Inv X pins σ H s)(hf:∀b∈fp,NQ X pins H b)(ho:∀b∈fp,∃o,s.heap.get? b=some o/\∀v,o.data≠.cell v):Inv X (pins++JL fp s.heap) σ H s :=
 I.Og fun p hp=>(U1l.mp hp).elim (fun z=>I.pin p (U01 _ z)) fun z=>by
  obtain⟨hb,e⟩:=RT z
  obtain⟨f0,f1,f2,_⟩:=hf p.1 hb
  obtain⟨o,e',d⟩:=ho p.1 hb
  rw[e] at e';cases e'
  exact⟨e,f0,f1,f2,d⟩
theorem Inv.MJ{pins pl:List (Addr×Obj)}{σ:St}{H:Hp}{s:Shared}(I:Inv X (pins++pl) σ H s):Inv X pins σ H s:=I.Og fun p hp=>I.pin p (U01 _ (U2y _ hp))
theorem gU{iter:Expr}{body:List Stmt}{wi:TI}{g:TG}{tb:TS}{pos:Pos}(hp:PassesOwn (model X.prog X.w) X.A X.env X.xe)(hc:X.calm=true)(hi:PI X tg iter wi)(hg:PG X tg g)(hb:PSs X body tb)
  (hs:∀x,foldedSetIterable iter X.env x=pure x:=by intro _;rfl):PS X (.For tg iter body [] pos) (lu wi g tb):=by
 intro pins s σ H D I h
 refine wpAny_For (thn (hi pins s σ H _ I h) fun v s1 h1=>thn h1 fun itv s2 h2=>?_) hs
 obtain⟨it,fp,tn,J,H2,e,I2,T,st2,f2,W,⟨m0,w0⟩,turn⟩:=h2
 subst e
 -- what stays true of the iterator's objects through the loop
 have stat:∀{H':Hp},(∀b∈fp,H' b=none)->∀b∈fp,NQ X pins H' b:=fun hn b hb=>⟨hn b hb,(f2 b hb).2⟩
 refine codeAny_forLoop_any (fun n s'=>∃i σ' H',Inv X pins σ' H' s'/\tn i s'.heap/\(∀b∈fp,H' b=none)/\W i n σ' H') ?_ m0 ⟨0,σ,H2,I2,st2,fun b hb=>(f2 b hb).1,w0⟩
 rintro n s3 ⟨i,σ3,H3,I3,st3,fr3,w3⟩
 rcases turn i n σ3 H3 w3 with ⟨stop,qn⟩|⟨go,N,hN,step⟩
 .refine U40 hp (thn (T.done X rfl rfl rfl hc i pins s3 σ3 H3 X.xe I3 (stat fr3) st3 stop) fun r s4 ⟨hr,I4⟩=>?_)
  subst hr
  exact U6l ⟨σ3,H3,I4,qn⟩
 .refine U40 hp (thn (T.item X rfl rfl rfl hc i pins s3 σ3 H3 X.xe I3 (stat fr3) st3 go) fun r s4 ⟨u,hr,h4⟩=>?_)
  subst hr
  refine U40 hp (thn h4 fun _ s5 ⟨x,H5,I5,r5,y5,st5,fr5⟩=>?_)
  have I5':=I5.pinned (stat fr5) (T.obj _ _ st5)
  refine U40 hp (thn (hg _ s5 σ3 H5 x u _ I5' r5 (step x H5 y5)) fun _ s6 ⟨σ6,H6,I6,q6⟩=>?_)
  refine U40 hp (thn (hb _ s6 σ6 H6 _ I6 q6) fun f s7 q7=>?_)
  have again:∀{σ7:St} {H7:Hp},Inv X (pins++JL fp s5.heap) σ7 H7 s7->N σ7 H7->∃m,m<n/\∃i σ' H',Inv X pins σ' H' s7/\tn i s7.heap/\(∀b∈fp,H' b=none)/\W i m σ' H':=fun {σ7 H7} I7 n7=>by
   obtain⟨m',hm,w7⟩:=hN σ7 H7 n7
   refine⟨m',hm,i+1,σ7,H7,I7.MJ,T.keep _ _ _ st5 fun b hb o e=>(I7.pin (b,o) (U01 _ (U01 _ (Jk hb e)))).1,fun b hb=>?_,w7⟩
   obtain⟨o,e,d⟩:=T.obj _ _ st5 b hb
   exact(I7.pin (b,o) (U01 _ (U01 _ (Jk hb e)))).2.1
  cases f with
  |next=>obtain⟨σ7,H7,I7,n7⟩:=q7;exact again I7 n7
  |cont=>obtain⟨σ7,H7,I7,n7⟩:=q7;exact again I7 n7
  |brk=>obtain⟨σ7,H7,I7,q7⟩:=q7;exact⟨σ7,H7,I7.MJ,q7⟩
  |ret v=>obtain⟨x7,σ7,H7,I7,r7,q7⟩:=q7;exact⟨x7,σ7,H7,I7.MJ,r7,q7⟩
end
end L2
namespace L2
open PySem PySem.Spec PyProof.Rows
abbrev R2:=V->V->Hp->VK->Prop
def OpR(X:Cx)(f:Value->Value->Sem Value)(r:R2):Prop :=
 ∀(pins:List (Addr×Obj))(s:Shared)(σ:St)(H:Hp)(x y:V)(v u:Value)(Q:VK),Inv X pins σ H s->RelV x v->RelV y u->r x y H Q ->
  wpAny (model X.prog X.w) X.A (f v u) (EP X pins σ Q) X.xe s
def UnR(X:Cx)(f:Value->Sem Value)(r:V->Hp->VK->Prop):Prop :=
 ∀(pins:List (Addr×Obj))(s:Shared)(σ:St)(H:Hp)(x:V)(v:Value)(Q:VK),Inv X pins σ H s->RelV x v->r x H Q ->
  wpAny (model X.prog X.w) X.A (f v) (EP X pins σ Q) X.xe s
def Cv(X:Cx)(f:Value)(r:List V->Hp->VK->Prop):Prop :=
 ∀(pins:List (Addr×Obj))(s:Shared)(σ:St)(H:Hp)(xs:List V)(us:List Value)(Q:VK),Inv X pins σ H s->Vals xs us->r xs H Q ->
  wpAny (model X.prog X.w) X.A (call f us) (EP X pins σ Q) X.xe s
def tOp(r:R2)(ta tb:TE):TE:=fun σ H Q=>ta σ H fun x H1=>tb σ H1 fun y H2=>r x y H2 Q
def tUn(r:V->Hp->VK->Prop)(ta:TE):TE:=fun σ H Q=>ta σ H fun x H1=>r x H1 Q
def rI(C:Int->Int->Prop)(g:Int->Int->V):R2:=fun x y H Q=>∃i j,x=.int i/\y=.int j/\C i j/\Q (g i j) H
def rI0(g:Int->Int->V):R2:=fun x y H Q=>∃i j,x=.int i/\y=.int j/\Q (g i j) H
def rU(g:Int->V):V->Hp->VK->Prop:=fun x H Q=>∃i,x=.int i/\Q (g i) H
section
variable{X:Cx}{a b c:Expr}{ta tb tc:TE}{pos:Pos}
theorem Ym(ha:PE X a ta)(hb:PE X b tb){pins:List (Addr×Obj)}{s:Shared}{σ:St}{H:Hp}{R:V->V->Hp->Prop}(I:Inv X pins σ H s)
  (h:ta σ H fun x H1=>tb σ H1 fun y H2=>R x y H2) {Q:Value->Shared->Prop} {f:Value->Value->Sem Value}
  (hf:∀v u s2 x y H2,Inv X pins σ H2 s2->RelV x v->RelV y u->R x y H2->wpAny (model X.prog X.w) X.A (f v u) Q X.xe s2) :
  wpAny (model X.prog X.w) X.A (eval a X.env) (fun v s₁=>wpAny (model X.prog X.w) X.A (eval b X.env) (fun u s₂=>wpAny (model X.prog X.w) X.A (f v u) Q X.xe s₂) X.xe s₁) X.xe s:=by
 refine thn (ha pins s σ H _ I h) fun v s1 ⟨x,H1,I1,r1,q1⟩=>?_
 refine thn (hb pins s1 σ H1 _ I1 q1) fun u s2 ⟨y,H2,I2,r2,q2⟩=>?_
 exact hf v u s2 x y H2 I2 r1 r2 q2
theorem jr{op:Operator}{r:R2}(ho:OpR X (binaryOp op) r)(ha:PE X a ta)(hb:PE X b tb):PE X (.BinOp a op b pos) (tOp r ta tb):=by
 intro pins s σ H Q I h
 exact wpAny_BinOp (Ym ha hb I h fun v u s2 x y H2 I2 rx ry q=>ho pins s2 σ H2 x y v u Q I2 rx ry q)
theorem jo{op:UnaryOp}{r:V->Hp->VK->Prop}(ho:UnR X (unaryOp op) r)(ha:PE X a ta):PE X (.UnaryOp op a pos) (tUn r ta):=by
 intro pins s σ H Q I h
 exact UnaryOp_ (thn (ha pins s σ H _ I h) fun v s1 ⟨x,H1,I1,r1,q1⟩=>ho pins s1 σ H1 x v Q I1 r1 q1)
theorem opI{f:Value->Value->Sem Value}{C:Int->Int->Prop}{g:Int->Int->Int}
  (rule:∀(i j:Int)(t u:Tok)(s:Shared)(Q:Value->Shared->Prop)(E:Value->Shared->Prop),C i j->Q (.int (g i j) s.toks) { s with toks:=s.toks+1 }->wpAny (model X.prog X.w) X.A (f (.int i t) (.int j u)) Q E s) :
  OpR X f (rI C fun i j=>.int (g i j)):=by
 intro pins s σ H x y v u Q I rx ry h
 obtain⟨i,j,rfl,rfl,hc,q⟩:=h
 obtain⟨t,rfl⟩:=rx
 obtain⟨t',rfl⟩:=ry
 exact rule i j t t' s _ _ hc ⟨.int (g i j),H,I.tok _,⟨_,rfl⟩,q⟩
theorem fU{f:Value->Value->Sem Value}{g:Int->Int->Int}
  (rule:∀(i j:Int)(t u:Tok)(s:Shared)(Q:Value->Shared->Prop)(E:Value->Shared->Prop),Q (.int (g i j) s.toks) { s with toks:=s.toks+1 }->wpAny (model X.prog X.w) X.A (f (.int i t) (.int j u)) Q E s) :
  OpR X f (rI0 fun i j=>.int (g i j)):=by
 intro pins s σ H x y v u Q I rx ry h
 obtain⟨i,j,rfl,rfl,q⟩:=h
 obtain⟨t,rfl⟩:=rx
 obtain⟨t',rfl⟩:=ry
 exact rule i j t t' s _ _ ⟨.int (g i j),H,I.tok _,⟨_,rfl⟩,q⟩
theorem W3{f:Value->Value->Sem Value}{g:Int->Int->Bool}
  (rule:∀(i j:Int)(t u:Tok)(s:Shared)(Q:Value->Shared->Prop)(E:Value->Shared->Prop),Q (.bool (g i j)) s->wpAny (model X.prog X.w) X.A (f (.int i t) (.int j u)) Q E s) :
  OpR X f (rI0 fun i j=>.bl (g i j)):=by
 intro pins s σ H x y v u Q I rx ry h
 obtain⟨i,j,rfl,rfl,q⟩:=h
 obtain⟨t,rfl⟩:=rx
 obtain⟨t',rfl⟩:=ry
 exact rule i j t t' s _ _ ⟨.bl (g i j),H,I,rfl,q⟩
def Yt(i j:Int):Prop:=0<=j/\j<=1000000/\i.natAbs<2^64
def Sw(i j:Int):Prop:=(-(2^64)<i/\i<2^64)∨(-(2^64)<j/\j<2^64)
theorem Sw.ok{i j:Int}(h:Sw i j):IntMulOk i j:=by
 rcases h with ⟨h1,h2⟩|⟨h1,h2⟩
 .exact .of_left (intBits_le_64 h1 h2)
 .exact .of_right (intBits_le_64 h1 h2)
theorem iJ:OpR X (binaryOp .Add) (rI0 fun i j=>.int (i+j)):=fU fun _ _ _ _ _ _ _ q=>add_int q
theorem La:OpR X (binaryOp .Sub) (rI0 fun i j=>.int (i-j)):=fU fun _ _ _ _ _ _ _ q=>sub_int q
theorem iG:OpR X (binaryOp .Mult) (rI Sw fun i j=>.int (i*j)):=opI fun _ _ _ _ _ _ _ hc q=>mul_int q hc.ok
theorem Ld:OpR X (binaryOp .Mod) (rI (fun _ j=>0<j) fun i j=>.int (i%j)):=opI fun i j _ _ _ _ _ hc q=>by
 have h1:(0:Int)<j:=hc
 exact mod_int' (by omega) (by rw[Int.fmod_eq_emod_of_nonneg i (by omega)];exact q)
theorem Ij:OpR X (binaryOp .Pow) (rI Yt fun i j=>.int (i^j.toNat)):=opI fun _ _ _ _ _ _ _ hc q=>pow_int_small hc.1 hc.2.1 hc.2.2 q
theorem unI{f:Value->Sem Value}{g:Int->Int}
  (rule:∀(i:Int)(t:Tok)(s:Shared)(Q:Value->Shared->Prop)(E:Value->Shared->Prop),Q (.int (g i) s.toks) { s with toks:=s.toks+1 }->wpAny (model X.prog X.w) X.A (f (.int i t)) Q E s) :
  UnR X f (rU fun i=>.int (g i)):=by
 intro pins s σ H x v Q I rx h
 obtain⟨i,rfl,q⟩:=h
 obtain⟨t,rfl⟩:=rx
 exact rule i t s _ _ ⟨.int (g i),H,I.tok _,⟨_,rfl⟩,q⟩
theorem JK:UnR X (unaryOp .USub) (rU fun i=>.int (-i)):=unI fun _ _ _ _ _ q=>neg_int q
end
def fC:V->V->Bool
 |.non,.non=>true|.non,.int _=>true|.int _,.non=>true|.non,.bl _=>true|.bl _,.non=>true|.non,.str _=>true|.str _,.non=>true
 |.int _,.int _=>true|.bl _,.bl _=>true|.str _,.str _=>true|.byt _,.byt _=>true
 |.int _,.str _=>true|.str _,.int _=>true|.bl _,.str _=>true|.str _,.bl _=>true
 |_,_=>false
def rEq:R2:=fun x y H Q=>fC x y=true/\Q (.bl (decide (x=y))) H
def rNe:R2:=fun x y H Q=>fC x y=true/\Q (.bl (!decide (x=y))) H
theorem Vu{i j:Int}:decide (V.int i=V.int j)=(i==j):=by
 rw[U4d]
 simp
theorem Xd{i j:Bool}:decide (V.bl i=V.bl j)=(i==j):=by
 rw[U4d]
 simp
theorem Vt{i j:Str}:decide (V.str i=V.str j)=(i==j):=by
 rw[U4d]
 simp
theorem Vv{i j:Array UInt8}:decide (V.byt i=V.byt j)=(i.toList==j.toList):=by
 rw[U4d]
 cases i
 cases j
 simp
section
variable{X:Cx}{a b c:Expr}{ta tb tc:TE}{pos:Pos}
theorem CV{pins:List (Addr×Obj)}{σ:St}{H:Hp}{s:Shared}{Q:VK}{k k':Bool}(I:Inv X pins σ H s)(q:Q (.bl k) H)(e:k=k'):EP X pins σ Q (.bool k') s:=by
 subst e
 exact⟨.bl k,H,I,rfl,q⟩
theorem jz:OpR X (compareOp .Eq) rEq:=by
 intro pins s σ H x y v u Q I rx ry h
 obtain⟨hs,q⟩:=h
 cases x with
 |non =>
  cases rx
  cases y with
  |non=>cases ry;exact PySem.EqNone.eq_none_none (CV I q (by simp))
  |bl j=>cases ry;exact PySem.EqNone.eq_none_bool (CV I q (by simp))
  |int j=>obtain⟨t',rfl⟩:=ry;exact PySem.EqNone.eq_none_int (CV I q (by simp))
  |str j=>obtain⟨t',rfl⟩:=ry;exact PySem.EqNone.eq_none_str (CV I q (by simp))
  |_=>exact absurd (show false=true from hs) U06
 |bl i =>
  cases rx
  cases y with
  |non=>cases ry;exact PySem.EqNone.eq_bool_none (CV I q (by simp))
  |bl j=>cases ry;exact eq_bool (CV I q Xd)
  |str j=>obtain⟨t',rfl⟩:=ry;exact PySem.EqMixed.eq_bool_str (CV I q (by simp))
  |_=>exact absurd (show false=true from hs) U06
 |int i =>
  obtain⟨t,rfl⟩:=rx
  cases y with
  |non=>cases ry;exact PySem.EqNone.eq_int_none (CV I q (by simp))
  |int j=>obtain⟨t',rfl⟩:=ry;exact eq_int (CV I q Vu)
  |str j=>obtain⟨t',rfl⟩:=ry;exact PySem.EqMixed.eq_int_str (CV I q (by simp))
  |_=>exact absurd (show false=true from hs) U06
 |str i =>
  obtain⟨t,rfl⟩:=rx
  cases y with
  |non=>cases ry;exact PySem.EqNone.eq_str_none (CV I q (by simp))
  |bl j=>cases ry;exact PySem.EqMixed.eq_str_bool (CV I q (by simp))
  |int j=>obtain⟨t',rfl⟩:=ry;exact PySem.EqMixed.eq_str_int (CV I q (by simp))
  |str j=>obtain⟨t',rfl⟩:=ry;exact eq_str (CV I q Vt)
  |_=>exact absurd (show false=true from hs) U06
 |byt i =>
  obtain⟨t,rfl⟩:=rx
  cases y with
  |byt j=>obtain⟨t',rfl⟩:=ry;exact PySem.W.eq_bytes (CV I q Vv)
  |_=>exact absurd (show false=true from hs) U06
 |_=>cases y<;>exact absurd (show false=true from hs) U06
theorem jy:OpR X (compareOp .NotEq) rNe:=by
 intro pins s σ H x y v u Q I rx ry h
 obtain⟨hs,q⟩:=h
 cases x with
 |non =>
  cases rx
  cases y with
  |non=>cases ry;exact PySem.EqNone.ne_none_none (CV I q (by simp))
  |bl j=>cases ry;exact PySem.EqNone.ne_none_bool (CV I q (by simp))
  |int j=>obtain⟨t',rfl⟩:=ry;exact PySem.EqNone.ne_none_int (CV I q (by simp))
  |str j=>obtain⟨t',rfl⟩:=ry;exact PySem.EqNone.ne_none_str (CV I q (by simp))
  |_=>exact absurd (show false=true from hs) U06
 |bl i =>
  cases rx
  cases y with
  |non=>cases ry;exact PySem.EqNone.ne_bool_none (CV I q (by simp))
  |bl j=>cases ry;exact ne_bool (CV I q (congrArg not Xd))
  |str j=>obtain⟨t',rfl⟩:=ry;exact PySem.EqMixed.ne_bool_str (CV I q (by simp))
  |_=>exact absurd (show false=true from hs) U06
 |int i =>
  obtain⟨t,rfl⟩:=rx
  cases y with
  |non=>cases ry;exact PySem.EqNone.ne_int_none (CV I q (by simp))
  |int j=>obtain⟨t',rfl⟩:=ry;exact ne_int (CV I q (congrArg not Vu))
  |str j=>obtain⟨t',rfl⟩:=ry;exact PySem.EqMixed.ne_int_str (CV I q (by simp))
  |_=>exact absurd (show false=true from hs) U06
 |str i =>
  obtain⟨t,rfl⟩:=rx
  cases y with
  |non=>cases ry;exact PySem.EqNone.ne_str_none (CV I q (by simp))
  |bl j=>cases ry;exact PySem.EqMixed.ne_str_bool (CV I q (by simp))
  |int j=>obtain⟨t',rfl⟩:=ry;exact PySem.EqMixed.ne_str_int (CV I q (by simp))
  |str j=>obtain⟨t',rfl⟩:=ry;exact ne_str (CV I q (congrArg not Vt))
  |_=>exact absurd (show false=true from hs) U06
 |byt i =>
  obtain⟨t,rfl⟩:=rx
  cases y with
  |byt j=>obtain⟨t',rfl⟩:=ry;exact PySem.W.ne_bytes (CV I q (congrArg not Vv))
  |_=>exact absurd (show false=true from hs) U06
 |_=>cases y<;>exact absurd (show false=true from hs) U06
theorem SQ:OpR X (compareOp .Lt) (rI0 fun i j=>.bl (decide (i<j))):=W3 fun _ _ _ _ _ _ _ q=>lt_int q
theorem WK:OpR X (compareOp .LtE) (rI0 fun i j=>.bl (decide (i<=j))):=W3 fun _ _ _ _ _ _ _ q=>le_int q
theorem SX:OpR X (compareOp .Gt) (rI0 fun i j=>.bl (decide (j<i))):=W3 fun _ _ _ _ _ _ _ q=>gt_int q
theorem WL:OpR X (compareOp .GtE) (rI0 fun i j=>.bl (decide (j<=i))):=W3 fun _ _ _ _ _ _ _ q=>ge_int q
theorem OpR.or{f:Value->Value->Sem Value}{r r':R2}(h:OpR X f r)(h':OpR X f r'):OpR X f (fun x y H Q=>r x y H Q∨r' x y H Q):=by
 intro pins s σ H x y v u Q I rx ry q
 rcases q with q|q
 .exact h pins s σ H x y v u Q I rx ry q
 .exact h' pins s σ H x y v u Q I rx ry q
theorem Cr(b:Expr){op:CmpOp}(h:op≠.In:=by decide)(h2:op≠.NotIn:=by decide):behindInMarks op b=false:=by
 have e1:(op==CmpOp.In)=false:=by cases op<;>first|rfl|exact absurd rfl h
 have e2:(op==CmpOp.NotIn)=false:=by cases op<;>first|rfl|exact absurd rfl h2
 cases b<;>simp[behindInMarks,e1,e2]
theorem bT{op:CmpOp}{r:R2}(ho:OpR X (compareOp op) r)(ha:PE X a ta)(hb:PE X b tb)(hm:behindInMarks op b=false):PE X (.Compare a [op] [b] pos) (tOp r ta tb):=by
 intro pins s σ H Q I h
 exact wpAny_Compare1 (Ym ha hb I h fun v u s2 x y H2 I2 rx ry q=>ho pins s2 σ H2 x y v u Q I2 rx ry q) hm
def W8(t:TE):TT:=fun σ H Q=>t σ H fun x H'=>∃k,x=.bl k/\Q k H'
theorem bH{op:CmpOp}{r:R2}(ho:OpR X (compareOp op) r)(ha:PE X a ta)(hb:PE X b tb)(hm:behindInMarks op b=false):PT X (.Compare a [op] [b] pos) (W8 (tOp r ta tb)):=by
 intro pins s σ H Q I h
 refine wpAny_isTrue_Compare1 (thn (ha pins s σ H _ I h) fun v s1 ⟨x,H1,I1,r1,q1⟩=>thn (hb pins s1 σ H1 _ I1 q1) fun u s2 ⟨y,H2,I2,r2,q2⟩ =>
  thn (ho pins s2 σ H2 x y v u _ I2 r1 r2 q2) fun c s3 ⟨z,H3,I3,r3,k,e,q3⟩=>?_) hm
 subst e
 cases r3
 exact U2g ⟨H3,I3,q3⟩
def X7(r r':R2)(ta tb tc:TE):TE:=fun σ H Q=>ta σ H fun x H1=>tb σ H1 fun y H2=>r x y H2 fun z H3=>∃k,z=.bl k /\
 (if k=true then tc σ H3 fun w' H4=>r' y w' H4 Q else Q (.bl false) H3)
theorem ZJ{op op':CmpOp}{r r':R2}(ho:OpR X (compareOp op) r)(ho':OpR X (compareOp op') r')(ha:PE X a ta)(hb:PE X b tb)(hc:PE X c tc)
  (hm:lastMarks [op,op'] [b,c]=false:=by with_unfolding_all rfl):PT X (.Compare a [op,op'] [b,c] pos) (W8 (X7 r r' ta tb tc)):=by
 intro pins s σ H Q I h
 refine isTrue_chain (thn (ha pins s σ H _ I h) fun v s1 ⟨x,H1,I1,r1,q1⟩=>test_link (thn (hb pins s1 σ H1 _ I1 q1) fun u s2 ⟨y,H2,I2,r2,q2⟩ =>
  thn (ho pins s2 σ H2 x y v u _ I2 r1 r2 q2) fun d s3 ⟨z,H3,I3,r3,k,e,q3⟩=>?_)) hm
 subst e
 cases r3
 refine U2g ?_
 cases k with
 |false =>
  obtain⟨k',e',q'⟩:=q3
  cases e'
  exact ite_ff ⟨H3,I3,q'⟩
 |true =>
  refine ite_tt (test_last (thn (hc pins s3 σ H3 _ I3 q3) fun w' s4 ⟨z',H4,I4,r4,q4⟩=>thn (ho' pins s4 σ H4 y z' u w' _ I4 r2 r4 q4) fun d' s5 ⟨z2,H5,I5,r5,k2,e2,q5⟩=>?_))
  subst e2
  cases r5
  exact U2g ⟨H5,I5,q5⟩
theorem Nh:(sizeLine:Nat)<2^63:=by rw[sizeLine_eq];decide
theorem Wh:OpR X (binaryOp .Add) (fun x y H Q=>∃i j,x=.str i/\y=.str j/\i.length+j.length<=sizeLine/\Q (.str (i++j)) H):=by
 intro pins s σ H x y v u Q I rx ry h
 obtain⟨i,j,rfl,rfl,hz,q⟩:=h
 obtain⟨t,rfl⟩:=rx
 obtain⟨t',rfl⟩:=ry
 exact add_str (fun t' tk=>⟨.str (i++j),H,I.tok _,⟨_,rfl⟩,q⟩) hz
theorem vals1{x:V}{us:List Value}(r:Vals [x] us):∃u,us=[u]/\RelV x u:=by
 cases r with
 |cons r1 r2=>cases r2;exact⟨_,rfl,r1⟩
theorem vals2{x y:V}{us:List Value}(r:Vals [x,y] us):∃u w',us=[u,w']/\RelV x u/\RelV y w':=by
 cases r with
 |cons r1 r2 =>
  cases r2 with
  |cons r3 r4=>cases r4;exact⟨_,_,rfl,r1,r3⟩
theorem YS(hc:X.calm=true):Cv X (.builtin "max") (fun xs H Q=>∃i j,xs=[.int i,.int j]/\Q (.int (if j>i then j else i)) H):=by
 intro pins s σ H xs us Q I r h
 obtain⟨i,j,rfl,q⟩:=h
 obtain⟨u,w',rfl,⟨t,rfl⟩,⟨t',rfl⟩⟩:=vals2 r
 refine max_two_ints (I.ok.hd hc) fun h' tk k=>⟨_,H,I.kept k,?_,q⟩
 by_cases hj:j>i
 .rw[if_pos hj,if_pos hj];exact⟨_,rfl⟩
 .rw[if_neg hj,if_neg hj];exact⟨_,rfl⟩
theorem Ri(hc:X.calm=true):Cv X (.builtin "min") (fun xs H Q=>∃i j,xs=[.int i,.int j]/\Q (.int (if j<i then j else i)) H):=by
 intro pins s σ H xs us Q I r h
 obtain⟨i,j,rfl,q⟩:=h
 obtain⟨u,w',rfl,⟨t,rfl⟩,⟨t',rfl⟩⟩:=vals2 r
 refine min_two_ints (I.ok.hd hc) fun h' tk k=>⟨_,H,I.kept k,?_,q⟩
 by_cases hj:j<i
 .rw[if_pos hj,if_pos hj];exact⟨_,rfl⟩
 .rw[if_neg hj,if_neg hj];exact⟨_,rfl⟩
theorem Rj:Cv X (.type "int") (fun xs H Q=>(∃i,xs=[.int i]/\Q (.int i) H)∨∃k,xs=[.bl k]/\Q (.int (if k then 1 else 0)) H):=by
 intro pins s σ H xs us Q I r h
 rcases h with ⟨i,rfl,q⟩|⟨k,rfl,q⟩
 .obtain⟨u,rfl,t,rfl⟩:=vals1 r
  exact call_int_int ⟨.int i,H,I,⟨_,rfl⟩,q⟩
 .obtain⟨u,rfl,r1⟩:=vals1 r
  cases r1
  exact call_int_bool ⟨.int (if k then 1 else 0),H,I.tok _,⟨_,rfl⟩,q⟩
end
end L2
namespace L2
open PySem PySem.Spec PyProof.Rows
structure Ys(h:Heap)(x dx C:Addr)(mA:Str->Option Value):Prop where
 obj:h.get? x=some (U6k C dx)
 ns:h.Ns1 dx mA
 ne:dx≠x
theorem Y8{h:Heap}{dx:Addr}{mA:Str->Option Value}(n:h.Ns1 dx mA):∃od,h.get? dx=some od/\∀name,U6t name od=some (mA name):=by
 obtain⟨o,es,ep,ho,hd,hk,_,hm⟩:=n
 refine⟨o,ho,fun name=>?_⟩
 have e:=hm name
 unfold nsFind findBy at e
 rw[←Array.find?_toList] at e
 unfold U6t
 rw[hd]
 dsimp only
 split
 .rename_i y q
  rw[q] at e
  exact congrArg some e
 .rename_i q
  rw[q] at e
  have a:es.toList.any (·.refKey)=false:=by
   rw[List.any_eq_false]
   intro y hy
   obtain⟨z,t,hkey⟩:=hk y (Array.mem_toList_iff.mp hy)
   simp[DictEntry.refKey,hkey]
  have a':¬es.toList.any (·.refKey)=true:=by rw[a];exact U06
  rw[if_neg a']
  exact congrArg some e
theorem Ys.look{h:Heap}{x dx C:Addr}{mA:Str->Option Value}(I:Ys h x dx C mA):∃od,PySem.W.InstAt h x (U6k C dx) C (some od)/\∀name,U6t name od=some (mA name) :=
 let ⟨od,ho,hl⟩:=Y8 I.ns
 ⟨od,⟨I.obj,rfl,rfl,ho⟩,hl⟩
section
variable{prog:Program}{w:World}{A:Around}{E:Value->Shared->Prop}{s:Shared}{K:U0a}{x dx C f:Addr}{mA:Str->Option Value}{name:Str}{v:Value}
end
section
variable{P:Program}{w:World}{H H':Hp}{h h':Heap}{a C dx:Addr}{fs fs':List (Str×V)}
theorem cj(hok:HOk P w H h)(e:H a=some (.ins C dx fs)):∃mA,Ys h a dx C mA/\(∀f,Yr (fs.lookup f) (mA f))/\PySem.Within mA (fs.map (·.1))/\fs.length<=1000/\H dx=some (.own a):=by
 obtain⟨d,z,ne,ob,mA,n,r,q⟩:=(show DK P w H h a (.ins C dx fs) from hok a _ e)
 exact⟨mA,⟨ob,n,ne⟩,r,q,z,d⟩
end
structure Cls(K:U0a)(C:Addr):Prop where
 pg:PySem.W.plainGet K C Str.empty=true
 hd:PySem.W.hasDictIn K C=true
 po:PySem.W.plainOver K C=true
 sa:U5b K (.ref C) "__setattr__"=some (some (.builtin "object.__setattr__"))
theorem Cls.get{K:U0a}{C:Addr}(c:Cls K C)(f:Str):PySem.W.plainGet K C f=true:=c.pg
structure Con(K:U0a)(C:Addr)(f:Str)(v:V)(u:Value):Prop where
 at_:U5b K (.ref C) f=some (some u)
 rel:RelV v u
 get:PySem.W.specialIn K u "__get__"=some none
 cp:PySem.W.copiedNames.contains f=false
structure Meth(K:U0a)(C:Addr)(m:Str)(f:Addr):Prop where
 at_:U5b K (.ref C) m=some (some (.ref f))
 fn:PySem.W.isFn K (.ref f)=true
 kp:U05 K (.ref f)=true
section
variable{X:Cx}{pins:List (Addr×Obj)}{σ:St}{H:Hp}{s:Shared}{a C dx:Addr}{fs:List (Str×V)}{f:Str}{v:V}{A:Around}{E:Value->Shared->Prop}
end
section
variable{X:Cx}{o e value:Expr}{f:Str}{pos pos' tpos:Pos}{ta tv:TE}
end
section
variable{X:Cx}{pins:List (Addr×Obj)}{σ:St}{H:Hp}{s:Shared}{A:Around}{E:Value->Shared->Prop}{Q:Value->Shared->Prop}{c:Value}{b:Bool}
inductive Ho (K:U0a) (H:Hp):V->Value->Prop where
 |non:Ho K H .non (.type "NoneType")
 |bl (x:Bool):Ho K H (.bl x) (.type "bool")
 |int (i:Int):Ho K H (.int i) (.type "int")
 |str (x:Str):Ho K H (.str x) (.type "str")
 |flt (x:UInt64):Ho K H (.flt x) (.type "float")
 |lst {a:Addr} {xs:List V} (e:H a=some (.lst xs)):Ho K H (.ref a) (.type "list")
 |frz {a:Addr} {o:Obj} {xs:List V} (e:H a=some (.frz o (.lst xs))):Ho K H (.ref a) (.type "list")
 |tup {a:Addr} {xs:List V} (e:H a=some (.tup xs)):Ho K H (.ref a) (.type "tuple")
 |dK {a:Addr} {kvs:List (Key×V)} (e:H a=some (.dK kvs)):Ho K H (.ref a) (.type "dict")
 |dT {a:Addr} {kvs:List (List Key×V)} (e:H a=some (.dT kvs)):Ho K H (.ref a) (.type "dict")
 |ins {a C dx:Addr} {fs:List (Str×V)} (e:H a=some (.ins C dx fs)) (cl:Cls K C) (ha:U5b K (.ref C) "__class__"=some (some (.builtin "object.__class__")))
   (hn:PySem.W.specialIn K (.builtin "object.__class__") "__get__"=some (some (.builtin "getset_descriptor.__get__"))) (htk:PySem.W.takesIn K (.builtin "object.__class__")=some true)
   (hm:PySem.W.mroIn K C (.type "object")=some true):Ho K H (.ref a) (.ref C)
theorem YB{x:V}{u t:Value}(I:Inv X pins σ H s)(rx:RelV x u)(ty:Ho X.K H x t)(e:U20 X.K t c=some b)(h:∀tk,Q (.bool b) { s with toks:=tk }) :
  wpAny (model X.prog X.w) A (call (.builtin "isinstance") [u,c]) Q E s:=by
 cases ty with
 |non=>cases (show u=U2s from rx);exact U2m PySem.W.kitx_none I.kIn U6e e (fun z=>nomatch z) h
 |bl y=>cases (show u=U4c y from rx);exact U2m PySem.W.kitx_bool I.kIn U6e e (fun z=>nomatch z) h
 |int i=>obtain⟨t,q⟩:=(show ∃t,u=U4r i t from rx);cases q;exact U2m PySem.W.kitx_int I.kIn U6e e (fun z=>nomatch z) h
 |str y=>obtain⟨t,q⟩:=(show ∃t,u=Value.str y t from rx);cases q;exact U2m PySem.W.kitx_str I.kIn U6e e (fun z=>nomatch z) h
 |flt y=>obtain⟨t,q⟩:=(show ∃t,u=Value.float y t from rx);cases q;exact U2m PySem.W.kitx_float I.kIn U6e e (fun z=>nomatch z) h
 |@lst a xs ea =>
  cases (show u=U28 a from rx)
  obtain⟨_,_,n,_,h1⟩:=(show DK X.prog X.w H s.heap a (.lst xs) from I.hok a _ ea)
  exact U2m PySem.W.kitx_list I.kIn ⟨_,h1,rfl⟩ e (fun z=>nomatch z) h
 |@frz a ob xs ea =>
  cases (show u=U28 a from rx)
  obtain⟨_,_,_,n,_,h1⟩:=(show DK X.prog X.w H s.heap a (.frz ob (.lst xs)) from I.hok a _ ea)
  exact U2m PySem.W.kitx_list I.kIn ⟨_,h1,rfl⟩ e (fun z=>nomatch z) h
 |@tup a xs ea =>
  cases (show u=U28 a from rx)
  obtain⟨_,_,_,p⟩:=(show DK X.prog X.w H s.heap a (.tup xs) from I.hok a _ ea)
  obtain⟨o,h1,h2,_⟩:=p
  exact U2m PySem.W.kitx_tuple I.kIn ⟨o,h1,h2⟩ e (fun z=>nomatch z) h
 |@dK a kvs ea =>
  cases (show u=U28 a from rx)
  obtain⟨_,_,vs,_,p⟩:=(show DK X.prog X.w H s.heap a (.dK kvs) from I.hok a _ ea)
  obtain⟨o,es,ep,h1,h2,_⟩:=p
  exact U2m PySem.W.kitx_dict I.kIn ⟨o,h1,h2.1⟩ e (fun z=>nomatch z) h
 |@dT a kvs ea =>
  cases (show u=U28 a from rx)
  obtain⟨_,_,xs,_,o,es,ep,h1,h2,_⟩:=(show DK X.prog X.w H s.heap a (.dT kvs) from I.hok a _ ea)
  exact U2m PySem.W.kitx_dict I.kIn ⟨o,h1,h2.1⟩ e (fun z=>nomatch z) h
 |@ins a C dx fs ea cl ha hn htk hm =>
  cases (show u=U28 a from rx)
  obtain⟨mA,O,_⟩:=cj I.hok ea
  obtain⟨od,J,_⟩:=O.look
  exact U2m (PySem.W.kitx_own (cl.get _) cl.hd ha hn htk hm) I.kIn J e (fun z=>nomatch z) h
end
end L2
namespace L2
open PySem PySem.Spec PyProof.Rows
structure Dm(k:Nat)(A:Around):Prop where
 hd:A.handled=none
 dp:A.depth+3*k+5<recursionLimit
 un:A.units+16*k+200<cLine
 gd:A.guards=some []
theorem Dm.mono{j k:Nat}{A:Around}(r:Dm k A)(h:j<=k):Dm j A:=⟨r.hd,by have:=r.dp;omega,by have:=r.un;omega,r.gd⟩
theorem Dm.deeper{k:Nat}{A:Around}(r:Dm (k+1) A)(env:Env):Dm k (A.deeper env) :=
 ⟨r.hd,by have:=r.dp;show A.depth+1+3*k+5<_;omega,by have:=r.un;show A.units+3+16*k+200<_;omega,r.gd⟩
theorem Dm.depth{k:Nat}{A:Around}(r:Dm k A):A.depth<recursionLimit:=by have:=r.dp;omega
theorem Dm.units{k:Nat}{A:Around}(r:Dm k A):A.units+64<cLine:=by have:=r.un;omega
def lZ:TA:=fun _ H Q=>Q [] H
def je(ta:TE)(tr:TA):TA:=fun σ H Q=>ta σ H fun x H1=>tr σ H1 fun xs H2=>Q (x::xs) H2
section
variable{X:Cx}{e:Expr}{es:List Expr}{te:TE}{t:TA}{pos:Pos}
theorem QT:PA X [] lZ:=fun _ _ _ _ H Q I h=>Calls.spliced_nil ⟨[],H,I,.nil,h⟩
theorem Oh(ha:PE X e te)(hr:PA X es t)(hs:starEach (e::es) X.env=(false,eval e X.env)::starEach es X.env:=by rfl):PA X (e::es) (je te t):=by
 intro pos pins s σ H Q I h
 rw[hs]
 show wpAny _ _ (spliced ((false,eval e X.env)::backTo pos (starEach es X.env))) _ _ s
 refine Calls.spliced_cons (thn (ha pins s σ H _ I h) fun u s1 ⟨x,H1,I1,r1,q1⟩=>?_)
 exact thn (hr pos pins s1 σ H1 _ I1 q1) fun us s2 ⟨xs,H2,I2,r2,q2⟩=>⟨x::xs,H2,I2,.cons r1 r2,q2⟩
def eX(t:TA):TE:=fun σ H Q=>t σ H fun xs H1=>xs.length<=sizeLine/\∀p,H1 p=none->Q (.ref p) (upd H1 p (.tup xs))
def lg(t:TA):TE:=fun σ H Q=>t σ H fun xs H1=>xs.length<=sizeLine/\∀p,H1 p=none->Q (.ref p) (upd H1 p (.lst xs))
theorem gj{x1}(h:PA X es t):PE X (.Tuple es x1 pos) (eX t):=by
 intro pins s σ H Q I hq
 refine wpAny_Tuple_spliced (thn (h pos pins s σ H _ I hq) fun us s1 ⟨xs,H1,I1,r,z,q⟩=>⟨by rw[←r.length];exact z,?_⟩)
 have hf:H1 s1.heap.objs.size=none:=I1.hok.fresh (U0l _)
 refine⟨.ref s1.heap.objs.size,upd H1 s1.heap.objs.size (.tup xs),I1.laid (t':=s1.toks) (fun b u e=>U0d _ e) (U0l _) ?_,rfl,q _ hf⟩
 exact⟨z,us,r,⟨_,U0r _ rfl,rfl,_,rfl⟩⟩
theorem XH(h:PA X es t):PE X (.List es pos) (lg t):=by
 intro pins s σ H Q I hq
 refine wpAny_List_spliced (thn (h pos pins s σ H _ I hq) fun us s1 ⟨xs,H1,I1,r,z,q⟩=>⟨by rw[←r.length];exact z,?_⟩)
 have hf:H1 s1.heap.objs.size=none:=I1.hok.fresh (U0l _)
 refine⟨.ref s1.heap.objs.size,upd H1 s1.heap.objs.size (.lst xs),I1.laid (t':=s1.toks) (fun b u e=>U0d _ e) (U0l _) ?_,rfl,q _ hf⟩
 exact⟨z,us,0,r,U0r _ rfl⟩
end
abbrev Sp:=List V->Hp->VK->XK->Prop
abbrev CXT:=List Env->Hp->Shared->XK->Value->Shared->Prop
structure W7(P:Program)(w:World)(K:U0a)(mg:Str->Option Value)(base:Heap)(A:Around)(outer:List Env)(s:Shared)(H:Hp):Prop where
 frames:A.frames=some outer
 mod:Mod K mg base
 bs:∀b o,base.get? b=some o->s.heap.get? b=some o/\H b=none
 bsz:base.objs.size<=s.heap.objs.size
 K4:s.heap.FunFrames base outer
 frf:∀b∈frs outer,H b=none
 hok:HOk P w H s.heap
 bare:AllBare s.gens
 sy:H sysModules=none
def CE(outer:List Env)(P:Program)(w:World)(H:Hp)(s:Shared)(Q:VK)(u:Value)(s':Shared):Prop :=
 ∃v H',s'.os=s.os/\AllBare s'.gens/\Un (frs outer) [] H H' s.heap s'.heap/\HOk P w H' s'.heap/\RelV v u/\Q v H'
def CR(CX:CXT)(outer:List Env)(P:Program)(w:World)(H:Hp)(s:Shared)(Q:VK)(E:XK)(r:Result)(s':Shared):Prop :=
 match r with
 |.ok (.ret u)=>CE outer P w H s Q u s'
 |.ok _=>False
 |.error e=>CX outer H s E e s'
structure Ci(P:Program)(w:World)(K:U0a)(mg:Str->Option Value)(base:Heap)(CX:CXT)(k:Nat)(f:Addr)(fd:FuncData)(ps:List Str)(sp:Sp):Prop where
 len:∀vs H Q E,sp vs H Q E->vs.length=ps.length
 run:∀(A:Around)(outer:List Env)(s:Shared)(H:Hp)(args:Args)(us:List Value)(vs:List V)(Q:VK)(E:XK),Dm k A->W7 P w K mg base A outer s H->BindsTo s fd args (ps.zip us)->Vals vs us->sp vs H Q E ->
  codeAny (model P w) A (.call (.ref f) args) (CR CX outer P w H s Q E) s
theorem Ci.mono{P:Program}{w:World}{K:U0a}{mg:Str->Option Value}{base:Heap}{CX:CXT}{j k:Nat}{f:Addr}{fd:FuncData}{ps:List Str}{sp:Sp}(F:Ci P w K mg base CX j f fd ps sp)(h:j<=k) :
  Ci P w K mg base CX k f fd ps sp:=⟨F.len,fun A outer s H args us vs Q E hr=>F.run A outer s H args us vs Q E (hr.mono h)⟩
theorem Ci.imp{P:Program}{w:World}{K:U0a}{mg:Str->Option Value}{base:Heap}{CX:CXT}{k:Nat}{f:Addr}{fd:FuncData}{ps:List Str}{sp sp':Sp}(F:Ci P w K mg base CX k f fd ps sp)
  (h:∀vs H Q E,sp' vs H Q E->sp vs H Q E):Ci P w K mg base CX k f fd ps sp' :=
 ⟨fun vs H Q E q=>F.len vs H Q E (h _ _ _ _ q),fun A outer s H args us vs Q E hr he hb hv hs=>F.run A outer s H args us vs Q E hr he hb hv (h _ _ _ _ hs)⟩
section
variable{X:Cx}{pins:List (Addr×Obj)}{σ:St}{H:Hp}{s s':Shared}
theorem Inv.env0(I:Inv X pins σ H s):W7 X.prog X.w X.K X.mg X.base X.A X.stack s H :=
 ⟨I.ok.frames,I.ok.mod,I.bs,U08 I.ok.bsz I.sz,I.stack,I.VP,I.hok,I.bare,I.Pb⟩
theorem Inv.after{Q:VK}{u:Value}(I:Inv X pins σ H s)(h:CE X.stack X.prog X.w H s Q u s'):EP X pins σ Q u s':=by
 obtain⟨v,H',os,bare,un,hok,r,q⟩:=h
 obtain⟨hh,g,d,t,os'⟩:=s'
 obtain rfl:os'=s.os:=os
 exact⟨v,H',I.call (h':=hh) (g':=g) (d':=d) (t':=t) (ch:=[]) un hok bare (fun b z=>absurd z (by simp)),r,q⟩
end
def Zw(sp:Sp)(dvs:List V)(E:XK)(t:TA):TE:=fun σ H Q=>t σ H fun vs H1=>sp (vs++dvs) H1 Q E
def Binds(K:U0a)(fd:FuncData)(ps:List Str)(ds:List Value):Prop :=
 ∀(s:Shared)(us:List Value),K.In s.heap->(us++ds).length=ps.length->BindsTo s fd ⟨us,[]⟩ (ps.zip (us++ds))
theorem Binds.all{K:U0a}{fd:FuncData}{ps:List Str}(h:∀us:List Value,us.length=ps.length->bindArgs fd ⟨us,[]⟩=pure (ps.zip us)):Binds K fd ps []:=fun s us _ hl=>by
 rw[U1j] at hl ⊢
 exact .of_eq (h us hl)
def Passes(CX:CXT)(X:Cx)(E:XK):Prop:=∀(pins:List (Addr×Obj))(σ:St)(H:Hp)(s:Shared)(e:Value)(s':Shared),Inv X pins σ H s->CX X.stack H s E e s'->X.xe e s'
section
variable{X:Cx}{CX:CXT}{k:Nat}{f C:Addr}{fd:FuncData}{ps:List Str}{sp:Sp}{dvs:List V}{ds:List Value}{E:XK}{x m:Str}{p pos apos:Pos}{e o:Expr}{es:List Expr}{ta:TE}{t:TA}
theorem gG{pins:List (Addr×Obj)}{σ:St}{H:Hp}{s:Shared}{Q:VK}{us:List Value}{vs:List V}(F:Ci X.prog X.w X.K X.mg X.base CX k f fd ps sp)(hr:Dm k X.A)(hb:Binds X.K fd ps ds)(hd:Vals dvs ds)(hx:Passes CX X E)
  (I:Inv X pins σ H s) (r:Vals vs us) (h:sp (vs++dvs) H Q E):wpAny (model X.prog X.w) X.A (call (.ref f) us) (EP X pins σ Q) X.xe s:=by
 have r2:Vals (vs++dvs) (us++ds):=r.append hd
 have hl:(us++ds).length=ps.length:=by rw[←r2.length];exact F.len _ _ _ _ h
 refine wpAny_call (codeAny_mono (F.run X.A X.stack s H ⟨us,[]⟩ (us++ds) (vs++dvs) Q E hr I.env0 (hb s us I.kIn hl) r2 h) fun r s' hq=>?_)
 cases r with
 |error e=>exact hx pins σ H s e s' I hq
 |ok fl =>
  cases fl with
  |ret u=>exact I.after hq
  |next=>exact U32 hq
  |brk=>exact U32 hq
  |cont=>exact U32 hq
theorem bU(F:Ci X.prog X.w X.K X.mg X.base CX k f fd ps sp)(hr:Dm k X.A)(hg:Gl X x)(hm:X.mg x=some (.ref f))(hk:U05 X.K (.ref f)=true)(hb:Binds X.K fd ps ds)(hd:Vals dvs ds)(hx:Passes CX X E)
  (ha:PA X (e::es) t) (hdb:(x==("__debug__":Str))=false:=by decide) (he:starEach (e::es) X.env=(false,eval e X.env)::starEach es X.env:=by rfl) (hpl:(backTo pos (starEach es X.env)).any (·.1)=false:=by rfl) :
  PE X (.Call (.Name x p) (e::es) [] pos) (Zw sp dvs E t):=by
 intro pins s σ H Q I h
 refine U45 (cR I hg hm ?_ hdb)
 refine PySem.W.callWith_K (h₀:=X.base) I.ok.mod.kin hk (thn (ha pos pins s σ H _ I h) fun us s1 ⟨vs,H1,I1,r,q⟩=>⟨I1.kIn,?_⟩) he hpl
 exact gG F hr hb hd hx I1 r q
structure Mk(K:U0a)(C f:Addr):Prop where
 makes:PySem.W.makesIn K C=true
 init:U5b K (.ref C) "__init__"=some (some (.ref f))
 fn:PySem.W.isFn K (.ref f)=true
 kp:U05 K (.ref C)=true
end
section
variable{X:Cx}{CX:CXT}{k:Nat}{f C:Addr}{fd:FuncData}{ps ks:List Str}{sp:Sp}{E:XK}{x m:Str}{p pos apos kpos:Pos}{e o:Expr}{es:List Expr}{kws:List Keyword}{te ta:TE}{t tk:TA}{nm:Option Str}
structure nU(K:U0a)(fd:FuncData)(ps ks:List Str)(g:List Value->List Value->List Value)(gV:List V->List V->List V):Prop where
 to:∀(s:Shared)(us ws:List Value),K.In s.heap->(g us ws).length=ps.length->BindsTo s fd ⟨us,ks.zip ws⟩ (ps.zip (g us ws))
 rel:∀{vs:List V} {us:List Value} {zs:List V} {ws:List Value},Vals vs us->Vals zs ws->Vals (gV vs zs) (g us ws)
variable{g:List Value->List Value->List Value}{gV:List V->List V->List V}
end
structure CQ(N P:List Str)(sc:Scope):Prop where
 kind:sc.kind=.function
 co:sc.isCoroutine=false
 gen:sc.isGenerator=false
 nd:N.Nodup
 pre:N.take P.length=P
 par:∀x∈P,sc.names.lookup x=some .local∨sc.names.lookup x=some .cell
 nofree:∀y∈sc.names,y.2≠.free
theorem Rk{kindOf:Str->Option NameKind}{x:Str}:∀{binds:List (Str×Value)} {m:Str->Option Value},(∀v,(x,v) ∉ binds)->bindL kindOf binds m x=m x
 |[],_,_=>rfl
 |(n,v)::r,m,h=>by
  unfold bindL
  rw[Rk fun w hw=>h w (U0o _ hw)]
  split
  .have:x≠n:=by rintro rfl;exact h v U04
   simp[this]
  .rfl
theorem Rn{kindOf:Str->Option NameKind}{x:Str}:∀{binds:List (Str×Value)} {m:Str->Option Value},(∀v,(x,v) ∉ binds)->bindC kindOf binds m x=m x
 |[],_,_=>rfl
 |(n,v)::r,m,h=>by
  unfold bindC
  rw[Rn fun w hw=>h w (U0o _ hw)]
  split
  .rfl
  .have:x≠n:=by rintro rfl;exact h v U04
   simp[this]
theorem Rm{kindOf:Str->Option NameKind}{x:Str}{v:Value}:∀{P:List Str} {vs:List Value} {i:Nat} {m:Str->Option Value},P.Nodup->P[i]?=some x->vs[i]?=some v->kindOf x=some .local ->
  bindL kindOf (P.zip vs) m x=some v
 |[],_,_,_,_,h,_,_=>by simp at h
 |_::_,[],_,_,_,_,h,_=>by simp at h
 |p::P,w::vs,0,m,nd,h1,h2,hk=>by
  simp at h1 h2;subst h1;subst h2
  show bindL kindOf ((p,w)::P.zip vs) m p=_
  unfold bindL
  rw[Rk fun v hv=>(U41.mp nd).1 (U6m hv).1,if_pos hk]
  simp
 |p::P,w::vs,i+1,m,nd,h1,h2,hk=>by
  show bindL kindOf ((p,w)::P.zip vs) m x=_
  unfold bindL
  exact Rm (i:=i) (U41.mp nd).2 (by simpa using h1) (by simpa using h2) hk
theorem Ro{kindOf:Str->Option NameKind}{x:Str}{v:Value}:∀{P:List Str} {vs:List Value} {i:Nat} {m:Str->Option Value},P.Nodup->P[i]?=some x->vs[i]?=some v->kindOf x≠some .local ->
  bindC kindOf (P.zip vs) m x=some v
 |[],_,_,_,_,h,_,_=>by simp at h
 |_::_,[],_,_,_,_,h,_=>by simp at h
 |p::P,w::vs,0,m,nd,h1,h2,hk=>by
  simp at h1 h2;subst h1;subst h2
  show bindC kindOf ((p,w)::P.zip vs) m p=_
  unfold bindC
  rw[Rn fun v hv=>(U41.mp nd).1 (U6m hv).1,if_neg hk]
  simp
 |p::P,w::vs,i+1,m,nd,h1,h2,hk=>by
  show bindC kindOf ((p,w)::P.zip vs) m x=_
  unfold bindC
  exact Ro (i:=i) (U41.mp nd).2 (by simpa using h1) (by simpa using h2) hk
def start(N:List Str)(vs:List V):St:=vs.map some++U0p (N.length-vs.length) none
def N7(CX:CXT)(P:Program)(w:World)(K:U0a)(mg:Str->Option Value)(base:Heap)(N:List Str)(qual:Str)(scope:Scope)(f:Addr)(cd:Value)(A:Around)(outer:List Env)(s:Shared)(H:Hp)(E:XK):Cx where
 prog:=P
 w:=w
 K:=K
 mg:=mg
 base:=base
 A:=A.deeper (envOfC qual scope s.heap.objs.size f cd)
 N:=N
 s₀:=s
 H₀:=H
 env:=envOfC qual scope s.heap.objs.size f cd
 outer:=outer
 stack:=envOfC qual scope s.heap.objs.size f cd::outer
 ex:=[]
 calm:=true
 fn:=fun _=>true
 pn:=[]
 xe:=fun e s'=>wpAny (model P w) (A.deeper (envOfC qual scope s.heap.objs.size f cd)) (leaving (envOfC qual scope s.heap.objs.size f cd) e) (fun _ s''=>CX outer H s E e s'') (fun e' s''=>CX outer H s E e' s'') s'
theorem Ua{sc:Scope}{n:Nat}{x:Str}(h:sc.names.lookup x=some .cell):∃c,(cellsFrom n sc.names []).lookup x=some c:=by
 have q:=U5l sc.names n [] (.inl h)
 exact U46.mp q
theorem YC{CX:CXT}{P:Program}{w:World}{K:U0a}{mg:Str->Option Value}{base:Heap}{N ps:List Str}{qual:Str}{scope:Scope}{f:Addr}{cd:Value}{A:Around}{outer:List Env}{s s1:Shared}{H:Hp}{E:XK}{us:List Value}{vs:List V}
  (S:CQ N ps scope) (hd:A.handled=none) (e0:W7 P w K mg base A outer s H) (hl:vs.length=ps.length) (r:Vals vs us)
  (x:InCallC s s.heap.objs.size (bindL (envOfC qual scope s.heap.objs.size f cd).kindOf (ps.zip us) fun _=>none) (cellsFrom (s.heap.objs.size+1) scope.names []) (bindC (envOfC qual scope s.heap.objs.size f cd).kindOf (ps.zip us) fun _=>none) s1) :
  Inv (N7 CX P w K mg base N qual scope f cd A outer s H E) [] (start N vs) H s1:=by
 have hpl:ps.length<=N.length:=by have:=congrArg U3b S.pre;rw[U1i] at this;omega
 obtain⟨h1,tk,rfl,hk⟩:=x.done
 have noA:∀b:Addr,b ∉ (N7 CX P w K mg base N qual scope f cd A outer s H E).ex:=fun b z=>absurd (show b∈([]:List Addr) from z) (by simp)
 refine⟨⟨e0.mod,S.kind,rfl,rfl,U0l _,fun y z c h1 h2=>?_,fun y hy=>?_,fun y c _ h=>?_,fun _=>hd,Around.frames_deeper e0.frames,.inr ⟨rfl,rfl⟩,fun b z=>absurd z (noA b),e0.bs,e0.bsz,fun b _ _=>noA b,fun b z=>absurd z (noA b),e0.K4,e0.frf,e0.sy⟩,
  rfl,e0.bare,Un.kept hk,⟨_,x.toInCall.ns,fun i y v h1 h2 h3=>?_⟩,fun y c h=>⟨_,x.cell y c h⟩,e0.hok.fresh (U0l _),fun y c h=>?_,fun p hp=>absurd (show p∈([]:List (Addr×Obj)) from hp) (by simp),e0.hok.kept hk,?_⟩
 .exact name_of_addr x.apart (U2f h1) (U2f h2)
 .have hy:scope.names.lookup y=some .cell∨scope.names.lookup y=some .free:=hy
  rcases hy with hy|hy
  .exact Ua hy
  .exact absurd rfl (S.nofree _ (U2f hy))
 .exact U2c (x.above y c (U2f h))
 .have hi:i<vs.length:=by
   unfold start at h2
   by_cases hi:i<vs.length
   .exact hi
   .rw[U1f (by simpa using hi)] at h2
    rw[U4a] at h2
    split at h2<;>cases h2
  have ha:vs[i]?=some v:=by
   unfold start at h2
   rw[U00 (by simpa using hi),U0v] at h2
   cases e:vs[i]? with
   |none=>rw[e] at h2;cases h2
   |some a=>rw[e] at h2;cases h2;rfl
  obtain⟨u,hu,rv⟩:=r.get ha
  have hp:ps[i]?=some y:=by
   rw[←S.pre,List.getElem?_take_of_lt (by omega)];exact h1
  have ndP:ps.Nodup:=by rw[←S.pre];exact S.nd.sublist (U5i _ _)
  refine⟨u,rv,?_⟩
  rcases S.par y (U12 hp) with k|k
  .exact .inl ⟨k,Rm ndP hp hu k⟩
  .obtain⟨c,e⟩:=Ua (n:=s.heap.objs.size+1) k
   refine .inr ⟨.inl k,c,e,?_⟩
   have q:=x.cell y c e
   rw[Ro ndP hp hu (by show scope.names.lookup y≠_;rw[k];decide)] at q
   exact q
 .exact e0.hok.fresh (U2c (x.above y c (U2f h)))
 .unfold start
  show _=N.length
  rw[U0i,U0g,U1t]
  omega
theorem lB{CX:CXT}{P:Program}{w:World}{K:U0a}{mg:Str->Option Value}{base:Heap}{k:Nat}{f:Addr}{name qual:Str}{params:Arguments}{body:List Stmt}{scope:Scope}{dV kV doc pm cdv ct oc:Value}{an od:Option Addr}
  {osl:Array (Option Value)} {N ps:List Str} {sp:Sp} (lk:K.lookup f=some ⟨oc,od,.func (U09 name qual params body scope dV kV doc pm an cdv ct),osl⟩) (hcd:U1a K cdv qual=true) (S:CQ N ps scope)
  (len:∀vs H Q E,sp vs H Q E->vs.length=ps.length)
  (hbody:∀(A:Around)(outer:List Env)(s:Shared)(H:Hp)(vs:List V)(Q:VK)(E:XK),Dm k (A.deeper (envOfC qual scope s.heap.objs.size f cdv))->sp vs H Q E ->
   ∃t,PSs (N7 CX P w K mg base N qual scope f cdv A outer s H E) body t/\t { nx:=fun _ H'=>Q .non H',rt:=Q } (start N vs) H) :
  Ci P w K mg base CX (k+1) f (U09 name qual params body scope dV kV doc pm an cdv ct) ps sp:=by
 refine⟨len,fun A outer s H args us vs Q E hr e0 hb r hsp=>?_⟩
 have hl:=len _ _ _ _ hsp
 have KX:K.In s.heap:=e0.mod.kin.keeps fun b o e=>(e0.bs b o e).1
 have lim:s.heap.NoLimit:=e0.mod.nolimit.keeps fun b o e=>(e0.bs b o e).1
 have hkind:∀y∈ps.zip us,scope.names.lookup y.1=some .local∨(scope.names.lookup y.1=some .cell/\((cellsFrom (s.heap.objs.size+1) scope.names []).lookup y.1).isSome=true):=fun⟨n,v⟩ hy=>by
  rcases S.par n (U6m hy).1 with q|q
  .exact .inl q
  .exact .inr ⟨q,U5l _ _ _ (.inl q)⟩
 refine codeAny_call_function hr.depth (KX _ _ lk) rfl S.co S.gen rfl (PySem.W.codeRec_of KX hcd) (hb _ _ _ _ ?_)
 refine wpAny_newFunctionEnv_cells S.kind hkind fun env he s1 x=>?_
 subst he
 refine⟨lim.keeps x.toInCall.keep,codeAny_func ?_⟩
 obtain⟨t,ht,hq⟩:=hbody A outer s H vs Q E (hr.deeper _) hsp
 have I:Inv (N7 CX P w K mg base N qual scope f cdv A outer s H E) [] (start N vs) H s1:=YC S hr.hd e0 hl r x
 refine U5a (ht [] s1 (start N vs) H _ I hq) (fun fl s' hs=>?_) fun e s' hs=>hs
 have fin:∀{σ':St} {H':Hp} {v:V} {u:Value},Inv (N7 CX P w K mg base N qual scope f cdv A outer s H E) [] σ' H' s'->RelV v u->Q v H'->CE outer P w H s Q u s' :=
  fun {σ' H' v u} J rv q=>⟨v,H',J.os,J.bare,J.base,J.hok,rv,q⟩
 cases fl with
 |ret u =>
  obtain⟨v,σ',H',J,rv,q⟩:=hs
  exact fin J rv q
 |next =>
  obtain⟨σ',H',J,q⟩:=hs
  exact fin (v:=V.non) (u:=U2s) J rfl q
 |brk =>
  obtain⟨_,_,_,q⟩:=hs
  exact U32 q
 |cont =>
  obtain⟨_,_,_,q⟩:=hs
  exact U32 q
end L2
namespace L2
open PySem PySem.Spec PyProof.Rows
section
variable{X:Cx}{x:Str}{p pos:Pos}{e:Expr}{es:List Expr}{t:TA}{id T:String}{r:List V->Hp->VK->Prop}
def tCB(r:List V->Hp->VK->Prop)(t:TA):TE:=fun σ H Q=>t σ H fun vs H1=>r vs H1 Q
theorem Tj(hc:Cv X (.builtin id) r)(hg:Gl X x)(hm:X.mg x=none)(hv:bootBuiltins x=some (.builtin id))(ha:PA X (e::es) t)(hn:x≠"__name__":=by decide)(hdb:(x==("__debug__":Str))=false:=by decide)
  (he:starEach (e::es) X.env=(false,eval e X.env)::starEach es X.env:=by rfl) (hpl:(backTo pos (starEach es X.env)).any (·.1)=false:=by rfl):PE X (.Call (.Name x p) (e::es) [] pos) (tCB r t):=by
 intro pins s σ H Q I h
 refine U45 (Lf I hg hm hv ?_ hn hdb)
 exact PyProof.Rows.callWith_builtin1 (thn (ha pos pins s σ H _ I h) fun us s1 ⟨vs,H1,I1,r1,q1⟩=>hc pins s1 σ H1 vs us Q I1 r1 q1) he hpl
theorem Nu(hc:Cv X (.type T) r)(hg:Gl X x)(hm:X.mg x=none)(hv:bootBuiltins x=some (.type T))(ha:PA X (e::es) t)(hn:x≠"__name__":=by decide)(hdb:(x==("__debug__":Str))=false:=by decide)
  (he:starEach (e::es) X.env=(false,eval e X.env)::starEach es X.env:=by rfl) (hpl:(backTo pos (starEach es X.env)).any (·.1)=false:=by rfl):PE X (.Call (.Name x p) (e::es) [] pos) (tCB r t):=by
 intro pins s σ H Q I h
 refine U45 (Lf I hg hm hv ?_ hn hdb)
 exact U4s (thn (ha pos pins s σ H _ I h) fun us s1 ⟨vs,H1,I1,r1,q1⟩=>hc pins s1 σ H1 vs us Q I1 r1 q1) he hpl
end
end L2
namespace HT
open PySem PyProof.Rows
section
open PySem.SeqAt
open PySem.AutoSeq1 (wpAny_loadPart')
open PySem.MeetsSeq PySem.MeetsSeq2 PySem.MeetsSeq3
end
section
variable{prog:Program}{w:World}{A:Around}{E:Value->Shared->Prop}{s:Shared}
theorem dH{t b:Addr}{vs ws:List Value}{Q:Value->Shared->Prop}(ht:IsTup s.heap t vs.toArray)(hb:IsTup s.heap b ws.toArray)(hv:vs≠[])
  (h1:ws=[]->Q (.ref t) s) (h2:ws≠[]->Q (.ref s.heap.objs.size) { s with heap:=s.heap.push { cls:=.type "tuple",data:=.seq (vs++ws).toArray } })
  (hsz:vs.length+ws.length<=sizeLine):wpAny (model prog w) A (binaryOp .Add (.ref t) (.ref b)) Q E s:=by
 obtain⟨⟨cls,dd,data,sl⟩,ho,hc,n,hd⟩:=id ht
 obtain⟨⟨cls2,dd2,data2,sl2⟩,ho2,hc2,n2,hd2⟩:=id hb
 simp only at hc hd hc2 hd2
 subst hc hd hc2 hd2
 have e:vs.toArray++ws.toArray=(vs++ws).toArray:=by simp
 by_cases hw:ws=[]
 .exact concat_meets ⟨_,ho,rfl⟩ ⟨_,ho2,rfl⟩ noFill_tuple_add seq_tuple_add U5m U5g (U47 _ _)
   (tuple_addW1 t b vs.toArray ws.toArray n n2 dd dd2 sl sl2 (by simpa using hv) (by simp[hw])) ⟨ho,ho2,h1 hw⟩
 .refine concat_meets ⟨_,ho,rfl⟩ ⟨_,ho2,rfl⟩ noFill_tuple_add seq_tuple_add U5m U5g (U47 _ _)
   (tuple_addW2 t b vs.toArray ws.toArray n n2 dd dd2 sl sl2 (by simpa using hv) (by simpa using hw) (by rw[U0j,U0j];exact hsz)) ⟨ho,ho2,?_⟩
  rw[e]
  exact h2 hw
def sIx(n d:Nat):Option Int->Nat
 |none=>d
 |some v=>if v<0 then (v+(n:Int)).toNat else min v.toNat n
theorem gF(n d:Nat)(hd:d<=n)(o:Option Int):sIx n d o<=n:=by
 cases o with
 |none=>exact hd
 |some v =>
  show(if v<0 then (v+(n:Int)).toNat else min v.toNat n)<=n
  by_cases hv:v<0
  .rw[if_pos hv];omega
  .rw[if_neg hv];exact Nat.min_le_right _ _
theorem Vw(v:Int)(n d:Nat):(if v<0 then max (v+(n:Int)) 0 else min v (n:Int))=((sIx n d (some v):Nat):Int):=by
 show(if v<0 then max (v+(n:Int)) 0 else min v (n:Int))=(((if v<0 then (v+(n:Int)).toNat else min v.toNat n):Nat):Int)
 by_cases hv:v<0
 .simp only[if_pos hv];omega
 .simp only[if_neg hv];omega
theorem X4(lo hi:Option Int)(n:Nat):U42 lo hi 1 (n:Int)=(((sIx n 0 lo:Nat):Int),((sIx n n hi:Nat):Int)):=by
 have h1:¬((1:Int)<0):=by omega
 unfold U42
 simp only[h1,if_false]
 refine Prod.ext ?_ ?_
 .cases lo with
  |none=>rfl
  |some v=>exact Vw v n 0
 .cases hi with
  |none=>rfl
  |some v=>exact Vw v n n
theorem Wg(i j:Nat):U33 (i:Int) (j:Int) 1=j-i:=by
 unfold U33
 have h1:(1:Int)>0:=by omega
 simp only[h1,if_true,Int.ediv_one]
 split<;>omega
theorem Qc{v:Value}{o:Option Int}{Q:Option Int->Shared->Prop}(p:IsPart v o)(h:Q o s):wpAny (model prog w) A (Builtin.Slice.slicePartIndex v) Q E s:=by
 cases p with
 |none=>exact slicePart_none h
 |int i t=>exact slicePart_int h
theorem KZ{sl:Addr}{vl vu:Value}{lo hi:Option Int}{n:Nat}{Q:Int×Int×Nat->Shared->Prop}(hs:s.heap.IsSliceOf sl vl vu .none)(pl:IsPart vl lo)(pu:IsPart vu hi)
  (h:Q (((sIx n 0 lo:Nat):Int),1,sIx n n hi-sIx n 0 lo) s):wpAny (model prog w) A (Builtin.Slice.sliceApplied (.ref sl) (pure (n:Int))) Q E s:=by
 obtain⟨os,hos,hcs,hds⟩:=id hs
 unfold Builtin.Slice.sliceApplied Builtin.Slice.sliceFields
 refine U0 (U0 (wpAny_field hos hds (x:=vl) rfl (U0 (wpAny_field hos hds (x:=vu) rfl (U0 (wpAny_field hos hds (x:=.none) rfl (U0c ?_)))))))
 refine U0 (slicePart_none ?_)
 show wpAny _ _ (if ((1:Int)==0)=true then _ else _) _ _ s
 rw[if_neg (by decide)]
 refine U0 (Qc pl (U0 (Qc pu (U0 (U0c ?_)))))
 show wpAny _ _ (match U42 lo hi 1 (n:Int) with|(lo,hi)=>pure (lo,(1:Int),U33 lo hi 1)) _ _ s
 rw[X4 lo hi n]
 show wpAny _ _ (pure (((sIx n 0 lo:Nat):Int),(1:Int),U33 ((sIx n 0 lo:Nat):Int) ((sIx n n hi:Nat):Int) 1)) _ _ s
 rw[Wg]
 exact U0c h
theorem ZM(xs:Array Value)(i k:Nat):((U3o k).filterMap fun(m:Nat)=>xs[((i:Int)+(m:Int)*1).toNat]?).toArray=((xs.toList.drop i).take k).toArray:=by
 have e:(fun(m:Nat)=>xs[((i:Int)+(m:Int)*1).toNat]?)=fun m=>xs[i+m]?:=by
  funext m
  have:((i:Int)+(m:Int)*1).toNat=i+m:=by omega
  rw[this]
 rw[e]
 have:=pick_run xs i k
 rw[List.filterMap_map] at this
 have e2:((fun x=>xs[x]?)∘fun x=>i+x)=fun m=>xs[i+m]?:=rfl
 rw[e2] at this
 rw[this]
theorem Ot{t sl:Addr}{items:Array Value}{vl vu:Value}{lo hi:Option Int}{Q:Value->Shared->Prop}(ht:IsTup s.heap t items)(hs:s.heap.IsSliceOf sl vl vu .none)(pl:IsPart vl lo)(pu:IsPart vu hi)
  (hw:¬(sIx items.size 0 lo=0/\sIx items.size items.size hi=items.size))
  (h:Q (.ref s.heap.objs.size) { s with heap:=s.heap.push { cls:=.type "tuple",data:=.seq ((items.toList.drop (sIx items.size 0 lo)).take (sIx items.size items.size hi-sIx items.size 0 lo)).toArray } })
  (hsz:items.size<=sizeLine):wpAny (model prog w) A (getItem (.ref t) (.ref sl)) Q E s:=by
 have htake:sizeOk (.seq ((items.toList.drop (sIx items.size 0 lo)).take (sIx items.size items.size hi-sIx items.size 0 lo)).toArray):=by
  show((items.toList.drop (sIx items.size 0 lo)).take (sIx items.size items.size hi-sIx items.size 0 lo)).toArray.size<=sizeLine
  rw[U0j,U1i,U1s,U0e]
  omega
 have hj:sIx items.size items.size hi<=items.size:=gF _ _ (U0l _) hi
 obtain⟨os,hos,hcs,hds⟩:=id hs
 have hTs:s.TypeIs (.ref sl) "slice":=⟨os,hos,hcs⟩
 unfold getItem
 try with_reducible refine U2j ?_
 first|refine U0 (U0c ?_)|skip
 refine U0 (wpAny_sequenceKey ht.typeIs (by decide) ?_)
 refine U0 (wpAny_callSpecial?_slot (name:=U5r "__getitem__") ht.typeIs U2b
  (U3m U2b ht.typeIs entry_tuple_getitem ?_ (args_tuple_getitem _ _)))
 show wpAny _ _ (Builtin.Tuple.tupleItemsOf (.ref t) >>= _) _ _ s
 refine U0 (tupleItemsOf_ ht ?_)
 refine U0 (U5s hTs ?_)
 rw[if_pos (by decide)]
 refine U0 (KZ hs pl pu ?_)
 have hno:¬((((sIx items.size 0 lo:Nat):Int)==0&&(1:Int)==1&&(sIx items.size items.size hi-sIx items.size 0 lo)==items.size)=true):=by
  intro q
  rw[U0m,U0m] at q
  have q1:((sIx items.size 0 lo:Nat):Int)=0:=eq_of_beq q.1.1
  have q2:sIx items.size items.size hi-sIx items.size 0 lo=items.size:=eq_of_beq q.2
  exact hw ⟨by omega,by omega⟩
 show wpAny _ _ (if (((sIx items.size 0 lo:Nat):Int)==0&&(1:Int)==1&&(sIx items.size items.size hi-sIx items.size 0 lo)==items.size)=true then _ else _) _ _ s
 rw[if_neg hno,ZM]
 first
  |exact U0 (m:=U36 _) (U17 (U0c ⟨_,rfl,U0c h⟩) htake)
  |exact U0 (m:=U36 _) (U17 (U0 (U0c (U0c ⟨_,rfl,U0c h⟩))) htake)
  |exact U0 (U0 (m:=U36 _) (U17 (U0c (U0c ⟨_,rfl,U0c h⟩)) htake))
  |exact U0 (U0 (m:=U36 _) (U17 (U0c ⟨_,rfl,U0c h⟩) htake))
end
end HT
namespace L2
open PySem PySem.Spec PyProof.Rows
abbrev TO:=St->Hp->(Option Int->Hp->Prop)->Prop
def PO(X:Cx)(e:Option Expr)(t:TO):Prop :=
 ∀(pins:List (Addr×Obj))(s:Shared)(σ:St)(H:Hp)(Q:Option Int->Hp->Prop),Inv X pins σ H s->t σ H Q ->
  wpAny (model X.prog X.w) X.A (evalPart e X.env) (fun u s'=>∃o H',Inv X pins σ H' s'/\IsPart u o/\Q o H') X.xe s
def aj:TO:=fun _ H Q=>Q none H
def jX(t:TE):TO:=fun σ H Q=>t σ H fun x H1=>∃i,x=.int i/\Q (some i) H1
theorem intsAre_of{ns:List Int}:∀{us:List Value},Vals (ns.map V.int) us->IntsAre us ns:=by
 induction ns with
 |nil=>intro us r;rw[U1m] at r;cases r;exact .nil
 |cons n ns ih =>
  intro us r
  rw[U0n] at r
  cases r with
  |cons r1 r2 =>
   obtain⟨t,e⟩:=r1
   subst e
   exact .cons n t (ih r2)
section
variable{X:Cx}{e:Expr}{te:TE}{lo hi:Option Expr}{tl th:TO}{pos p2:Pos}
theorem bM:PO X none aj:=by
 intro pins s σ H Q I h
 rw[evalPart_none]
 exact U0c ⟨none,H,I,.none,h⟩
theorem bL(h:PE X e te):PO X (some e) (jX te):=by
 intro pins s σ H Q I hw
 rw[evalPart_some]
 refine thn (h pins s σ H _ I hw) fun u s1 ⟨x,H1,I1,r1,q1⟩=>?_
 obtain⟨i,rfl,q⟩:=q1
 obtain⟨t,rfl⟩:=r1
 exact⟨some i,H1,I1,.int i t,q⟩
def SlR(X:Cx)(r:V->Option Int->Option Int->Hp->VK->Prop):Prop :=
 ∀(pins:List (Addr×Obj))(s:Shared)(σ:St)(H:Hp)(x:V)(v vl vu:Value)(lo hi:Option Int)(sl:Addr)(Q:VK),Inv X pins σ H s->RelV x v->s.heap.IsSliceOf sl vl vu .none->IsPart vl lo->IsPart vu hi->r x lo hi H Q ->
  ∃T id,typeLookup (.type T) "__getitem__"=pure (some (.builtin id))/\s.TypeIs v T/\wpAny (model X.prog X.w) X.A (getItem v (.ref sl)) (EP X pins σ Q) X.xe s
theorem SlR.or{r r':V->Option Int->Option Int->Hp->VK->Prop}(h:SlR X r)(h':SlR X r'):SlR X (fun x lo hi H Q=>r x lo hi H Q∨r' x lo hi H Q):=by
 intro pins s σ H x v vl vu lo hi sl Q I rx hs pl pu q
 rcases q with q|q
 .exact h pins s σ H x v vl vu lo hi sl Q I rx hs pl pu q
 .exact h' pins s σ H x v vl vu lo hi sl Q I rx hs pl pu q
def tSl(r:V->Option Int->Option Int->Hp->VK->Prop)(te:TE)(tl th:TO):TE:=fun σ H Q=>te σ H fun x H1=>tl σ H1 fun l H2=>th σ H2 fun u H3=>r x l u H3 Q
theorem ZQ{r:V->Option Int->Option Int->Hp->VK->Prop}(hr:SlR X r)(he:PE X e te)(hl:PO X lo tl)(hu:PO X hi th):PE X (.Subscript e (.Slice lo hi none p2) pos) (tSl r te tl th):=by
 intro pins s σ H Q I h
 refine Subscript_ (thn (he pins s σ H _ I h) fun v s1 ⟨x,H1,I1,r1,q1⟩=>?_)
 refine wpAny_Slice (thn (hl pins s1 σ H1 _ I1 q1) fun vl s2 ⟨l,H2,I2,pl,q2⟩=>thn (hu pins s2 σ H2 _ I2 q2) fun vu s3 ⟨u,H3,I3,pu,q3⟩=>?_)
 rw[evalPart_none]
 refine U0c ?_
 have I4:Inv X pins σ H3 { s3 with heap:=s3.heap.push { cls:=.type "slice",data:=.fields #[vl,vu,.none] } }:=I3.kept (t':=s3.toks) fun b ob q=>U0d _ q
 obtain⟨T,id,hT,ht,hg⟩:=hr pins { s3 with heap:=s3.heap.push { cls:=.type "slice",data:=.fields #[vl,vu,.none] } } σ H3 x v vl vu l u s3.heap.objs.size Q I4 r1 (Heap.IsSliceOf.new ..) pl pu q3
 show wpAny (model X.prog X.w) X.A (subscriptTail e (.Slice lo hi none p2) v (.ref s3.heap.objs.size)) (EP X pins σ Q) X.xe { s3 with heap:=s3.heap.push { cls:=.type "slice",data:=.fields #[vl,vu,.none] } }
 exact tail_any (ops:=[.ref s3.heap.objs.size,v]) ht hT hg (by with_unfolding_all rfl)
def Ig(xs:List V)(lo hi:Option Int):List V:=(xs.drop (HT.sIx xs.length 0 lo)).take (HT.sIx xs.length xs.length hi-HT.sIx xs.length 0 lo)
theorem PX(xs:List V)(lo hi:Option Int):(Ig xs lo hi).length<=xs.length:=by
 unfold Ig
 rw[U1i,U1s]
 omega
def m7(K:U0a):V->Option Int->Option Int->Hp->VK->Prop:=fun x lo hi H Q=>∃a xs,x=.ref a/\SqT K H a xs /\
 ¬(HT.sIx xs.length 0 lo=0/\HT.sIx xs.length xs.length hi=xs.length)/\∀p,H p=none->Q (.ref p) (upd H p (.tup (Ig xs lo hi)))
theorem gB:SlR X (m7 X.K):=by
 intro pins s σ H x v vl vu lo hi sl Q I rx hs pl pu h
 obtain⟨a,xs,rfl,hx,hw,q⟩:=h
 cases rx
 obtain⟨its,r,ht,hz⟩:=I.tuple hx
 have hlen:its.toArray.size=xs.length:=by rw[U0j];exact r.length.symm
 refine⟨"tuple",_,U2b.lookup,ht.typeIs,?_⟩
 refine HT.Ot ht hs pl pu (by rw[hlen];exact hw) ?_ (by rw[hlen];exact hz)
 rw[hlen]
 refine⟨.ref s.heap.objs.size,_,I.laid (t':=s.toks) (o:=.tup (Ig xs lo hi)) (fun b ob q=>U0d _ q) (U0l _) ?_,rfl,q _ (I.hok.fresh (U0l _))⟩
 exact⟨U08 (PX xs lo hi) hz,_,(r.drop (HT.sIx xs.length 0 lo)).take (HT.sIx xs.length xs.length hi-HT.sIx xs.length 0 lo),IsTup.new _ _⟩
def jj(K:U0a):R2:=fun x y H Q=>∃a b xs ys,x=.ref a/\y=.ref b/\SqT K H a xs/\SqT K H b ys/\xs≠[]/\xs.length+ys.length<=sizeLine /\
 (ys=[]->Q (.ref a) H)/\(ys≠[]->∀p,H p=none->Q (.ref p) (upd H p (.tup (xs++ys))))
theorem Vals.Oi{xs:List V}{us:List Value}(r:Vals xs us):us=[]↔xs=[]:=by
 cases r with
 |nil=>simp
 |cons _ _=>simp
theorem bY:OpR X (binaryOp .Add) (jj X.K):=by
 intro pins s σ H x y v u Q I rx ry h
 obtain⟨a,b,xs,ys,rfl,rfl,ha,hb,hx,hz,q1,q2⟩:=h
 cases rx
 cases ry
 obtain⟨its,r1,p1,_⟩:=I.tuple ha
 obtain⟨its2,r2,p2,_⟩:=I.tuple hb
 refine HT.dH p1 p2 (fun z=>hx (r1.Oi.mp z)) (fun z=>⟨.ref a,H,I,rfl,q1 (r2.Oi.mp z)⟩) (fun z=>?_) (by rw[←r1.length,←r2.length];exact hz)
 refine⟨.ref s.heap.objs.size,_,I.laid (t':=s.toks) (o:=.tup (xs++ys)) (fun b ob q=>U0d _ q) (U0l _) ?_,rfl,q2 (fun w=>z (r2.Oi.mpr w)) _ (I.hok.fresh (U0l _))⟩
 exact⟨by rw[U0i];exact hz,_,r1.append r2,IsTup.new _ _⟩
end
end L2
namespace L2
open PySem PySem.Spec PyProof.Rows
def ixN(n:Nat)(i:Int):Option Nat:=if 0<=i then (if i<n then some i.toNat else none) else if -(n:Int)<=i then some (i+n).toNat else none
def atI{α:Type}(xs:List α)(i:Int):Option α:=(ixN xs.length i).bind fun j=>xs[j]?
theorem Vo{n:Nat}{i:Int}{j:Nat}(h:ixN n i=some j):seqIndex? i n=some j/\j<n/\-(n:Int)<=i/\i<n:=by
 unfold ixN at h
 by_cases h0:0<=i
 .rw[if_pos h0] at h
  by_cases h1:i<n
  .rw[if_pos h1] at h
   have e:i.toNat=j:=U0x h
   exact⟨by rw[seqIndex_of h0 h1,e],by omega,by omega,h1⟩
  .rw[if_neg h1] at h;cases h
 .rw[if_neg h0] at h
  by_cases h1:-(n:Int)<=i
  .rw[if_pos h1] at h
   have e:(i+n).toNat=j:=U0x h
   exact⟨by rw[seqIndex_neg (by omega) h1,e],by omega,h1,by omega⟩
  .rw[if_neg h1] at h;cases h
theorem RJ{α:Type}{xs:List α}{i:Int}{v:α}(h:atI xs i=some v):∃j,seqIndex? i xs.length=some j/\xs[j]?=some v/\j<xs.length/\-(xs.length:Int)<=i/\i<xs.length:=by
 unfold atI at h
 cases e:ixN xs.length i with
 |none=>rw[e] at h;cases h
 |some j =>
  rw[e] at h
  obtain⟨h1,h2,h3,h4⟩:=Vo e
  exact⟨j,h1,h,h2,h3,h4⟩
theorem dN{α:Type}{xs:List α}{j:Nat}{v:α}(h:xs[j]?=some v):atI xs (j:Int)=some v:=by
 have hj:j<xs.length:=(U0h.mp h).1
 have e:ixN xs.length (j:Int)=some j:=by
  unfold ixN
  rw[if_pos (by omega),if_pos (by omega)];simp
 unfold atI;rw[e];exact h
theorem Zr{α:Type}(xs:List α)(v:α):atI (xs++[v]) (-1)=some v:=by
 have hl:(xs++[v]).length=xs.length+1:=by simp
 have e:ixN (xs++[v]).length (-1)=some xs.length:=by
  unfold ixN
  rw[hl,if_neg (by decide),if_pos (by omega)]
  congr 1
  omega
 unfold atI
 rw[e]
 show(xs++[v])[xs.length]?=some v
 simp
def Vz(b:Expr):Prop:=∀o i,subscripted b false o i=operate [o,i] (getItem o i)
def IxR(X:Cx)(r:R2):Prop :=
 ∀(value slice:Expr)(pins:List (Addr×Obj))(s:Shared)(σ:St)(H:Hp)(x y:V)(v u:Value)(Q:VK),Inv X pins σ H s->RelV x v->RelV y u->r x y H Q ->
  subscripted slice false v u=operate [v,u] (getItem v u)->wpAny (model X.prog X.w) X.A (subscriptTail value slice v u) (EP X pins σ Q) X.xe s
def MtR(X:Cx)(id:String)(r:V->List V->Hp->VK->Prop):Prop :=
 ∀(pins:List (Addr×Obj))(s:Shared)(σ:St)(H:Hp)(x:V)(xs:List V)(v:Value)(us:List Value)(Q:VK),Inv X pins σ H s->RelV x v->Vals xs us->r x xs H Q ->
  wpAny (model X.prog X.w) X.A (call (.builtin id) (v::us)) (EP X pins σ Q) X.xe s
section
variable{X:Cx}{a b:Expr}{ta tb:TE}{pos:Pos}
theorem IxR.or{r r':R2}(h:IxR X r)(h':IxR X r'):IxR X (fun x y H Q=>r x y H Q∨r' x y H Q):=by
 intro value slice pins s σ H x y v u Q I rx ry q hs
 rcases q with q|q
 .exact h value slice pins s σ H x y v u Q I rx ry q hs
 .exact h' value slice pins s σ H x y v u Q I rx ry q hs
theorem jt{r:R2}(hr:IxR X r)(ha:PE X a ta)(hb:PE X b tb)(hs:Vz b):PE X (.Subscript a b pos) (tOp r ta tb):=by
 intro pins s σ H Q I h
 exact Subscript_ (Ym ha hb I h fun v u s2 x y H2 I2 rx ry q=>hr a b pins s2 σ H2 x y v u Q I2 rx ry q (hs _ _))
def fO(K:U0a):R2:=fun x y H Q=>∃p xs i v,x=.ref p/\y=.int i/\SqL K H p xs/\atI xs i=some v/\Q v H
def fL(K:U0a):R2:=fun x y H Q=>∃p xs i v,x=.ref p/\y=.int i/\SqT K H p xs/\atI xs i=some v/\Q v H
def fM:R2:=fun x y H Q=>∃z i c,x=.str z/\y=.int i/\z.length<=sizeLine/\atI z.cps.toList i=some c/\Q (.str ⟨#[c]⟩) H
theorem cY:IxR X (fO X.K):=by
 intro value slice pins s σ H x y v u Q I rx ry h hs
 obtain⟨p,xs,i,z,rfl,rfl,hq,he,q⟩:=h
 cases rx
 obtain⟨t,rfl⟩:=ry
 obtain⟨its,r,pl,hz⟩:=I.list hq
 obtain⟨j,h1,h2,h3,h4,h5⟩:=RJ he
 obtain⟨w,ew,rw'⟩:=r.get h2
 have hl:=r.length
 have hn:=Nh
 have fin:EP X pins σ Q w s:=⟨z,H,I,rw',q⟩
 by_cases h0:0<=i
 .have hj:i.toNat=j:=by
   rw[seqIndex_of h0 h5] at h1
   exact U0x h1
  exact item_listR pl.isList h0 (by omega) (by rw[hj];simpa using ew) fin hs
 .have hj:(i+(its.toArray.size:Int)).toNat=j:=by
   rw[seqIndex_neg (by omega) h4] at h1
   rw[U0j,←hl]
   exact U0x h1
  exact subscriptTail_builtinR (x:=w) pl.isList.typeIs slot_list_getitem.lookup
   (wpAny_getItem_list_neg (Q:=fun r s'=>r=w/\EP X pins σ Q r s') pl.isList (by omega) (by rw[U0j]<;>omega) (by omega) (by rw[hj];simpa using ew) ⟨rfl,fin⟩) hs
theorem iu:IxR X (fL X.K):=by
 intro value slice pins s σ H x y v u Q I rx ry h hs
 obtain⟨p,xs,i,z,rfl,rfl,hq,he,q⟩:=h
 cases rx
 obtain⟨t,rfl⟩:=ry
 obtain⟨its,r,pl,hz⟩:=I.tuple hq
 obtain⟨j,h1,h2,h3,h4,h5⟩:=RJ he
 obtain⟨w,ew,rw'⟩:=r.get h2
 have hl:=r.length
 have hn:=Nh
 have fin:EP X pins σ Q w s:=⟨z,H,I,rw',q⟩
 exact subscriptTail_builtinR (x:=w) pl.typeIs slot_tuple_getitem.lookup
  (getItem_tuple (j:=j) (Q:=fun r s'=>r=w/\EP X pins σ Q r s') pl (by omega) (by omega) (by rw[U0j,←hl];exact h1) (by simpa using ew) ⟨rfl,fin⟩) hs
theorem iw:IxR X fM:=by
 intro value slice pins s σ H x y v u Q I rx ry h hs
 obtain⟨z,i,c,rfl,rfl,hz,he,q⟩:=h
 obtain⟨t,rfl⟩:=rx
 obtain⟨t',rfl⟩:=ry
 obtain⟨j,h1,h2,h3,h4,h5⟩:=RJ he
 have hl:z.cps.toList.length=z.length:=by simp[Str.length]
 rw[hl] at h1 h4 h5
 have hn:=Nh
 exact tail_any (typeIs_str s z t) slot_str_getitem.lookup (getItem_str (c:=c) (by
  have e1:decide (i < -(2^63:Int))=false:=decide_eq_false (by omega)
  have e2:decide (i≥2^63)=false:=decide_eq_false (by omega)
  rw[e1,e2,Bool.or_false]) (by rw[h1];simpa using h2) ⟨.str ⟨#[c]⟩,H,I.tok _,⟨_,rfl⟩,q⟩) hs
def rIx(K:U0a):R2:=fun x y H Q=>fO K x y H Q∨fL K x y H Q∨fM x y H Q
theorem BZ:IxR X (rIx X.K):=cY.or (iu.or iw)
theorem Wj(its:List Value)(n j:Nat)(u:Value):U2h (·.setIfInBounds j u) { cls:=.type "list",data:=.seq its.toArray n }={ cls:=.type "list",data:=.seq (its.set j u).toArray n }:=by
 simp[U2h]
theorem Inv.lst{pins:List (Addr×Obj)}{σ:St}{H:Hp}{s:Shared}{p:Addr}{xs:List V}(I:Inv X pins σ H s)(h:H p=some (.lst xs)) :
  ∃(its:List Value)(n:Nat),Vals xs its/\s.heap.get? p=some { cls:=.type "list",data:=.seq its.toArray n }/\xs.length<=sizeLine:=by
 obtain⟨z,its,n,r,e⟩:=I.hok p _ h
 exact⟨its,n,r,e,z⟩
theorem Inv.iR{pins:List (Addr×Obj)}{σ:St}{H:Hp}{s:Shared}{p:Addr}{xs ys:List V}{its its':List Value}{n n':Nat}{f:Obj->Obj}(I:Inv X pins σ H s)(h:H p=some (.lst xs))
  (ho:s.heap.get? p=some { cls:=.type "list",data:=.seq its.toArray n }) (hf:f { cls:=.type "list",data:=.seq its.toArray n }={ cls:=.type "list",data:=.seq its'.toArray n' }) (r:Vals ys its') (hz:ys.length<=sizeLine) (t:Nat) :
  Inv X pins σ (upd H p (.lst ys)) { s with heap:=s.heap.update p f,toks:=t }:=by
 have e:(s.heap.update p f).get? p=some { cls:=.type "list",data:=.seq its'.toArray n' }:=by
  rw[U2k f ho (by rw[hf]<;>rfl),hf]
 refine I.write (x:=p) (e:=p) (by rw[h];trivial) (.inl rfl) (fun b u hb q=>(U0z _ _ (U3l hb)).trans q) ⟨_,e⟩ ?_
 exact⟨hz,its',n',r,e⟩
def jg:V->V->V->Hp->(Hp->Prop)->Prop:=fun o i v H Q=>∃p xs k j,o=.ref p/\i=.int k/\H p=some (.lst xs)/\ixN xs.length k=some j/\Q (upd H p (.lst (xs.set j v)))
theorem set_list:fZ X jg:=by
 intro pins s σ H o i v ov iv u Q I ro ri rv h
 obtain⟨p,xs,k,j,rfl,rfl,hp,hj,q⟩:=h
 cases ro
 obtain⟨t,rfl⟩:=ri
 obtain⟨its,n,r,ho,hz⟩:=I.lst hp
 obtain⟨h1,h2,h3,h4⟩:=Vo hj
 have hl:=r.length
 have hn:=Nh
 have I':Inv X pins σ (upd H p (.lst (xs.set j v))) { s with heap:=s.heap.update p (U2h (·.setIfInBounds j u)) } :=
  I.iR hp ho (Wj its n j u) (r.set rv j) (by rw[U4e];exact hz) s.toks
 by_cases h0:0<=k
 .have hk:k.toNat=j:=by
   rw[seqIndex_of h0 h4] at h1
   exact U0x h1
  exact PySem.W.ki_setAt ho h0 (by omega) (by rw[U0j,←hl];exact h4) (by rw[hk];exact⟨_,I',q⟩)
 .have hk:(k+(its.toArray.size:Int)).toNat=j:=by
   rw[seqIndex_neg (by omega) h3] at h1
   rw[U0j,←hl]
   exact U0x h1
  exact PySem.W.ki_setBack ho (by omega) (by rw[U0j,←hl];exact h3) (by omega) (by rw[hk];exact⟨_,I',q⟩)
theorem Uc(lo hi:Option Int)(n:Nat):(sliceBounds lo hi none n).1=((HT.sIx n 0 lo:Nat):Int)/\(sliceBounds lo hi none n).2.1=((HT.sIx n n hi:Nat):Int)/\(sliceBounds lo hi none n).2.2=1:=by
 refine⟨?_,?_,rfl⟩
 .cases lo with
  |none=>simp[sliceBounds,HT.sIx]
  |some i =>
   simp only[sliceBounds,HT.sIx,Option.getD_none,show(1:Int)>0 by decide,if_true]
   by_cases h:i<0
   .simp only[h,if_true]<;>omega
   .simp only[h,if_false]<;>omega
 .cases hi with
  |none=>simp[sliceBounds,HT.sIx]
  |some i =>
   simp only[sliceBounds,HT.sIx,Option.getD_none,show(1:Int)>0 by decide,if_true]
   by_cases h:i<0
   .simp only[h,if_true]<;>omega
   .simp only[h,if_false]<;>omega
theorem Rq(its:List Value)(lo hi:Option Int):slicePick its.toArray lo hi none=((its.drop (HT.sIx its.length 0 lo)).take (HT.sIx its.length its.length hi-HT.sIx its.length 0 lo)).toArray:=by
 obtain⟨h1,h2,h3⟩:=Uc lo hi its.toArray.size
 unfold slicePick
 rw[h1,h2,h3]
 simp only[sliceRange_one,pick_run,U0j]<;>rfl
def fG(K:U0a):V->Option Int->Option Int->Hp->VK->Prop:=fun x lo hi H Q=>∃a xs,x=.ref a/\SqL K H a xs/\∀p,H p=none->Q (.ref p) (upd H p (.lst (Ig xs lo hi)))
theorem ao:SlR X (fG X.K):=by
 intro pins s σ H x v vl vu lo hi sl Q I rx hs pl pu h
 obtain⟨a,xs,rfl,hx,q⟩:=h
 cases rx
 obtain⟨its,r,ht,hz⟩:=I.list hx
 have hlen:=r.length
 refine⟨"list",_,slot_list_getitem.lookup,ht.isList.typeIs,?_⟩
 refine wpAny_getItem_list_slice ht.isList hs pl pu .none (by simp) ?_ (by rw[U0j]<;>omega)
 rw[Rq,←hlen]
 refine⟨.ref s.heap.objs.size,_,I.laid (t':=s.toks) (o:=.lst (Ig xs lo hi)) (fun b ob q=>U0d _ q) (U0l _) ?_,rfl,q _ (I.hok.fresh (U0l _))⟩
 exact⟨U08 (PX xs lo hi) hz,_,0,(r.drop (HT.sIx xs.length 0 lo)).take (HT.sIx xs.length xs.length hi-HT.sIx xs.length 0 lo),U0r _ rfl⟩
theorem OD:Cv X (.builtin "len") (fun xs H Q=>∃p ys,xs=[.ref p]/\(SqL X.K H p ys∨SqT X.K H p ys)/\Q (.int ys.length) H):=by
 intro pins s σ H xs us Q I r h
 obtain⟨p,ys,rfl,hq,q⟩:=h
 obtain⟨u,rfl,rx⟩:=vals1 r
 cases rx
 have hn:=Nh
 rcases hq with hq|hq
 .obtain⟨its,r',pl,hz⟩:=I.list hq
  have hlen:=r'.length
  exact Calls.call_len_list pl.isList (by simp only[U0j]<;>omega) ⟨.int ys.length,H,I.tok _,⟨s.toks+1,by rw[U0j,hlen]⟩,q⟩
 .obtain⟨its,r',pl,hz⟩:=I.tuple hq
  have hlen:=r'.length
  exact len_tuple pl (by simp only[U0j]<;>omega) ⟨.int ys.length,H,I.tok _,⟨s.toks+1,by rw[U0j,hlen]⟩,q⟩
theorem Cv.or{f:Value}{r r':List V->Hp->VK->Prop}(h:Cv X f r)(h':Cv X f r'):Cv X f (fun xs H Q=>r xs H Q∨r' xs H Q):=by
 intro pins s σ H xs us Q I rs q
 rcases q with q|q
 .exact h pins s σ H xs us Q I rs q
 .exact h' pins s σ H xs us Q I rs q
theorem Ur:Cv X (.type "list") (fun xs H Q=>∃p ys,xs=[.ref p]/\(SqL X.K H p ys∨SqT X.K H p ys)/\∀l,H l=none->Q (.ref l) (upd H l (.lst ys))):=by
 intro pins s σ H xs us Q I r h
 obtain⟨p,ys,rfl,hq,q⟩:=h
 obtain⟨u,rfl,rx⟩:=vals1 r
 cases rx
 have fin:∀(its:List Value),Vals ys its->ys.length<=sizeLine->∀(h':Heap)(c':Nat),(∀b o',s.heap.get? b=some o'->h'.get? b=some o') ->
   h'.get? s.heap.objs.size=some { cls:=.type "list",dict:=none,data:=.seq its.toArray c',slots:=#[] }->EP X pins σ Q (.ref s.heap.objs.size) { s with heap:=h' }:=fun its r' hz h' c' kp e =>
  ⟨.ref s.heap.objs.size,_,I.laid (t':=s.toks) kp (U0l _) (show DK X.prog X.w _ h' _ (.lst ys) from ⟨hz,its,c',r',e⟩),rfl,q _ (I.hok.fresh (U0l _))⟩
 rcases hq with hq|hq
 .obtain⟨its,r',pl,hz⟩:=I.list hq
  have hlen:=r'.length
  obtain⟨o,ho,hc,n,hd⟩:=pl.isList
  exact call_list_seq p (.inl rfl) ho hc hd (fun h' c' kp e=>fin its r' hz h' c' kp e) (by simp only[U0j]<;>omega)
 .obtain⟨its,r',pl,hz⟩:=I.tuple hq
  have hlen:=r'.length
  obtain⟨o,ho,hc,n,hd⟩:=pl
  exact call_list_seq p (.inr rfl) ho hc hd (fun h' c' kp e=>fin its r' hz h' c' kp e) (by simp only[U0j]<;>omega)
def tyV(K:U0a)(T:String)(x:V)(H:Hp):Prop:=match x with
 |.str _=>T="str"
 |.int _=>T="int"
 |.ref p=>(T="list"/\∃xs,SqL K H p xs)∨(T="tuple"/\∃o,K.lookup p=some o/\o.cls=.type "tuple"/\o.dict=none) ∨
   (T="dict"/\((∃kvs,H p=some (.dK kvs))∨∃kvs,H p=some (.dT kvs)))∨(T="set"/\∃S n,H p=some (.set S n))
 |_=>False
theorem g8{pins:List (Addr×Obj)}{σ:St}{H:Hp}{s:Shared}{T:String}{x:V}{v:Value}(I:Inv X pins σ H s)(r:RelV x v)(ty:tyV X.K T x H) :
  s.TypeIs v T/\∀a,v=.ref a->∃ob,s.heap.get? a=some ob/\ob.dict=none:=by
 cases x with
 |str z =>
  obtain⟨t,rfl⟩:=r
  cases (show T="str" from ty)
  exact⟨typeIs_str s z t,fun _ e=>nomatch e⟩
 |int i =>
  obtain⟨t,rfl⟩:=r
  cases (show T="int" from ty)
  exact⟨typeIs_int s i t,fun _ e=>nomatch e⟩
 |ref p =>
  cases r
  rcases ty with ⟨rfl,xs,hq⟩|⟨rfl,o,hk,hc,hd⟩|⟨rfl,hk⟩|⟨rfl,S,n,hk⟩
  .obtain⟨its,_,pl,_⟩:=I.list hq
   refine⟨pl.isList.typeIs,fun a e=>?_⟩
   cases e
   obtain⟨o,n,e,c,hd,_⟩:=pl
   exact⟨o,e,hd⟩
  .refine⟨⟨o,I.kIn p o hk,hc⟩,fun a e=>?_⟩
   cases e
   exact⟨o,I.kIn _ o hk,hd⟩
  .have z:∃o,s.heap.get? p=some o/\o.ExactDict:=by
    rcases hk with ⟨kvs,hk⟩|⟨kvs,hk⟩
    .obtain⟨_,_,_,_,o,_,_,e,ex,_⟩:=I.hok p _ hk
     exact⟨o,e,ex⟩
    .obtain⟨_,_,_,_,o,_,_,e,ex,_⟩:=I.hok p _ hk
     exact⟨o,e,ex⟩
   obtain⟨o,e,ex⟩:=z
   refine⟨⟨o,e,ex.1⟩,fun a e2=>?_⟩
   cases e2
   exact⟨o,e,ex.2.1⟩
  .obtain⟨o,_,_,_,e,ex,_⟩:=I.hok p _ hk
   refine⟨⟨o,e,ex.1⟩,fun a e2=>?_⟩
   cases e2
   exact⟨o,e,ex.2.1⟩
 |_=>exact U32 ty
def tBM(K:U0a)(T:String)(r:V->List V->Hp->VK->Prop)(to:TE)(t:TA):TE:=fun σ H Q=>to σ H fun x H1=>tyV K T x H1/\t σ H1 fun xs H2=>r x xs H2 Q
variable{o e:Expr}{es:List Expr}{to:TE}{t:TA}{name:Str}{apos cpos:Pos}{T id:String}{r:V->List V->Hp->VK->Prop}
theorem ju(pa:PlainAttrs T)(slot:Slot T name id)(hty:typeOf (.builtin id)=pure (.type "method_descriptor"))(hm:MtR X id r)(ho:PE X o to)(ha:PA X (e::es) t)
  (hbase:attributeBase o name X.env (eval o X.env)=eval o X.env:=by rfl)
  (hfew:((backTo cpos (starEach (e::es) X.env)).all (fun x=>!x.1)&&(backToKw cpos (keywordEach [] X.env)).all (fun x=>x.1.isSome)
   && decide ((e::es).length+([]:List Keyword).length+(if ([]:List Keyword).isEmpty then 0 else 1)<30))=true:=by rfl)
  (hline:(apos.endLine==cpos.line)=true:=by rfl) (hs:starEach (e::es) X.env=(false,eval e X.env)::starEach es X.env:=by rfl) (hplain:(backTo cpos (starEach es X.env)).any (·.1)=false:=by rfl) :
  PE X (.Call (.Attribute o name apos) (e::es) [] cpos) (tBM X.K T r to t):=by
 intro pins s σ H Q I h
 refine wpAny_Call_method_late hbase hfew hline rfl (thn (ho pins s σ H _ I h) fun v s1 ⟨x,H1,I1,r1,ty,q1⟩=>?_)
 obtain⟨h1,h2⟩:=g8 I1 r1 ty
 refine⟨T,id,pa,slot,hty,h1,h2,?_⟩
 have hA:=ha cpos pins s1 σ H1 _ I1 q1
 rw[hs] at hA ⊢
 refine Calls.callWith_builtin (by show(false||(backTo cpos (starEach es X.env)).any (·.1))=false;rw[hplain]<;>rfl) (Calls.evalArgs_plain ?_)
 exact thn hA fun us s2 ⟨vs,H2,I2,r2,q2⟩=>hm pins s2 σ H2 x vs v us Q I2 r1 r2 q2
/- xs.append(e), list.index on a module's tuple .. are MtR facts of 06m -/
end
end L2
namespace L2
open PySem PySem.Spec PyProof.Rows
def MtM(X:Cx)(id:String)(r:V->List V->Hp->VK->Prop):Prop :=
 ∀(pins:List (Addr×Obj))(s:Shared)(σ:St)(H:Hp)(x:V)(xs:List V)(v:Value)(us:List Value)(Q:VK),Inv X pins σ H s->RelV x v->Vals xs us->r x xs H Q ->
  wpAny (model X.prog X.w) X.A (call (.builtin id) (v::us)) (EP X pins σ Q) X.xe s
theorem Vals.one:∀{x:V} {us:List Value},Vals [x] us->∃u,us=[u]/\RelV x u
 |_,_,.cons r .nil=>⟨_,rfl,r⟩
theorem Vals.rep{xs:List V}{us:List Value}(h:Vals xs us):∀k:Nat,Vals (U0p k xs).flatten (U0p k us).flatten
 |0=>.nil
 |k+1=>by
  rw[U02,U02,U2i,U2i]
  exact Vals.append h (Vals.rep h k)
theorem foldl_rep(its:List Value):∀(k:Nat)(acc:List Value),
  U5t (fun x1 x2=>x1++x2) acc.toArray (U0p k its.toArray)=(acc++(U0p k its).flatten).toArray
 |0,acc=>by simp
 |k+1,acc=>by
  have e:acc.toArray++its.toArray=(acc++its).toArray:=by simp
  have e2:(acc++its)++(U0p k its).flatten=acc++(U0p (k+1) its).flatten:=by
   rw[U02,U2i,U0w]
  rw[←e2,←foldl_rep its k (acc++its),←e,U02,U22]
section
variable{X:Cx}{pins:List (Addr×Obj)}{σ:St}{H:Hp}{s:Shared}{l b:Addr}{xs ys zs:List V}
theorem Inv.mK{its its':List Value}{n:Nat}{f:Array Value->Array Value}{t':Nat}(I:Inv X pins σ H s)(hH:H l=some (.lst xs))
  (e:s.heap.get? l=some { cls:=.type "list",data:=.seq its.toArray n }) (hf:f its.toArray=its'.toArray) (hv:Vals ys its') (hz:ys.length<=sizeLine) :
  Inv X pins σ (upd H l (.lst ys)) { s with heap:=s.heap.update l (U2h f),toks:=t' }:=by
 have q:=PySem.IsL.update e f
 rw[hf] at q
 refine I.write (x:=l) (e:=l) (by rw[hH];exact trivial) (.inl rfl) (fun b' u hb hu=>(U0z s.heap (U2h f) (U3l hb)).trans hu) ⟨_,q⟩ ?_
 exact⟨hz,its',_,hv,q⟩
theorem Inv.fW{its:List Value}{t':Nat}(I:Inv X pins σ H s)(hv:Vals ys its)(hz:ys.length<=sizeLine) :
  Inv X pins σ (upd H s.heap.objs.size (.lst ys)) { s with heap:=s.heap.push { cls:=.type "list",data:=.seq its.toArray },toks:=t' } :=
 I.laid (fun _ _ q=>U0d _ q) (U0l _) ⟨hz,its,0,hv,U0r _ rfl⟩
theorem Inv.fresh(I:Inv X pins σ H s):H s.heap.objs.size=none:=I.hok.fresh (U0l _)
theorem Inv.W4(I:Inv X pins σ H s)(hH:H l=some (.lst xs)):xs.length<=sizeLine/\∃(its:List Value)(n:Nat),Vals xs its/\xs.length=its.length/\s.heap.get? l=some { cls:=.type "list",data:=.seq its.toArray n }:=by
 obtain⟨z,its,n,r,e⟩:=I.hok l _ hH
 exact⟨z,its,n,r,r.length,e⟩
theorem ZR{n:Nat}(h:n<=sizeLine):U48 n=false:=by
 unfold U48
 exact decide_eq_false (by omega)
end
section
variable{X:Cx}
def Vf:V->List V->Hp->VK->Prop:=fun x vs H Q=>∃l xs y,x=.ref l/\vs=[y]/\H l=some (.lst xs)/\xs.length<sizeLine/\Q .non (upd H l (.lst (xs++[y])))
theorem IV:MtM X "list.append" Vf:=by
 intro pins s σ H x vs v us Q I rx rv h
 obtain⟨l,xs,y,rfl,rfl,hH,hz,q⟩:=h
 cases rx
 obtain⟨u,rfl,ru⟩:=rv.one
 obtain⟨z,its,n,r,hl,e⟩:=I.W4 hH
 refine call_meets F.slot_list_append ⟨_,e,rfl⟩ F.entry_list_append (F.args_list_append_2 _ _) (PySem.list_append l its.toArray n u (by rw[U0j];omega)) ⟨e,?_⟩
 refine⟨.non,_,I.mK (its':=its++[u]) hH e (by simp) (r.append (.cons ru .nil)) ?_,rfl,q⟩
 rw[U0i,U29]
 omega
def fQ:R2:=fun x y H Q=>∃l b xs zs,x=.ref l/\y=.ref b/\H l=some (.lst xs)/\H b=some (.lst zs)/\xs.length+zs.length<=sizeLine/\∀p,H p=none->Q (.ref p) (upd H p (.lst (xs++zs)))
theorem iI:OpR X (binaryOp .Add) fQ:=by
 intro pins s σ H x y v u Q I rx ry h
 obtain⟨l,b,xs,zs,rfl,rfl,hH,hB,hz,q⟩:=h
 cases rx
 cases ry
 obtain⟨z,its,n,r,hl,e⟩:=I.W4 hH
 obtain⟨z2,its2,n2,r2,hl2,e2⟩:=I.W4 hB
 refine PySem.P.add_list e e2 ?_ (by rw[U0j,U0j];omega)
 have ea:its.toArray++its2.toArray=(its++its2).toArray:=by simp
 rw[ea]
 exact⟨.ref _,_,I.fW (t':=s.toks) (r.append r2) (by rw[U0i];omega),rfl,q _ I.fresh⟩
def fK:R2:=fun x y H Q=>∃l k xs,x=.ref l/\y=.int k/\H l=some (.lst xs)/\-(2^63)<=k/\k<2^63/\xs.length*k.toNat<=sizeLine /\
 ∀p,H p=none->Q (.ref p) (upd H p (.lst (U0p k.toNat xs).flatten))
theorem len_rep{α:Type}(xs:List α)(k:Nat):(U0p k xs).flatten.length=k*xs.length:=by
 induction k with
 |zero=>simp
 |succ k ih=>rw[U02,U2i,U0i,ih,Nat.succ_mul,Nat.add_comm]
theorem iC:OpR X (binaryOp .Mult) fK:=by
 intro pins s σ H x y v u Q I rx ry h
 obtain⟨l,k,xs,rfl,rfl,hH,h1,h2,hz,q⟩:=h
 cases rx
 obtain⟨t,rfl⟩:=ry
 obtain⟨z,its,n,r,hl,e⟩:=I.W4 hH
 have hlen:its.toArray.size*k.toNat<=sizeLine:=by rw[U0j,←hl];exact hz
 have hcap:¬its.toArray.size*k.toNat>(2^63-1)/8:=by
  have:(sizeLine:Nat)<=(2^63-1)/8:=by decide
  omega
 have hfit:¬(!Builtin.List.listFitsIndex k)=true:=by
  rw[fitsIndex_both h1 h2]
  exact U06
 have hlong:¬U48 (its.toArray.size*k.toNat)=true:=by
  rw[ZR hlen]
  exact U06
 have hnew:U5t (fun x1 x2=>x1++x2) #[] (U0p (if its.toArray.isEmpty=true then 0 else k.toNat) its.toArray)=(U0p k.toNat its).flatten.toArray:=by
  have f0:∀m:Nat,U5t (fun x1 x2=>x1++x2) #[] (U0p m its.toArray)=(U0p m its).flatten.toArray:=fun m=>by
   have:=foldl_rep its m []
   rw[U1y] at this
   exact this
  rw[f0]
  cases its with
  |nil=>simp
  |cons a r'=>rw[if_neg (by simp)]
 refine wpAny_binaryOp_repeat_ref (T:="list") (U:="int") (by decide) ⟨_,e,rfl⟩ (fun s'=>typeIs_int s' k t) noFill_list_mul F.fills_int_mul F.slot_int_rmul repeat_list F.slot_int_index.lookup
  (call_meets F.slot_int_rmul (typeIs_int s k t) F.entry_int_rmul (F.args_int_rmul_2 _ _) (int___rmul___int_list k t l its.toArray n)
   ⟨e,rfl,⟨_,e,rfl⟩,call_meets F.slot_list_mul ⟨_,e,rfl⟩ F.entry_list_mul (F.args_list_mul_2 _ _) (AutoListH.list___mul___list_int_3 l its.toArray n k t hfit hcap hlong) ⟨e,?_⟩⟩)
 rw[hnew]
 exact⟨.ref _,_,I.fW (t':=s.toks) (r.rep k.toNat) (by rw[len_rep,U62];exact hz),rfl,q _ I.fresh⟩
end
section
variable{prog:Program}{w:World}{A:Around}{E:Value->Shared->Prop}{s:Shared}
set_option maxRecDepth 100000 in
end
section
variable{X:Cx}
end
end L2
namespace Att
open PySem PySem.W PySem.Calls PyProof.Rows
theorem Qm{P:Params}{h:Heap}:∀(ns:List Int)(vs:List Value),WellAll P h vs (ns.map WData.int)->IntsAre vs ns:=by
 intro ns
 induction ns with
 |nil =>
  intro vs w
  rw[U1m] at w
  cases w
  exact .nil
 |cons n ns ih =>
  intro vs w
  rw[U0n] at w
  cases w with
  |cons a b =>
   cases a
   exact .cons _ _ (ih _ b)
theorem Xr{l:OpenLaw}{n:Nat}(hn:l.most=some n){P:Params}{h:Heap}{args:List WData}{vals:List Value}
  (hpre:l.row.toRowW.claim.pre args=true) (hwl:WellAll P h vals args) :
  ∃a vs ns,vals=[U28 a]/\args=[WData.list (ns.map WData.int)]/\h.get? a=some { cls:=.type "list",data:=.seq vs.toArray }/\IntsAre vs ns/\ns.length<=n:=by
 have hsh:WShape.hasAll [] args [.list .int]=true:=(pre_splitW hpre).1
 have hc:l.pre.holds [] { args:=args }=true:=(pre_splitW hpre).2
 obtain⟨d,r,rfl,h1,h2⟩:=hasAllW_cons hsh
 obtain rfl:=hasAllW_nil h2
 obtain⟨xs,rfl,h3⟩:=hasW_list h1
 obtain⟨ns,rfl⟩:=items_int h3
 have hlen:ns.length<=n:=by
  unfold OpenLaw.pre at hc
  have h4:(WTm.not (.lt (.lit (.int (n:Int))) (.len (.arg 0)))).holds [] { args:=[.list (ns.map .int)] }=true:=by
   have h4:=(holds_andW hc).1
   rw[hn] at h4
   exact h4
  have h5:=condW_of h4 (w_not (w_lt w_lit (w_len_list (w_arg rfl))))
  rw[U0g] at h5
  refine Nat.le_of_not_lt fun q=>?_
  have q':(n:Int)<((ns.length:Nat):Int):=by omega
  first
   |(rw[decide_eq_true q'] at h5;exact absurd h5 (by decide))
   |(simp at h5;omega)
 cases hwl with
 |cons w1 w2 =>
  cases w2
  cases w1 with
  |list ho hall=>exact⟨_,_,ns,rfl,rfl,ho,Qm ns _ hall,hlen⟩
theorem Xw(l:OpenLaw)(args:List WData):l.row.toRowW.claim.post args (.bool true) args=true :=
 postW_of (r:=l.row.toRowW) (X:=(true==true))
  (show WShape.has [] (.bool true) .bool=true by first|rfl|decide|simp[WShape.has,WShape.arms,WShape.armsAll])
  (show(WTm.eq .res (.lit (.bool true))).value [] { args:=args,res:=some (.bool true),after:=args }=some (.bool (true==true)) from w_eq_bool (w_res rfl) w_lit) rfl
theorem Wk{R:WRecords}{cl:Str->Option Addr}{h:Heap}{a:Addr}{ds:List WData}{as:List Addr}(r:ReadsAllW R cl h [.ref a] [.list ds] as)(lo:∀b∈as,(b==sysModules)=false):a≠sysModules:=by
 cases r with
 |cons r1 _ =>
  cases r1 with
  |list _ _ _ _=>exact fun z=>by have:=lo a (by simp);rw[z] at this;simp at this
theorem VD{l:OpenLaw}{n:Nat}{q:Program}{loose:List Str}{XP:(Str->Option Value)->Heap->Prop}{YP:World->Heap->Prop}{d:DefRec}
  (hn:l.most=some n) (hdf:d.params.defaults=[])
  (call:∀(w:World)(s₀ s₁:Shared)(mg mb:Str->Option Value)(fa:Addr)(o:Obj)(pm cd doc:Value)(a:Addr)(vs:List Value)(ns:List Int),
   Ground q loose [] XP w s₀ mg mb s₁.heap->YP w s₁.heap ->
   s₁.heap.get? fa=some o->o.data=.func (docDef d.name d.params d.body d.scope pm cd doc)->s₁.heap.CodeRec cd d.name->mg d.name=some (.ref fa) ->
   s₁.heap.get? a=some { cls:=.type "list",data:=.seq vs.toArray }->IntsAre vs ns->ns.length<=n->a≠sysModules->s₁.gens=#[] ->
   codeAny (model l.prog w) callerA (.call (.ref fa) ⟨[.ref a],[]⟩) (fun r s'=>r=.ok (.ret (.bool true))/\OldK s₁.heap s'.heap/\s'.os=s₁.os/\AllBare s'.gens) s₁) :
  WalkO q loose XP YP l.row.toRowW d [] (fun f vs=>U6v f vs):=by
 intro w s₀ s₁ mg mb G Y fa o pm cd doc dV kV ho hd hcd hD hmg hg args vals as hpre hlay hrd hwl hlo
 obtain rfl:dV=.none:=Dflts.none hD hdf
 obtain rfl:kV=.none:=Dflts.noKw hD
 obtain⟨a,vs,ns,rfl,rfl,hobj,hints,hlen⟩:=Xr hn hpre hwl
 refine enter_call (codeAny_mono (call w s₀ s₁ mg mb fa o pm cd doc a vs ns G Y ho (fd_plain hd) hcd hmg hobj hints hlen (Wk hrd hlo) hg) fun r s' hq=>?_)
 obtain⟨rfl,h2,h3,h4⟩:=hq
 exact⟨.inl ⟨.bool true,.bool true,[],rfl,fun _=>rfl,.bool true,Xw l _,fun _=>⟨U58,fun _ hm=>(nomatch hm)⟩⟩,h2,h3,h4⟩
section
variable{prog:Program}{w:World}{A:Around}{E:Value->Shared->Prop}{s:Shared}{K:Frag}
end
end Att
namespace L2
open PySem PySem.Spec PyProof.Rows
theorem Np:∀{vs:List Value} {ns:List Int},IntsAre vs ns->Vals (ns.map V.int) vs
 |_,_,.nil=>.nil
 |_,_,.cons n t h=>.cons ⟨t,rfl⟩ (Np h)
def Only(H:Hp):Prop:=∀b,H b=none∨∃o xs,H b=some (.frz o (.lst xs))
theorem Zc{P:Program}{w:World}{K:U0a}{mg mb:Str->Option Value}{CX:CXT}{k:Nat}{fa a:Addr}{fd:FuncData}{x:Str}{sp:Sp}{s₁:Shared}{vs:List Value}{ns:List Int}
  (KX:K.In s₁.heap) (hns:s₁.heap.Ns mainGlobals mg) (hb:s₁.heap.Ns builtinsNs mb) (hbb:∀x:Str,x≠"__name__"->mb x=bootBuiltins x) (hlim:s₁.heap.NoLimit) (hg:s₁.gens=#[])
  (ha:s₁.heap.get? a=some { cls:=.type "list",data:=.seq vs.toArray }) (hi:IntsAre vs ns) (hl:ns.length<=sizeLine) (hasy:a≠sysModules) (hr:Dm k callerA)
  (F:∀base:Heap,K.In base->base.Ns mainGlobals mg->Ci P w K mg base CX k fa fd [x] sp) (hbind:∀(s:Shared)(u:Value),BindsTo s fd ⟨[u],[]⟩ [(x,u)])
  (hsp:∀H:Hp,Only H->SqL K H a (ns.map V.int)->sp [.ref a] H (fun v _=>v=.bl true) fun _ _ _=>False)
  (hCX:∀H e s',CX [] H s₁ (fun _ _ _=>False) e s'->False) :
  codeAny (model P w) callerA (.call (.ref fa) ⟨[.ref a],[]⟩) (fun r s'=>r=.ok (.ret (.bool true))/\OldK s₁.heap s'.heap/\s'.os=s₁.os/\AllBare s'.gens) s₁:=by
 have rv:=Np hi
 have lenV:=hi.length
 -- from an abstract heap in which nothing but the script may be tracked
 have core:∀H:Hp,Only H->SqL K H a (ns.map V.int)->HOk P w H s₁.heap->(∀b,H b≠none->b=a)->(H a≠none->K.lookup a=none) ->
   codeAny (model P w) callerA (.call (.ref fa) ⟨[.ref a],[]⟩) (fun r s'=>r=.ok (.ret (.bool true))/\OldK s₁.heap s'.heap/\s'.os=s₁.os/\AllBare s'.gens) s₁:=by
  intro H hO hS hok hA hK
  have base_of:∀{b:Addr} {o:Obj},s₁.heap.get? b=some o->H b=none->(M6 s₁.heap H).get? b=some o:=fun e n=>Zi e n
  have noA:∀{b:Addr} {o:Obj} {es:Array DictEntry} {ep:Nat},s₁.heap.get? b=some o->o.data=.dict es ep->H b=none:=fun {b o es ep} e d=>by
   cases q:H b with
   |none=>rfl
   |some u =>
    have e':b=a:=hA b (by rw[q];simp)
    subst e'
    rw[ha] at e;cases e
    have d':Data.seq vs.toArray _=Data.dict es ep:=d
    cases d'
  have nsK:∀{b:Addr} {m:Str->Option Value},s₁.heap.Ns b m->(M6 s₁.heap H).Ns b m:=fun {b m} ⟨o,es,ep,e,d,r⟩=>⟨o,es,ep,base_of e (noA e d),d,r⟩
  have hKb:K.In (M6 s₁.heap H):=fun b o e=>base_of (KX b o e) (by
   cases q:H b with
   |none=>rfl
   |some u =>
    have e':b=a:=hA b (by rw[q];simp)
    subst e'
    rw[hK (by rw[q];simp)] at e;cases e)
  have hM:Mod K mg (M6 s₁.heap H):=⟨hKb,nsK hns,⟨mb,nsK hb,hbb⟩,let ⟨mc,h1,h2⟩:=hlim;⟨mc,nsK h1,h2⟩⟩
  have e0:W7 P w K mg (M6 s₁.heap H) callerA [] s₁ H:=⟨rfl,hM,fun b o e=>bf e,U63 (YF _ _),trivial,fun b hb=>absurd (show b∈([]:List Addr) from hb) (by simp),hok,.of_eq hg,Classical.byContradiction fun z=>hasy (hA _ z).symm⟩
  refine codeAny_mono ((F _ hKb (nsK hns)).run callerA [] s₁ H ⟨[.ref a],[]⟩ [.ref a] [.ref a] _ _ hr e0 (hbind s₁ (.ref a)) (.cons rfl .nil) (hsp H hO hS)) fun r s' h=>?_
  cases r with
  |error e=>exact(hCX H e s' h).elim
  |ok fl =>
   cases fl with
   |next=>exact U32 h
   |brk=>exact U32 h
   |cont=>exact U32 h
   |ret u =>
    obtain⟨v,H',os,bare,un,hok',r',q⟩:=h
    have q':v=.bl true:=q
    subst q'
    obtain rfl:u=U4c true:=r'
    refine⟨rfl,OldK.of_keep fun b o e=>?_,os,bare⟩
    cases q:H b with
    |none=>exact un.keep b o e q (by intro z;exact absurd (show b∈([]:List Addr) from z) (by simp)) (by simp)
    |some u =>
     rcases hO b with z|⟨ob,xs,z⟩
     .rw[q] at z;cases z
     .have z2:=un.frzs b ob _ z
      obtain⟨e1,_⟩:=hok b _ z
      obtain⟨e2,_⟩:=hok' b _ z2
      rw[e] at e1;cases e1
      exact e2
 cases hk:K.lookup a with
 |some o =>
  -- the script is one of the module's own objects
  have e:=KX a o hk
  rw[ha] at e
  cases e
  refine core (fun _=>none) (fun _=>.inl rfl) (.inr ⟨_,vs.toArray,_,hk,rfl,rfl,rfl,by rw[U0j,lenV];exact hl,by simpa using rv⟩) (fun b u z=>by have z':(none:Option HO)=some u:=z;cases z') (fun b z=>absurd rfl z) fun z=>absurd rfl z
 |none =>
  refine core (fun b=>if b=a then some (.frz { cls:=.type "list",data:=.seq vs.toArray } (.lst (ns.map V.int))) else none) (fun b=>?_) (.inl (.inr ⟨{ cls:=.type "list",data:=.seq vs.toArray },if_pos rfl⟩)) (fun b u z=>?_) (fun b z=>?_) fun _=>hk
  .by_cases hb:b=a
   .exact .inr ⟨_,_,if_pos hb⟩
   .exact .inl (if_neg hb)
  .by_cases hb:b=a
   .have z':=(if_pos hb).symm.trans z
    cases z'
    subst hb
    exact⟨ha,by rw[U0g];exact hl,vs,_,rv,ha⟩
   .have z':=(if_neg hb).symm.trans z
    cases z'
  .by_cases hb:b=a
   .exact hb
   .exact absurd (if_neg hb) z
end L2
namespace L2
open PySem PySem.Spec PyProof.Rows
abbrev KOf{K:U0a}{h:Heap}(_:K.In h):U0a:=K
theorem walk_of{l:U5u}{n k:Nat}{q:Program}{loose:List Str}{XP:(Str->Option Value)->Heap->Prop}{YP:World->Heap->Prop}{d:DefRec}{K:Params->U0a}{CX:World->CXT}{sp:World->Sp}{x:Str}
  (hn:l.most=some n) (hn2:n<=sizeLine) (hdf:d.params.defaults=[]) (hr:Dm k callerA)
  (hY:∀(w:World)(h:Heap),YP w h->(K w.params).In h)
  (F:∀(w:World)(mg:Str->Option Value)(fa:Addr)(h:Heap),(K w.params).In h->h.Ns mainGlobals mg->mg d.name=some (.ref fa) ->
   ∃fd:FuncData,(∀(s:Shared)(u:Value),BindsTo s fd ⟨[u],[]⟩ [(x,u)]) /\
    ∀base:Heap,(K w.params).In base->base.Ns mainGlobals mg->Ci l.prog w (K w.params) mg base (CX w) k fa fd [x] (sp w))
  (hsp:∀(w:World)(H:Hp)(a:Addr)(ns:List Int),ns.length<=n->Only H->SqL (K w.params) H a (ns.map V.int)->sp w [.ref a] H (fun v _=>v=.bl true) fun _ _ _=>False)
  (hCX:∀(w:World)(H:Hp)(s:Shared)(e:Value)(s':Shared),CX w [] H s (fun _ _ _=>False) e s'->False) :
  U6y q loose XP YP l.row.toRowW d [] (fun f vs=>U6v f vs):=by
 refine Att.VD hn hdf fun w s₀ s₁ mg mb fa o pm cd doc a vs ns G Y ho hd hcd hmg hobj hints hlen hasy hg=>?_
 have KX:=hY w _ Y
 obtain⟨fd,hb,hF⟩:=F w mg fa _ KX G.T.g hmg
 exact Zc KX G.T.g G.T.b G.T.builtins G.T.nolimit hg hobj hints (U08 hlen hn2) hasy hr hF hb (fun H hO hS=>hsp w H a ns hlen hO hS) fun H e s'=>hCX w H s₁ e s'
theorem Yw{l:U5u}{n k:Nat}{q:Program}{loose:List Str}{XP:(Str->Option Value)->Heap->Prop}{YP:World->Heap->Prop}{d:DefRec}{K:Params->U0a}{CX:CXT}{sp:U0a->Sp}{x:Str}
  (hn:l.most=some n) (hn2:n<=sizeLine) (hdf:d.params.defaults=[]) (hr:Dm k callerA)
  (hY:∀(w:World)(h:Heap),YP w h->(K w.params).In h)
  (F:∀(w:World)(mg:Str->Option Value)(fa:Addr)(h:Heap),(K w.params).In h->h.Ns mainGlobals mg->mg d.name=some (.ref fa) ->
   ∃fd:FuncData,(∀(s:Shared)(u:Value),BindsTo s fd ⟨[u],[]⟩ [(x,u)]) /\
    ∀base:Heap,(K w.params).In base->base.Ns mainGlobals mg->Ci l.prog w (K w.params) mg base CX k fa fd [x] (sp (K w.params)))
  (hsp:∀(K:U0a)(H:Hp)(a:Addr)(ns:List Int),ns.length<=n->Only H->SqL K H a (ns.map V.int)->sp K [.ref a] H (fun v _=>v=.bl true) fun _ _ _=>False)
  (hCX:∀(H:Hp)(s:Shared)(e:Value)(s':Shared),CX [] H s (fun _ _ _=>False) e s'->False) :
  U6y q loose XP YP l.row.toRowW d [] (fun f vs=>U6v f vs) :=
 walk_of (K:=K) (CX:=fun _=>CX) (sp:=fun w=>sp (K w.params)) hn hn2 hdf hr hY F (fun w H a ns h1 h2 h3=>hsp (K w.params) H a ns h1 h2 h3) fun _ H s e s'=>hCX H s e s'
end L2
/- THE LAST THEOREM (shape; LID, My.* are yours):
   My.Adr: a structure of the addresses that your layer names (classes, functions); My.Txt K t: a structure (Prop) of the equations over K;
   My.txt_mk : {K} {implicit addresses ..} (e1 : nsIn K mainGlobals "law" = some (some (.ref f))) (e2 : K.lookup f = some ⟨oc, od, .func (fnOf "law" "law" params body scope dV kV doc pm an cdv ct), sl⟩) (e3 : codeIn K cdv "law" = true) .. : ∃ t, My.Txt K t

set_option maxRecDepth 100000 in
set_option maxHeartbeats 0 in
theorem PySem.Challenge.cw_LID_holds : PySem.Challenge.rw_LID.Holds := by
  w_on; o_law; k_head; (case hw => w_witness2)
  k_fill
  refine L2.walk_of (l := PySem.Challenge.rw_LID) (n := 63) (k := 40) (x := "script") (CX := fun w => ..) (sp := fun _ => My.sp_law) rfl (by decide) rfl ⟨rfl, by decide, by decide⟩ (fun w h Y => PySem.W.kIn_of Y) ?F ?S ?C
  case F =>
    intro w mg fa h KX G hmg
    have T : ∃ t, My.Txt (L2.KOf KX) t := by
      dsimp only [L2.KOf]                          -- K must stand as «<heap const> w.params» for k_is
      refine' My.txt_mk ?e1 ?e2 ?e3 ..
      (case e1 => PySem.W.k_is)                    -- in the order: a name -> its address -> its object -> its parts
      (case e2 => PySem.W.k_is)
      ..
    obtain ⟨t, T⟩ := T
    have e0 := hmg.symm.trans (PySem.W.mg_of KX G T.law)
    cases e0                                       -- fa is the law's own address
    exact ⟨_, fun s u => .of_eq rfl, fun base kb nb => My.law_fn T kb nb⟩     -- if «.of_eq rfl» comes too early: refine' ⟨_, ?b, fun base kb nb => My.law_fn T kb nb⟩; exact fun s u => .of_eq rfl
  case S => exact fun w H a ns hl hO hS => ..
  case C => exact ..
(the tactic k_is has no namespace: write k_is) -/
namespace L2
open PySem PySem.Spec PyProof.Rows
def CP(s:Stmt):Arguments:=match s with
 |.FunctionDef _ a _ _ _ _ _ _ _ _=>a
 |_=>{ posonlyargs:=[],args:=[],vararg:=none,kwonlyargs:=[],kw_defaults:=[],kwarg:=none,defaults:=[] }
def Bt(s:Stmt):List Stmt:=match s with
 |.FunctionDef _ _ b _ _ _ _ _ _ _=>b
 |_=>[]
def Al(s:Stmt):Scope:=match s with
 |.FunctionDef _ _ _ _ _ _ sc _ _ _=>sc
 |_=>{ kind:=.function,names:=[],isGenerator:=false,isCoroutine:=false }
abbrev CX0:CXT:=fun _ _ _ _ _ _=>False
abbrev E0:XK:=fun _ _ _=>False
theorem jx{X:Cx}:Passes CX0 X E0:=fun _ _ _ _ _ _ _ h=>h.elim
structure Fun(K:U0a)(x qual:Str)(st:Stmt)(f:Addr)(fd:FuncData):Prop where
 ex:∃(oc:Value)(od:Option Addr)(kV doc pm:Value)(an:Option Addr)(cdv ct:Value)(osl:Array (Option Value)),
  fd=U09 x qual (CP st) (Bt st) (Al st) .none kV doc pm an cdv ct/\K.lookup f=some ⟨oc,od,.func fd,osl⟩/\U1a K cdv qual=true
 kp:U05 K (.ref f)=true
section
variable{P:Program}{w:World}{K:U0a}{mg:Str->Option Value}{base:Heap}
theorem Fun.ok{x qual:Str}{st:Stmt}{f:Addr}{fd:FuncData}{N ps:List Str}{k:Nat}{sp:Sp}(F:Fun K x qual st f fd)(S:CQ N ps (Al st))(len:∀vs H Q E,sp vs H Q E->vs.length=ps.length)
  (hbody:∀(cdv:Value)(A:Around)(outer:List Env)(s:Shared)(H:Hp)(vs:List V)(Q:VK)(E:XK),Dm k (A.deeper (envOfC qual (Al st) s.heap.objs.size f cdv))->sp vs H Q E ->
   ∃t,PSs (N7 CX0 P w K mg base N qual (Al st) f cdv A outer s H E).nox (Bt st) t/\t { nx:=fun _ H'=>Q .non H',rt:=Q } (start N vs) H):Ci P w K mg base CX0 (k+1) f fd ps sp:=by
 obtain⟨oc,od,kV,doc,pm,an,cdv,ct,osl,rfl,lk,hcd⟩:=F.ex
 refine lB lk hcd S len fun A outer s H vs Q E hr hsp=>?_
 obtain⟨t,h,q⟩:=hbody cdv A outer s H vs Q E hr hsp
 exact⟨t,h.nox,q⟩
theorem Fun.binds{x qual:Str}{st:Stmt}{f:Addr}{fd:FuncData}{ps:List Str}(F:Fun K x qual st f fd)
  (h:∀(kV doc pm:Value)(an:Option Addr)(cdv ct:Value)(us:List Value),us.length=ps.length->bindArgs (U09 x qual (CP st) (Bt st) (Al st) .none kV doc pm an cdv ct) ⟨us,[]⟩=pure (ps.zip us)):Binds K fd ps []:=by
 obtain⟨oc,od,kV,doc,pm,an,cdv,ct,osl,rfl,lk,hcd⟩:=F.ex
 exact .all (h kV doc pm an cdv ct)
theorem Df{x qual:Str}{st:Stmt}{f:Addr}{oc:Value}{od an:Option Addr}{osl:Array (Option Value)}{kV doc pm cdv ct:Value}(l:K.lookup f=some ⟨oc,od,.func (U09 x qual (CP st) (Bt st) (Al st) .none kV doc pm an cdv ct),osl⟩)
  (c:U1a K cdv qual=true) (k:U05 K (.ref f)=true):Fun K x qual st f (U09 x qual (CP st) (Bt st) (Al st) .none kV doc pm an cdv ct):=⟨⟨oc,od,kV,doc,pm,an,cdv,ct,osl,rfl,l,c⟩,k⟩
end
theorem Xp{n:Nat}(h:n<=1000):n<sizeLine:=U3r h (by decide)
section
variable{X:Cx}
theorem pv(i:Nat){x:Str}{pos:Pos}(hN:X.N[i]?=some x:=by rfl)(hv:Vis X.env.scope x:=by first|exact U64 rfl|exact U6f (U64 rfl)|exact U6f (U6f rfl))(hd:(x==("__debug__":Str))=false:=by decide)
  (hcd:(x==("__classdict__":Str))=false:=by decide):PE X (.Name x pos) (eV i):=XF hN hv hd hcd
end
def Same(H H':Hp):Prop:=∀b o,H b=some o->H' b=some o
theorem Same.refl(H:Hp):Same H H:=fun _ _ h=>h
theorem Same.free{H H':Hp}(e:Same H H'){l:Addr}(h:H' l=Option.none):H l=Option.none:=by
 cases q:H l with
 |none=>rfl
 |some o =>
  rw[e l o q] at h
  cases h
end L2
end
section
namespace SetP
open PySem
def Hq(xs:Array Nat):Prop:=xs.toList.Pairwise (·<·)
theorem Z7:Hq #[]:=U58
theorem Wd(n:Nat):Hq (Array.range n):=by
 unfold Hq
 rw[Array.toList_range]
 exact List.pairwise_lt_range
theorem Hq.lt{xs:Array Nat}(h:Hq xs){i k:Nat}(hik:i<k)(hk:k<xs.size):xs.getD i 0<xs.getD k 0:=by
 have q:=U3a.mp h i k (by rw[U0e];omega) (by rw[U0e];exact hk) hik
 rw[U2n,U2n,U1w (by omega),U1w hk]
 simpa using q
theorem Hq.le{xs:Array Nat}(h:Hq xs){i k:Nat}(hik:i<=k)(hk:k<xs.size):xs.getD i 0<=xs.getD k 0:=by
 rcases Nat.lt_or_eq_of_le hik with z|z
 .exact U2c (h.lt z hk)
 .rw[z];exact U0l _
theorem R9{xs:Array Nat}{j:Nat}(h:Hq xs):∀(fuel lo hi:Nat),lo<=hi->hi<=xs.size->hi-lo<=fuel->(∀i,i<lo->xs.getD i 0<j)->(∀i,hi<=i->i<xs.size->j<=xs.getD i 0) ->
  U4k xs j fuel lo hi<=xs.size/\(∀i,i<U4k xs j fuel lo hi->xs.getD i 0<j)/\∀i,U4k xs j fuel lo hi<=i->i<xs.size->j<=xs.getD i 0
 |0,lo,hi,h1,h2,h3,h4,h5=>by
  have e:lo=hi:=by omega
  subst e
  unfold U4k
  exact⟨h2,h4,h5⟩
 |fuel+1,lo,hi,h1,h2,h3,h4,h5=>by
  unfold U4k
  by_cases hlt:lo<hi
  .rw[if_pos hlt]
   have hm:(lo+hi)/2<hi:=by omega
   have hl:lo<=(lo+hi)/2:=by omega
   have e:xs.getD ((lo+hi)/2) j=xs.getD ((lo+hi)/2) 0:=by
    rw[U2n,U2n,U1w (by omega)]
    rfl
   dsimp only
   rw[e]
   by_cases hc:xs.getD ((lo+hi)/2) 0<j
   .rw[if_pos hc]
    exact R9 h fuel _ hi (by omega) h2 (by omega) (fun i hi'=>U3r (h.le (by omega) (by omega)) hc) h5
   .rw[if_neg hc]
    exact R9 h fuel lo _ (by omega) (by omega) (by omega) h4 (fun i hi' hs=>U08 (Nat.le_of_not_lt hc) (h.le hi' hs))
  .rw[if_neg hlt]
   have e:lo=hi:=by omega
   subst e
   exact⟨h2,h4,h5⟩
theorem Mp{xs:Array Nat}{j:Nat}(h:Hq xs):U1h xs j<=xs.size/\(∀i,i<U1h xs j->xs.getD i 0<j)/\∀i,U1h xs j<=i->i<xs.size->j<=xs.getD i 0:=by
 unfold U1h
 exact R9 h xs.size 0 xs.size (U3c _) (U0l _) (by omega) (fun i hi=>absurd hi (Nat.not_lt_zero _)) fun i h1 h2=>absurd h2 (by omega)
theorem Qk{xs:Array Nat}(h:Hq xs){i:Nat}(hi:i<xs.size):U1h xs (xs.getD i 0+1)=i+1:=by
 obtain⟨a,b,c⟩:=Mp (j:=xs.getD i 0+1) h
 generalize U1h xs (xs.getD i 0+1)=r at a b c
 rcases Nat.lt_trichotomy r (i+1) with z|z|z
 .have:=c i (by omega) hi;omega
 .exact z
 .have h1:=b (i+1) z
  have h2:xs.getD i 0<xs.getD (i+1) 0:=h.lt (U4t i) (by omega)
  omega
theorem Qj{xs:Array Nat}(h:Hq xs):U1h xs 0=0:=by
 obtain⟨a,b,c⟩:=Mp (j:=0) h
 generalize U1h xs 0=r at a b c
 cases r with
 |zero=>rfl
 |succ r=>exact absurd (b 0 (by omega)) (Nat.not_lt_zero _)
theorem V1{xs:Array Nat}{j:Nat}(h:Hq xs)(hn:xs[U1h xs j]?≠some j):Hq (SetTable.insertAt xs (U1h xs j) j):=by
 obtain⟨a,b,c⟩:=Mp (j:=j) h
 unfold Hq
 rw[SetTable.toList_insertAt]
 generalize U1h xs j=p at a b c hn
 have getT:∀i,i<xs.size->xs.toList[i]?=some (xs.getD i 0):=fun i hi=>by
  rw[U2a,U2n,U1w hi];rfl
 refine U1e.mpr ⟨h.sublist (U5i _ _),U3s.mpr ⟨fun y hy=>?_,h.sublist (U59 _ _)⟩,fun x hx y hy=>?_⟩
 .obtain⟨i,hi⟩:=U3w.mp hy
  rw[U52] at hi
  have hlt:p+i<xs.size:=by
   have:=(U0h.mp hi).1
   rwa [U0e] at this
  rw[getT _ hlt] at hi
  have e:=U0x hi
  have h1:=c (p+i) (U5o _ _) hlt
  rw[←e]
  rcases Nat.lt_or_eq_of_le h1 with z|z
  .exact z
  .exfalso
   have hp:p<xs.size:=by omega
   have h2:=c p (U0l _) hp
   have h3:=h.le (U5o p i) hlt
   have h4:xs.getD p 0=j:=by omega
   apply hn
   have:=getT p hp
   rw[U2a] at this
   rw[this,h4]
 .have hxj:x<j:=by
   obtain⟨i,hi⟩:=U3w.mp hx
   have hip:i<p:=by
    have:=(U0h.mp hi).1
    rw[U1i] at this;omega
   rw[List.getElem?_take_of_lt hip] at hi
   have hlt:i<xs.size:=by
    have:=(U0h.mp hi).1
    rwa [U0e] at this
   rw[getT _ hlt] at hi
   rw[←U0x hi]
   exact b i hip
  rcases U0u.mp hy with z|z
  .rw[z];exact hxj
  .obtain⟨i,hi⟩:=U3w.mp z
   rw[U52] at hi
   have hlt:p+i<xs.size:=by
    have:=(U0h.mp hi).1
    rwa [U0e] at this
   rw[getT _ hlt] at hi
   rw[←U0x hi]
   exact U03 hxj (c (p+i) (U5o _ _) hlt)
def Off(t:SetTable)(j:Nat):Prop:=t.place[U1h t.place j]?≠some j
theorem Ox{t:SetTable}{j:Nat}(h:∀i,t.slot j≠.live i):Off t j:=fun e=>by
 apply h (U1h t.place j)
 unfold SetTable.slot
 dsimp only
 rw[e]
 simp
theorem Nr{t:SetTable}{f:Nat->Int}{h:Int}{j:Nat}{d:Option Nat}:∀(fuel:Nat)(p:SetTable.Probe),(∀d,p.dummy=some d->Off t d)->U6 t f h fuel p=some (.empty j d)->Off t j/\∀d',d=some d'->Off t d'
 |0,_,_,e=>by unfold U6 at e;cases e
 |fuel+1,p,hp,e=>by
  unfold U6 at e
  cases hs:t.slot p.j with
  |empty =>
   rw[hs] at e
   have e':=U0x e
   cases e'
   exact⟨Ox (fun i z=>by rw[hs] at z;exact SetTable.Slot.noConfusion z),hp⟩
  |dummy =>
   rw[hs] at e
   refine Nr fuel _ (fun d' hd=>?_) e
   have hd':(t.advance { p with dummy:=some p.j }).dummy=some p.j:=by
    unfold SetTable.advance;dsimp only;split<;>rfl
   rw[hd'] at hd
   cases hd
   exact Ox fun i z=>by rw[hs] at z;cases z
  |live i =>
   rw[hs] at e
   dsimp only at e
   split at e
   .cases e
   .refine Nr fuel _ (fun d' hd=>hp d' ?_) e
    rw[←hd]
    unfold SetTable.advance
    split<;>rfl
theorem Uo{t:SetTable}{h:Int}{j:Nat}{b:Bool}(e:t.freeSlot h=some (j,b)):Off t j:=by
 unfold SetTable.freeSlot at e
 split at e
 .rename_i j' d q
  unfold U50 at q
  obtain⟨o1,o2⟩:=Nr _ _ (fun d hd=>by unfold SetTable.probeStart at hd;cases hd) q
  have e':=U0x e
  cases d with
  |none=>cases e';exact o1
  |some d=>cases e';exact o2 _ rfl
 .cases e
def TabOk(L:Bool)(t:SetTable):Prop:=Hq t.place/\t.led=L
theorem TabOk.fresh(L:Bool)(f m:Nat):TabOk L (.fresh f m L):=⟨Z7,rfl⟩
theorem TabOk.standIn{L:Bool}{t:SetTable}(h:TabOk L t)(n:Nat):TabOk L (t.standIn n):=⟨Wd n,h.2⟩
theorem TabOk.orStandIn{L:Bool}{t:SetTable}(h:TabOk L t)(n:Nat):TabOk L (t.orStandIn n):=by
 unfold SetTable.orStandIn
 split
 .exact h
 .exact h.standIn n
theorem TabOk.aW{L:Bool}{t:SetTable}(h:TabOk L t)(b:Bool):TabOk L { t with plain:=b }:=h
theorem Wo{L:Bool}{t:SetTable}(h:TabOk L t)(es:Array (Int×Value))(k:Int)(x:Value):TabOk L (layNew t es k x).2.1:=by
 unfold layNew
 split
 .rename_i slot wasDummy q
  exact TabOk.orStandIn (t:=(t.put slot).1) ⟨V1 h.1 (Uo q),h.2⟩ _
 .exact h.standIn _
theorem Pn{α:Type}(g:Nat->Option α):∀l:List Nat,List.Sublist ((l.filterMap fun j=>(g j).map (j,·)).map (·.1)) l
 |[]=>List.Sublist.slnil
 |j::r=>by
  rw[U4y]
  cases hg:g j with
  |none=>exact(Pn g r).cons j
  |some a=>exact(Pn g r).cons_cons j
theorem Ug{L:Bool}{t:SetTable}(h:TabOk L t)(es:Array (Int×Value))(n:Nat):TabOk L (relayAll t es n).2.1:=by
 unfold relayAll
 split
 .rename_i t' order q
  dsimp only
  split
  .unfold SetTable.relaid SetTable.laid at q
   cases ho:SetTable.layClean (SetTable.sizeAbove n-1) (es.map (·.1)) with
   |none=>rw[ho] at q;cases q
   |some owner =>
    rw[ho] at q
    have q':=U0x q
    cases q'
    refine⟨?_,h.2⟩
    show U55 (·<·) (List.toArray _).toList
    exact List.pairwise_lt_range.sublist (Pn (fun j=>owner.getD j none) _)
  .exact h.standIn _
 .exact h.standIn _
end SetP
end
section
set_option maxRecDepth 100000
namespace SetP
open PySem PyProof.Rows
abbrev Ke(w:World):Bool:=!(w.params.followText "set-order")
structure SetT(prog:Program)(w:World)(h:Heap)(a:Addr)(ds:List Int):Prop where
 nd:ds.Nodup
 ex:∃o es ep t,h.get? a=some o/\o.ExactSet/\o.data=.set es ep t/\ElemsOf (intKind prog w) es.toList/\(∀k,decide (k∈ds)=true↔∃e∈es.toList,(intKind prog w).is k e.2=true) /\
  es.size<scanBound/\t.fits es.size=true/\es.size=ds.length/\TabOk (Ke w) t
def Em(ds:List Int)(k:Int):List Int:=if k∈ds then ds else ds++[k]
theorem Q6{ds:List Int}(h:ds.Nodup)(k:Int):(Em ds k).Nodup:=by
 unfold Em
 split
 .exact h
 .rename_i hk
  exact List.nodup_append.mpr ⟨h,by simp,fun a ha b hb=>by rw[U1k] at hb;subst hb;rintro rfl;exact hk ha⟩
theorem RV{ds:List Int}{k j:Int}:j∈Em ds k↔j∈ds∨j=k:=by
 unfold Em
 split
 .rename_i hk
  exact⟨.inl,fun z=>z.elim id fun e=>e ▸ hk⟩
 .rw[U1l,U1k]
theorem Yb(ds:List Int)(k:Int):(Em ds k).length<=ds.length+1:=by
 unfold Em
 split
 .omega
 .rw[U0i,U29];omega
section
variable{prog:Program}{w:World}{A:Around}{E:Value->Shared->Prop}{s:Shared}
theorem SetT.sameBut{h h':Heap}{a:Addr}{ds:List Int}(x:SetT prog w h a ds)(hs:∀o,h.get? a=some o->h'.get? a=some o):SetT prog w h' a ds:=by
 obtain⟨nd,o,es,ep,t,e,r⟩:=x
 exact⟨nd,o,es,ep,t,hs o e,r⟩
theorem SetT.stored{h:Heap}{a:Addr}{o:Obj}{es es':Array (Int×Value)}{ep:Nat}{t t':SetTable}{ds:List Int}(ho:h.get? a=some o)(hex:o.ExactSet)(hd:o.data=.set es ep t)(nd:ds.Nodup)
  (hel:ElemsOf (intKind prog w) es'.toList) (hm:∀k,decide (k∈ds)=true↔∃e∈es'.toList,(intKind prog w).is k e.2=true) (hb:es'.size<scanBound) (hf:t'.fits es'.size=true) (hn:es'.size=ds.length) (ht:TabOk (Ke w) t') :
  (h.update a (Obj.putSet es' t')).get? a=some { o with data:=.set es' (ep+1) t' }/\SetT prog w (h.update a (Obj.putSet es' t')) a ds:=by
 obtain⟨g,_⟩:=SetOf_store (knd:=intKind prog w) ho hex hd hel hm hb hf
 exact⟨g,nd,_,es',ep+1,t',g,hex,rfl,hel,hm,hb,hf,hn,ht⟩
theorem Rp{g:Bool->Sem Unit}(hg:∀(b:Bool)(s₁:Shared)(Q':Unit->Shared->Prop),Q' () s₁->wpAny (model prog w) A (g b) Q' E s₁)
  {a:Addr} {o:Obj} {es es1:Array (Int×Value)} {ep:Nat} {t t2:SetTable} {ds:List Int} (ho:s.heap.get? a=some o) (hex:o.ExactSet) (hd:o.data=.set es ep t) (nd:ds.Nodup)
  (hel:ElemsOf (intKind prog w) es1.toList) (hm:∀k,decide (k∈ds)=true↔∃e∈es1.toList,(intKind prog w).is k e.2=true) (hb:es1.size<scanBound) (hf:t2.fits es1.size=true) (hn:es1.size=ds.length) (ht:TabOk (Ke w) t2)
  {dummy:Bool} {R:Option Bool->Shared->Prop} (h:∀h',U13 a s.heap h'->SetT prog w h' a ds->R (some true) { s with heap:=h' }) :
  wpAny (model prog w) A (do
    storeSet a es1 t2
    if (!dummy&&t2.tooFull)=true then do
      g (relayAll t2 es1 (U34 es1.size)).2.2
      storeSet a (relayAll t2 es1 (U34 es1.size)).1 (relayAll t2 es1 (U34 es1.size)).2.1
      pure (some true)
     else pure (some true)) R E s:=by
 obtain⟨g1,T1⟩:=SetT.stored (prog:=prog) (w:=w) ho hex hd nd hel hm hb hf hn ht
 have sb1:=U14 s.heap a (Obj.putSet es1 t2)
 refine U0 (wpAny_storeSet_of ho hd ?_ (fits_of_scanBound hb))
 split
 .have p:=relayAll_perm t2 es1 (U34 es1.size)
  have f:=relayAll_fits t2 es1 (U34 es1.size)
  have tb:=Ug ht es1 (U34 es1.size)
  generalize relayAll t2 es1 (U34 es1.size)=RR at p f tb
  obtain⟨es2,t3,gave⟩:=RR
  have sz:es2.size=es1.size:=by simpa using p.length_eq
  have T2:=SetT.stored (prog:=prog) (w:=w) (es':=es2) (t':=t3) g1 hex rfl nd (hel.perm p) (fun k=>(hm k).trans ⟨fun⟨e,he,q⟩=>⟨e,p.mem_iff.mpr he,q⟩,fun⟨e,he,q⟩=>⟨e,p.mem_iff.mp he,q⟩⟩)
   (by rw[sz];exact hb) f (by rw[sz];exact hn) tb
  refine U0 (hg _ _ _ (U0 (wpAny_storeSet_of g1 rfl ?_ (fits_of_scanBound (by show es2.size<_;rw[sz];exact hb)))))
  exact U0c (h _ (sb1.trans (U14 _ a _)) T2.2)
 .exact U0c (h _ sb1 T1)
theorem VF{a:Addr}{ds:List Int}{k:Int}{t0:Tok}{Q:Bool->Shared->Prop}(hS:SetT prog w s.heap a ds)(room:ds.length+1<scanBound)
  (h:∀b h',U13 a s.heap h'->SetT prog w h' a (Em ds k)->Q b { s with heap:=h' }):wpAny (model prog w) A (setAddHashed a (.int k t0) ((intKind prog w).hash k)) Q E s:=by
 obtain⟨nd,o,es,ep,t,ho,hex,hd,hel,hm,hb,hf,hn,ht⟩:=hS
 have hkey:(intKind prog w).is k (.int k t0)=true:=intKind_is prog w k t0
 have hsc:(U4r k t0).scannable=true:=rfl
 unfold setAddHashed setAddHashedIn
 refine U2j (U0 (U31 ho hd hf ?_))
 dsimp only
 rw[byScan_of hsc hb hel,if_pos rfl]
 unfold setAddByScan
 refine U0 (U0 (U3p (U0 (wpAny_setScan_of hkey ho hd hf hel ?_))))
 cases hr:List.findIdx? (fun e=>(intKind prog w).is k e.2) es.toList with
 |some j =>
  obtain⟨hj,hpj,_⟩:=List.findIdx?_eq_some_iff_getElem.mp hr
  have hk:k∈ds:=of_decide_eq_true ((hm k).mpr ⟨es.toList[j],U4u hj,hpj⟩)
  refine U0c (U0c ?_)
  have q:=h false s.heap (U13.refl a s.heap) (by
   have e:Em ds k=ds:=by unfold Em;rw[if_pos hk]
   rw[e];exact⟨nd,o,es,ep,t,ho,hex,hd,hel,hm,hb,hf,hn,ht⟩)
  cases s;exact q
 |none =>
  have hk:k ∉ ds:=fun z=>by
   obtain⟨e,he,hp⟩:=(hm k).mp (decide_eq_true z)
   have q:=List.findIdx?_eq_none_iff.mp hr e he
   rw[hp] at q;cases q
  have eA:Em ds k=ds++[k]:=by unfold Em;rw[if_neg hk]
  have p:=layNew_perm t es ((intKind prog w).hash k) (.int k t0)
  have f:=layNew_fits t es ((intKind prog w).hash k) (.int k t0)
  have tb:=Wo ht es ((intKind prog w).hash k) (.int k t0)
  generalize layNew t es ((intKind prog w).hash k) (.int k t0)=LL at p f tb
  obtain⟨es1,t1,dummy,gave⟩:=LL
  dsimp only at p f tb ⊢
  rw[U6a] at p
  have hel1:ElemsOf (intKind prog w) es1.toList:=(hel.push hkey hsc).perm p
  have sz:es1.size=(Em ds k).length:=by
   have q:=p.length_eq
   rw[U0e,U0i,U29,U0e] at q
   rw[q,eA,U0i,U29,hn]
  have hm1:∀j,decide (j∈Em ds k)=true↔∃e∈es1.toList,(intKind prog w).is j e.2=true:=fun j=>by
   rw[←mem_push_iff (S:=fun k'=>decide (k'∈ds)) hkey hm p j]
   simp only[decide_eq_true_eq,Bool.or_eq_true,RV]
  have hb1:es1.size<scanBound:=by rw[sz,eA,U0i,U29];exact room
  refine U0 ?_
  have gw:∀(b:Bool)(s₁:Shared)(Q':Unit->Shared->Prop),Q' () s₁->wpAny (model prog w) A (match b with|true=>rule "set.scan.the-table-gave-way"|false=>pure ()) Q' E s₁:=fun b s₁ Q' q=>by
   cases b
   .exact U0c q
   .exact U3p q
  refine gw _ _ _ ?_
  split
  .refine U0 ?_
   rw[hashByValue_scannable 8 hsc]
   refine U0c (Rp gw ho hex hd (Q6 nd k) hel1 hm1 hb1 ?_ sz ?_ fun h' sb T=>U0c (h true h' sb T))
   .split
    .exact f
    .exact SetTable.fits_plain_off f
   .split
    .exact tb
    .exact tb.aW false
  .refine U0 (U0c ?_)
   rw[if_pos rfl]
   exact Rp gw ho hex hd (Q6 nd k) hel1 hm1 hb1 f sz tb fun h' sb T=>U0c (h true h' sb T)
end
end SetP
end
section
set_option maxRecDepth 100000
namespace SetP
open PySem PyProof.Rows
theorem Rh:entryFor table "set.update.loop"=some Builtin.«set.update.loop»:=entryFor_of_tree (by kernel_rfl)
theorem Nt:plainId "set.update.loop"=true:=by decide +kernel
def once(ns:List Int):List Int:=ns.foldl Em []
theorem Y0(ns:List Int)(k:Int):once (ns++[k])=Em (once ns) k:=by unfold once;rw[U3g];rfl
theorem KH:∀(ns:List Int),(once ns).Nodup/\(once ns).length<=ns.length/\∀j,j∈once ns↔j∈ns:=by
 intro ns
 have all:∀(ns ds:List Int),ds.Nodup->(ns.foldl Em ds).Nodup/\(ns.foldl Em ds).length<=ds.length+ns.length/\∀j,j∈ns.foldl Em ds↔j∈ds∨j∈ns:=by
  intro ns
  induction ns with
  |nil=>intro ds h;exact⟨h,by simp,fun j=>by simp⟩
  |cons n r ih =>
   intro ds h
   obtain⟨a,b,c⟩:=ih (Em ds n) (Q6 h n)
   refine⟨a,?_,fun j=>?_⟩
   .have:=Yb ds n
    rw[U22,U0f];omega
   .rw[U22,c j,RV,U0u]
    constructor
    .rintro((z|z)|z)
     .exact .inl z
     .exact .inr (.inl z)
     .exact .inr (.inr z)
    .rintro(z|z|z)
     .exact .inl (.inl z)
     .exact .inl (.inr z)
     .exact .inr z
 obtain⟨a,b,c⟩:=all ns [] List.nodup_nil
 exact⟨a,by rw[U1b,U37] at b;exact b,fun j=>by rw[show once ns=ns.foldl Em [] from rfl,c j];simp⟩
section
variable{prog:Program}{w:World}{A:Around}{E:Value->Shared->Prop}{s:Shared}
theorem Yx{R:Result->Shared->Prop}{S I l:Addr}{items:Array Value}{ns:List Int}(hh:A.handled=none)(hi:IntsAre items.toList ns)(hb:items.size+1<scanBound)(hSI:S≠I)(hSl:S≠l)(hIl:I≠l) :
  ∀(k i:Nat)(s:Shared),items.size-i=k->i<=items.size->s.heap.IsListIter I l i->s.heap.IsList l items->SetT prog w s.heap S (once (ns.take i)) ->
   (∀h' tk,(∀b o,b≠S->b≠I->s.heap.get? b=some o->h'.get? b=some o)->SetT prog w h' S (once ns)->R (.ok (.ret .none)) { s with heap:=h',toks:=tk }) ->
   codeAny (model prog w) A (.builtin "set.update.loop" ⟨[.ref S,.ref I],[]⟩) R s:=by
 have hlen:items.size=ns.length:=by have:=hi.length;simpa using this
 intro k
 induction k with
 |zero =>
  intro i s hk hi' it il T hR
  have e:i=items.size:=by omega
  subst e
  refine codeAny_builtin Rh ?_
  rw[U2p Nt _]
  show wpAny _ A.in1 (pyNext (.ref I) >>= _) _ _ s
  refine U0 (wpAny_pyNext_list_end hh it il (by simp) fun h' eb=>?_)
  show wpAny _ A.in1 (ret U2s) _ _ _
  refine U0c (hR h' s.toks (fun b o _ hbI q=>eb b o hbI q) ?_)
  rw[U2d (by omega)] at T
  exact T.sameBut fun o q=>eb S o hSI q
 |succ k ih =>
  intro i s hk hi' it il T hR
  have hlt:i<items.size:=by omega
  refine codeAny_builtin Rh ?_
  rw[U2p Nt _]
  show wpAny _ A.in1 (pyNext (.ref I) >>= _) _ _ s
  refine U0 (wpAny_pyNext_list_item it il (x:=items[i]) (by simp[hlt]) fun h1 it1 sb1=>?_)
  have hn:i<ns.length:=by omega
  obtain⟨t0,hv⟩:∃t0,items[i]=.int ns[i] t0:=by
   have all:∀{vs:List Value} {ms:List Int},IntsAre vs ms->∀(j:Nat)(h1:j<vs.length)(h2:j<ms.length),∃t0,vs[j]=.int ms[j] t0:=by
    intro vs ms r
    induction r with
    |nil=>intro j h1;simp at h1
    |cons n t _ ih=>intro j h1 h2;cases j with
     |zero=>exact⟨t,rfl⟩
     |succ j=>exact ih j (by simpa using h1) (by simpa using h2)
   have q:=all hi i (by simpa using hlt) hn
   simpa using q
  rw[hv]
  show wpAny _ A.in1 (holding [U4r ns[i] t0] (setAdd S (.int ns[i] t0)) >>= _) _ _ _
  have T1:SetT prog w h1 S (once (ns.take i)):=T.sameBut fun o q=>(sb1.2 S hSI).trans q
  have il1:h1.IsList l items:=by
   obtain⟨o,ho,r⟩:=il
   exact⟨o,(sb1.2 l hIl.symm).trans ho,r⟩
  refine U0 (U2j ?_)
  unfold setAdd
  refine U2j (U0 ((intKind prog w).pyHash (k:=ns[i]) (intKind_is _ _ _ _) ?_))
  have room:(once (ns.take i)).length+1<scanBound:=by
   have q:=(KH (ns.take i)).2.1
   rw[U1i] at q
   omega
  refine VF (s:={ s with heap:=h1,toks:=s.toks+1 }) T1 room fun b h2 sb2 T2=>?_
  have T2':SetT prog w h2 S (once (ns.take (i+1))):=by
   rw[List.take_succ_eq_append_getElem hn,Y0];exact T2
  refine U0c ⟨plainId_quiet Nt _,ih (i+1) _ (by omega) hlt ?_ ?_ T2' fun h' tk hk' T'=>?_⟩
  .obtain⟨o,ho,r⟩:=it1
   exact⟨o,(sb2.2 I hSI.symm).trans ho,r⟩
  .obtain⟨o,ho,r⟩:=il1
   exact⟨o,(sb2.2 l hSl.symm).trans ho,r⟩
  .exact hR h' tk (fun c o hcS hcI q=>hk' c o hcS hcI ((sb2.2 c hcS).trans ((sb1.2 c hcI).trans q))) T'
theorem kE(a:Value){Q₁:Value->Shared->Prop}
  (h:Q₁ (.ref s.heap.objs.size) { s with heap:=s.heap.push { cls:=.type "set",dict:=none,data:=.set #[] 0 (.fresh 0 0 (Ke w)) } }) :
  codeAny (model prog w) A (.call (.builtin "set.__new__") ⟨[.type "set",a],[]⟩) (wants Q₁ E) s:=by
 refine codeAny_of_tree ?_
 have hck:checkBuiltinCall "set.__new__" ⟨[.type "set",a],[]⟩=pure ():=by kernel_rfl
 show wpAny _ A.in1 (checkBuiltinCall "set.__new__" ⟨[.type "set",a],[]⟩ >>= fun _=>again (.builtin "set.__new__" ⟨[.type "set",a],[]⟩)) _ _ s
 rw[hck]
 refine U0 (U0c (U0c ⟨plainId_quiet F.plain_set_new _,codeAny_builtin F.entry_set_new ?_⟩))
 rw[U2p F.plain_set_new _]
 have hsub:=sub_set_self
 unfold Builtin.«set.__new__» Builtin.Frozenset.newClass
 obtain⟨hp,g,d,tk,os⟩:=s
 dsimp only
 wp_walk
 refine U38 (U0c ?_)
 simp only[newObj]
 exact U0 (wpAny_alloc (U0c (U0c h)))
theorem Zg{M:Model}{self a:Value}{Q:Unit->Shared->Prop}(hT:s.TypeIs self "set")(hQ:Q () s):wpAny M A (checkBuiltinCall "set.__init__" ⟨[self,a],[]⟩) Q E s:=by
 simp only[checkBuiltinCall,kind_set_init,split_set_init,sig_set_init]
 refine U0 (U6g hT sub_set_self ?_)
 simp only[U5n,U07,if_false]
 unfold Bind.checkArgs
 dsimp only
 refine U0 (m:=Bind.printed "set" true _ _) (printed_name (by decide) ?_)
 refine U0 (m:=Bind.printed "*" false _ _) (printed_star (self:=self) rfl hT fun short=>?_)
 have one:(if (U5j.self==U5j.none)=true then [self,a].length else [self,a].length-1)=1:=by
  have z:(U5j.self==U5j.none)=false:=by decide
  simp[z]
 rw[one]
 simp only[U1m]
 have z1:(U30==U30)=true:=by decide
 have z2:(U30==U3t.posOrKw)=false:=by decide
 have z3:(U30==U3t.varPos)=false:=by decide
 have fine:Bind.check ⟨.positional,"set","*",.self,[⟨"iterable",.posOnly,false⟩]⟩ "set" short 1 []=pure ():=by
  simp[Bind.check,Bind.checkCount,Bind.isPositional,z1,z2,z3]
 rw[fine]
 exact U0c hQ
set_option maxHeartbeats 3200000 in
theorem au{l:Addr}{items:Array Value}{ns:List Int}{Q:Value->Shared->Prop}(hh:A.handled=none)(hl:s.heap.IsList l items)(hi:IntsAre items.toList ns)(hb:items.size+1<scanBound)
  (h:∀h' tk,(∀b o,s.heap.get? b=some o->h'.get? b=some o)->SetT prog w h' s.heap.objs.size (once ns)->Q (.ref s.heap.objs.size) { s with heap:=h',toks:=tk }) :
  wpAny (model prog w) A (call (.type "set") [.ref l]) Q E s:=by
 have hmade:=U39.made
 have hsub:=U39.sub
 have h1:=U39.notType
 have h2:=U39.canCreate
 have hct:checkTypeCall "set" ⟨[.ref l],[]⟩=pure ():=by kernel_rfl
 obtain⟨c,tl,hmro⟩:=U39.mro
 refine wpAny_call (codeAny_of_tree ?_)
 show wpAny _ _ (callAny (.type "set") ⟨[.ref l],[]⟩) _ _ s
 refine U0c ⟨Code.quiet_builtin _ (by decide +kernel),codeAny_builtin F.entry_type_call ?_⟩
 rw[Around.under_plain (weight_type_call_type "set" [.ref l] []) rfl]
 repeat (any_goals (first|assumption|wp_step))
 refine codeAny_mono (kE (.ref l) (E:=E) (Q₁:=fun obj s₁=>obj=.ref s.heap.objs.size/\s₁={ s with heap:=s.heap.push { cls:=.type "set",dict:=none,data:=.set #[] 0 (.fresh 0 0 (Ke w)) } }) ⟨rfl,rfl⟩) fun r s₁ hr=>?_
 cases r with
 |error e=>exact hr
 |ok fl =>
  cases fl with
  |ret obj =>
   obtain⟨rfl,rfl⟩:=hr
   generalize hg1:s.heap.push { cls:=.type "set",dict:=none,data:=.set #[] 0 (.fresh 0 0 (Ke w)) }=g1
   have e1:g1.get? s.heap.objs.size=some { cls:=.type "set",dict:=none,data:=.set #[] 0 (.fresh 0 0 (Ke w)) }:=hg1 ▸ U0r _ rfl
   have k1:∀b o,s.heap.get? b=some o->g1.get? b=some o:=fun b o q=>hg1 ▸ U0d _ q
   have z1:g1.objs.size=s.heap.objs.size+1:=by rw[←hg1,U2l]
   have hT:U56 { s with heap:=g1 } (.ref s.heap.objs.size) "set":=⟨_,e1,rfl⟩
   have hli:=U39.init.lookup
   have hbi:=U39.init.bind (.ref s.heap.objs.size)
   repeat (any_goals (first|assumption|wp_step))
   refine codeAny_mono (codeAny_call_builtin (R:=wants (fun r s₂=>r=.none/\∃h' tk,s₂={ s with heap:=h',toks:=tk }/\(∀b o,s.heap.get? b=some o->h'.get? b=some o)/\SetT prog w h' s.heap.objs.size (once ns)) E)
    U39.init.plain F.entry_set_init (Zg hT ?_)) fun r₂ s₂ hr₂=>?_
   .obtain⟨ol,hol,hcl,nl,hdl⟩:=hl
    obtain⟨ocls,odict,odata,oslots⟩:=ol
    simp only at hcl hdl
    subst hcl hdl
    have q1:g1.get? l=some { cls:=.type "list",dict:=odict,data:=.seq items nl,slots:=oslots }:=k1 _ _ hol
    have il:g1.IsList l items:=⟨_,q1,rfl,nl,rfl⟩
    have hlS:l<s.heap.objs.size:=U0k hol
    have hs1:isSubtype (.type "list") (.type "set")=pure false:=by rw[isSubtype_type];kernel_rfl
    have hs2:isSubtype (.type "list") (.type "frozenset")=pure false:=by rw[isSubtype_type];kernel_rfl
    have hs3:(U24 "list"==U24 "dict")=false:=by decide
    unfold Builtin.«set.__init__» noKeywords Builtin.Frozenset.updateFrom
    generalize hPI:pyIter=PI
    wp_walk
    subst hPI
    refine U4l il (U0 (wpAny_runValue ?_))
    have n1:s.heap.objs.size≠g1.objs.size:=by rw[z1];exact U1c (U4t _)
    have n2:s.heap.objs.size≠l:=U3q hlS
    have n3:g1.objs.size≠l:=by rw[z1];exact U3q (U4m hlS)
    refine Yx (l:=l) (items:=items) (by simpa using hh) hi hb n1 n2 n3 (items.size-0) 0 _ (by omega) (U3c _) ⟨_,U0r _ rfl,rfl,rfl⟩ ?_ ?_ ?_
    .obtain⟨o,ho,r⟩:=il
     exact⟨o,U0d _ ho,r⟩
    .refine⟨List.nodup_nil,_,#[],0,_,U0d _ e1,⟨rfl,rfl,rfl⟩,rfl,fun e he=>by simp at he,fun k=>by simp[once],by decide,by rfl,rfl,TabOk.fresh _ _ _⟩
    .intro h' tk hk T
     show wpAny _ _ _ _ _ _
     refine U0c ?_
     show wpAny _ _ (ret U2s) _ _ _
     refine U0c ⟨rfl,h',tk,rfl,fun b o q=>?_,T⟩
     have hb':=U0k q
     exact hk b o (U1c hb') (by rw[z1];exact U1c (U4m hb')) (U0d _ (k1 b o q))
   .cases r₂ with
    |error e=>exact hr₂
    |ok fl₂ =>
     cases fl₂ with
     |ret r =>
      obtain⟨rfl,h',tk,rfl,hk,T⟩:=hr₂
      repeat (any_goals (first|assumption|wp_step))
      exact h h' tk hk T
     |_=>exact hr₂.elim
  |_=>exact hr.elim
end
end SetP
end
section
set_option maxRecDepth 100000
namespace SetP
open PySem PyProof.Rows
theorem Ml{α:Type}:∀(l:List α)(i:Nat)(h:i<l.length),(l[i]::l.eraseIdx i).Perm l
 |[],i,h=>absurd h (by simp)
 |x::r,0,_=>U4o _
 |x::r,i+1,h=>(U16.swap x _ _).trans (U6u x (Ml r i (by simpa using h)))
theorem Ow:∀{ds ns:List Int},ds.Nodup->(∀k,k∈ds->k∈ns)->ns.length<=ds.length->ns.Perm ds
 |[],ns,_,_,h=>by
  have e:ns=[]:=U2o.mp (by simpa using h)
  rw[e]
 |d::r,ns,nd,sub,h=>by
  have hd:d∈ns:=sub d U04
  have p:=List.perm_cons_erase hd
  obtain⟨h1,h2⟩:=U41.mp nd
  refine p.trans (U6u d (Ow h2 (fun k hk=>?_) ?_))
  .have hne:k≠d:=fun e=>h1 (e ▸ hk)
   exact(List.mem_erase_of_ne hne).mpr (sub k (U0o _ hk))
  .rw[List.length_erase_of_mem hd]
   rw[U0f] at h
   omega
theorem Vh{α:Type}(next:Nat->Nat):∀(fuel k:Nat)(left:List α)(out:Array α),left.length=fuel->(pickOrder.go next fuel k left out).toList.Perm (out.toList++left)
 |0,_,left,out,h=>by
  have e:left=[]:=U2o.mp h
  subst e
  unfold pickOrder.go
  simp
 |fuel+1,k,left,out,h=>by
  unfold pickOrder.go
  have hi:next k%left.length<left.length:=Nat.mod_lt _ (by omega)
  rw[U0q hi]
  dsimp only
  refine(Vh next fuel (k+1) _ _ (by rw[List.length_eraseIdx_of_lt hi];omega)).trans ?_
  rw[U6a,U0w]
  exact U1u _ (Ml _ _ hi)
theorem Xx{α:Type}(next:Nat->Nat)(xs:Array α):(pickOrder next xs).toList.Perm xs.toList:=by
 unfold pickOrder
 simpa using Vh next xs.size 0 xs.toList #[] (by simp)
section
variable{M:Model}{A:Around}{E:Value->Shared->Prop}
theorem Wx{src:Source}{n:Nat}{s:Shared}{Q:Nat->Shared->Prop}(hn:n≠0)(h:∀i d',i<n->Q i { s with drawn:=d' }):wpAny M A (choose src n) Q E s :=
 fun _ _ _=>⟨hn,h _ _ (Nat.mod_lt _ (Nat.pos_of_ne_zero hn))⟩
theorem Mw{α:Type}:∀(n:Nat)(xs:List α)(s:Shared)(Q:List α->Shared->Prop),xs.length<=n->(∀ys d',ys.Perm xs->Q ys { s with drawn:=d' })->wpAny M A (drawOrder n xs) Q E s
 |0,xs,s,Q,h,q=>by
  have e:xs=[]:=U2o.mp (by omega)
  subst e
  unfold drawOrder
  exact U0c (q [] s.drawn (U4o _))
 |n+1,[],s,Q,h,q=>by
  unfold drawOrder
  exact U0c (q [] s.drawn (U4o _))
 |n+1,x::xs,s,Q,h,q=>by
  unfold drawOrder
  refine U0 (Wx (by simp) fun i d' hi=>?_)
  rw[U0q hi]
  dsimp only
  refine U0 (Mw n _ _ _ (by rw[List.length_eraseIdx_of_lt hi];simp at h ⊢;omega) fun ys d'' p=>U0c (q _ d'' ?_))
  exact(U6u _ p).trans (Ml _ _ hi)
end
theorem Dr:Slot "set_iterator" "__next__" "set_iterator.__next__" :=
 .of (owner:="set_iterator") (n:="__next__") (by rw[typeLookup_type,builtinLookup_eq_fast];kernel_rfl) (by decide +kernel) (by decide +kernel) (by decide +kernel)
  (by first|exact .inl (by decide +kernel)|exact .inr (by decide +kernel)) (by rw[isSubtype_type];kernel_rfl)
theorem Kc:entryFor table "set_iterator.__next__"=some Builtin.«set_iterator.__next__»:=entryFor_of_tree (by kernel_rfl)
theorem Ku(a:Value):argsOk "set_iterator.__next__" ⟨[a],[]⟩:=by unfold argsOk;kernel_rfl
theorem RP:entryFor table "set.__iter__"=some Builtin.«frozenset.__iter__» :=
 entryFor_alias (id':="frozenset.__iter__") (by kernel_rfl) rfl (by decide +kernel) (by kernel_rfl)
def HS(first:Value)(i:Nat)(S:Addr)(n ep:Nat):Obj:={ cls:=.type "set_iterator",data:=.fields #[first,.int i 0,.ref S,.int n 0,.int ep 0] }
inductive Road (w:World) (h:Heap) (es:Array (Int×Value)) (ep:Nat) (t:SetTable) (S it T:Addr) (vs:List Value) (i:Nat):Value->Prop
 |text (k:Int):w.params.followText "set-order"=true->(∀(j:Nat),vs[j]?=((pickOrder (w.params.setOrder S ep) es)[j]?).map fun(e:Int×Value)=>e.2)->Road w h es ep t S it T vs i (.int k 0)
 |plain:w.params.followText "set-order"=false->(!t.plain&&decide (es.size>1))=false->TabOk true t->(∀(j:Nat),vs[j]?=(es[j]?).map fun(e:Int×Value)=>e.2)->Road w h es ep t S it T vs i (.int ((if i=0 then 0 else t.place.getD (i-1) 0+1:Nat):Int) 0)
 |drawn (ps:List Nat):T≠it->h.get? T=some { cls:=.type "tuple",data:=.seq (ps.map fun(p:Nat)=>rawInt p).toArray 0 }->(∀p∈ps,p<es.size)->(∀(j:Nat),vs[j]?=(ps[j]?).bind fun p=>(es[p]?).map fun(e:Int×Value)=>e.2)->Road w h es ep t S it T vs i (.ref T)
structure Ji(w:World)(h:Heap)(it S T:Addr)(vs:List Value)(i:Nat):Prop where
 ne:it≠S
 ex:∃o es ep t first,h.get? S=some o/\o.data=.set es ep t/\t.fits es.size=true/\vs.length=es.size/\h.get? it=some (HS first i S es.size ep)/\Road w h es ep t S it T vs i first
section
variable{prog:Program}{w:World}{A:Around}{E:Value->Shared->Prop}{s:Shared}
theorem Ji.keep{h h':Heap}{it S T:Addr}{vs:List Value}{i:Nat}(x:Ji w h it S T vs i)(k:∀b∈[it,S,T],∀o,h.get? b=some o->h'.get? b=some o):Ji w h' it S T vs i:=by
 obtain⟨ne,o,es,ep,t,first,a,b,c,d,e,r⟩:=x
 refine⟨ne,o,es,ep,t,first,k S (by simp) _ a,b,c,d,k it (by simp) _ e,?_⟩
 cases r with
 |text k1 z1 z2=>exact .text k1 z1 z2
 |plain z1 z2 z3 z4=>exact .plain z1 z2 z3 z4
 |drawn ps z1 z2 z3 z4=>exact .drawn ps z1 (k T (by simp) _ z2) z3 z4
theorem iy{S:Addr}{ds:List Int}{Q:Value->Shared->Prop}(hS:SetT prog w s.heap S ds)
  (h:∀h' d' it T vs,(∀b o,s.heap.get? b=some o->h'.get? b=some o)->s.heap.objs.size<=it->(T=S∨s.heap.objs.size<=T)->Ji w h' it S T vs 0->(∃ns,IntsAre vs ns/\ns.Perm ds)->Q (.ref it) { s with heap:=h',drawn:=d' }) :
  wpAny (model prog w) A (pyIter (.ref S)) Q E s:=by
 obtain⟨nd,o,es,ep,t,ho,hex,hd,hel,hm,hb,hf,hn,ht⟩:=hS
 have hT:s.TypeIs (.ref S) "set":=⟨o,ho,hex.1⟩
 have hlt:=U0k ho
 -- the members as ints
 have intsV:∀(l:List (Int×Value)),ElemsOf (intKind prog w) l->∃ns,IntsAre (l.map (·.2)) ns/\∀k,k∈ns↔∃e∈l,(intKind prog w).is k e.2=true:=by
  intro l
  induction l with
  |nil=>intro _;exact⟨[],.nil,fun k=>by simp⟩
  |cons e r ih =>
   intro he
   obtain⟨ns,a,b⟩:=ih he.tail
   obtain⟨⟨k0,hk0,_⟩,_⟩:=he.head
   obtain⟨t0,e0⟩:=Value.isInt_shape (show Value.isInt k0 e.2=true from hk0)
   refine⟨k0::ns,by rw[U0n,e0];exact .cons k0 t0 a,fun k=>?_⟩
   rw[U0u,b k]
   constructor
   .rintro(z|⟨e',he',q⟩)
    .exact⟨e,U04,by rw[z];exact hk0⟩
    .exact⟨e',U0o _ he',q⟩
   .rintro⟨e',he',q⟩
    rcases U0u.mp he' with z|z
    .subst z;exact .inl ((intKind prog w).inj _ _ _ q hk0)
    .exact .inr ⟨e',z,q⟩
 -- any order of the members is the ints in some order
 have fin:∀(l:List (Int×Value)),l.Perm es.toList->∃ns,IntsAre (l.map (·.2)) ns/\ns.Perm ds:=fun l p=>by
  obtain⟨ns,a,b⟩:=intsV l (hel.perm p)
  refine⟨ns,a,?_⟩
  have hsub:ds ⊆ ns:=fun k hk=>(b k).mpr (by
   obtain⟨e,he,q⟩:=(hm k).mp (decide_eq_true hk)
   exact⟨e,p.mem_iff.mpr he,q⟩)
  have hle:ns.length<=ds.length:=by
   have q1:(l.map (·.2)).length=ns.length:=IntsAre.length a
   rw[U0g] at q1
   exact U63 (by rw[←q1,p.length_eq,U0e,hn])
  exact Ow nd (fun k hk=>hsub hk) hle
 refine wpAny_pyIter_slot hT F.slot_set_iter (U3m F.slot_set_iter hT RP ?_ (F.args_set_iter_1 _))
 unfold Builtin.«frozenset.__iter__» Builtin.Frozenset.slot0 slotArgs
 simp only[U6h,U5n,U07,↓reduceIte,bind_assoc,U1b,bne_self_eq_false]
 unfold Builtin.Frozenset.addrOf Builtin.Frozenset.sizeOf
 refine U0 (U0c ?_)
 try dsimp only
 refine U0 (U0c ?_)
 refine U0 (U0 (U5x ho hd hf (U0c ?_)))
 unfold setDrawn setsByText
 simp only[bind_assoc]
 refine U0 (U31 ho hd hf ?_)
 refine U0 (U38 ?_)
 refine U0 (U0c (U0 (U0c ?_)))
 show wpAny (model prog w) A.in1 (if (!(w.params.followText "set-order")&&(!t.plain&&decide (es.size>1)))=true then _ else _) _ _ s
 have len2:∀(ps:List Nat),ps.Perm (U3o es.size)->((ps.filterMap fun p=>es[p]?)).Perm es.toList/\∀(j:Nat),((ps.filterMap fun p=>es[p]?).map (·.2))[j]?=(ps[j]?).bind fun p=>(es[p]?).map fun(e:Int×Value)=>e.2:=fun ps p=>by
  refine⟨(p.filterMap _).trans (by rw[filterMap_getElem?_range]),?_⟩
  have all:∀(ps:List Nat),(∀p∈ps,p<es.size)->∀(j:Nat),((ps.filterMap fun p=>es[p]?).map (·.2))[j]?=(ps[j]?).bind fun p=>(es[p]?).map fun(e:Int×Value)=>e.2:=by
   intro ps
   induction ps with
   |nil=>intro _ j;simp
   |cons q r ih =>
    intro hq j
    have hq':q<es.size:=hq q U04
    rw[List.filterMap_cons_some (b:=es[q]) (by simp[hq'])]
    cases j with
    |zero=>simp[hq']
    |succ j=>simpa using ih (fun p hp=>hq p (U0o _ hp)) j
  exact all ps fun q hq=>U3k.mp (p.mem_iff.mp hq)
 split
 .rename_i hc
  refine U0 (Mw es.size (U3o es.size) s _ (by simp) fun ps d' p=>?_)
  obtain⟨p1,p2⟩:=len2 ps p
  refine U0 (U17 ?_ ?_)
  .refine U0 (wpAny_setEpoch_of (U0d _ ho) hd hf ?_)
   refine U0 (U17 (U0c ⟨_,rfl,"set_iterator",_,⟨_,U0r _ rfl,rfl⟩,Dr.lookup,?_⟩))
   refine h _ d' _ s.heap.objs.size ((ps.filterMap fun p=>es[p]?).map (·.2)) (fun b o' e=>U0d _ (U0d _ e)) ?_ (.inr (U0l _)) ?_ (fin _ p1)
   .show s.heap.objs.size<=(s.heap.push _).objs.size
    rw[U2l];exact U4h _
   .refine⟨?_,o,es,ep,t,_,U0d _ (U0d _ ho),hd,hf,?_,U0r _ rfl,.drawn ps ?_ (U0d _ (U0r _ rfl)) (fun q hq=>U3k.mp (p.mem_iff.mp hq)) p2⟩
    .show(s.heap.push _).objs.size≠S
     rw[U2l];exact U3q (U4m hlt)
    .rw[U0g,p1.length_eq,U0e]
    .show s.heap.objs.size≠(s.heap.push _).objs.size
     rw[U2l];exact U1c (U4t _)
  .show _<=sizeLine
   rw[U0j,U0g,p.length_eq,U6b]
   exact fits_of_scanBound hb
 .rename_i hc
  refine U0 (U0c (U0 (wpAny_setEpoch_of ho hd hf ?_)))
  refine U0 (U17 (U0c ⟨_,rfl,"set_iterator",_,⟨_,U0r _ rfl,rfl⟩,Dr.lookup,?_⟩))
  by_cases ht':w.params.followText "set-order"=true
  .have pp:=Xx (w.params.setOrder S ep) es
   have q:=h (s.heap.push (HS (rawInt 0) 0 S es.size ep)) s.drawn s.heap.objs.size S ((pickOrder (w.params.setOrder S ep) es).toList.map (·.2)) (fun b o' e=>U0d _ e) (U0l _) (.inl rfl)
    ⟨U3q hlt,o,es,ep,t,_,U0d _ ho,hd,hf,by rw[U0g,pp.length_eq,U0e],U0r _ rfl,.text 0 ht' fun j=>by rw[U0v,U2a]⟩ (fin _ pp)
   exact q
  .have hf':w.params.followText "set-order"=false:=by simpa using ht'
   have hL:Ke w=true:=by show(!_)=true;rw[hf'];rfl
   rw[hL] at ht
   have hdr:(!t.plain&&decide (es.size>1))=false:=by
    rw[hf'] at hc
    simpa using hc
   have q:=h (s.heap.push (HS (rawInt 0) 0 S es.size ep)) s.drawn s.heap.objs.size S (es.toList.map (·.2)) (fun b o' e=>U0d _ e) (U0l _) (.inl rfl)
    ⟨U3q hlt,o,es,ep,t,_,U0d _ ho,hd,hf,by rw[U0g,U0e],U0r _ rfl,.plain hf' hdr ht fun j=>by rw[U0v,U2a]⟩ (fin _ (U4o _))
   exact q
end
end SetP
end
section
set_option maxRecDepth 100000
namespace SetP
open PySem PyProof.Rows
section
variable{prog:Program}{w:World}{A:Around}{E:Value->Shared->Prop}{s:Shared}
theorem Qf(first x:Value)(i:Nat)(S:Addr)(n ep:Nat):U3h (·.setIfInBounds 0 x) (HS first i S n ep)=HS x i S n ep:=rfl
theorem Wr(first:Value)(i:Nat)(S:Addr)(n ep:Nat):U3h (·.setIfInBounds 1 (rawInt ((i:Int)+1))) (HS first i S n ep)=HS first (i+1) S n ep:=rfl
theorem Ny{S:Addr}{o:Obj}{es:Array (Int×Value)}{ep slot given:Nat}{t:SetTable}{Q:Option (Value×Nat)->Shared->Prop}(ho:s.heap.get? S=some o)(hd:o.data=.set es ep t)(hf:t.fits es.size=true)
  (z:w.params.followText "set-order"=true) (h:Q (((pickOrder (w.params.setOrder S ep) es)[given]?).map fun e=>(e.2,slot)) s):wpAny (model prog w) A (setNext S slot given ep) Q E s:=by
 unfold setNext
 refine U0 (U31 ho hd hf ?_)
 unfold setsByText
 refine U0 (U0 (U38 (U0c ?_)))
 show wpAny _ _ (if (w.params.followText "set-order")=true then _ else _) _ _ s
 rw[if_pos z]
 show wpAny _ _ (if (ep != ep)=true then _ else _) _ _ s
 rw[if_neg (by simp)]
 unfold setWalk
 refine U0 (U0 (U31 ho hd hf ?_))
 unfold setsByText
 refine U0 (U0 (U38 (U0c ?_)))
 show wpAny _ _ (if (w.params.followText "set-order")=true then _ else _) _ _ s
 rw[if_pos z]
 exact U0 (U38 (U0c (U0c h)))
theorem Mq{S:Addr}{o:Obj}{es:Array (Int×Value)}{ep slot given:Nat}{t:SetTable}{Q:Option (Value×Nat)->Shared->Prop}(ho:s.heap.get? S=some o)(hd:o.data=.set es ep t)(hf:t.fits es.size=true)
  (z:w.params.followText "set-order"=false) (z2:(!t.plain&&decide (es.size>1))=false) (z3:t.led=true)
  (h:Q (match es[U1h t.place slot]?,t.place[U1h t.place slot]? with|some (_,x),some j=>some (x,j+1)|_,_=>none) s):wpAny (model prog w) A (setNext S slot given ep) Q E s:=by
 unfold setNext
 refine U0 (U31 ho hd hf ?_)
 unfold setsByText
 refine U0 (U0 (U38 (U0c ?_)))
 show wpAny _ _ (if (w.params.followText "set-order")=true then _ else _) _ _ s
 rw[if_neg (by rw[z];simp)]
 show wpAny _ _ (if (!t.plain&&decide (es.size>1))=true then _ else _) _ _ s
 rw[if_neg (by rw[z2];simp)]
 refine U0 ?_
 show wpAny _ _ (if (!t.led&&!es.isEmpty)=true then _ else _) _ _ s
 rw[if_neg (by rw[z3];simp)]
 exact U0c (U0c h)
theorem Wi{it S T:Addr}{vs:List Value}{i:Nat}{v:Value}{Q:Option Value->Shared->Prop}(x:Ji w s.heap it S T vs i)(hv:vs[i]?=some v)
  (h:∀h',U13 it s.heap h'->Ji w h' it S T vs (i+1)->Q (some v) { s with heap:=h' }):wpAny (model prog w) A (pyNext (.ref it)) Q E s:=by
 obtain⟨ne,o,es,ep,t,first,ho,hd,hf,hl,hi,r⟩:=x
 have hT:s.TypeIs (.ref it) "set_iterator":=⟨_,hi,rfl⟩
 unfold pyNext
 refine U0 (wpAny_attempt (wpAny_callSpecial?_slot (name:=U5r "__next__") hT Dr (U3m Dr hT Kc ?_ (Ku _))))
 unfold Builtin.«set_iterator.__next__» slotArgs
 simp only[U6h,U5n,U07,↓reduceIte,U1b,bne_self_eq_false]
 refine U0 (U0c ?_)
 refine U0 (wpAny_fieldsOf hi rfl ?_)
 show wpAny _ _ (setEntries S >>= _) _ _ s
 refine U0 (U5x ho hd hf ?_)
 show wpAny _ _ (if ((es.size:Int) != (es.size:Int))=true then _ else _) _ _ s
 rw[if_neg (by simp)]
 have lt:i<vs.length:=(U0h.mp hv).1
 have upd1:∀{h1:Heap} {f1:Value},h1.get? it=some (HS f1 i S es.size ep)->(h1.update it (U3h (·.setIfInBounds 1 (rawInt ((i:Int)+1))))).get? it=some (HS f1 (i+1) S es.size ep):=fun {h1 f1} e=>by
  rw[←Wr f1 i S es.size ep];exact U2k _ e rfl
 have upd0:∀{h1:Heap} {f1 y:Value},h1.get? it=some (HS f1 i S es.size ep)->(h1.update it (U3h (·.setIfInBounds 0 y))).get? it=some (HS y i S es.size ep):=fun {h1 f1 y} e=>by
  rw[←Qf f1 y i S es.size ep];exact U2k _ e rfl
 cases r with
 |text k z1 z2 =>
  show wpAny _ _ (setNext S k.toNat i ep >>= _) _ _ s
  refine U0 (Ny ho hd hf z1 ?_)
  have q:=z2 i
  rw[hv] at q
  cases hp:(pickOrder (w.params.setOrder S ep) es)[i]? with
  |none=>rw[hp] at q;cases q
  |some e =>
   rw[hp] at q
   have q':v=e.2:=U0x q
   subst q'
   refine U0 (U3 hi rfl (by simp) (U0 (U3 (upd0 hi) rfl (by simp) (U0c ⟨_,rfl,U0c (h _ ((U14 ..).trans (U14 ..)) ⟨ne,o,es,ep,t,_,?_,hd,hf,hl,upd1 (upd0 hi),.text _ z1 z2⟩)⟩))))
   rw[U0z _ _ ne,U0z _ _ ne];exact ho
 |plain z1 z2 z3 z4 =>
  show wpAny _ _ (setNext S (Int.toNat ((if i=0 then 0 else t.place.getD (i-1) 0+1:Nat):Int)) i ep >>= _) _ _ s
  rw[U4n]
  refine U0 (Mq ho hd hf z1 z2 z3.2 ?_)
  have psz:t.place.size=es.size:=by
   have q:=hf
   simp only[SetTable.fits,U0m,beq_iff_eq] at q
   exact q.1
  have hb:U1h t.place (if i=0 then 0 else t.place.getD (i-1) 0+1)=i:=by
   cases i with
   |zero=>rw[if_pos rfl];exact Qj z3.1
   |succ i=>rw[if_neg (by omega)];exact Qk z3.1 (by omega)
  rw[hb]
  have q:=z4 i
  rw[hv] at q
  have hie:i<es.size:=by omega
  have hip:i<t.place.size:=by omega
  rw[U1w hie] at q ⊢
  rw[U1w hip]
  have q':v=es[i].2:=U0x q
  subst q'
  show wpAny _ _ (setField (.ref it) 0 (rawInt ((t.place[i]+1:Nat):Int)) >>= _) _ _ s
  refine U0 (U3 hi rfl (by simp) (U0 (U3 (upd0 hi) rfl (by simp) (U0c ⟨_,rfl,U0c (h _ ((U14 ..).trans (U14 ..)) ⟨ne,o,es,ep,t,_,?_,hd,hf,hl,upd1 (upd0 hi),?_⟩)⟩))))
  .rw[U0z _ _ ne,U0z _ _ ne];exact ho
  .have e:t.place[i]=t.place.getD (i+1-1) 0:=by
    rw[U2n,Nat.add_sub_cancel,U1w hip];rfl
   have rr:∀hp:Heap,Road w hp es ep t S it T vs (i+1) (.int ((t.place[i]+1:Nat):Int) 0):=fun hp=>by
    have r1:Road w hp es ep t S it T vs (i+1) (.int ((if i+1=0 then 0 else t.place.getD (i+1-1) 0+1:Nat):Int) 0):=.plain z1 z2 z3 z4
    rw[if_neg (by omega),←e] at r1
    exact r1
   exact rr _
 |drawn ps z1 z2 z3 z4 =>
  show wpAny _ _ (seqItems? (.ref T) >>= _) _ _ s
  refine U0 (U5c z2 rfl ?_)
  have q:=z4 i
  rw[hv] at q
  cases hp:ps[i]? with
  |none=>rw[hp] at q;cases q
  |some p =>
   rw[hp] at q
   have hlt:p<es.size:=z3 p (U12 hp)
   have q2:some v=(es[p]?).map fun(e:Int×Value)=>e.2:=q
   rw[U1w hlt] at q2
   have q':v=es[p].2:=U0x q2
   subst q'
   have hg:((ps.map fun(p:Nat)=>rawInt p).toArray)[i]?=some (rawInt p):=by
    rw[U3x,U0v,hp];rfl
   show wpAny _ _ (match ((ps.map fun(p:Nat)=>rawInt p).toArray)[(i:Int).toNat]? with|some (.int place _)=>_|some _=>_|none=>_) _ _ s
   rw[U4n,hg]
   show wpAny _ _ (setNextDrawn S p ep >>= _) _ _ s
   unfold setNextDrawn
   refine U0 (U0 (U31 ho hd hf ?_))
   show wpAny _ _ (if (ep != ep)=true then _ else _) _ _ s
   rw[if_neg (by simp)]
   dsimp only
   rw[U1w hlt]
   refine U0c ?_
   refine U0 (U3 hi rfl (by simp) (U0c ⟨_,rfl,U0c (h _ (U14 ..) ⟨ne,o,es,ep,t,_,?_,hd,hf,hl,upd1 hi,.drawn ps z1 ?_ z3 z4⟩)⟩))
   .rw[U0z _ _ ne];exact ho
   .rw[U0z _ _ z1.symm];exact z2
theorem Y5{it S T:Addr}{vs:List Value}{Q:Option Value->Shared->Prop}(hh:A.handled=none)(x:Ji w s.heap it S T vs vs.length)
  (h:∀h',Heap.ExtBut it s.heap h'->Q none { s with heap:=h' }):wpAny (model prog w) A (pyNext (.ref it)) Q E s:=by
 obtain⟨ne,o,es,ep,t,first,ho,hd,hf,hl,hi,r⟩:=x
 have hT:s.TypeIs (.ref it) "set_iterator":=⟨_,hi,rfl⟩
 unfold pyNext
 refine U0 (wpAny_attempt (wpAny_callSpecial?_slot (name:=U5r "__next__") hT Dr (U3m Dr hT Kc ?_ (Ku _))))
 unfold Builtin.«set_iterator.__next__» slotArgs
 simp only[U6h,U5n,U07,↓reduceIte,U1b,bne_self_eq_false]
 refine U0 (U0c ?_)
 refine U0 (wpAny_fieldsOf hi rfl ?_)
 show wpAny _ _ (setEntries S >>= _) _ _ s
 refine U0 (U5x ho hd hf ?_)
 show wpAny _ _ (if ((es.size:Int) != (es.size:Int))=true then _ else _) _ _ s
 rw[if_neg (by simp)]
 have stop:∀{s1:Shared},Heap.ExtBut it s.heap s1.heap->s1={ s with heap:=s1.heap }->wpAny (model prog w) A.in1 (newExc (.type "StopIteration") [] >>= fun e=>(raiseNew e:Sem Fin)) (fun fin s'=>∃v,fin=.done (.ret v)/\wpAny (model prog w) A (pure (some v)) Q E s')
   (fun e s'=>wpAny (model prog w) A (do if ←isInstance e (.type "StopIteration") then pure none else throw e) Q E s') s1:=fun {s1} eb es1=>by
  refine U0 ?_
  simp only[newExc,newTuple]
  refine U0 (U17 ?_ (by size_fits))
  refine U0 (m:=firstArgMember _ _) (wpAny_of_eq (a:=U2s) (by first|rfl|(simp only[firstArgMember];rfl)) ?_)
  refine U17 ?_ (by size_fits)
  simp only[raiseNew]
  refine U0 (wpAny_handled ?_)
  rw[show A.in1.handled=none from hh]
  refine U0 (U0c (wpAny_throw ?_))
  refine U0 (U6g (T:="StopIteration") (b:=true) ⟨_,U0r _ rfl,rfl⟩ isSubtype_stop ?_)
  rw[if_pos rfl,es1]
  exact U0c (h _ ((eb.push _).push _))
 cases r with
 |text k z1 z2 =>
  show wpAny _ _ (setNext S k.toNat vs.length ep >>= _) _ _ s
  refine U0 (Ny ho hd hf z1 ?_)
  have q:=z2 vs.length
  rw[U5q (U0l _)] at q
  cases hp:(pickOrder (w.params.setOrder S ep) es)[vs.length]? with
  |some e=>rw[hp] at q;cases q
  |none =>
   refine U0 (U3 hi rfl (by simp) ?_)
   exact stop (s1:={ s with heap:=s.heap.update it (U3h (·.setIfInBounds 2 U2s)) }) (U14 ..).extBut rfl
 |plain z1 z2 z3 z4 =>
  generalize hsl:(if vs.length=0 then 0 else t.place.getD (vs.length-1) 0+1:Nat)=sl
  show wpAny _ _ (setNext S (Int.toNat (sl:Int)) vs.length ep >>= _) _ _ s
  rw[U4n]
  refine U0 (Mq ho hd hf z1 z2 z3.2 ?_)
  have psz:t.place.size=es.size:=by
   have q:=hf
   simp only[SetTable.fits,U0m,beq_iff_eq] at q
   exact q.1
  have hb:U1h t.place sl=vs.length:=by
   rw[←hsl]
   generalize vs.length=n at hl
   cases n with
   |zero=>rw[if_pos rfl];exact Qj z3.1
   |succ i=>rw[if_neg (by omega)];exact Qk z3.1 (by omega)
  rw[hb,hl,Array.getElem?_eq_none (U0l _)]
  refine U0 (U3 hi rfl (by simp) ?_)
  exact stop (s1:={ s with heap:=s.heap.update it (U3h (·.setIfInBounds 2 U2s)) }) (U14 ..).extBut rfl
 |drawn ps z1 z2 z3 z4 =>
  show wpAny _ _ (seqItems? (.ref T) >>= _) _ _ s
  refine U0 (U5c z2 rfl ?_)
  have q:=z4 vs.length
  rw[U5q (U0l _)] at q
  have hg:((ps.map fun(p:Nat)=>rawInt p).toArray)[vs.length]?=none:=by
   rw[U3x,U0v]
   cases hp:ps[vs.length]? with
   |none=>rfl
   |some p =>
    rw[hp] at q
    have hlt:p<es.size:=z3 p (U12 hp)
    have q2:none=(es[p]?).map fun(e:Int×Value)=>e.2:=q
    rw[U1w hlt] at q2
    cases q2
  show wpAny _ _ (match ((ps.map fun(p:Nat)=>rawInt p).toArray)[(vs.length:Int).toNat]? with|some (.int place _)=>_|some _=>_|none=>_) _ _ s
  rw[U4n,hg]
  refine U0 (U3 hi rfl (by simp) ?_)
  have e0:(s.heap.update it (U3h (·.setIfInBounds 0 (rawInt 0)))).get? it=some (HS (rawInt 0) vs.length S es.size ep):=by
   rw[←Qf (.ref T) (rawInt 0) vs.length S es.size ep];exact U2k _ hi rfl
  refine U0 (U3 e0 rfl (by simp) ?_)
  exact stop (s1:={ s with heap:=(s.heap.update it (U3h (·.setIfInBounds 0 (rawInt 0)))).update it (U3h (·.setIfInBounds 2 U2s)) }) ((U14 ..).trans (U14 ..)).extBut rfl
end
end SetP
end
section
set_option maxRecDepth 100000
namespace SetP
open PySem PyProof.Rows
theorem Kr:Slot "set_iterator" "__iter__" "set_iterator.__iter__" :=
 .of (owner:="set_iterator") (n:="__iter__") (by rw[typeLookup_type,builtinLookup_eq_fast];kernel_rfl) (by decide +kernel) (by decide +kernel) (by decide +kernel)
  (by first|exact .inl (by decide +kernel)|exact .inr (by decide +kernel)) (by rw[isSubtype_type];kernel_rfl)
theorem QB:entryFor table "set_iterator.__iter__"=some Builtin.«dict_keyiterator.__iter__» :=
 entryFor_alias (id':="dict_keyiterator.__iter__") (by kernel_rfl) rfl (by decide +kernel) (by kernel_rfl)
theorem Qo(a:Value):argsOk "set_iterator.__iter__" ⟨[a],[]⟩:=by unfold argsOk;kernel_rfl
theorem Wn:typeLookup (.type "set") "__len__"=pure (some (.builtin "set.__len__")):=F.slot_set_len.lookup
section
variable{prog:Program}{w:World}{A:Around}{E:Value->Shared->Prop}{s:Shared}
theorem aV(hh:A.handled=none)(it S T:Addr)(vs:List Value):Walks prog w A it [it,S,T] [it] vs.length (fun i v=>vs[i]?=some v) (fun i h=>Ji w h it S T vs i) where
 sub:=fun b hb=>by simp at hb;subst hb;simp
 frame:=fun i h h' x k=>x.keep fun b hb o e=>k b hb o e
 item:=fun i s Q E hi x hQ=>by
  have hv:vs[i]?=some vs[i]:=U0q hi
  exact Wi x hv fun h' sb x'=>hQ _ h' s.toks hv x' fun b o hb e=>(sb.2 b (by simpa using hb)).trans e
 done:=fun s Q E x hQ=>Y5 hh x fun h' eb=>hQ h' s.toks fun b o hb e=>eb b o (by simpa using hb) e
 self:=fun i s Q E x hQ=>by
  obtain⟨_,o,es,ep,t,first,_,_,_,_,hi,_⟩:=x
  have hT:s.TypeIs (.ref it) "set_iterator":=⟨_,hi,rfl⟩
  refine wpAny_pyIter_slot hT Kr (U3m Kr hT QB ?_ (Qo _))
  show wpAny _ _ (ret (.ref it)) _ _ s
  exact U0c ⟨_,rfl,"set_iterator",_,hT,Dr.lookup,hQ⟩
theorem iz{S:Addr}{Q:Bool->Shared->Prop}(hT:s.TypeIs (.ref S) "set")(h:Q false s):wpAny (model prog w) A (Builtin.List.listLengthHint (.ref S)) Q E s:=by
 unfold Builtin.List.listLengthHint
 refine U0 (wpAny_specialOf hT Wn ?_)
 have hs:splitId "set.__len__"=some ("set","__len__"):=by decide +kernel
 dsimp only
 rw[hs]
 dsimp only
 refine U0 (U6g hT sub_set_self ?_)
 simp only[U5n,U07,if_false]
 refine U0 (U5s hT ?_)
 exact U0c h
theorem Ql{h:Heap}{a:Addr}{vs:List Value}{n:Nat}{out:Array Value}(ho:h.get? a=some (seqObj "list" vs.toArray n)):∃n',(sortedHeap h a vs out).get? a=some (seqObj "list" out n'):=by
 unfold sortedHeap
 have q1:=get?_update_seq ho (fun _=>#[])
 exact⟨_,get?_update_seq (U0d _ (U0d _ q1)) (fun _=>out)⟩
theorem Q7{h:Heap}{a b:Addr}{vs:List Value}{out:Array Value}{o:Obj}(hb:b≠a)(ho:h.get? b=some o):(sortedHeap h a vs out).get? b=some o:=by
 unfold sortedHeap
 rw[U0z _ _ (U3l hb)]
 exact U0d _ (U0d _ ((U0z _ _ (U3l hb)).trans ho))
end
end SetP
end
section
namespace L2
open PySem PySem.Spec PyProof.Rows
def PTs(X:Cx)(ifs:List Expr)(t:TT):Prop :=
 ∀(pins:List (Addr×Obj))(s:Shared)(σ:St)(H:Hp)(Q:Bool->Hp->Prop),Inv X pins σ H s->t σ H Q ->
  wpAny (model X.prog X.w) X.A (forIn ifs true fun c r=>if r=true then do let ok ←isTrue c X.env (eval c X.env);pure (U3y ok) else pure (U3y r)) (TP X pins σ Q) X.xe s
def Ir:TT:=fun _ H Q=>Q true H
theorem bG{X:Cx}:PTs X [] Ir:=fun _ _ _ H _ I h=>U0c ⟨H,I,h⟩
theorem bF{X:Cx}{c:Expr}{t:TT}(h:PT X c t):PTs X [c] t:=by
 intro pins s σ H Q I hw
 rw[U6n]
 simp only[if_true]
 refine U0 (U0 (thn (h pins s σ H Q I hw) fun b s1 hb=>U0c ?_))
 show wpAny _ _ (pure b) _ _ _
 exact U0c hb
def Low(k:Nat)(g:TG):Prop:=∀x σ H Q,g x σ H Q->g x σ H fun σ' H'=>Q σ' H'/\σ'.length=σ.length/\∀j,k<=j->σ'[j]?=σ[j]?
def Sv(k:Nat)(g:TGs):Prop:=∀x σ H Q,g x σ H Q->g x σ H fun σ' H'=>Q σ' H'/\σ'.length=σ.length/\∀j,k<=j->σ'[j]?=σ[j]?
theorem ZW{k i:Nat}(h:i<k):Low k (Sg i):=fun x σ H Q q =>
 ⟨q,U4e ..,fun j hj=>U2z (by omega)⟩
theorem cI{k:Nat}:Sv k Yk:=fun _ _ _ _ ⟨e,q⟩=>⟨e,q,rfl,fun _ _=>rfl⟩
theorem ZX{k:Nat}{t:TG}{u:TGs}(ht:Low k t)(hu:Sv k u)(mono:∀x σ H Q Q',(∀σ' H',Q σ' H'->Q' σ' H')->t x σ H Q->t x σ H Q')
  (monoU:∀x σ H Q Q',(∀σ' H',Q σ' H'->Q' σ' H')->u x σ H Q->u x σ H Q'):Sv k (WR t u):=fun x σ H Q ⟨v,r,e,q⟩=>by
 refine⟨v,r,e,mono v σ H _ _ (fun σ1 H1 z=>?_) (ht v σ H _ q)⟩
 obtain⟨z1,z2,z3⟩:=z
 exact monoU r σ1 H1 _ _ (fun σ2 H2 y=>⟨y.1,y.2.1.trans z2,fun j hj=>(y.2.2 j hj).trans (z3 j hj)⟩) (hu r σ1 H1 _ z1)
theorem cH{K:U0a}{n k:Nat}{t:TGs}(h:Sv k t):Low k (Yj K n t):=fun x σ H Q ⟨a,xs,e,hs,hl,q⟩=>⟨a,xs,e,hs,hl,h xs σ H Q q⟩
def compLook(sc:Scope)(N N2:List Str)(k:Nat)(caps:List Nat)(scope:Scope):Bool :=
 decide (scope.kind=.function)&&scope.names.all (fun y=>decide (y.2≠.cell)||decide (scope.names.lookup y.1=some .cell))&&scope.names.all (fun y=>decide (y.2≠.local)||decide (scope.names.lookup y.1=some .local)) &&
 scope.names.all (fun y=>decide (y.2≠.free)||decide (sc.names.lookup y.1=some .cell)||decide (sc.names.lookup y.1=some .free))&&decide N2.Nodup&&decide (N2.length=k+caps.length) &&
 (U3o caps.length).all fun j=>match caps[j]?,N2[k+j]? with
  |some i,some y=>decide (N[i]?=some y)&&decide (scope.names.lookup y=some .free)
  |_,_=>false
structure Fp(sc:Scope)(N N2:List Str)(k:Nat)(caps:List Nat)(scope:Scope):Prop where
 kind:scope.kind=.function
 one:∀y∈scope.names,y.2=.cell->scope.names.lookup y.1=some .cell
 loc:∀y∈scope.names,y.2=.local->scope.names.lookup y.1=some .local
 free:∀y∈scope.names,y.2=.free->sc.names.lookup y.1=some .cell∨sc.names.lookup y.1=some .free
 nd:N2.Nodup
 len:N2.length=k+caps.length
 cap:∀j i,caps[j]?=some i->∃y,N2[k+j]?=some y/\N[i]?=some y/\scope.names.lookup y=some .free
theorem Fp.of{sc:Scope}{N N2:List Str}{k:Nat}{caps:List Nat}{scope:Scope}(h:compLook sc N N2 k caps scope=true):Fp sc N N2 k caps scope:=by
 unfold compLook at h
 simp only[U0m,U27,Bool.or_eq_true,decide_eq_true_eq] at h
 obtain⟨⟨⟨⟨⟨⟨h1,h2⟩,h3⟩,h4⟩,h5⟩,h6⟩,h7⟩:=h
 refine⟨h1,fun y hy e=>?_,fun y hy e=>?_,fun y hy e=>?_,h5,h6,fun j i e=>?_⟩
 .rcases h2 y hy with z|z
  .exact absurd e z
  .exact z
 .rcases h3 y hy with z|z
  .exact absurd e z
  .exact z
 .rcases h4 y hy with (z|z)|z
  .exact absurd e z
  .exact .inl z
  .exact .inr z
 .have hj:j∈U3o caps.length:=U3k.mpr (U0h.mp e).1
  have q:=h7 j hj
  rw[e] at q
  cases hy:N2[k+j]? with
  |none=>rw[hy] at q;exact absurd q (by simp)
  |some y =>
   rw[hy] at q
   simp only[U0m,decide_eq_true_eq] at q
   exact⟨y,rfl,q.1,q.2⟩
theorem Nz{env:Env}:∀{names:List (Str×NameKind)} {x:Str},names.lookup x=some .free ->
  (names.map fun(n,k)=>if (k==U1z&&env.scope.kind==.function&&env.kindOf n==some .cell) then (n,U25) else (n,k)).lookup x=some .cell ∨
  (names.map fun(n,k)=>if (k==U1z&&env.scope.kind==.function&&env.kindOf n==some .cell) then (n,U25) else (n,k)).lookup x=some .free
 |[],_,h=>by simp at h
 |(n,k)::r,x,h=>by
  have ih:=@Nz env r x
  show U6r x ((if (k==U1z&&env.scope.kind==.function&&env.kindOf n==some .cell)=true then (n,U25) else (n,k))::_)=_∨U6r x ((if (k==U1z&&env.scope.kind==.function&&env.kindOf n==some .cell)=true then (n,U25) else (n,k))::_)=_
  cases hx:x==n with
  |true =>
   simp only[U1p,hx] at h
   cases h
   by_cases hc:(U1z==U1z&&env.scope.kind==.function&&env.kindOf n==some .cell)=true
   .rw[if_pos hc];left;simp only[U1p,hx]
   .rw[if_neg hc];right;simp only[U1p,hx]
  |false =>
   simp only[U1p,hx] at h
   by_cases hc:(k==U1z&&env.scope.kind==.function&&env.kindOf n==some .cell)=true
   .rw[if_pos hc];simp only[U1p,hx];exact ih h
   .rw[if_neg hc];simp only[U1p,hx];exact ih h
theorem O1{env:Env}:∀{names:List (Str×NameKind)} {x:Str},
  ((names.map fun(n,k)=>if (k==U1z&&env.scope.kind==.function&&env.kindOf n==some .cell) then (n,U25) else (n,k)).lookup x=some .cell ∨
   (names.map fun(n,k)=>if (k==U1z&&env.scope.kind==.function&&env.kindOf n==some .cell) then (n,U25) else (n,k)).lookup x=some .free)->names.lookup x=some .free∨names.lookup x=some .cell
 |[],_,h=>by simp at h
 |(n,k)::r,x,h=>by
  have ih:=@O1 env r x
  cases hx:x==n with
  |true =>
   simp only[U1p,hx]
   by_cases hf:k=.free
   .rw[hf];exact .inl rfl
   .have hkf:(k==U1z)=false:=by
     cases k<;>first|rfl|exact absurd rfl hf
    simp only[U0n,hkf,Bool.false_and,U07,if_false,U1p,hx] at h
    rcases h with z|z
    .exact .inr z
    .exact absurd (U0x z) hf
  |false =>
   simp only[U1p,hx]
   refine ih ?_
   have h':U6r x ((if (k==U1z&&env.scope.kind==.function&&env.kindOf n==some .cell)=true then (n,U25) else (n,k))::List.map _ r)=some .cell∨U6r x ((if (k==U1z&&env.scope.kind==.function&&env.kindOf n==some .cell)=true then (n,U25) else (n,k))::List.map _ r)=some .free:=h
   by_cases hcc:(k==U1z&&env.scope.kind==.function&&env.kindOf n==some .cell)=true
   .rw[if_pos hcc] at h';simp only[U1p,hx] at h';exact h'
   .rw[if_neg hcc] at h';simp only[U1p,hx] at h';exact h'
theorem GQ:∀(names:List (Str×NameKind))(n:Nat)(acc:List (Str×Addr)),cellsFrom n names acc=cellsFrom n names []++acc
 |[],_,_=>rfl
 |(x,k)::r,n,acc=>by
  unfold cellsFrom
  split
  .rw[GQ r (n+1) ((x,n)::acc),GQ r (n+1) [(x,n)],U0w];rfl
  .exact GQ r n acc
theorem Je:∀(names:List (Str×NameKind))(n:Nat){x:Str}{c:Addr},(x,c)∈cellsFrom n names []->(x,U25)∈names
 |[],_,_,_,h=>by simp[cellsFrom] at h
 |(y,k)::r,n,x,c,h=>by
  unfold cellsFrom at h
  split at h
  .rename_i hk
   rw[GQ] at h
   rcases U1l.mp h with z|z
   .exact U0o _ (Je r (n+1) z)
   .have z':(x,c)=(y,n):=by simpa using z
    have hk':k=.cell:=by simpa using hk
    cases z'
    rw[hk'];exact U04
  .exact U0o _ (Je r n h)
theorem Wm{cs ds:List (Str×Addr)}{x:Str}{c:Addr}(h:(cs++ds).lookup x=some c):cs.lookup x=some c∨(cs.lookup x=none/\ds.lookup x=some c):=by
 rw[U4f] at h
 cases e:cs.lookup x with
 |none=>rw[e] at h;exact .inr ⟨rfl,h⟩
 |some d=>rw[e] at h;exact .inl h
theorem V7{M:Model}{A:Around}{E:Value->Shared->Prop}{s:Shared}{scope:Scope}{globals:Addr}{cl:List (Str×Addr)}{qual:Str}{env:Env}{Q:Env->Shared->Prop}
  (hQ:∀h':Heap,h'.Ns s.heap.objs.size (fun _=>none)->(∀b o,s.heap.get? b=some o->h'.get? b=some o)->CellsOk h' (s.heap.objs.size+1) (cellsFrom (s.heap.objs.size+1) scope.names []) ->
   Q { scope,locals:=s.heap.objs.size,globals,cells:=cellsFrom (s.heap.objs.size+1) scope.names []++cl,qual,func:=none,code:=env.code,frame:=env.frame,builtins:=env.builtins } { s with heap:=h' }) :
  wpAny M A (newFunctionEnv scope globals cl [] qual none .none (some env)) Q E s:=by
 simp only[newFunctionEnv,Option.isSome_some,if_true]
 refine U0 (wpAny_alloc ?_)
 refine U0 (wpAny_layCells _ (fun name kind cells=>by cases hkc:kind==U25<;>simp[hkc]) _ _ _ _ ?_)
 rw[show({ s with heap:=s.heap.push { cls:=.type "dict",data:=.dict #[] } }:Shared).heap.objs.size=s.heap.objs.size+1 from U2l ..]
 have ok:=cellsFrom_ok scope.names (s.heap.push { cls:=.type "dict",data:=.dict #[] }) (s.heap.objs.size+1) [] ⟨fun _ _ hm=>(nomatch hm),U58⟩ (by rw[U2l];exact U0l _)
 rw[U2l] at ok
 rw[GQ]
 refine U0 ?_
 rw[List.forIn_nil]
 refine U0c (U0c (hQ _ ?_ ?_ ok))
 .exact(Heap.Ns.new s.heap (.type "dict")).keeps (pushCells_keeps _ _)
 .exact fun b o e=>pushCells_keeps _ _ b o (U0d _ e)
theorem Ww{scope:Scope}{env:Env}(h:∀y∈scope.names,y.2=.free->∃c,env.cells.lookup y.1=some c) :
  ∃cl,closureFor scope env=pure cl/\(∀x c,cl.lookup x=some c->env.cells.lookup x=some c)/\∀x,scope.names.lookup x=some .free->∃c,cl.lookup x=some c:=by
 have all:∀(names:List (Str×NameKind))(cs:List (Str×Addr)),(∀y∈names,y.2=.free->∃c,env.cells.lookup y.1=some c)->(∀x c,cs.lookup x=some c->env.cells.lookup x=some c) ->
   ∃cl,(forIn names cs (fun(x:Str×NameKind) (cs:List (Str×Addr))=>(match x with
     |(name,kind)=>if (kind==U1z)=true then (cellOf env name >>= fun a=>pure (U3y ((name,a)::cs))) else pure (U3y cs):Sem (ForInStep (List (Str×Addr)))) ):Sem (List (Str×Addr)))=pure cl /\
    (∀x c,cl.lookup x=some c->env.cells.lookup x=some c)/\(∀x c,cs.lookup x=some c->∃c',cl.lookup x=some c')/\∀x,names.lookup x=some .free->∃c,cl.lookup x=some c:=by
  intro names
  induction names with
  |nil=>intro cs _ hc;exact⟨cs,rfl,hc,fun x c e=>⟨c,e⟩,fun x e=>by simp at e⟩
  |cons y r ih =>
   intro cs hy hc
   obtain⟨n,kd⟩:=y
   by_cases hk:kd=.free
   .subst hk
    obtain⟨c,hcn⟩:=hy (n,.free) U04 rfl
    have hc':∀x c',((n,c)::cs).lookup x=some c'->env.cells.lookup x=some c':=fun x c' e=>by
     rw[U1p] at e
     cases hx:x==n with
     |true =>
      rw[hx] at e
      have hxn:x=n:=by simpa using hx
      rw[hxn,hcn];exact e
     |false=>rw[hx] at e;exact hc x c' e
    obtain⟨cl,e1,e2,e3,e4⟩:=ih ((n,c)::cs) (fun z hz=>hy z (U0o _ hz)) hc'
    refine⟨cl,?_,e2,fun x c' e=>?_,fun x e=>?_⟩
    .rw[U6n]
     have hb:(U1z==U1z)=true:=rfl
     simp only[hb,if_true,cellOf,hcn,pure_bind]
     exact e1
    .by_cases hx:(x==n)=true
     .exact e3 x c (by rw[U1p,hx])
     .have hx':(x==n)=false:=by simpa using hx
      exact e3 x c' (by rw[U1p,hx'];exact e)
    .rw[U1p] at e
     cases hx:x==n with
     |true=>exact e3 x c (by rw[U1p,hx])
     |false=>rw[hx] at e;exact e4 x e
   .have hb:(kd==U1z)=false:=by
     cases kd<;>first|rfl|exact absurd rfl hk
    obtain⟨cl,e1,e2,e3,e4⟩:=ih cs (fun z hz=>hy z (U0o _ hz)) hc
    refine⟨cl,?_,e2,e3,fun x e=>?_⟩
    .rw[U6n]
     simp only[hb,U07,if_false,pure_bind]
     exact e1
    .rw[U1p] at e
     cases hx:x==n with
     |true=>rw[hx] at e;exact absurd (U0x e) hk
     |false=>rw[hx] at e;exact e4 x e
 obtain⟨cl,e1,e2,_,e4⟩:=all scope.names [] h (fun x c e=>by simp at e)
 refine⟨cl,?_,e2,e4⟩
 unfold closureFor
 rw[←bind_pure (pure cl:Sem _),←e1]
abbrev Cw(X:Cx)(N2:List Str)(scope:Scope)(cl:List (Str×Addr))(C:Addr)(s:Shared)(H:Hp)(ex:List Addr):Cx :=
 { X with N:=N2,s₀:=s,H₀:=H,env:=compEnvC scope cl C X.env,outer:=X.stack,ex:=ex,fn:=fun x=>decide (scope.names.lookup x=some .cell),pn:=[],xe:=fun _ _=>False }
def HF(k:Nat)(caps:List Nat)(σ:St):St:=U0p k none++caps.map fun j=>(σ[j]?).join
def lE(J:It)(k:Nat)(caps:List Nat)(σ:St)(g:TG)(tt:TT)(te:TE)(Q:VK)(H1:Hp):Prop:=∃W:Nat->Nat->List V->Hp->Prop,(∃m,W 0 m [] H1)/\∀i m ys H,W i m ys H ->
 (J.stop i H/\∀p,H p=none->Q (.ref p) (upd H p (.lst ys))) ∨
 (J.go i H/\ys.length<sizeLine/\∀x H',J.yld i H x H'->g x (HF k caps σ) H' fun σ2 H2=>tt σ2 H2 fun b H3 =>
  if b=true then te σ2 H3 fun v H4=>∃m',m'<m/\W (i+1) m' (ys++[v]) H4 else ∃m',m'<m/\W (i+1) m' ys H3)
def Zv(k:Nat)(caps:List Nat)(wi:TI)(g:TG)(tt:TT)(te:TE):TE:=fun σ H Q=>wi σ H fun J H1=>lE J k caps σ g tt te Q H1
theorem Vx{k:Nat}{caps:List Nat}{σ:St}{i:Nat}{v:V}(h:(HF k caps σ)[i]?=some (some v)):∃j a,i=k+j/\caps[j]?=some a/\σ[a]?=some (some v):=by
 unfold HF at h
 by_cases hi:i<k
 .rw[U00 (by simpa using hi),U4a,if_pos hi] at h
  cases h
 .rw[U1f (by simpa using hi),U1t,U0v] at h
  cases e:caps[i-k]? with
  |none=>rw[e] at h;cases h
  |some a =>
   rw[e] at h
   have h':(σ[a]?).join=some v:=U0x h
   refine⟨i-k,a,by omega,e,?_⟩
   cases e2:σ[a]? with
   |none=>rw[e2] at h';cases h'
   |some o =>
    rw[e2] at h'
    cases o with
    |none=>cases h'
    |some v' =>
     have h'':some v'=some v:=h'
     rw[h'']
theorem MF{a b n:Nat}(h1:a<n)(h2:n<=b):a≠b:=by omega
section
variable{X:Cx}{pins:List (Addr×Obj)}{σ:St}
theorem Inv.but{H:Hp}{s:Shared}{C:Addr}{h':Heap}(I:Inv X pins σ H s)(hb:U13 C s.heap h')(hn:H C=none)(hL:C≠X.env.locals)(h1:X.s₀.heap.objs.size<=C)(h2:∀x c,X.env.cells.lookup x=some c->c≠C)(h3:∀p∈X.pn++pins,p.1≠C) :
  Inv X pins σ H { s with heap:=h' }:=I.turned (t':=s.toks) (fun b o hne e=>(hb.2 b hne).trans e) hn hL (.inr h1) h2 h3
theorem Wu{s2:Shared}{H2:Hp}{elt tg iter:Expr}{ifs:List Expr}{scope:Scope}{pos:Pos}{N2:List Str}{k:Nat}{caps:List Nat}{cl:List (Str×Addr)}{g:TG}{tt:TT}{te:TE}{E:Value->Shared->Prop}
  {it:Addr} {fp:List Addr} {tn:Nat->Heap->Prop} {J:It} {RR:Value->Addr->Result->Shared->Prop} {Qe:List V->Hp->Prop} {W:Nat->Nat->List V->Hp->Prop} {m0:Nat}
  (hc:X.calm=true) (hS:Fp X.env.scope X.N N2 k caps scope) (hlow:Low k g)
  (hcl:∀x c,cl.lookup x=some c->X.env.cells.lookup x=some c) (hcf:∀x,scope.names.lookup x=some .free->∃c,cl.lookup x=some c)
  (hb:∀(cl:List (Str×Addr))(C:Addr)(s:Shared)(H:Hp)(ex:List Addr),PG (Cw X N2 scope cl C s H ex) tg g/\PTs (Cw X N2 scope cl C s H ex) ifs tt/\PE (Cw X N2 scope cl C s H ex) elt te)
  (I2:Inv X pins σ H2 s2) (T:Turn X.prog X.w X.K tg J fp it tn) (st2:tn 0 s2.heap) (f2:∀b∈fp,NQ X pins H2 b) (w0:W 0 m0 [] H2)
  (turn:∀i m ys H,W i m ys H->(J.stop i H/\Qe ys H) ∨
   (J.go i H/\ys.length<sizeLine/\∀x H',J.yld i H x H'->g x (HF k caps σ) H' fun σ2 H2=>tt σ2 H2 fun b H3 =>
    if b=true then te σ2 H3 fun v H4=>∃m',m'<m/\W (i+1) m' (ys++[v]) H4 else ∃m',m'<m/\W (i+1) m' ys H3))
  (hRR:∀D C s' H' ys,s2.heap.objs.size<=D->s2.heap.objs.size<=C->C≠D->H' D=none->H' C=none->Inv X pins σ (upd H' D (.lst ys)) s'->(∃m,s'.heap.Ns C m)->Qe ys H'->RR (.ref D) C (.ok .next) s') :
  wpAny (model X.prog X.w) X.A (newList []) (fun acc s₃=>wpAny (model X.prog X.w) X.A (newFunctionEnv scope X.env.globals cl [] X.env.qual none .none (some X.env)) (fun cenv s₄ =>
   codeAny (model X.prog X.w) X.A (.compStart (.ListComp elt [⟨tg,iter,ifs,0⟩] scope pos) 0 (.ref it) acc { cenv with scope:=relabel scope X.env }) (RR acc cenv.locals) s₄) E s₃) E s2:=by
 refine U17 (V7 fun h₁ hns₁ kp cok=>?_)
 dsimp only at hns₁ kp cok ⊢
 generalize hH3:s2.heap.push { cls:=.type "list",dict:=none,data:=.seq ([]:List Value).toArray }=H3 at hns₁ kp cok ⊢
 have hC:H3.objs.size=s2.heap.objs.size+1:=by rw[←hH3,U2l]
 generalize hDD:s2.heap.objs.size=D at hC
 generalize hCC:H3.objs.size=C at hns₁ cok hC ⊢
 have hDC:D≠C:=by omega
 have szD:s2.heap.objs.size<=D:=U63 hDD
 have szC:s2.heap.objs.size<=C:=by rw[hDD,hC];exact U4h _
 have below:∀b o,s2.heap.get? b=some o->b≠C/\b≠D:=fun b o e=>⟨MF (U0k e) szC,MF (U0k e) szD⟩
 have old:∀b o,s2.heap.get? b=some o->h₁.get? b=some o:=fun b o e=>kp b o (hH3 ▸ U0d _ e)
 have hacc:h₁.get? D=some { cls:=.type "list",data:=.seq ([]:List Value).toArray 0 }:=kp _ _ (hH3 ▸ hDD ▸ U0r _ rfl)
 have f2h:∀b∈fp,∃o,s2.heap.get? b=some o:=fun b hbf=>let ⟨o,e,_⟩:=T.obj 0 _ st2 b hbf;⟨o,e⟩
 -- the block's context
 have okc:∀x c,X.env.cells.lookup x=some c->∃o,s2.heap.get? c=some o:=fun x c e=>let ⟨_,o,ho,_⟩:=I2.cell x c e;⟨o,ho⟩
 have oMem:∀x c,(cellsFrom (C+1) scope.names []).lookup x=some c->C+1<=c/\h₁.IsCell c none/\scope.names.lookup x=some .cell:=fun x c e=>by
  have m:=U2f e
  exact⟨(cok.empty x c m).2,(cok.empty x c m).1,hS.one _ (Je _ _ m) rfl⟩
 have oHas:∀x,scope.names.lookup x=some .cell->∃c,(cellsFrom (C+1) scope.names []).lookup x=some c:=fun x e=>U46.mp (U5l scope.names (C+1) [] (.inl e))
 have oApart:=cok.apart
 generalize cellsFrom (C+1) scope.names []=own at oMem oHas oApart ⊢
 have hcs:∀x c,(own++cl).lookup x=some c->(C+1<=c/\h₁.IsCell c none/\own.lookup x=some c)∨X.env.cells.lookup x=some c:=fun x c e=>by
  rcases Wm e with z|z
  .exact .inl ⟨(oMem x c z).1,(oMem x c z).2.1,z⟩
  .exact .inr (hcl x c z.2)
 have hlt:∀x c,X.env.cells.lookup x=some c->c<s2.heap.objs.size:=fun x c e=>let ⟨o,ho⟩:=okc x c e;U0k ho
 have OK:(Cw X N2 scope (own++cl) C s2 H2 fp).Ok:=by
  refine⟨I2.ok.mod,hS.kind,I2.ok.glob,I2.ok.blt,?_,fun x y c h1 h2=>?_,fun x hx=>?_,fun x c hf h1=>?_,I2.ok.hd,I2.ok.frames,.inl rfl,fun b hbf=>?_,I2.bs,
   U08 I2.ok.bsz I2.sz,fun b o e hbf=>?_,fun b hbf hb'=>?_,I2.stack,I2.VP,I2.Pb⟩
  .exact szC
  .rcases hcs x c h1 with z|z
   .rcases hcs y c h2 with z'|z'
    .exact name_of_addr oApart (U2f z.2.2) (U2f z'.2.2)
    .exact absurd (hlt y c z') (U6w.mpr (U08 szC (U08 (U4h _) z.1)))
   .rcases hcs y c h2 with z'|z'
    .exact absurd (hlt x c z) (U6w.mpr (U08 szC (U08 (U4h _) z'.1)))
    .exact I2.ok.inj x y c z z'
  .rcases O1 (env:=X.env) hx with z|z
   .obtain⟨c,e⟩:=hcf x z
    show ∃c,(own++cl).lookup x=some c
    rw[U4f]
    cases q:own.lookup x with
    |none=>exact⟨c,e⟩
    |some d=>exact⟨d,rfl⟩
   .obtain⟨c,e⟩:=oHas x z
    exact⟨c,by show(own++cl).lookup x=some c;rw[U4f,e];rfl⟩
  .obtain⟨d,e⟩:=oHas x (of_decide_eq_true hf)
   have h1':(own++cl).lookup x=some c:=h1
   rw[U4f,e] at h1'
   have e2:d=c:=U0x h1'
   rw[←e2]
   exact U08 szC (U08 (U4h _) (oMem x d e).1)
  .obtain⟨o,e⟩:=f2h b hbf
   refine⟨(below b o e).1,fun x c h1=>?_⟩
   rcases hcs x c h1 with z|z
   .exact fun w=>absurd (U0k e) (by rw[←w];exact U6w.mpr (U08 szC (U08 (U4h _) z.1)))
   .exact(f2 b hbf).2.2.2.2.1 x c z
  .rcases(f2 b hbf).2.2.2.1 with z|z
   .exact I2.ok.noex b o e z
   .exact absurd (U03 (U0k (I2.ok.bs b o e).1) z) (U4b _)
  .rcases U0u.mp (I2.NZ b hb') with z|z
   .exact(f2 b hbf).2.1 z
   .exact(f2 b hbf).2.2.1 z
 have fresh:∀a,s2.heap.objs.size<=a->H2 a=none:=fun a ha=>I2.hok.fresh ha
 have I4:∀tk,Inv (Cw X N2 scope (own++cl) C s2 H2 fp) [(D,{ cls:=.type "list",data:=.seq ([]:List Value).toArray 0 })] (HF k caps σ) H2 { s2 with heap:=h₁,toks:=tk }:=fun tk=>by
  refine⟨OK,rfl,I2.bare,Un.kept old,⟨_,hns₁,fun i x v e1 e2 e3=>?_⟩,fun x c e=>?_,fresh C szC,fun x c e=>?_,fun p hp=>?_,I2.hok.kept old,?_⟩
  .obtain⟨j,a,rfl,ha,hv⟩:=Vx e2
   obtain⟨y,y1,y2,y3⟩:=hS.cap j a ha
   have e1':N2[k+j]?=some x:=e1
   rw[y1] at e1';cases e1'
   have hk:X.env.scope.names.lookup x=some .cell∨X.env.scope.names.lookup x=some .free:=hS.free (x,.free) (U2f y3) rfl
   obtain⟨m',_,hl⟩:=id I2.loc
   obtain⟨u,ru,lk⟩:=hl a x v y2 hv (hk.elim (fun z=>.inr (.inl z)) fun z=>.inr (.inr z))
   refine⟨u,ru,.inr ⟨Nz y3,?_⟩⟩
   rcases lk with ⟨kk,_⟩|⟨_,c,e,z⟩
   .have kk':X.env.scope.names.lookup x=some .local:=kk
    rw[kk'] at hk
    rcases hk with z|z<;>cases z
   .obtain⟨c',e'⟩:=hcf x y3
    have e'':=hcl x c' e'
    rw[e] at e'';cases e''
    obtain⟨o,ho,hd⟩:=z
    refine⟨c,?_,o,old c o ho,hd⟩
    show(own++cl).lookup x=some c
    rw[U4f]
    cases q:own.lookup x with
    |none=>exact e'
    |some d=>have:=(oMem x d q).2.2;rw[y3] at this;cases this
  .rcases hcs x c e with z|z
   .exact⟨none,z.2.1⟩
   .obtain⟨v,o,ho,hd⟩:=I2.cell x c z
    exact⟨v,o,old c o ho,hd⟩
  .rcases hcs x c e with z|z
   .exact fresh c (U08 szC (U08 (U4h _) z.1))
   .exact I2.freeC x c z
  .have hp':p∈[(D,({ cls:=.type "list",data:=.seq ([]:List Value).toArray 0 }:Obj))]:=hp
   have e:p=(D,({ cls:=.type "list",data:=.seq ([]:List Value).toArray 0 }:Obj)):=by simpa using hp'
   subst e
   exact⟨hacc,fresh D szD,hDC,fun z=>by
    rcases U0u.mp (I2.NZ D z) with z|z
    .exact MF I2.lt szD z.symm
    .exact I2.Yi szD z,fun v z=>by cases z⟩
  .show(HF k caps σ).length=N2.length
   unfold HF
   rw[U0i,U1t,U0g,hS.len]
 -- the loop
 obtain⟨hg,ht,he⟩:=hb (own++cl) C s2 H2 fp
 have loop:∀s₃:Shared,Inv (Cw X N2 scope (own++cl) C s2 H2 fp) [(D,{ cls:=.type "list",data:=.seq ([]:List Value).toArray 0 })] (HF k caps σ) H2 s₃->tn 0 s₃.heap ->
   codeAny (model X.prog X.w) X.A (.compLoop (.ListComp elt [⟨tg,iter,ifs,0⟩] scope pos) 0 (.ref it) (.ref D) (compEnvC scope (own++cl) C X.env)) (RR (.ref D) C) s₃:=by
  intro s₃ I₃ st₃
  refine codeAny_loop rfl (fun n s'=>∃i ys its nn H',Inv (Cw X N2 scope (own++cl) C s2 H2 fp) [(D,{ cls:=.type "list",data:=.seq (its:List Value).toArray nn })] (HF k caps σ) H' s'/\Vals ys its/\tn i s'.heap/\(∀b∈fp,H' b=none)/\ys.length<=sizeLine/\W i n ys H') ?_ m0
   ⟨0,[],[],0,H2,I₃,.nil,st₃,fun b hbf=>(f2 b hbf).1,U3c _,w0⟩
  rintro n s5 ⟨i,ys,its,nn,H5,I5,rv,st5,fr5,hz,w5⟩
  show wpAny _ X.A ((compTurn (.ListComp elt [⟨tg,iter,ifs,0⟩] scope pos) 0 (.ref it) (.ref D) (compEnvC scope (own++cl) C X.env)).onRaise (fun x=>do noteFrame x (compEnvC scope (own++cl) C X.env);theTreesLotGoes x)) _ _ s5
  refine wpAny_noted ?_
  rw[compTurn_list]
  refine U0 (wpAny_standAt (U0 ?_))
  have fpok:∀{H':Hp} {o:Obj},(∀b∈fp,H' b=none)->∀b∈fp,NQ (Cw X N2 scope (own++cl) C s2 H2 fp) [(D,o)] H' b:=fun {H' o} hn b hbf=>by
   obtain⟨ob,e⟩:=f2h b hbf
   refine⟨hn b hbf,(below b ob e).1,OK.exfs b hbf,.inl hbf,(OK.exf b hbf).2,fun p hp z=>?_⟩
   have hp':p∈[(D,o)]:=hp
   have e':p=(D,o):=by simpa using hp'
   subst e'
   exact(below b ob e).2 z.symm
  rcases turn i n ys H5 w5 with ⟨stop,qn⟩|⟨go,hz2,step⟩
  .refine thn (T.done (Cw X N2 scope (own++cl) C s2 H2 fp) rfl rfl rfl hc i _ s5 _ H5 _ I5 (fpok fr5) st5 stop) fun r s6 ⟨hr,I6⟩=>?_
   subst hr
   refine U0c ?_
   obtain⟨pe,pn,pne,pnf,_⟩:=I6.pin (D,{ cls:=.type "list",data:=.seq its.toArray nn }) (U01 _ (U1k.mpr rfl))
   have hD:H5 D=none:=pn
   have hCn:H5 C=none:=I6.free
   refine hRR D C s6 H5 ys szD szC (U3l hDC) hD hCn ?_ ?_ qn
   .have un:Un (frs X.stack) fp H2 (upd H5 D (.lst ys)) s2.heap s6.heap:=by
     have u:=I6.base
     refine⟨u.keep,u.slot,fun b o e n1 n2=>?_,u.there,fun b xs e=>?_,fun b o u' e=>?_,fun b ps e=>?_,fun n=>by rw[BK (U1c (U03 I2.Yn szD))];exact u.sy n⟩
     .rw[BK (below b o e).2];exact u.free b o e n1 n2
     .rw[BK (CZ (u.tups b xs e) hD)];exact u.tups b xs e
     .rw[BK (CZ (u.frzs b o u' e) hD)];exact u.frzs b o u' e
     .obtain⟨more,q⟩:=u.tbls b ps e
      exact⟨more,by rw[BK (CZ q hD)];exact q⟩
    refine I2.call' I6.os un (fun b u e=>?_) I6.bare (fun b hbf=>⟨(f2 b hbf).2.2.2.1,(f2 b hbf).2.1,(f2 b hbf).2.2.2.2.1,(f2 b hbf).2.2.2.2.2⟩)
    by_cases hbd:b=D
    .subst hbd
     rw[CN] at e;cases e
     exact⟨hz,its,nn,rv,pe⟩
    .rw[BK hbd] at e
     exact(I6.hok b u e).stay (fun _ _ _ q=>q) (fun c q=>by rw[BK (CZ q hD)];exact q) fun c xs q=>by rw[BK (CZ q hD)];exact q
   .obtain⟨m,hn,_⟩:=I6.loc
    exact⟨m,hn⟩
  .refine thn (T.item (Cw X N2 scope (own++cl) C s2 H2 fp) rfl rfl rfl hc i _ s5 _ H5 _ I5 (fpok fr5) st5 go) fun r s6 ⟨u,hr,h6⟩=>?_
   subst hr
   refine U0 (thn h6 fun _ s7 ⟨x,H7,I7,r7,y7,st7,fr7⟩=>?_)
   have I7':=I7.pinned (fpok fr7) (T.obj _ _ st7)
   refine U0 (U5a (hg _ s7 _ H7 x u _ I7' r7 (hlow _ _ _ _ (step x H7 y7))) (fun _ s8 ⟨σ8,H8,I8,q8,ql,qk⟩=>?_) fun _ _ z=>z.elim)
   have wk:∀{pl:List (Addr×Obj)} {H9:Hp} {s9:Shared},Inv (Cw X N2 scope (own++cl) C s2 H2 fp) pl σ8 H9 s9->Inv (Cw X N2 scope (own++cl) C s2 H2 fp) pl (HF k caps σ) H9 s9:=fun {pl H9 s9} I9 =>
    I9.weak ql.symm fun i v e=>by
     obtain⟨j,a,rfl,_,_⟩:=Vx e
     rw[qk (k+j) (U5o _ _)];exact e
   have pinD:∀{pl:List (Addr×Obj)} {σ9:St} {H9:Hp} {s9:Shared},Inv (Cw X N2 scope (own++cl) C s2 H2 fp) (((D,({ cls:=.type "list",data:=.seq its.toArray nn }:Obj))::[])++pl) σ9 H9 s9->s9.heap.get? D=some { cls:=.type "list",data:=.seq its.toArray nn }/\H9 D=none:=fun {pl σ9 H9 s9} I9=>by
    obtain⟨e1,e2,_⟩:=I9.pin (D,_) (U01 _ (U2y _ (U1k.mpr rfl)))
    exact⟨e1,e2⟩
   have stn:∀{pl:List (Addr×Obj)} {σ9:St} {H9:Hp} {s9:Shared},Inv (Cw X N2 scope (own++cl) C s2 H2 fp) (pl++JL fp s7.heap) σ9 H9 s9->tn (i+1) s9.heap/\∀b∈fp,H9 b=none:=fun {pl σ9 H9 s9} I9=>by
    refine⟨T.keep _ _ _ st7 fun b hbf o e=>(I9.pin (b,o) (U01 _ (U01 _ (Jk hbf e)))).1,fun b hbf=>?_⟩
    obtain⟨o,e,d⟩:=T.obj _ _ st7 b hbf
    exact(I9.pin (b,o) (U01 _ (U01 _ (Jk hbf e)))).2.1
   refine U0 (U5a (ht _ s8 σ8 H8 _ I8 q8) (fun ok s9 ⟨H9,I9,q9⟩=>?_) fun _ _ z=>z.elim)
   cases ok with
   |false =>
    obtain⟨m',hm,w9⟩:=(by simpa using q9:∃m',m'<n/\W (i+1) m' ys H9)
    refine U0c ⟨rfl,m',hm,i+1,ys,its,nn,H9,wk I9.MJ,rv,(stn I9).1,(stn I9).2,hz,w9⟩
   |true =>
    have q9':te σ8 H9 fun v H4=>∃m',m'<n/\W (i+1) m' (ys++[v]) H4:=by simpa using q9
    refine U0 (U0 (U5a (he _ s9 σ8 H9 _ I9 q9') (fun y s10 ⟨v,H10,I10,r10,q10⟩=>U0 ?_) fun _ _ z=>z.elim))
    obtain⟨m',hm,w10⟩:=q10
    obtain⟨eD,nD⟩:=pinD I10
    have hl:=rv.length
    refine call_meets F.slot_list_append ⟨_,eD,rfl⟩ F.entry_list_append (F.args_list_append_2 _ _) (PySem.list_append D its.toArray nn y (by rw[U0j];omega)) ⟨eD,?_⟩
    refine U0c (U0c ⟨rfl,m',hm,?_⟩)
    obtain⟨n2,qD⟩:∃n2,(s10.heap.update D (U2h fun z=>z.push y)).get? D=some { cls:=.type "list",data:=.seq (its++[y]).toArray n2 }:=by
     have q0:=PySem.IsL.update eD (fun z=>z.push y)
     have hf:its.toArray.push y=(its++[y]).toArray:=by simp
     rw[hf] at q0
     exact⟨_,q0⟩
    have J0:Inv (Cw X N2 scope (own++cl) C s2 H2 fp) (JL fp s7.heap) (HF k caps σ) H10 s10:=wk (I10.Og fun p hp=>I10.pin p (U01 _ (U01 _ hp)))
    have J1:Inv (Cw X N2 scope (own++cl) C s2 H2 fp) (JL fp s7.heap) (HF k caps σ) H10 { s10 with heap:=s10.heap.update D (U2h fun z=>z.push y),toks:=s10.toks }:=by
     refine J0.turned (fun b o hne e=>(U0z s10.heap _ (U3l hne)).trans e) nD hDC (.inr szD) (fun x c e z=>?_) fun p hp z=>?_
     .rcases hcs x c e with y|y
      .have:=y.1
       rw[z] at this
       omega
      .obtain⟨o,ho⟩:=okc x c y
       exact(below c o ho).2 z
     .have hp':p∈JL fp s7.heap:=hp
      obtain⟨ob,e⟩:=f2h p.1 (RT hp').1
      exact(below p.1 ob e).2 z
    have J2:Inv (Cw X N2 scope (own++cl) C s2 H2 fp) [(D,{ cls:=.type "list",data:=.seq (its++[y]).toArray n2 })] (HF k caps σ) H10 { s10 with heap:=s10.heap.update D (U2h fun z=>z.push y),toks:=s10.toks }:=by
     refine J1.Og fun p hp=>?_
     have e:p=(D,{ cls:=.type "list",data:=.seq (its++[y]).toArray n2 }):=U1k.mp hp
     subst e
     exact⟨qD,nD,hDC,fun z=>by
      rcases U0u.mp (I2.NZ D z) with z|z
      .exact MF I2.lt szD z.symm
      .exact I2.Yi szD z,fun v z=>by cases z⟩
    refine⟨i+1,ys++[v],its++[y],_,H10,J2,rv.append (.cons r10 .nil),?_,(stn I10).2,?_,w10⟩
    .refine T.keep _ _ _ (stn I10).1 fun b hbf o e=>?_
     obtain⟨ob,e'⟩:=f2h b hbf
     exact(U0z s10.heap _ (U3l (below b ob e').2)).trans e
    .rw[U0i,U29];omega
 have st1:tn 0 h₁:=T.keep _ _ _ st2 fun b hbf o e=>old b o e
 exact codeAny_compStart_list (loop _ (I4 _) st1) (T.self X.A 0 _ _ _ st1 (loop _ (I4 _) st1))
theorem bR{elt tg iter:Expr}{ifs:List Expr}{scope:Scope}{pos:Pos}{N2:List Str}{k:Nat}{caps:List Nat}{wi:TI}{g:TG}{tt:TT}{te:TE}
  (hc:X.calm=true) (hS:Fp X.env.scope X.N N2 k caps scope) (hlow:Low k g) (hi:PI X tg iter wi)
  (hb:∀(cl:List (Str×Addr))(C:Addr)(s:Shared)(H:Hp)(ex:List Addr),PG (Cw X N2 scope cl C s H ex) tg g/\PTs (Cw X N2 scope cl C s H ex) ifs tt/\PE (Cw X N2 scope cl C s H ex) elt te)
  (hs:∀x,foldedSetIterable iter X.env x=pure x:=by intro _;rfl):PE X (.ListComp elt [⟨tg,iter,ifs,0⟩] scope pos) (Zv k caps wi g tt te):=by
 intro pins s σ H Q I h
 rw[eval_ListComp]
 obtain⟨cl,hcl0,hcl,hcf⟩:=Ww (scope:=scope) (env:=X.env) fun y hy e=>I.ok.has y.1 (hS.free y hy e)
 refine wpAny_comprehension_free (use:=none) rfl hs hcl0 hS.kind hS.loc ?_
 refine thn (hi pins s σ H _ I h) fun v s1 h1=>thn h1 fun itv s2 h2=>?_
 obtain⟨it,fp,tn,J,H2,e,I2,T,st2,f2,W,⟨m0,w0⟩,turn⟩:=h2
 subst e
 refine Wu (RR:=fun acc C=>compPost (model X.prog X.w) X.A X.xe none (EP X pins σ Q) acc C) (Qe:=fun ys H=>∀p,H p=none->Q (.ref p) (upd H p (.lst ys))) hc hS hlow hcl hcf hb I2 T st2 f2 w0 turn ?_
 intro D C s' H' ys hD hC hDC nD nC I' hn q
 obtain⟨m,hn⟩:=hn
 refine⟨m,hn,fun h' hsb=>⟨.ref D,_,?_,rfl,q D nD⟩⟩
 refine I'.but hsb (by rw[BK hDC];exact nC) (fun z=>?_) (U08 I2.sz hC) (fun x c e z=>?_) fun p hp z=>?_
 .exact MF I2.lt hC z.symm
 .obtain⟨v,o,ho,_⟩:=I2.cell x c e
  exact MF (U0k ho) hC z
 .exact MF (U0k (I2.pin p hp).1) hC z
end
end L2
end
section
namespace L2
open PySem PySem.Spec PyProof.Rows
theorem DK.obj{P:Program}{w:World}{H:Hp}{h:Heap}{a:Addr}{o:HO}(x:DK P w H h a o):∃ob,h.get? a=some ob:=by
 cases o with
 |lst xs=>obtain⟨_,_,_,_,e⟩:=x;exact⟨_,e⟩
 |tup xs=>obtain⟨_,_,_,ob,e,_⟩:=x;exact⟨ob,e⟩
 |dK kvs=>obtain⟨_,_,_,_,o,_,_,e,_⟩:=x;exact⟨o,e⟩
 |dT kvs=>obtain⟨_,_,_,_,o,_,_,e,_⟩:=x;exact⟨o,e⟩
 |set S n=>obtain⟨o,_,_,_,e,_⟩:=x;exact⟨o,e⟩
 |ins C dx fs=>obtain⟨_,_,_,e,_⟩:=x;exact⟨_,e⟩
 |own y=>exact x
 |xd fs=>obtain⟨_,⟨o,_,_,e,_⟩,_⟩:=x;exact⟨o,e⟩
 |rng lo hi=>obtain⟨_,_,_,e⟩:=x;exact⟨_,e⟩
 |frz ob u=>obtain⟨e,_⟩:=x;exact⟨_,e⟩
 |tbl ps=>exact⟨_,x⟩
 |met f y=>exact⟨_,x⟩
 |ext φ=>obtain⟨_,e,_⟩:=x;exact e
section
variable{X:Cx}{pins:List (Addr×Obj)}{σ:St}{H:Hp}{s:Shared}
theorem Inv.Vi(I:Inv X pins σ H s){a:Addr}(h:s.heap.get? a=none):H a=none:=by
 cases q:H a with
 |none=>rfl
 |some o =>
  obtain⟨ob,e⟩:=(I.hok a o q).obj
  rw[h] at e;cases e
theorem Inv.laidN{a:Addr}{o:HO}{h':Heap}{d':Drawn}{t':Nat}(I:Inv X pins σ H s)(k:∀b u,s.heap.get? b=some u->h'.get? b=some u)(hn:s.heap.get? a=none)(hsy:sysModules≠a)(new:DK X.prog X.w (upd H a o) h' a o) :
  Inv X pins σ (upd H a o) { s with heap:=h',drawn:=d',toks:=t' }:=by
 have hH:=I.Vi hn
 have ne:∀b u,s.heap.get? b=some u->b≠a:=fun b u e z=>by rw[z,hn] at e;cases e
 refine I.step (g':=s.gens) (ch:=[]) (fun _ z=>nomatch z) (fun b u _ _ _ e _=>k b u e) (fun b u _ _ _ e _=>⟨u.slots,k b u e⟩) (fun b u _ e n=>by rw[BK (ne b u e)];exact n) (fun b u _ e=>⟨u,k b u e⟩)
  (fun b xs e=>by rw[BK (CZ e hH)];exact e) (fun b u xs e=>by rw[BK (CZ e hH)];exact e) (fun b ps e=>⟨#[],by rw[BK (CZ e hH),e];simp⟩) (fun m hm=>?_) (fun b u e=>?_) I.bare (fun n=>by rw[BK hsy];exact n)
 .obtain⟨ob,es,ep,e,r⟩:=hm
  exact⟨ob,es,ep,k _ _ e,r⟩
 .by_cases hb:b=a
  .subst hb;rw[CN] at e;cases e;exact new
  .rw[BK hb] at e
   exact(I.hok b u e).stay (fun c v _ q=>k c v q) (fun c q=>by rw[BK (CZ q hH)];exact q) fun c xs q=>by rw[BK (CZ q hH)];exact q
end
def Sq(P:Program)(w:World)(a:Addr)(ds:List Int):HO:=.ext fun h=>SetP.SetT P w h a ds
theorem bA{P:Program}{w:World}{H:Hp}{h:Heap}{a:Addr}{ds:List Int}(x:SetP.SetT P w h a ds):DK P w H h a (Sq P w a ds) :=
 ⟨x,(by obtain⟨_,o,_,_,_,e,_⟩:=x;exact⟨o,e⟩),fun h1 h2 y k=>y.sameBut k⟩
section
variable{X:Cx}
theorem Zo(hc:X.calm=true):Cv X (.type "set") (fun xs H Q=>∃p ns,xs=[.ref p]/\SqL X.K H p (ns.map V.int)/\ns.length<1000/\∀a,H a=none->Q (.ref a) (upd H a (Sq X.prog X.w a (SetP.once ns)))):=by
 intro pins s σ H xs us Q I r h
 obtain⟨p,ns,rfl,hq,hl,q⟩:=h
 obtain⟨u,rfl,rx⟩:=vals1 r
 cases rx
 obtain⟨its,rv,pl,hz⟩:=I.list hq
 have hlen:=rv.length
 rw[U0g] at hlen
 refine SetP.au (I.ok.hd hc) pl.isList (by simpa using intsAre_of rv) (by rw[U0j,←hlen];unfold scanBound;omega) fun h' tk k T=>?_
 have hn:s.heap.get? s.heap.objs.size=none:=Heap.get?_none_of_le (U0l _)
 exact⟨.ref s.heap.objs.size,_,I.laidN (d':=s.drawn) (t':=tk) k hn (U1c I.Yn) (bA T),rfl,q _ (I.hok.fresh (U0l _))⟩
theorem Uw{prog:Program}{w:World}{A:Around}{bs:List Bool}{its:List Value}(r:Vals (bs.map V.bl) its):TruthOf prog w A (fun i v=>its.toArray[i]?=some v) (fun i=>bs.getD i false):=by
 intro i v s Q E hP h
 rw[U3x] at hP
 have hlen:=r.length
 rw[U0g] at hlen
 have hi:i<bs.length:=by rw[hlen];exact(U0h.mp hP).1
 obtain⟨u,e,ru⟩:=r.get (i:=i) (x:=.bl bs[i]) (by rw[U0v,U0q hi];rfl)
 rw[e] at hP;cases hP
 have ru':v=U4c bs[i]:=ru
 subst ru'
 have e2:bs.getD i false=bs[i]:=by rw[U1x,U0q hi];rfl
 have h:Q (bs.getD i false) s:=h
 rw[e2] at h
 exact U2g h
theorem all_range(bs:List Bool):(U3o bs.length).all (fun i=>bs.getD i false)=bs.all id:=by
 rw[U4d,U27,U27]
 constructor
 .intro h b hb
  obtain⟨i,hi⟩:=U3w.mp hb
  have q:=h i (U3k.mpr (U0h.mp hi).1)
  rw[U1x,hi] at q
  exact q
 .intro h i hi
  have hi':=U3k.mp hi
  rw[U1x,U0q hi']
  exact h _ (U4u hi')
theorem Ub(hc:X.calm=true):Cv X (.builtin "all") (fun xs H Q=>∃(p:Addr)(bs:List Bool),xs=[.ref p]/\SqL X.K H p (bs.map V.bl)/\Q (.bl (bs.all id)) H):=by
 intro pins s σ H xs us Q I r h
 obtain⟨p,bs,rfl,hq,q⟩:=h
 obtain⟨u,rfl,rx⟩:=vals1 r
 cases rx
 obtain⟨its,rv,pl,hz⟩:=I.list hq
 have hlen:=rv.length
 rw[U0g] at hlen
 have hl:=pl.isList
 have hlt:p<s.heap.objs.size:=by obtain⟨o,ho,_⟩:=hl;exact U0k ho
 refine call_all_walk (U4l hl ?_)
 refine⟨s.heap.objs.size,[s.heap.objs.size,p],[s.heap.objs.size],its.toArray.size,_,_,fun i=>bs.getD i false,rfl,Walks.list (by simpa using I.ok.hd hc) s.heap.objs.size p (U1c hlt) its.toArray,⟨⟨_,U0r _ rfl,rfl,rfl⟩,hl.push _⟩,Uw rv,fun h' tk k=>?_⟩
 refine⟨.bl (bs.all id),H,I.kept (h':=h') (t':=tk) fun b o e=>k b o (fun z=>?_) (U0d _ e),?_,q⟩
 .exact absurd (U1k.mp z) (U1c (U0k e))
 .show U4c _=U4c _
  rw[U0j,←hlen,all_range]
theorem Bs{K:U0a}{a b:String}{r:Bool}(h:(if (U24 a==U24 b)=true then some true else if PySem.W.kitMeta b=true then (PySem.fastBuiltinMro a).map (·.contains (.type b)) else none)=some r):U20 K (.type a) (.type b)=some r:=h
theorem V9:Cv X (.builtin "isinstance") (fun xs H Q=>∃(x:V)(T:String)(t:Value)(b:Bool),xs=[x,.ty T]/\Ho X.K H x t/\U20 X.K t (.type T)=some b/\Q (.bl b) H):=by
 intro pins s σ H xs us Q I r h
 obtain⟨x,T,t,b,rfl,ty,e,q⟩:=h
 obtain⟨u,w',rfl,rx,rt⟩:=vals2 r
 cases (show w'=U24 T from rt)
 exact YB I rx ty e fun tk=>⟨.bl b,H,I.tok tk,rfl,q⟩
end
end L2
end
section
namespace L2
open PySem PySem.Spec PyProof.Rows
mutual
inductive Tr (N:Addr->Prop) (H:Hp):V->PyData->Prop
 |non:Tr N H .non .none
 |bl (b:Bool):Tr N H (.bl b) (.bool b)
 |int (i:Int):Tr N H (.int i) (.int i)
 |str (x:Str):Tr N H (.str x) (.str x)
 |lst {a:Addr} {xs:List V} {ds:List PyData}:N a->H a=some (.lst xs)->Ii N H xs ds->Tr N H (.ref a) (.list ds)
 |tup {a:Addr} {xs:List V} {ds:List PyData}:N a->H a=some (.tup xs)->Ii N H xs ds->Tr N H (.ref a) (.tuple ds)
 |dct {a:Addr}:N a->H a=some (.dK [])->Tr N H (.ref a) (.dict [])
inductive Ii (N:Addr->Prop) (H:Hp):List V->List PyData->Prop
 |nil:Ii N H [] []
 |cons {x:V} {d:PyData} {xs:List V} {ds:List PyData}:Tr N H x d->Ii N H xs ds->Ii N H (x::xs) (d::ds)
end
section
variable{N N':Addr->Prop}{H H':Hp}
end
section
variable{N:Addr->Prop}{P:Program}{w:World}{H:Hp}{h:Heap}
mutual
theorem Tr.reads(ok:HOk P w H h)(hs:H sysModules=none):∀{v:V} {d:PyData},Tr N H v d->∀u,RelV v u->∃as,Reads h u d as/\sysModules ∉ as
 |_,_,.non,u,r=>⟨[],by cases (show u=U2s from r);exact .none,by simp⟩
 |_,_,.bl b,u,r=>⟨[],by cases (show u=U4c b from r);exact .bool b,by simp⟩
 |_,_,.int i,u,r=>by obtain⟨t,rfl⟩:=(show ∃t,u=U4r i t from r);exact⟨[],.int i t,by simp⟩
 |_,_,.str x,u,r=>by obtain⟨t,rfl⟩:=(show ∃t,u=Value.str x t from r);exact⟨[],.str x t,by simp⟩
 |_,_,.lst (a:=a) (xs:=xs) (ds:=ds) _ hH t,u,r=>by
  cases (show u=U28 a from r)
  obtain⟨_,its,n,rv,e⟩:=(show DK P w H h a (.lst xs) from ok a _ hH)
  obtain⟨as,ra,na⟩:=Ii.reads ok hs t its rv
  refine⟨a::as,.list e rfl rfl (by simpa using ra),fun z=>?_⟩
  rcases U0u.mp z with z|z
  .rw[z] at hs;rw[hs] at hH;cases hH
  .exact na z
 |_,_,.tup (a:=a) (xs:=xs) (ds:=ds) _ hH t,u,r=>by
  cases (show u=U28 a from r)
  obtain⟨_,its,rv,ob,e,c,n,d⟩:=(show DK P w H h a (.tup xs) from ok a _ hH)
  obtain⟨as,ra,na⟩:=Ii.reads ok hs t its rv
  exact⟨as,.tuple e c d (by simpa using ra),na⟩
 |_,_,.dct (a:=a) _ hH,u,r=>by
  cases (show u=U28 a from r)
  obtain⟨_,y,vs,kv,o,es,ep,e,ex,d,el⟩:=(show DK P w H h a (.dK []) from ok a _ hH)
  cases kv
  have e0:es.toList=[]:=by
   have q:Pairs (Qy P w) es.toList []:=el.2.1
   generalize es.toList=l at q
   cases q
   rfl
  refine⟨[a],.dict (as:=[]) (bs:=[]) e ex.1 d (by rw[e0];exact .nil) (by rw[e0];exact .nil),fun z=>?_⟩
  have z':=U1k.mp z
  rw[←z'] at y
  simp at y
theorem Ii.reads(ok:HOk P w H h)(hs:H sysModules=none):∀{xs:List V} {ds:List PyData},Ii N H xs ds->∀us,Vals xs us->∃as,ReadsAll h us ds as/\sysModules ∉ as
 |_,_,.nil,us,r=>by cases r;exact⟨[],.nil,by simp⟩
 |_,_,.cons t ts,us,r=>by
  cases r with
  |cons rx rr =>
   obtain⟨as,ra,na⟩:=Tr.reads ok hs t _ rx
   obtain⟨bs,rb,nb⟩:=Ii.reads ok hs ts _ rr
   exact⟨as++bs,.cons ra rb,fun z=>(U1l.mp z).elim na nb⟩
end
end
section
variable{X:Cx}
theorem YL{k:Nat}(hr:Dm k X.A):Cv X (.builtin "repr") (fun xs H Q=>∃(N:Addr->Prop)(a:Addr)(d:PyData),xs=[.ref a]/\Tr N H (.ref a) d/\d.showable=true/\d.depth<=60/\d.shown.length<=sizeLine/\Q (.str d.shown) H):=by
 intro pins s σ H xs us Q I r h
 obtain⟨N,a,d,rfl,t,h1,h2,h3,q⟩:=h
 obtain⟨u,rfl,rx⟩:=vals1 r
 cases rx
 obtain⟨as,ra,na⟩:=t.reads I.hok I.Pb (.ref a) rfl
 have hu:=hr.un
 exact repr_of_reads' ra h1 (fun _=>na) hr.gd (by omega) (fun _ _ e=>e) (fun h' u tk k=>⟨.str d.shown,H,I.kept (h':=h') (t':=tk) k,⟨u,rfl⟩,q⟩) h3
theorem iH{k:Nat}(hr:Dm k X.A):OpR X (compareOp .Eq) (fun x y H Q=>∃(N N':Addr->Prop)(d e:PyData),Tr N H x d/\Tr N' H y e/\U19 d=true/\U19 e=true/\Q (.bl (U6x d e)) H):=by
 intro pins s σ H x y v u Q I rx ry h
 obtain⟨N,N',d,e,t1,t2,s1,s2,q⟩:=h
 obtain⟨as,ra,_⟩:=t1.reads I.hok I.Pb v rx
 obtain⟨bs,rb,_⟩:=t2.reads I.hok I.Pb u ry
 exact SeqAt.compareEq_shaped ra rb s1 s2 hr.units ⟨.bl _,H,I,rfl,q⟩
theorem iD{k:Nat}(hr:Dm k X.A):OpR X (compareOp .NotEq) (fun x y H Q=>∃(N N':Addr->Prop)(d e:PyData),Tr N H x d/\Tr N' H y e/\U19 d=true/\U19 e=true/\Q (.bl (!PyData.eqv d e)) H):=by
 intro pins s σ H x y v u Q I rx ry h
 obtain⟨N,N',d,e,t1,t2,s1,s2,q⟩:=h
 obtain⟨as,ra,_⟩:=t1.reads I.hok I.Pb v rx
 obtain⟨bs,rb,_⟩:=t2.reads I.hok I.Pb u ry
 exact SeqAt.compareNe_shaped ra rb s1 s2 hr.units ⟨.bl _,H,I,rfl,q⟩
end
end L2
end
section
namespace HT
open PySem PySem.Spec PyProof.Rows
section
variable{prog:Program}{w:World}{A:Around}{E:Value->Shared->Prop}{s:Shared}
theorem Zn{t b:Addr}{ws:List Value}{Q:Value->Shared->Prop}(ht:IsTup s.heap t ([]:List Value).toArray)(hb:IsTup s.heap b ws.toArray)(h:Q (.ref b) s):wpAny (model prog w) A (binaryOp .Add (.ref t) (.ref b)) Q E s:=by
 obtain⟨⟨c1,d1,x1,sl1⟩,ho,hc,n,hd⟩:=id ht
 obtain⟨⟨c2,d2,x2,sl2⟩,ho2,hc2,n2,hd2⟩:=id hb
 simp only at hc hd hc2 hd2
 subst hc hd hc2 hd2
 exact concat_meets ⟨_,ho,rfl⟩ ⟨_,ho2,rfl⟩ noFill_tuple_add seq_tuple_add U5m U5g (U47 _ _) (tuple_addW0 t b _ ws.toArray n n2 d1 d2 sl1 sl2 (by simp)) ⟨ho,ho2,h⟩
theorem Ux{t sl:Addr}{items:Array Value}{vl vu:Value}{lo hi:Option Int}{Q:Value->Shared->Prop}(ht:IsTup s.heap t items)(hs:s.heap.IsSliceOf sl vl vu .none)(pl:IsPart vl lo)(pu:IsPart vu hi)
  (hw:sIx items.size 0 lo=0/\sIx items.size items.size hi=items.size) (h:Q (.ref t) s):wpAny (model prog w) A (getItem (.ref t) (.ref sl)) Q E s:=by
 obtain⟨os,hos,hcs,hds⟩:=id hs
 have hTs:s.TypeIs (.ref sl) "slice":=⟨os,hos,hcs⟩
 unfold getItem
 try with_reducible refine U2j ?_
 first|refine U0 (U0c ?_)|skip
 refine U0 (wpAny_sequenceKey ht.typeIs (by decide) ?_)
 refine U0 (wpAny_callSpecial?_slot (name:=U5r "__getitem__") ht.typeIs U2b (U3m U2b ht.typeIs entry_tuple_getitem ?_ (args_tuple_getitem _ _)))
 show wpAny _ _ (Builtin.Tuple.tupleItemsOf (.ref t) >>= _) _ _ s
 refine U0 (tupleItemsOf_ ht (U0 (U5s hTs ?_)))
 rw[if_pos (by decide)]
 refine U0 (KZ hs pl pu ?_)
 have yes:(((sIx items.size 0 lo:Nat):Int)==0&&(1:Int)==1&&(sIx items.size items.size hi-sIx items.size 0 lo)==items.size)=true:=by
  rw[hw.1,hw.2];simp
 show wpAny _ _ (if (((sIx items.size 0 lo:Nat):Int)==0&&(1:Int)==1&&(sIx items.size items.size hi-sIx items.size 0 lo)==items.size)=true then _ else _) _ _ s
 rw[if_pos yes]
 unfold Builtin.Tuple.tupleIsExact
 refine U0 (U0 (U5s ht.typeIs (U0c ?_)))
 rw[if_pos (by decide)]
 exact U0 (U3p (U0c ⟨_,rfl,U0c h⟩))
end
end HT
namespace L2
open PySem PySem.Spec PyProof.Rows
theorem Dh{H:Hp}{p:Addr}(h:H p=none)(o:HO):Same H (upd H p o):=fun b u q=>by rw[BK (CZ q h)];exact q
theorem Wt(xs:List V)(lo hi:Option Int)(h:HT.sIx xs.length 0 lo=0/\HT.sIx xs.length xs.length hi=xs.length):Ig xs lo hi=xs:=by
 unfold Ig
 rw[h.1,h.2,U5d,Nat.sub_zero,U5p]
section
variable{X:Cx}
theorem bZ:OpR X (binaryOp .Add) (fun x y H Q=>∃(a b:Addr)(xs ys:List V),x=.ref a/\y=.ref b/\H a=some (.tup xs)/\H b=some (.tup ys)/\xs.length+ys.length<=sizeLine/\∀p H',Same H H'->H' p=some (.tup (xs++ys))->Q (.ref p) H'):=by
 intro pins s σ H x y v u Q I rx ry h
 obtain⟨a,b,xs,ys,rfl,rfl,ha,hb,hz,q⟩:=h
 by_cases hx:xs=[]
 .subst hx
  cases rx
  cases ry
  obtain⟨its,r1,p1,_⟩:=I.tuple (SqT.of ha)
  obtain⟨its2,r2,p2,_⟩:=I.tuple (SqT.of hb)
  cases r1
  exact HT.Zn p1 p2 ⟨.ref b,H,I,rfl,q b H (Same.refl H) hb⟩
 .refine bY pins s σ H _ _ v u Q I rx ry ⟨a,b,xs,ys,rfl,rfl,SqT.of ha,SqT.of hb,hx,hz,fun z=>?_,fun _ p hp=>q p _ (Dh hp _) CN⟩
  subst z
  exact q a H (Same.refl H) (by rw[U1j];exact ha)
theorem ak:SlR X (fun x lo hi H Q=>∃(a:Addr)(xs:List V),x=.ref a/\H a=some (.tup xs)/\∀p H',Same H H'->H' p=some (.tup (Ig xs lo hi))->Q (.ref p) H'):=by
 intro pins s σ H x v vl vu lo hi sl Q I rx hs pl pu h
 obtain⟨a,xs,rfl,ha,q⟩:=h
 by_cases hw:HT.sIx xs.length 0 lo=0/\HT.sIx xs.length xs.length hi=xs.length
 .cases rx
  obtain⟨its,r,ht,hz⟩:=I.tuple (SqT.of ha)
  have hlen:its.toArray.size=xs.length:=by rw[U0j];exact r.length.symm
  refine⟨"tuple",_,U2b.lookup,ht.typeIs,?_⟩
  exact HT.Ux ht hs pl pu (by rw[hlen];exact hw) ⟨.ref a,H,I,rfl,q a H (Same.refl H) (by rw[Wt xs lo hi hw];exact ha)⟩
 .exact gB pins s σ H _ v vl vu lo hi sl Q I rx hs pl pu ⟨a,xs,rfl,SqT.of ha,hw,fun p hp=>q p _ (Dh hp _) CN⟩
end
end L2
end
section
namespace L2
open PySem PySem.Spec PyProof.Rows
def Cal(P:Program)(w:World)(K:U0a)(mg:Str->Option Value)(base:Heap)(x:Str)(k:Nat)(ps:List Str)(sp:Sp):Prop :=
 ∃f fd,Ci P w K mg base CX0 k f fd ps sp/\Binds K fd ps []/\U05 K (.ref f)=true/\mg x=some (.ref f)
section
variable{X:Cx}
theorem Ph{x:Str}{k k':Nat}{ps:List Str}{sp:Sp}{e:Expr}{es:List Expr}{t:TA}{p pos:Pos}(c:Cal X.prog X.w X.K X.mg X.base x k ps sp)(hr:Dm k' X.A)(hk:k<=k')(hg:Gl X x)(ha:PA X (e::es) t)
  (hdb:(x==("__debug__":Str))=false:=by decide) (he:starEach (e::es) X.env=(false,eval e X.env)::starEach es X.env:=by rfl) (hpl:(backTo pos (starEach es X.env)).any (·.1)=false:=by rfl) :
  PE X (.Call (.Name x p) (e::es) [] pos) (Zw sp [] E0 t):=by
 obtain⟨f,fd,F,b,kp,m⟩:=c
 exact bU (F.mono hk) hr hg m kp b .nil jx ha hdb he hpl
theorem Tn:OpR X (binaryOp .FloorDiv) (rI (fun _ j=>0<j/\j<2^64) fun i j=>.int (i/j)):=opI fun i j _ _ _ _ _ hc q=>by
 rw[←Int.fdiv_eq_ediv_of_nonneg _ (U4p hc.1)] at q
 refine floordiv_int (Int.ne_of_gt hc.1) q (.inl (PyProof.noPylong_of_log2 ?_))
 have h1:j.natAbs<2^64:=by omega
 have h2:j.natAbs≠0:=by omega
 exact U44 ((Nat.log2_lt h2).mpr h1) (by decide)
end
theorem Xh:bootBuiltins "len"=some (.builtin "len"):=by decide +kernel
theorem Hg:bootBuiltins "isinstance"=some (.builtin "isinstance"):=by decide +kernel
theorem Xi:bootBuiltins "all"=some (.builtin "all"):=by decide +kernel
theorem YW:bootBuiltins "sorted"=some (.builtin "sorted"):=by decide +kernel
theorem Xf:bootBuiltins "min"=some (.builtin "min"):=by decide +kernel
theorem Xg:bootBuiltins "max"=some (.builtin "max"):=by decide +kernel
theorem Oq:bootBuiltins "repr"=some (.builtin "repr"):=by decide +kernel
theorem j9:bootBuiltins "set"=some (.type "set"):=by decide +kernel
theorem Vy:bootBuiltins "list"=some (.type "list"):=by decide +kernel
theorem Zq:bootBuiltins "tuple"=some (.type "tuple"):=by decide +kernel
theorem T9:bootBuiltins "int"=some (.type "int"):=by decide +kernel
theorem dI:bootBuiltins "bool"=some (.type "bool"):=by decide +kernel
def Q5:List Str:=["len","isinstance","all","sorted","min","max","abs","repr","set","list","tuple","range","int","bool","str"]
def Blt(mg:Str->Option Value):Prop:=∀x∈Q5,mg x=none
theorem Blt.is{mg:Str->Option Value}(b:Blt mg)(x:Str)(h:Q5.contains x=true:=by decide +kernel):mg x=none:=b x (List.contains_iff_mem.mp h)
def tyName:PyData->String
 |.none=>"NoneType"
 |.bool _=>"bool"
 |.int _=>"int"
 |.str _=>"str"
 |.list _=>"list"
 |.tuple _=>"tuple"
 |.dict _=>"dict"
theorem Tr.ty{N:Addr->Prop}{K:U0a}{H:Hp}{v:V}{d:PyData}(t:Tr N H v d):Ho K H v (.type (tyName d)):=by
 cases t with
 |non=>exact .non
 |bl b=>exact .bl b
 |int i=>exact .int i
 |str x=>exact .str x
 |lst _ h _=>exact .lst h
 |tup _ h _=>exact .tup h
 |dct _ h=>exact .dK h
def Ss(T:String)(d:PyData):Bool:=match T with
 |"int"=>(match d with|.int _=>true|.bool _=>true|_=>false)
 |"bool"=>(match d with|.bool _=>true|_=>false)
 |"tuple"=>(match d with|.tuple _=>true|_=>false)
 |"list"=>(match d with|.list _=>true|_=>false)
 |_=>false
theorem cU{K:U0a}(d:PyData):U20 K (.type (tyName d)) (.type "int")=some (Ss "int" d):=by
 cases d with
 |none=>exact Bs (a:="NoneType") (r:=false) (by decide +kernel)
 |bool _=>exact Bs (a:="bool") (r:=true) (by decide +kernel)
 |int _=>exact Bs (a:="int") (r:=true) (by decide +kernel)
 |str _=>exact Bs (a:="str") (r:=false) (by decide +kernel)
 |list _=>exact Bs (a:="list") (r:=false) (by decide +kernel)
 |tuple _=>exact Bs (a:="tuple") (r:=false) (by decide +kernel)
 |dict _=>exact Bs (a:="dict") (r:=false) (by decide +kernel)
theorem Ze{K:U0a}(d:PyData):U20 K (.type (tyName d)) (.type "bool")=some (Ss "bool" d):=by
 cases d with
 |none=>exact Bs (a:="NoneType") (r:=false) (by decide +kernel)
 |bool _=>exact Bs (a:="bool") (r:=true) (by decide +kernel)
 |int _=>exact Bs (a:="int") (r:=false) (by decide +kernel)
 |str _=>exact Bs (a:="str") (r:=false) (by decide +kernel)
 |list _=>exact Bs (a:="list") (r:=false) (by decide +kernel)
 |tuple _=>exact Bs (a:="tuple") (r:=false) (by decide +kernel)
 |dict _=>exact Bs (a:="dict") (r:=false) (by decide +kernel)
theorem kit_tuple{K:U0a}(d:PyData):U20 K (.type (tyName d)) (.type "tuple")=some (Ss "tuple" d):=by
 cases d with
 |none=>exact Bs (a:="NoneType") (r:=false) (by decide +kernel)
 |bool _=>exact Bs (a:="bool") (r:=false) (by decide +kernel)
 |int _=>exact Bs (a:="int") (r:=false) (by decide +kernel)
 |str _=>exact Bs (a:="str") (r:=false) (by decide +kernel)
 |list _=>exact Bs (a:="list") (r:=false) (by decide +kernel)
 |tuple _=>exact Bs (a:="tuple") (r:=true) (by decide +kernel)
 |dict _=>exact Bs (a:="dict") (r:=false) (by decide +kernel)
theorem Zd{K:U0a}(d:PyData):U20 K (.type (tyName d)) (.type "list")=some (Ss "list" d):=by
 cases d with
 |none=>exact Bs (a:="NoneType") (r:=false) (by decide +kernel)
 |bool _=>exact Bs (a:="bool") (r:=false) (by decide +kernel)
 |int _=>exact Bs (a:="int") (r:=false) (by decide +kernel)
 |str _=>exact Bs (a:="str") (r:=false) (by decide +kernel)
 |list _=>exact Bs (a:="list") (r:=true) (by decide +kernel)
 |tuple _=>exact Bs (a:="tuple") (r:=false) (by decide +kernel)
 |dict _=>exact Bs (a:="dict") (r:=false) (by decide +kernel)
end L2
end
section
namespace L2
open PySem PySem.Spec PyProof.Rows
def Lp:PyData->Bool
 |.none=>true
 |.bool _=>true
 |.int i=>decide (i.natAbs<10^41)
 |.str x=>decide (x.length<=30)&&x.cps.toList.all fun c=>decide (c<16^8)
 |.dict kvs=>kvs.isEmpty
 |_=>false
def fit:List Nat->PyData->Bool
 |w::ws,.list xs=>decide (xs.length<=w)&&xs.all (fit ws)
 |w::ws,.tuple xs=>decide (xs.length<=w)&&xs.all (fit ws)
 |_,d=>Lp d
def bnd:List Nat->Nat
 |[]=>400
 |w::ws=>w*(bnd ws+2)+400
theorem Vl{d:PyData}(h:Lp d=true):d.showable=true/\d.depth<=1/\d.shown.length<=400:=by
 cases d with
 |none=>exact⟨rfl,by simp[U2v],by decide⟩
 |bool b=>exact⟨rfl,by simp[U2v],by cases b<;>decide⟩
 |int i =>
  have hi:i.natAbs<10^41:=of_decide_eq_true h
  refine⟨?_,by simp[U2v],?_⟩
  .simp only[U5v,decide_eq_true_eq]
   by_cases h0:i.natAbs=0
   .rw[h0];decide
   .exact U44 ((Nat.log2_lt h0).mpr (U44 hi (by decide:10^41<2^137))) (by decide)
  .have q:=int_text_length_le10 (k:=41) (by decide) hi
   have e:(U3u (.int i)).length=(toString i).length:=by
    show(U5r (toString i)).length=_
    exact PySem.ofString_length _
   rw[e];omega
 |str x =>
  simp only[Lp,U0m,decide_eq_true_eq,U27] at h
  refine⟨rfl,by simp[U2v],?_⟩
  have q:=StrLaws.reprText_len x h.2
  simp only[U3u]
  have:=h.1
  omega
 |list xs=>cases h
 |tuple xs=>cases h
 |dict kvs =>
  cases kvs with
  |nil=>exact⟨rfl,by simp[U2v,PyData.depthKv],by decide⟩
  |cons a r=>cases h
theorem RG{ws:List Nat}(ih:∀d,fit ws d=true->d.showable=true/\d.depth<=ws.length+1/\d.shown.length<=bnd ws):∀xs:List PyData,xs.all (fit ws)=true ->
  PyData.showableAll xs=true/\U3z xs<=ws.length+1/\((U4g xs).map (·.length)).sum+2*(U4g xs).length<=xs.length*(bnd ws+2)
 |[],_=>⟨rfl,by simp[U3z],by simp[U4g]⟩
 |x::r,h=>by
  rw[List.all_cons,U0m] at h
  obtain⟨a1,a2,a3⟩:=ih x h.1
  obtain⟨b1,b2,b3⟩:=RG ih r h.2
  refine⟨by simp[PyData.showableAll,a1,b1],by simp only[U3z];omega,?_⟩
  simp only[U4g,U0n,List.sum_cons,U0f]
  rw[show(r.length+1)*(bnd ws+2)=r.length*(bnd ws+2)+(bnd ws+2) from Nat.succ_mul _ _]
  omega
theorem Xc:∀(ws:List Nat)(d:PyData),fit ws d=true->d.showable=true/\d.depth<=ws.length+1/\d.shown.length<=bnd ws
 |[],d,h=>by
  have h':Lp d=true:=by
   cases d<;>exact h
  obtain⟨a,b,c⟩:=Vl h'
  exact⟨a,b,c⟩
 |w::ws,d,h=>by
  have ih:=Xc ws
  have leaf:Lp d=true->d.showable=true/\d.depth<=(w::ws).length+1/\d.shown.length<=bnd (w::ws):=fun h'=>by
   obtain⟨a,b,c⟩:=Vl h'
   refine⟨a,by rw[U0f];omega,U08 c ?_⟩
   unfold bnd;omega
  cases d with
  |list xs =>
   simp only[fit,U0m,decide_eq_true_eq] at h
   obtain⟨a,b,c⟩:=RG ih xs h.2
   refine⟨by simpa [U5v] using a,by simp only[U2v,U0f];omega,?_⟩
   have q:=listText_len_le (U4g xs)
   have m:=Nat.mul_le_mul_right (bnd ws+2) h.1
   simp only[U3u,bnd]
   omega
  |tuple xs =>
   simp only[fit,U0m,decide_eq_true_eq] at h
   obtain⟨a,b,c⟩:=RG ih xs h.2
   refine⟨by simpa [U5v] using a,by simp only[U2v,U0f];omega,?_⟩
   have q:=tupleText_len_le (U4g xs)
   have m:=Nat.mul_le_mul_right (bnd ws+2) h.1
   simp only[U3u,bnd]
   omega
  |none=>exact leaf h
  |bool b=>exact leaf h
  |int i=>exact leaf h
  |str x=>exact leaf h
  |dict kvs=>exact leaf h
def Nx(n:Nat)(Pv:Nat->List V->Hp->Prop)(i:Nat)(ys:List V)(H:Hp):Prop:=∃m',m'<n-i/\(m'=n-(i+1)/\i+1<=n/\Pv (i+1) ys H)
theorem nx{n:Nat}{Pv:Nat->List V->Hp->Prop}{i:Nat}{ys:List V}{H:Hp}(hi:i<n)(p:Pv (i+1) ys H):Nx n Pv i ys H:=⟨n-(i+1),by omega,rfl,hi,p⟩
section
variable{k:Nat}{caps:List Nat}{σ:St}{g:TG}{tt:TT}{te:TE}{Q:VK}{H:Hp}
end
def Well(H:Hp)(a:Addr):Prop:=∃x y:Int,H a=some (.lst [.int x,.int y])
end L2
end
section
namespace L2
open PySem PySem.Spec PyProof.Rows
section
variable{a:Addr}{H0:Hp}{σ:St}{te t1 t2:TE}{ta:TA}{d:PyData}{ds d1 d2:List PyData}{i j:Int}
end
end L2
end
section
namespace L2
open PySem PySem.Spec PyProof.Rows
section
variable{X:Cx}{K:U0a}
abbrev m9(K:U0a):List V->Hp->VK->Prop:=fun xs H Q=>∃p ys,xs=[.ref p]/\(SqL K H p ys∨SqT K H p ys)/\Q (.int ys.length) H
abbrev bC(K:U0a):List V->Hp->VK->Prop:=fun xs H Q=>∃p ys,xs=[.ref p]/\(SqL K H p ys∨SqT K H p ys)/\∀l,H l=none->Q (.ref l) (upd H l (.lst ys))
theorem YM(hc:X.calm=true)(hK:X.K=K):Cv X (.builtin "max") (fun xs H Q=>∃(p:Addr)(ns:List Int),xs=[.ref p]/\SqL K H p (ns.map V.int)/\ns≠[]/\∀m,m∈ns->(∀n∈ns,n<=m)->Q (.int m) H):=by
 subst hK
 intro pins s σ H xs us Q I r h
 obtain⟨p,ns,rfl,hq,hne,q⟩:=h
 obtain⟨u,rfl,rx⟩:=vals1 r
 cases rx
 obtain⟨its,rv,pl,hz⟩:=I.list hq
 have hlen:=rv.length
 rw[U0g] at hlen
 have hl:=pl.isList
 have hlt:p<s.heap.objs.size:=by obtain⟨o,ho,_⟩:=hl;exact U0k ho
 have hval:∀i v,its.toArray[i]?=some v->∃t,v=U4r (ns.getD i 0) t:=fun i v e=>by
  rw[U3x] at e
  have hi:i<ns.length:=by rw[hlen];exact(U0h.mp e).1
  obtain⟨u,e1,ru⟩:=rv.get (i:=i) (x:=.int ns[i]) (by rw[U0v,U0q hi];rfl)
  rw[e] at e1;cases e1
  have e2:ns.getD i 0=ns[i]:=by rw[U1x,U0q hi];rfl
  rw[e2]
  exact ru
 have hpos:0<ns.length:=U4.mpr hne
 refine call_max_walk (U4l hl ?_)
 refine⟨s.heap.objs.size,[s.heap.objs.size,p],[s.heap.objs.size],its.toArray.size,fun i v=>its.toArray[i]?=some v,_,_,rfl,Walks.list (by simpa using I.ok.hd hc) s.heap.objs.size p (U1c hlt) its.toArray,⟨⟨_,U0r _ rfl,rfl,rfl⟩,hl.push _⟩,?_,?_,CmpOf.ints_gt (fun i=>ns.getD i 0) hval,fun v h' tk hP hk=>?_⟩
 .intro b hb
  show b<(s.heap.push _).objs.size
  rw[U2l]
  rcases U0u.mp hb with z|hb
  .rw[z];exact U4t _
  .rw[U1k.mp hb];exact U4m hlt
 .rw[U0j,←hlen];exact hpos
 .obtain⟨g1,g2⟩:=argBest_gt (fun i=>ns.getD i 0) (its.toArray.size-1)
  obtain⟨t,rfl⟩:=hval _ _ hP
  rw[U0j,←hlen] at g1 g2
  have hb:argBest (fun i j=>decide (ns.getD i 0>ns.getD j 0)) (ns.length-1)<ns.length:=by omega
  rw[U0j,←hlen]
  refine⟨.int _,H,I.kept (h':=h') (t':=tk) fun b o e=>hk b o (fun z=>?_) (U0d _ e),⟨t,rfl⟩,q _ ?_ fun n hn=>?_⟩
  .exact absurd (U1k.mp z) (U1c (U0k e))
  .rw[U1x,U0q hb]
   exact U4u hb
  .obtain⟨j,hj,rfl⟩:=U3j hn
   have:=g2 j (by omega)
   rw[U1x,U0q hj] at this
   exact this
end
end L2
end
section
namespace Bc
open PySem PySem.Spec PyProof.Rows L2
def fX:PyData->Bool
 |.tuple es=>U5k es&&decide (U3z es<=60)
 |_=>true
def lay:PyData->Bool
 |.tuple ds=>ds.all fX
 |_=>true
abbrev F3:List Nat:=[9,9,9]
def nr(a:Int):Bool:=decide (-(10^9)<=a)&&decide (a<=10^9)
def bx:PyData->Bool
 |.tuple [.int a,.int b]=>nr a&&nr b&&decide (a<b)
 |_=>false
def part(d:PyData):Bool:=fit [9,9] d&&fX d
def good(d:PyData):Bool:=fit F3 d&&lay d
end Bc
end
section
set_option maxRecDepth 100000
namespace HT
open PySem PySem.Spec PyProof.Rows
open AutoSeq1 (wpAny_loadPart')
theorem Q9:fillsNumberSlot (.type "tuple") "mul"=pure false :=
 PySem.fillsNumberSlot_seq (id:="tuple.__mul__") (r:=some (.builtin "tuple.__rmul__")) U4i.lookup (by decide +kernel) PySem.F.slot_tuple_rmul.lookup (by decide +kernel)
theorem Xu:seqRepeat? (.type "tuple")=pure (some (.builtin "tuple.__mul__")):=by
 unfold seqRepeat?
 rw[PySem.seqSlot_of (T:="tuple") (name:="__mul__") (id:="tuple.__mul__") U4i.lookup (by decide +kernel),PySem.seqSlot_of (T:="tuple") (name:="__rmul__") (id:="tuple.__rmul__") PySem.F.slot_tuple_rmul.lookup (by decide +kernel)]
 rfl
theorem Um(a:Int)(t:Tok)(l:Addr)(items:Array Value)(n:Nat)(dd:Option Addr)(sl:Array (Option Value)) :
  Meets (Builtin.«int.__rmul__» ⟨[.int a t,.ref l],[]⟩) (fun _ R s=>s.heap.get? l=some { cls:=.type "tuple",dict:=dd,data:=.seq items n,slots:=sl }/\R (.ok (.ret Value.notImplemented)) s) :=
 .of_wp fun prog w A R s h=>by obtain⟨hp,g,d,tk,os⟩:=s;obtain⟨hl,h⟩:=h;wp_walk using wpAny_loadPart' hl;exact⟨_,rfl,h⟩
theorem Yz(l:Addr)(items:Array Value)(n:Nat)(dd:Option Addr)(sl:Array (Option Value))(x:Int)(u:Tok)(hc0:¬(decide (x < -(2^63))||decide (x≥2^63))=true)(hc1:(items.isEmpty||x==1)=true) :
  Meets (Builtin.«tuple.__mul__» ⟨[.ref l,.int x u],[]⟩) (fun _ R s=>s.heap.get? l=some { cls:=.type "tuple",dict:=dd,data:=.seq items n,slots:=sl }/\R (.ok (.ret (U28 l))) { s with heap:=s.heap,toks:=s.toks }) :=
 .of_wp fun prog w A R s h=>by obtain⟨hp,g,d,tk,os⟩:=s;obtain⟨hl,h⟩:=h;have f1:=AutoSeq1.idx_int;wp_walk;refine U6o (decide_eq_false hc0) ?_;wp_walk using wpAny_loadPart' hl;exact⟨_,rfl,h⟩
theorem Yy(l:Addr)(items:Array Value)(n:Nat)(dd:Option Addr)(sl:Array (Option Value))(x:Int)(u:Tok)(hc0:¬(decide (x < -(2^63))||decide (x≥2^63))=true)(hc1:¬(items.isEmpty||x==1)=true)
  (hc2:¬(decide (x<=0)||items.isEmpty)=true) (hc3:¬(items.size:Int)*x>(2^63-1)/8) (hc4:¬Builtin.Tuple.tupleTooMany ((items.size:Int)*x)=true) (hsz:(U5t (fun x1 x2=>x1++x2) #[] (U0p x.toNat items)).size<=sizeLine) :
  Meets (Builtin.«tuple.__mul__» ⟨[.ref l,.int x u],[]⟩) (fun _ R s=>s.heap.get? l=some { cls:=.type "tuple",dict:=dd,data:=.seq items n,slots:=sl }/\R (.ok (.ret (U28 s.heap.objs.size))) { s with heap:=s.heap.push { cls:=U24 "tuple",data:=Data.seq (U5t (fun x1 x2=>x1++x2) #[] (U0p x.toNat items)) },toks:=s.toks }) :=
 .of_wp fun prog w A R s h=>by obtain⟨hp,g,d,tk,os⟩:=s;obtain⟨hl,h⟩:=h;have f1:=AutoSeq1.idx_int;wp_walk;refine U6o (decide_eq_false hc0) ?_;wp_walk using wpAny_loadPart' hl;refine U6o (decide_eq_false hc3) ?_;wp_walk;exact⟨_,rfl,h⟩
section
variable{prog:Program}{w:World}{A:Around}{E:Value->Shared->Prop}{s:Shared}
theorem cD{t:Addr}{its:List Value}{k:Int}{u:Tok}{Q:Value->Shared->Prop}(ht:IsTup s.heap t its.toArray)(hne:its≠[])(h1:1<=k)(h2:k<2^60)(hz:its.length*k.toNat<=sizeLine)
  (q1:k=1->Q (.ref t) s) (q2:k≠1->Q (.ref s.heap.objs.size) { s with heap:=s.heap.push { cls:=.type "tuple",data:=.seq (U0p k.toNat its).flatten.toArray } }) :
  wpAny (model prog w) A (binaryOp .Mult (.ref t) (.int k u)) Q E s:=by
 obtain⟨⟨c1,d1,x1,sl1⟩,ho,hc,n,hd⟩:=id ht
 simp only at hc hd
 subst hc hd
 have c0:¬(decide (k < -(2^63))||decide (k≥2^63))=true:=by
  rw[decide_eq_false (by omega),decide_eq_false (by omega)];exact U06
 have ne:its.toArray.isEmpty=false:=by cases its with|nil=>exact absurd rfl hne|cons _ _=>rfl
 have hnew:U5t (fun x1 x2=>x1++x2) #[] (U0p k.toNat its.toArray)=(U0p k.toNat its).flatten.toArray:=by
  have:=L2.foldl_rep its k.toNat []
  rw[U1y] at this
  exact this
 refine wpAny_binaryOp_repeat_ref (T:="tuple") (U:="int") (by decide) ⟨_,ho,rfl⟩ (fun s'=>typeIs_int s' k u) Q9 PySem.F.fills_int_mul PySem.F.slot_int_rmul Xu PySem.F.slot_int_index.lookup
  (call_meets PySem.F.slot_int_rmul (typeIs_int s k u) PySem.F.entry_int_rmul (PySem.F.args_int_rmul_2 _ _) (Um k u t its.toArray n d1 sl1) ⟨ho,rfl,⟨_,ho,rfl⟩,?_⟩)
 by_cases k1:k=1
 .exact call_meets U4i ⟨_,ho,rfl⟩ PySem.F.entry_tuple_mul (PySem.F.args_tuple_mul_2 _ _) (Yz t its.toArray n d1 sl1 k u c0 (by rw[k1];simp)) ⟨ho,q1 k1⟩
 .have e:((its.toArray.size:Nat):Int)*k=((its.length*k.toNat:Nat):Int):=by
   rw[U0j,Int.natCast_mul,Int.toNat_of_nonneg (by omega)]
  have hs:(sizeLine:Nat)=16777216:=by decide
  refine call_meets U4i ⟨_,ho,rfl⟩ PySem.F.entry_tuple_mul (PySem.F.args_tuple_mul_2 _ _) (Yy t its.toArray n d1 sl1 k u c0 ?_ ?_ ?_ ?_ ?_) ⟨ho,?_⟩
  .rw[ne];simp[k1]
  .rw[ne,decide_eq_false (by omega)];exact U06
  .rw[e];omega
  .rw[e]
   unfold Builtin.Tuple.tupleTooMany
   rw[decide_eq_true_eq]
   omega
  .rw[hnew,U0j,L2.len_rep,U62];exact hz
  .rw[hnew];exact q2 k1
end
end HT
namespace L2
open PySem PySem.Spec PyProof.Rows
abbrev Zx:R2:=fun x y H Q=>∃(a:Addr)(k:Int)(xs:List V),x=.ref a/\y=.int k/\H a=some (.tup xs)/\xs≠[]/\1<=k/\k<2^60/\xs.length*k.toNat<=sizeLine/\∀p H',Same H H'->H' p=some (.tup (U0p k.toNat xs).flatten)->Q (.ref p) H'
section
variable{X:Cx}
theorem bW:OpR X (binaryOp .Mult) Zx:=by
 intro pins s σ H x y v u Q I rx ry h
 obtain⟨a,k,xs,rfl,rfl,ha,hne,k1,k2,hz,q⟩:=h
 cases rx
 obtain⟨t,rfl⟩:=ry
 obtain⟨its,r1,p1,_⟩:=I.tuple (SqT.of ha)
 refine HT.cD p1 (fun z=>hne (r1.Oi.mp z)) k1 k2 (by rw[←r1.length];exact hz) (fun e=>?_) (fun e=>?_)
 .refine⟨.ref a,H,I,rfl,q a H (Same.refl H) ?_⟩
  rw[e]
  simpa using ha
 .refine⟨.ref s.heap.objs.size,_,I.laid (t':=s.toks) (o:=.tup (U0p k.toNat xs).flatten) (fun b ob q=>U0d _ q) (U0l _) ?_,rfl,q _ _ (Dh (I.hok.fresh (U0l _)) _) CN⟩
  exact⟨by rw[len_rep,U62];exact hz,_,r1.rep k.toNat,IsTup.new _ _⟩
end
section
variable{X:Cx}
theorem Jp{k:Nat}(hr:Dm k X.A):Cv X (.builtin "repr") (fun xs H Q=>∃(N:Addr->Prop)(v:V)(d:PyData),xs=[v]/\Tr N H v d/\d.showable=true/\d.depth<=60/\d.shown.length<=sizeLine/\Q (.str d.shown) H):=by
 intro pins s σ H xs us Q I r h
 obtain⟨N,v,d,rfl,t,h1,h2,h3,q⟩:=h
 have onRef:∀b,v=.ref b->wpAny (model X.prog X.w) X.A (call (.builtin "repr") us) (EP X pins σ Q) X.xe s:=fun b e=>by
  subst e
  exact YL hr pins s σ H _ us Q I r ⟨N,b,d,rfl,t,h1,h2,h3,q⟩
 cases t with
 |lst _ _ _=>exact onRef _ rfl
 |tup _ _ _=>exact onRef _ rfl
 |dct _ _=>exact onRef _ rfl
 |non =>
  obtain⟨u,rfl,rx⟩:=vals1 r
  cases (show u=U2s from rx)
  exact PySem.P.repr_of_none ⟨.str "None",H,I.tok _,⟨_,rfl⟩,q⟩
 |bl b =>
  obtain⟨u,rfl,rx⟩:=vals1 r
  cases (show u=U4c b from rx)
  exact PySem.P.repr_of_bool ⟨.str (if b then "True" else "False"),H,I.tok _,⟨_,rfl⟩,q⟩
 |int i =>
  obtain⟨u,rfl,rx⟩:=vals1 r
  obtain⟨t,rfl⟩:=rx
  exact PySem.P.repr_of_int (by simpa [U5v] using h1) ⟨.str (toString i),H,I.tok _,⟨_,rfl⟩,q⟩
 |str x =>
  obtain⟨u,rfl,rx⟩:=vals1 r
  obtain⟨t,rfl⟩:=rx
  exact PySem.P.repr_of_str ⟨.str (reprText x),H,I.tok _,⟨_,rfl⟩,q⟩ h3
end
section
variable{a:Addr}{H0:Hp}{σ:St}{te t1 t2:TE}{ta:TA}{d:PyData}{ds d1 d2:List PyData}{i j:Int}{K:U0a}
end
structure Wq(a q:Addr)(bs:List V)(H:Hp):Prop where
 w:Well H a
 at_:H q=some (.lst bs)
 ne:q≠a
section
variable{a q p:Addr}{bs:List V}{H H':Hp}
abbrev Zz:R2:=fun x y H Q=>∃(a b:Addr)(xs ys:List V),x=.ref a/\y=.ref b/\H a=some (.tup xs)/\H b=some (.tup ys)/\xs.length+ys.length<=sizeLine/\∀p H',Same H H'->H' p=some (.tup (xs++ys))->Q (.ref p) H'
abbrev fH:V->Option Int->Option Int->Hp->VK->Prop:=fun x lo hi H Q=>∃(a:Addr)(xs:List V),x=.ref a/\H a=some (.tup xs)/\∀p H',Same H H'->H' p=some (.tup (Ig xs lo hi))->Q (.ref p) H'
end
end L2
end
section
namespace L2
open PySem PySem.Spec PyProof.Rows
end L2
namespace Bc
open PySem PySem.Spec PyProof.Rows L2
def iQ:PyData->Nat
 |.int 1=>20
 |.int 2=>10
 |.int 3=>6
 |_=>0
def mQ(n:Nat):PyData->Bool
 |.tuple es=>decide (es.length=n)&&es.all bx
 |_=>false
end Bc
end
section
namespace L2
open PySem PySem.Spec PyProof.Rows
section
variable{X:Cx}
end
end L2
end
section
set_option maxRecDepth 100000
namespace HT
open PySem PySem.Spec PyProof.Rows
section
variable{prog:Program}{w:World}{A:Around}{E:Value->Shared->Prop}{s:Shared}
structure Apart(z TI TO i1 i2:Addr)(fp1 fp2:List Addr):Prop where
 a1:TI≠z
 a2:TO≠z
 a3:TI≠TO
 b1:∀b∈fp1,b≠z/\b≠TO/\b≠i2
 b2:∀b∈fp2,b≠z/\b≠TO/\b≠i1
 c1:i1≠z/\i1≠TO/\i1≠TI
 c2:i2≠z/\i2≠TO/\i2≠TI
 c3:i1≠i2
section
variable{z TI TO i1 i2:Addr}{fp1 fp2:List Addr}{n1 n2 k:Nat}{P1 P2:Nat->Value->Prop}{S1 S2:Nat->Heap->Prop}{a b:Value}
end
end
end HT
end
section
namespace L2
open PySem PySem.Spec PyProof.Rows
section
variable{X:Cx}
end
end L2
end
section
namespace L2
open PySem PySem.Spec PyProof.Rows
section
variable{k:Nat}{caps:List Nat}{σ:St}{g:TG}{tt:TT}{te:TE}{Q:VK}{H:Hp}
end
end L2
end
section
set_option maxRecDepth 100000
namespace HT
open PySem PySem.Spec PyProof.Rows
section
variable{prog:Program}{w:World}{A:Around}{E:Value->Shared->Prop}{s:Shared}
theorem cg{x:Value}{Tx:String}{tp:Addr}{cs:List Value}{vs:List Bool}{dd:Option Addr}{n:Nat}{sl:Array (Option Value)}(ha:AnswersAll (fun s=>s.TypeIs x Tx) x cs vs) :
  Meets (Builtin.«isinstance» ⟨[x,.ref tp],[]⟩) (fun _ R s=>s.TypeIs x Tx/\s.heap.get? tp=some { cls:=.type "tuple",dict:=dd,data:=.seq cs.toArray n,slots:=sl }/\∀tk,R (.ok (.ret (.bool (vs.any id)))) { s with toks:=tk }) :=
 fun prog w A R s hs=>isinstance_outer (by
  obtain⟨h,g,d,t,os⟩:=s
  obtain⟨hx,htp,hq⟩:=hs
  have T2:(⟨h,g,d,t,os⟩:Shared).TypeIs (.ref tp) "tuple":=⟨_,htp,rfl⟩
  have f1:=PySem.F.isi_sub_tuple
  repeat (any_goals first|assumption|wp_step)
  refine wpAny_arrayLoop ?_
  simp only[List.toList_toArray,Option.getD_some]
  refine isinstance_items (dep:=0) (fun _ tk q=>q.toks tk) cs vs _ _ ha hx fun tk'=>?_
  cases hv:vs.any id with
  |true =>
   simp only[if_true]
   repeat (any_goals first|assumption|wp_step)
   exact hv ▸ hq tk'
  |false =>
   simp only[if_false,U07]
   repeat (any_goals first|assumption|wp_step)
   exact hv ▸ hq tk') (U56.not_mainsLoader hs.1)
end
end HT
namespace L2
open PySem PySem.Spec PyProof.Rows
def isSeq:PyData->Bool
 |.list _=>true
 |.tuple _=>true
 |_=>false
def noDict:PyData->Bool
 |.dict _=>false
 |_=>true
theorem Zu(T:String)(h:T="tuple"∨T="list"):typeOf (.type T)=pure (.type "type"):=by rcases h with rfl|rfl<;>first|rfl|kernel_rfl
theorem HJ{a b:String}(h:(a,b)∈[("int","tuple"),("int","list"),("bool","tuple"),("bool","list"),("str","tuple"),("str","list"),("NoneType","tuple"),("NoneType","list"),("list","tuple"),("tuple","list")]):isSubtype (.type a) (.type b)=pure false:=by
 simp only[U0u,U4v,or_false,Prod.mk.injEq] at h
 rcases h with ⟨rfl,rfl⟩|⟨rfl,rfl⟩|⟨rfl,rfl⟩|⟨rfl,rfl⟩|⟨rfl,rfl⟩|⟨rfl,rfl⟩|⟨rfl,rfl⟩|⟨rfl,rfl⟩|⟨rfl,rfl⟩|⟨rfl,rfl⟩<;>(rw[isSubtype_type];kernel_rfl)
theorem VN{a:String}(h:a="tuple"∨a="list"):isSubtype (.type a) (.type a)=pure true:=by rcases h with rfl|rfl<;>(rw[isSubtype_type];kernel_rfl)
section
variable{X:Cx}
theorem SJ:Cv X (.builtin "isinstance") (fun xs H Q=>∃(N:Addr->Prop)(x:V)(d:PyData)(p:Addr),xs=[x,.ref p]/\H p=some (.tup [.ty "tuple",.ty "list"])/\Tr N H x d/\noDict d=true/\Q (.bl (isSeq d)) H):=by
 intro pins s σ H xs us Q I r h
 obtain⟨N,x,d,p,rfl,hp,t,nd,q⟩:=h
 obtain⟨u,v,rfl,rx,rv⟩:=vals2 r
 cases (show v=U28 p from rv)
 obtain⟨its,rt,pt,_⟩:=I.tuple (SqT.of hp)
 have ei:its=[.type "tuple",.type "list"]:=by
  cases rt with
  |cons r1 rr =>
   cases rr with
   |cons r2 rn =>
    cases rn
    cases (show _=U24 "tuple" from r1)
    cases (show _=U24 "list" from r2)
    rfl
 subst ei
 obtain⟨⟨c1,d1,x1,sl1⟩,ho,hc,n,hd⟩:=id pt
 simp only at hc hd
 subst hc hd
 have fin:∀(Tx:String)(vs:List Bool),AnswersAll (fun s=>s.TypeIs u Tx) u [.type "tuple",.type "list"] vs->s.TypeIs u Tx->vs.any id=isSeq d->wpAny (model X.prog X.w) X.A (call (.builtin "isinstance") [u,.ref p]) (EP X pins σ Q) X.xe s:=fun Tx vs ha hx e =>
  call_isinstance (HT.cg (cs:=[.type "tuple",.type "list"]) (dd:=d1) (n:=n) (sl:=sl1) ha) ⟨hx,ho,fun tk=>⟨.bl (isSeq d),H,I.tok tk,(by rw[e];rfl),q⟩⟩
 have y1:=Zu "tuple" (.inl rfl)
 have y2:=Zu "list" (.inr rfl)
 cases t with
 |non =>
  cases (show u=U2s from rx)
  exact fin "NoneType" [false,false] (.cons (Answers.of_false_none (by decide) y1 (HJ (by decide))) (.cons (Answers.of_false_none (by decide) y2 (HJ (by decide))) .nil)) rfl rfl
 |bl b =>
  cases (show u=U4c b from rx)
  exact fin "bool" [false,false] (.cons (Answers.of_false_bool (by decide) y1 (HJ (by decide))) (.cons (Answers.of_false_bool (by decide) y2 (HJ (by decide))) .nil)) rfl rfl
 |int i =>
  obtain⟨t,rfl⟩:=rx
  exact fin "int" [false,false] (.cons (Answers.of_false_int (by decide) y1 (HJ (by decide))) (.cons (Answers.of_false_int (by decide) y2 (HJ (by decide))) .nil)) rfl rfl
 |str z =>
  obtain⟨t,rfl⟩:=rx
  exact fin "str" [false,false] (.cons (Answers.of_false_str (by decide) y1 (HJ (by decide))) (.cons (Answers.of_false_str (by decide) y2 (HJ (by decide))) .nil)) rfl rfl
 |lst n1 h1 t1 =>
  cases rx
  obtain⟨its,_,pl,_⟩:=I.list (SqL.of h1)
  exact fin "list" [false,true] (.cons (Answers.of_false_list (by decide) y1 (HJ (by decide))) (.cons (Answers.of_true y2 (VN (.inr rfl))) .nil)) pl.isList.typeIs rfl
 |tup n1 h1 t1 =>
  cases rx
  obtain⟨its,_,pl,_⟩:=I.tuple (SqT.of h1)
  exact fin "tuple" [true,false] (.cons (Answers.of_true y1 (VN (.inl rfl))) (.cons (Answers.of_false_tuple (by decide) y2 (HJ (by decide))) .nil)) pl.typeIs rfl
 |dct _ _=>cases nd
end
end L2
end
section
namespace L2
open PySem PySem.Spec PyProof.Rows
end L2
namespace Bc
open PySem PySem.Spec PyProof.Rows L2
structure Good(n:Nat)(ds:List PyData):Prop where
 n1:1<=n
 n3:n<=3
 le:ds.length<=iQ (.int n)
 all:ds.all (mQ n)=true
end Bc
end
section
namespace L2
open PySem PySem.Spec PyProof.Rows
section
variable{X:Cx}{K:U0a}
end
end L2
namespace Bc
open PySem PySem.Spec PyProof.Rows L2
def mx(i j:Int):Int:=if j>i then j else i
end Bc
end
section
namespace VS
open PySem PySem.Spec L2
inductive D where
 |non|bl (b:Bool)|int (i:Int)|str (x:Str)|ty (n:String)
 |tup (ds:List D)|lst (m:Bool) (ds:List D)|ref (i:Nat)|scr (ns:List Int)|emp
 |dref (i:Nat)|dcf (kvs:List (Key×V))|dcm (kvs:List (Key×V))
abbrev Mu:=List (Option Addr)
def Br(μ:Mu)(a:Addr):Prop:=some a∈μ
structure Fr where
 K:U0a
 H0:Hp
 N:Addr->Prop
 m0:List Addr
def Fr.Ok(Γ:Fr)(m:Bool)(a:Addr):Prop:=(m=true->Γ.H0 a=none)/\(Γ.N a∨Γ.H0 a=none)
def IsL(H:Hp)(a:Addr):Prop:=∃xs,H a=some (.lst xs)
def IsK(H:Hp)(a:Addr):Prop:=∃kvs,H a=some (.dK kvs)
mutual
inductive VR (Γ:Fr) (μ:Mu) (H:Hp):V->D->Prop
 |non:VR Γ μ H .non .non
 |bl (b:Bool):VR Γ μ H (.bl b) (.bl b)
 |int (i:Int):VR Γ μ H (.int i) (.int i)
 |str (x:Str):VR Γ μ H (.str x) (.str x)
 |ty (n:String):VR Γ μ H (.ty n) (.ty n)
 |tup {a:Addr} {xs:List V} {ds:List D}:H a=some (.tup xs)->VRs Γ μ H xs ds->VR Γ μ H (.ref a) (.tup ds)
 |lst {m:Bool} {a:Addr} {xs:List V} {ds:List D}:Γ.Ok m a->¬Br μ a->H a=some (.lst xs)->VRs Γ μ H xs ds->VR Γ μ H (.ref a) (.lst m ds)
 |ref {i:Nat} {v:V}:i<μ.length->(∀a,μ[i]?=some (some a)->v=.ref a/\IsL H a)->VR Γ μ H v (.ref i)
 |dref {i:Nat} {v:V}:i<μ.length->(∀a,μ[i]?=some (some a)->v=.ref a/\IsK H a)->VR Γ μ H v (.dref i)
 |dcf {a:Addr} {kvs:List (Key×V)}:Γ.Ok false a->¬Br μ a->H a=some (.dK kvs)->VR Γ μ H (.ref a) (.dcf kvs)
 |scrK {a:Addr} {ns:List Int}:(∀H',SqL Γ.K H' a (ns.map V.int))->VR Γ μ H (.ref a) (.scr ns)
 |scrR {a:Addr} {ns:List Int} {o:Obj}:¬Br μ a->H a=some (.frz o (.lst (ns.map V.int)))->VR Γ μ H (.ref a) (.scr ns)
 |emp {a:Addr}:Γ.Ok false a->¬Br μ a->H a=some (.dK [])->VR Γ μ H (.ref a) .emp
inductive VRs (Γ:Fr) (μ:Mu) (H:Hp):List V->List D->Prop
 |nil:VRs Γ μ H [] []
 |cons {x:V} {d:D} {xs:List V} {ds:List D}:VR Γ μ H x d->VRs Γ μ H xs ds->VRs Γ μ H (x::xs) (d::ds)
end
structure Ext(μ:Mu)(H:Hp)(μ':Mu)(H':Hp):Prop where
 keep:∀a o,H a=some o->¬Br μ a->H' a=some o/\¬Br μ' a
 tups:∀a xs,H a=some (.tup xs)->H' a=some (.tup xs)
 none:∀a,H' a=none->H a=none
 ids:∀(i:Nat)(a:Addr),i<μ.length->μ'[i]?=some (some a)->μ[i]?=some (some a)
 len:μ.length<=μ'.length
 isl:∀a,Br μ a->IsL H a->IsL H' a
 isk:∀a,Br μ a->IsK H a->IsK H' a
theorem Ext.refl(μ:Mu)(H:Hp):Ext μ H μ H:=⟨fun _ _ h n=>⟨h,n⟩,fun _ _ h=>h,fun _ h=>h,fun _ _ _ h=>h,U0l _,fun _ _ h=>h,fun _ _ h=>h⟩
theorem Ext.trans{μ μ1 μ2:Mu}{H H1 H2:Hp}(a:Ext μ H μ1 H1)(b:Ext μ1 H1 μ2 H2):Ext μ H μ2 H2 :=
 ⟨fun c o h n=>let ⟨x,y⟩:=a.keep c o h n;b.keep c o x y,fun c xs h=>b.tups c xs (a.tups c xs h),fun c h=>a.none c (b.none c h),fun i c hi h=>a.ids i c hi (b.ids i c (U03 hi a.len) h),U08 a.len b.len,
  fun c l h=>by
  by_cases z:Br μ1 c
  .exact b.isl c z (a.isl c l h)
  .obtain⟨xs,e⟩:=a.isl c l h
   exact⟨xs,(b.keep c _ e z).1⟩,
  fun c l h=>by
  by_cases z:Br μ1 c
  .exact b.isk c z (a.isk c l h)
  .obtain⟨xs,e⟩:=a.isk c l h
   exact⟨xs,(b.keep c _ e z).1⟩⟩
section
variable{Γ:Fr}{μ μ':Mu}{H H':Hp}
mutual
theorem VR.ext(e:Ext μ H μ' H'):∀{v:V} {d:D},VR Γ μ H v d->VR Γ μ' H' v d
 |_,_,.non=>.non
 |_,_,.bl b=>.bl b
 |_,_,.int i=>.int i
 |_,_,.str x=>.str x
 |_,_,.ty n=>.ty n
 |_,_,.tup h t=>.tup (e.tups _ _ h) (VRs.ext e t)
 |_,_,.lst o n h t=>.lst o (e.keep _ _ h n).2 (e.keep _ _ h n).1 (VRs.ext e t)
 |_,_,.ref hi f=>.ref (U03 hi e.len) fun a q=>have z:=e.ids _ _ hi q;⟨(f a z).1,e.isl a (U12 z) (f a z).2⟩
 |_,_,.dref hi f=>.dref (U03 hi e.len) fun a q=>have z:=e.ids _ _ hi q;⟨(f a z).1,e.isk a (U12 z) (f a z).2⟩
 |_,_,.dcf o n h=>.dcf o (e.keep _ _ h n).2 (e.keep _ _ h n).1
 |_,_,.scrK h=>.scrK h
 |_,_,.scrR n h=>.scrR (e.keep _ _ h n).2 (e.keep _ _ h n).1
 |_,_,.emp o n h=>.emp o (e.keep _ _ h n).2 (e.keep _ _ h n).1
theorem VRs.ext(e:Ext μ H μ' H'):∀{vs:List V} {ds:List D},VRs Γ μ H vs ds->VRs Γ μ' H' vs ds
 |_,_,.nil=>.nil
 |_,_,.cons r t=>.cons (VR.ext e r) (VRs.ext e t)
end
theorem VRs.length:∀{xs:List V} {ds:List D},VRs Γ μ H xs ds->xs.length=ds.length
 |_,_,.nil=>rfl
 |_,_,.cons _ t=>by rw[U0f,U0f,VRs.length t]
theorem VRs.append:∀{xs ys:List V} {ds es:List D},VRs Γ μ H xs ds->VRs Γ μ H ys es->VRs Γ μ H (xs++ys) (ds++es)
 |_,_,_,_,.nil,t=>t
 |_,_,_,_,.cons r s,t=>.cons r (VRs.append s t)
theorem VRs.take:∀{xs:List V} {ds:List D} (n:Nat),VRs Γ μ H xs ds->VRs Γ μ H (xs.take n) (ds.take n)
 |_,_,0,_=>.nil
 |_,_,_+1,.nil=>.nil
 |_,_,n+1,.cons r t=>.cons r (VRs.take n t)
theorem VRs.drop:∀{xs:List V} {ds:List D} (n:Nat),VRs Γ μ H xs ds->VRs Γ μ H (xs.drop n) (ds.drop n)
 |_,_,0,r=>r
 |_,_,_+1,.nil=>.nil
 |_,_,n+1,.cons _ t=>VRs.drop n t
theorem VRs.get:∀{xs:List V} {ds:List D} {i:Nat} {d:D},VRs Γ μ H xs ds->ds[i]?=some d->∃x,xs[i]?=some x/\VR Γ μ H x d
 |_,_,_,_,.nil,h=>by simp at h
 |_,_,0,_,.cons r _,h=>by simp at h;subst h;exact⟨_,rfl,r⟩
 |_,_,i+1,d,.cons _ t,h=>by
  obtain⟨x,h1,h2⟩:=VRs.get (i:=i) (d:=d) t (by simpa using h)
  exact⟨x,by simpa using h1,h2⟩
theorem VRs.set{x:V}{d:D}(r:VR Γ μ H x d):∀{xs:List V} {ds:List D} (i:Nat),VRs Γ μ H xs ds->VRs Γ μ H (xs.set i x) (ds.set i d)
 |_,_,_,.nil=>.nil
 |_,_,0,.cons _ t=>.cons r t
 |_,_,i+1,.cons q t=>.cons q (VRs.set r i t)
theorem VRs.rep{xs:List V}{ds:List D}(h:VRs Γ μ H xs ds):∀n:Nat,VRs Γ μ H (U0p n xs).flatten (U0p n ds).flatten
 |0=>.nil
 |n+1=>by rw[U02,U02,U2i,U2i];exact h.append (VRs.rep h n)
theorem VRs.ints:∀(ns:List Int),VRs Γ μ H (ns.map V.int) (ns.map D.int)
 |[]=>.nil
 |n::r=>.cons (.int n) (VRs.ints r)
theorem VRs.Oa:∀{xs:List V} {ns:List Int},VRs Γ μ H xs (ns.map D.int)->xs=ns.map V.int
 |_,[],.nil=>rfl
 |_,n::r,.cons q t=>by cases q;rw[U0n,VRs.Oa t]
end
abbrev Env:=List (Option D)
abbrev Store:=List (Option (List D))
def Cell(Γ:Fr)(μ:Mu)(H:Hp)(a:Addr)(ds:List D):Prop:=(∃xs,H a=some (.lst xs)/\VRs Γ μ H xs ds)∨∃kvs,ds=[.dcm kvs]/\H a=some (.dK kvs)
structure Rep(Γ:Fr)(μ:Mu)(σ:St)(H:Hp)(env:Env)(S:Store):Prop where
 vals:∀(i:Nat)(d:D),env[i]?=some (some d)->∃v,σ[i]?=some (some v)/\VR Γ μ H v d
 len:σ.length=env.length
 sto:∀(i:Nat)(ds:List D),S[i]?=some (some ds)->∃a,μ[i]?=some (some a)/\Cell Γ μ H a ds
 liv:∀(i:Nat)(a:Addr),μ[i]?=some (some a)->∃ds,S[i]?=some (some ds)
 inj:∀(i j:Nat)(a:Addr),μ[i]?=some (some a)->μ[j]?=some (some a)->i=j
 slen:S.length=μ.length
 ent:Ext (Γ.m0.map some) Γ.H0 μ H
 new:∀(i:Nat)(a:Addr),Γ.m0.length<=i->μ[i]?=some (some a)->Γ.H0 a=none
section
variable{Γ:Fr}{μ μ':Mu}{σ σ2:St}{H H':Hp}{env env2:Env}{S S':Store}
theorem Cell.kind{a:Addr}{ds:List D}(c:Cell Γ μ H a ds):IsL H a∨IsK H a:=by
 rcases c with ⟨xs,h,_⟩|⟨kvs,_,h⟩
 .exact .inl ⟨xs,h⟩
 .exact .inr ⟨kvs,h⟩
theorem Cell.list{a:Addr}{ds:List D}(c:Cell Γ μ H a ds)(l:IsL H a):∃xs,H a=some (.lst xs)/\VRs Γ μ H xs ds:=by
 rcases c with z|⟨kvs,_,h⟩
 .exact z
 .obtain⟨xs,q⟩:=l
  rw[h] at q;cases q
theorem Cell.dict{a:Addr}{ds:List D}(c:Cell Γ μ H a ds)(l:IsK H a):∃kvs,ds=[.dcm kvs]/\H a=some (.dK kvs):=by
 rcases c with ⟨xs,h,_⟩|z
 .obtain⟨xs,q⟩:=l
  rw[h] at q;cases q
 .exact z
theorem Cell.to{μ':Mu}{H':Hp}{a:Addr}{ds:List D}(c:Cell Γ μ H a ds)(x:Ext μ H μ' H')(e:∀o,H a=some o->H' a=some o):Cell Γ μ' H' a ds:=by
 rcases c with ⟨xs,h,r⟩|⟨kvs,q,h⟩
 .exact .inl ⟨xs,e _ h,r.ext x⟩
 .exact .inr ⟨kvs,q,e _ h⟩
theorem Rep.live(R:Rep Γ μ σ H env S){a:Addr}(h:Br μ a):IsL H a∨IsK H a:=by
 obtain⟨i,hi⟩:=U3w.mp h
 obtain⟨ds,hs⟩:=R.liv i a hi
 obtain⟨b,h1,h2⟩:=R.sto i ds hs
 rw[hi] at h1;cases h1
 exact h2.kind
theorem Rep.dead(R:Rep Γ μ σ H env S){p:Addr}(h:H p=none):¬Br μ p:=fun z=>by
 rcases R.live z with ⟨xs,e⟩|⟨xs,e⟩<;>(rw[h] at e;cases e)
theorem Rep.fresh(R:Rep Γ μ σ H env S){p:Addr}(h:H p=none):Γ.H0 p=none:=R.ent.none p h
theorem Rep.ok(R:Rep Γ μ σ H env S){p:Addr}(h:H p=none)(m:Bool):Γ.Ok m p:=⟨fun _=>R.fresh h,.inr (R.fresh h)⟩
theorem Rep.grow(R:Rep Γ μ σ H env S)(e:Same H H'):Rep Γ μ σ H' env S/\Ext μ H μ H':=by
 have x:Ext μ H μ H':=⟨fun a o h n=>⟨e a o h,n⟩,fun a xs h=>e a _ h,fun a h=>e.free h,fun _ _ _ h=>h,U0l _,fun a _ ⟨xs,h⟩=>⟨xs,e a _ h⟩,fun a _ ⟨xs,h⟩=>⟨xs,e a _ h⟩⟩
 refine⟨⟨fun i d h=>?_,R.len,fun i ds h=>?_,R.liv,R.inj,R.slen,R.ent.trans x,R.new⟩,x⟩
 .obtain⟨v,h1,h2⟩:=R.vals i d h
  exact⟨v,h1,h2.ext x⟩
 .obtain⟨a,h1,h2⟩:=R.sto i ds h
  exact⟨a,h1,h2.to x fun o q=>e _ _ q⟩
theorem Rep.back(R:Rep Γ μ σ H env S)(x:Ext μ H μ' H')(R2:Rep Γ μ' σ2 H' env2 S'):Rep Γ μ' σ H' env S' :=
 ⟨fun i d h=>let ⟨v,h1,h2⟩:=R.vals i d h;⟨v,h1,h2.ext x⟩,R.len,R2.sto,R2.liv,R2.inj,R2.slen,R2.ent,R2.new⟩
theorem Rep.eZ(R:Rep Γ μ σ H env S)(i:Nat){v:V}{d:D}(r:VR Γ μ H v d):Rep Γ μ (σ.set i (some v)) H (env.set i (some d)) S:=by
 refine⟨fun j e h=>?_,by rw[U4e,U4e];exact R.len,R.sto,R.liv,R.inj,R.slen,R.ent,R.new⟩
 by_cases hj:i=j
 .subst hj
  have hl:i<env.length:=by
   have:=(U0h.mp h).1
   rw[U4e] at this;exact this
  rw[U2r hl] at h
  cases h
  exact⟨v,U2r (by rw[R.len];exact hl),r⟩
 .rw[U2z hj] at h ⊢
  exact R.vals j e h
theorem Rep.kJ(R:Rep Γ μ σ H env S){p:Addr}{o:HO}{ds:List D}(hp:H p=none)(r:∀μ' H',Ext μ H μ' H'->H' p=some o->Cell Γ μ' H' p ds) :
  Rep Γ (μ++[some p]) σ (upd H p o) env (S++[some ds])/\Ext μ H (μ++[some p]) (upd H p o):=by
 have ne:∀a o,H a=some o->a≠p:=fun a o h z=>by rw[z,hp] at h;cases h
 have x:Ext μ H (μ++[some p]) (upd H p o):=by
  refine⟨fun a o h n=>⟨by rw[BK (ne a o h)];exact h,fun z=>?_⟩,fun a ys h=>by rw[BK (ne a _ h)];exact h,fun a h=>?_,fun i a hi h=>?_,by rw[U0i];omega,fun a _ ⟨ys,h⟩=>⟨ys,by rw[BK (ne a _ h)];exact h⟩,fun a _ ⟨ys,h⟩=>⟨ys,by rw[BK (ne a _ h)];exact h⟩⟩
  .rcases U1l.mp z with z|z
   .exact n z
   .have z':a=p:=by simpa using z
    exact ne a o h z'
  .by_cases ha:a=p
   .rw[ha,CN] at h;cases h
   .rw[BK ha] at h;exact h
  .rw[U00 hi] at h;exact h
 have idx:∀i a,(μ++[some p])[i]?=some (some a)->(i<μ.length/\μ[i]?=some (some a))∨(i=μ.length/\a=p):=fun i a h=>by
  by_cases hi:i<μ.length
  .rw[U00 hi] at h;exact .inl ⟨hi,h⟩
  .rw[U1f (by omega)] at h
   have hl:=(U0h.mp h).1
   have hi':i=μ.length:=by simp at hl;omega
   subst hi'
   simp at h
   exact .inr ⟨rfl,h.symm⟩
 have no:∀a,μ[a]?=some (some p)->False:=fun i h=>R.dead hp (U12 h)
 refine⟨⟨fun i d h=>?_,R.len,fun i es h=>?_,fun i a h=>?_,fun i j a h1 h2=>?_,by rw[U0i,U0i,R.slen];rfl,R.ent.trans x,fun i a hi h=>?_⟩,x⟩
 .obtain⟨v,h1,h2⟩:=R.vals i d h
  exact⟨v,h1,h2.ext x⟩
 .by_cases hi:i<S.length
  .rw[U00 hi] at h
   obtain⟨a,h1,h2⟩:=R.sto i es h
   exact⟨a,by rw[U00 (by rw[←R.slen];exact hi)];exact h1,h2.to x fun o q=>by rw[BK (ne a _ q)];exact q⟩
  .rw[U1f (by omega)] at h
   have hl:=(U0h.mp h).1
   have hi':i=S.length:=by simp at hl;omega
   subst hi'
   simp at h
   subst h
   exact⟨p,by rw[R.slen];simp,r _ _ x CN⟩
 .rcases idx i a h with ⟨hi,h⟩|⟨rfl,rfl⟩
  .obtain⟨ds',q⟩:=R.liv i a h
   exact⟨ds',by rw[U00 (by rw[R.slen];exact hi)];exact q⟩
  .exact⟨ds,by rw[←R.slen];simp⟩
 .rcases idx i a h1 with ⟨_,g1⟩|⟨e1,e2⟩
  .rcases idx j a h2 with ⟨_,g2⟩|⟨e3,e4⟩
   .exact R.inj i j a g1 g2
   .exact(no i (e4 ▸ g1)).elim
  .rcases idx j a h2 with ⟨_,g2⟩|⟨e3,_⟩
   .exact(no j (e2 ▸ g2)).elim
   .rw[e1,e3]
 .rcases idx i a h with ⟨_,h⟩|⟨rfl,rfl⟩
  .exact R.new i a hi h
  .exact R.fresh hp
theorem Rep.laid(R:Rep Γ μ σ H env S){p:Addr}{xs:List V}{ds:List D}(hp:H p=none)(r:VRs Γ μ H xs ds) :
  Rep Γ (μ++[some p]) σ (upd H p (.lst xs)) env (S++[some ds])/\Ext μ H (μ++[some p]) (upd H p (.lst xs)):=R.kJ hp fun _ _ x q=>.inl ⟨xs,q,r.ext x⟩
theorem Rep.mG(R:Rep Γ μ σ H env S){i:Nat}{a:Addr}{o:HO}{ds:List D}(hi:μ[i]?=some (some a))(k1:IsL H a->IsL (upd H a o) a)(k2:IsK H a->IsK (upd H a o) a)(r:∀H',Ext μ H μ H'->H' a=some o->Cell Γ μ H' a ds) :
  Rep Γ μ σ (upd H a o) env (S.set i (some ds))/\Ext μ H μ (upd H a o):=by
 have hl:Br μ a:=U12 hi
 have hy:=R.live hl
 have x:Ext μ H μ (upd H a o):=by
  refine⟨fun b o h n=>⟨?_,n⟩,fun b zs h=>?_,fun b h=>?_,fun _ _ _ h=>h,U0l _,fun b _ h=>?_,fun b _ h=>?_⟩
  .rw[BK (fun z=>n (by rw[z];exact hl))];exact h
  .rw[BK (fun z=>by
    rw[z] at h
    rcases hy with ⟨_,q⟩|⟨_,q⟩<;>(rw[q] at h;cases h))];exact h
  .by_cases hb:b=a
   .rw[hb,CN] at h;cases h
   .rw[BK hb] at h;exact h
  .by_cases hb:b=a
   .subst hb;exact k1 h
   .obtain⟨ys,h⟩:=h
    exact⟨ys,by rw[BK hb];exact h⟩
  .by_cases hb:b=a
   .subst hb;exact k2 h
   .obtain⟨ys,h⟩:=h
    exact⟨ys,by rw[BK hb];exact h⟩
 have hiS:i<S.length:=by rw[R.slen];exact(U0h.mp hi).1
 refine⟨⟨fun j d h=>?_,R.len,fun j es h=>?_,fun j b h=>?_,R.inj,by rw[U4e];exact R.slen,R.ent.trans x,R.new⟩,x⟩
 .obtain⟨v,h1,h2⟩:=R.vals j d h
  exact⟨v,h1,h2.ext x⟩
 .by_cases hj:i=j
  .subst hj
   rw[U2r hiS] at h
   cases h
   exact⟨a,hi,r _ x CN⟩
  .rw[U2z hj] at h
   obtain⟨b,h1,h2⟩:=R.sto j es h
   refine⟨b,h1,h2.to x fun o q=>?_⟩
   rw[BK (fun z=>hj (R.inj i j a hi (by rw[←z];exact h1)))]
   exact q
 .by_cases hj:i=j
  .subst hj;exact⟨ds,U2r hiS⟩
  .rw[U2z hj];exact R.liv j b h
theorem Rep.put(R:Rep Γ μ σ H env S){i:Nat}{a:Addr}{xs:List V}{ds:List D}(hi:μ[i]?=some (some a))(hx:IsL H a)(r:VRs Γ μ H xs ds) :
  Rep Γ μ σ (upd H a (.lst xs)) env (S.set i (some ds))/\Ext μ H μ (upd H a (.lst xs)) :=
 R.mG hi (fun _=>⟨xs,CN⟩) (fun⟨_,q⟩=>by obtain⟨_,p⟩:=hx;rw[q] at p;cases p) fun _ x q=>.inl ⟨xs,q,r.ext x⟩
end
end VS
end
section
namespace VS
open PySem PySem.Spec L2
abbrev Av:=Env->Store->Option (D×Store)
abbrev Bd:=Env->Store->Option (List D×Store)
abbrev Dw:=Env->Store->Option (Bool×Store)
abbrev Qt:=Env->Store->Option (Option Int×Store)
inductive Fl where|nx|brk|cnt|ret (d:D)
abbrev Az:=Env->Store->Option (Fl×Env×Store)
abbrev JZ:=Env->Store->Option ((List D×List (Nat×List D))×Store)
abbrev K7:=D->Env->Option Env
def Ac(i:Nat):Av:=fun env S=>(env[i]?.join).map fun d=>(d,S)
def eC(d:D):Av:=fun _ S=>some (d,S)
def eOp(g:Store->D->D->Option D)(a b:Av):Av:=fun env S=>(a env S).bind fun p=>(b env p.2).bind fun q=>(g q.2 p.1 q.1).map fun d=>(d,q.2)
def eUn(g:Store->D->Option D)(a:Av):Av:=fun env S=>(a env S).bind fun p=>(g p.2 p.1).map fun d=>(d,p.2)
def Ae:Bd:=fun _ S=>some ([],S)
def Aa(a:Av)(r:Bd):Bd:=fun env S=>(a env S).bind fun p=>(r env p.2).bind fun q=>some (p.1::q.1,q.2)
def eCB(g:Store->List D->Option D)(a:Bd):Av:=fun env S=>(a env S).bind fun p=>(g p.2 p.1).map fun d=>(d,p.2)
def M8(a b:Av):Av:=fun env S=>(a env S).bind fun p=>match p.1 with|.bl true=>b env p.2|.bl false=>some (.bl false,p.2)|_=>none
def eOr(a b:Av):Av:=fun env S=>(a env S).bind fun p=>match p.1 with|.bl true=>some (.bl true,p.2)|.bl false=>b env p.2|_=>none
def Qp(a:Av):Av:=fun env S=>(a env S).bind fun p=>match p.1 with|.bl c=>some (.bl (!c),p.2)|_=>none
def Qa(g g':Store->D->D->Option D)(a b c:Av):Av:=fun env S=>(a env S).bind fun p=>(b env p.2).bind fun q=>(g q.2 p.1 q.1).bind fun z=>match z with
 |.bl true=>(c env q.2).bind fun r=>(g' r.2 q.1 r.1).map fun d=>(d,r.2)
 |.bl false=>some (.bl false,q.2)
 |_=>none
def Bm(a:Av):Dw:=fun env S=>(a env S).bind fun p=>match p.1 with|.bl c=>some (c,p.2)|_=>none
def K1(a b:Dw):Dw:=fun env S=>(a env S).bind fun p=>if p.1=true then b env p.2 else some (false,p.2)
def tOr(a b:Dw):Dw:=fun env S=>(a env S).bind fun p=>if p.1=true then some (true,p.2) else b env p.2
def M4(a:Dw):Dw:=fun env S=>(a env S).bind fun p=>some (!p.1,p.2)
def J8:Qt:=fun _ S=>some (none,S)
def J7(a:Av):Qt:=fun env S=>(a env S).bind fun p=>match p.1 with|.int i=>some (some i,p.2)|_=>none
def eSl(g:Store->D->Option Int->Option Int->Option D)(a:Av)(l h:Qt):Av:=fun env S=>(a env S).bind fun p=>(l env p.2).bind fun q=>(h env q.2).bind fun r=>(g r.2 p.1 q.1 r.1).map fun d=>(d,r.2)
def Bq(a b:Az):Az:=fun env S=>(a env S).bind fun p=>match p.1 with|.nx=>b p.2.1 p.2.2|f=>some (f,p.2.1,p.2.2)
def Fy:Az:=fun env S=>some (.nx,env,S)
def T7:Az:=fun _ _=>none
def Bh(i:Nat)(a:Av):Az:=fun env S=>(a env S).bind fun p=>some (.nx,env.set i (some p.1),p.2)
def W2(a:Av)(g:K7):Az:=fun env S=>(a env S).bind fun p=>(g p.1 env).bind fun e=>some (.nx,e,p.2)
def Hh(a:Av):Az:=fun env S=>(a env S).bind fun p=>some (.nx,env,p.2)
def Dc(a:Av):Az:=fun env S=>(a env S).bind fun p=>some (.ret p.1,env,p.2)
def sIf(c:Dw)(a b:Az):Az:=fun env S=>(c env S).bind fun p=>if p.1=true then a env p.2 else b env p.2
inductive Pat where
 |nm (i:Nat)|tp (ps:List Pat)
mutual
def Pat.sem:Pat->D->Env->Option Env
 |.nm i,d,env=>some (env.set i (some d))
 |.tp ps,.tup ds,env=>G9 ps ds env
 |.tp _,_,_=>none
def G9:List Pat->List D->Env->Option Env
 |[],[],env=>some env
 |p::ps,d::ds,env=>(Pat.sem p d env).bind fun e=>G9 ps ds e
 |_,_,_=>none
end
mutual
def Pat.raw(K:U0a):Pat->TG
 |.nm i=>Sg i
 |.tp ps=>Yj K ps.length (Hi K ps)
def Hi(K:U0a):List Pat->TGs
 |[]=>Yk
 |p::ps=>WR (Pat.raw K p) (Hi K ps)
end
mutual
def Pat.low(k:Nat):Pat->Bool
 |.nm i=>decide (i<k)
 |.tp ps=>W5 k ps
def W5(k:Nat):List Pat->Bool
 |[]=>true
 |p::ps=>Pat.low k p&&W5 k ps
end
mutual
theorem Pat.mono(K:U0a):∀(p:Pat)(x:V)(σ:St)(H:Hp)(Q Q':St->Hp->Prop),(∀σ' H',Q σ' H'->Q' σ' H')->p.raw K x σ H Q->p.raw K x σ H Q'
 |.nm i,x,σ,H,Q,Q',f,h=>by rw[Pat.raw] at h ⊢;exact f _ _ h
 |.tp ps,x,σ,H,Q,Q',f,h=>by rw[Pat.raw] at h ⊢;obtain⟨a,xs,e,hs,hl,q⟩:=h;exact⟨a,xs,e,hs,hl,WM K ps xs σ H Q Q' f q⟩
theorem WM(K:U0a):∀(ps:List Pat)(x:List V)(σ:St)(H:Hp)(Q Q':St->Hp->Prop),(∀σ' H',Q σ' H'->Q' σ' H')->Hi K ps x σ H Q->Hi K ps x σ H Q'
 |[],x,σ,H,Q,Q',f,h=>by rw[Hi] at h ⊢;exact⟨h.1,f _ _ h.2⟩
 |p::ps,x,σ,H,Q,Q',f,h=>by rw[Hi] at h ⊢;obtain⟨v,r,e,q⟩:=h;exact⟨v,r,e,Pat.mono K p v σ H _ _ (fun σ1 H1 z=>WM K ps r σ1 H1 Q Q' f z) q⟩
end
mutual
theorem Pat.aD(K:U0a){k:Nat}:∀(p:Pat),p.low k=true->Low k (p.raw K)
 |.nm i,h=>by rw[Pat.raw];rw[Pat.low] at h;exact ZW (of_decide_eq_true h)
 |.tp ps,h=>by rw[Pat.raw];rw[Pat.low] at h;exact cH (Xa K ps h)
theorem Xa(K:U0a){k:Nat}:∀(ps:List Pat),W5 k ps=true->Sv k (Hi K ps)
 |[],_=>by rw[Hi];exact cI
 |p::ps,h=>by
  rw[Hi]
  rw[W5,U0m] at h
  exact ZX (Pat.aD K p h.1) (Xa K ps h.2) (Pat.mono K p) (WM K ps)
end
theorem Te:∀{ps:List Pat} {ds:List D} {env env':Env},G9 ps ds env=some env'->ds.length=ps.length
 |[],[],_,_,_=>rfl
 |[],_::_,_,_,h=>by simp[G9] at h
 |_::_,[],_,_,h=>by simp[G9] at h
 |p::ps,d::ds,env,env',h=>by
  rw[G9] at h
  cases e1:p.sem d env with
  |none=>rw[e1] at h;cases h
  |some env1 =>
   rw[e1] at h
   rw[U0f,U0f,Te (show G9 ps ds env1=some env' from h)]
mutual
theorem Pat.run{Γ:Fr}{μ:Mu}{H:Hp}{S:Store}(K:U0a):∀(p:Pat){v:V}{d:D}{σ:St}{env env':Env}{Q:St->Hp->Prop},Rep Γ μ σ H env S->VR Γ μ H v d->p.sem d env=some env'->(∀σ',Rep Γ μ σ' H env' S->Q σ' H)->p.raw K v σ H Q
 |.nm i,v,d,σ,env,env',Q,R,r,e,q=>by
  rw[Pat.raw]
  rw[Pat.sem] at e
  cases e
  exact q _ (R.eZ i r)
 |.tp ps,v,d,σ,env,env',Q,R,r,e,q=>by
  rw[Pat.raw]
  cases r with
  |@tup b xs ds hb rs =>
   rw[Pat.sem] at e
   obtain⟨hl,w⟩:=fD K ps R rs e q
   exact⟨b,xs,rfl,SqT.of hb,hl,w⟩
  |_=>simp[Pat.sem] at e
theorem fD{Γ:Fr}{μ:Mu}{H:Hp}{S:Store}(K:U0a):∀(ps:List Pat){vs:List V}{ds:List D}{σ:St}{env env':Env}{Q:St->Hp->Prop},Rep Γ μ σ H env S->VRs Γ μ H vs ds->G9 ps ds env=some env'->(∀σ',Rep Γ μ σ' H env' S->Q σ' H)->vs.length=ps.length/\Hi K ps vs σ H Q
 |[],vs,ds,σ,env,env',Q,R,r,e,q=>by
  rw[Hi]
  cases r with
  |nil=>rw[G9] at e;cases e;exact⟨rfl,rfl,q σ R⟩
  |cons _ _=>simp[G9] at e
 |p::ps,vs,ds,σ,env,env',Q,R,r,e,q=>by
  rw[Hi]
  cases r with
  |nil=>simp[G9] at e
  |@cons y d ys ds' r1 r2 =>
   rw[G9] at e
   cases e1:p.sem d env with
   |none=>rw[e1] at e;cases e
   |some env1 =>
    rw[e1] at e
    have e':G9 ps ds' env1=some env':=e
    have hl:ys.length=ps.length:=by rw[r2.length];exact Te e'
    exact⟨by rw[U0f,U0f,hl],y,ys,rfl,Pat.run K p R r1 e1 fun σ1 R1=>(fD K ps R1 r2 e' q).2⟩
end
def calm(w:List (Nat×List D))(S:Store):Prop:=∀p∈w,S[p.1]?=some (some p.2)
open Classical in
def loop(w:List (Nat×List D))(g:K7)(b:Az):List D->Az
 |[],env,S=>if calm w S then some (.nx,env,S) else none
 |d::r,env,S=>if calm w S then (g d env).bind fun e=>(b e S).bind fun p=>match p.1 with
   |.nx=>loop w g b r p.2.1 p.2.2
   |.cnt=>loop w g b r p.2.1 p.2.2
   |.brk=>some (.nx,p.2.1,p.2.2)
   |.ret d=>some (.ret d,p.2.1,p.2.2)
  else none
def K3(it:JZ)(g:K7)(b:Az):Az:=fun env S=>(it env S).bind fun p=>loop p.1.2 g b p.1.1 env p.2
def N8(k:Nat)(caps:List Nat)(env:Env):Env:=U0p k none++caps.map fun j=>(env[j]?).join
open Classical in
def J9(w:List (Nat×List D))(e0:Env)(g:K7)(t:Dw)(e:Av):List D->List D->Store->Option (List D×Store)
 |[],ys,S=>if calm w S/\ys.length<=1000000 then some (ys,S) else none
 |d::r,ys,S=>if calm w S/\ys.length<=1000000 then (g d e0).bind fun e1=>(t e1 S).bind fun p =>
   if p.1=true then (e e1 p.2).bind fun q=>J9 w e0 g t e r (ys++[q.1]) q.2 else J9 w e0 g t e r ys p.2
  else none
def Fb(k:Nat)(caps:List Nat)(it:JZ)(g:K7)(t:Dw)(e:Av):Bd:=fun env S=>(it env S).bind fun p=>J9 p.1.2 (N8 k caps env) g t e p.1.1 [] p.2
def Ir:Dw:=fun _ S=>some (true,S)
def BL(a:Bd):Av:=fun env S=>(a env S).bind fun p=>some (.lst true p.1,p.2)
def JX(a:Bd):Av:=fun env S=>(a env S).bind fun p=>some (.ref p.2.length,p.2++[some p.1])
def BW(a:Bd):Av:=fun env S=>(a env S).bind fun p=>some (.tup p.1,p.2)
def wpE(K:U0a)(f:Av):TE:=fun σ H Q=>∃Γ μ env S d S',Γ.K=K/\Rep Γ μ σ H env S/\f env S=some (d,S')/\∀v μ' H',Ext μ H μ' H'->Rep Γ μ' σ H' env S'->VR Γ μ' H' v d->Q v H'
def wpA(K:U0a)(f:Bd):TA:=fun σ H Q=>∃Γ μ env S d S',Γ.K=K/\Rep Γ μ σ H env S/\f env S=some (d,S')/\∀v μ' H',Ext μ H μ' H'->Rep Γ μ' σ H' env S'->VRs Γ μ' H' v d->Q v H'
def wpT(K:U0a)(f:Dw):TT:=fun σ H Q=>∃Γ μ env S b S',Γ.K=K/\Rep Γ μ σ H env S/\f env S=some (b,S')/\∀μ' H',Ext μ H μ' H'->Rep Γ μ' σ H' env S'->Q b H'
def wpO(K:U0a)(f:Qt):TO:=fun σ H Q=>∃Γ μ env S b S',Γ.K=K/\Rep Γ μ σ H env S/\f env S=some (b,S')/\∀μ' H',Ext μ H μ' H'->Rep Γ μ' σ H' env S'->Q b H'
def FlQ(Γ:Fr)(μ:Mu)(E:Ends)(σ:St)(H:Hp):Fl->Prop
 |.nx=>E.nx σ H
 |.brk=>E.bk σ H
 |.cnt=>E.ct σ H
 |.ret d=>∀v,VR Γ μ H v d->E.rt v H
def wpS(K:U0a)(f:Az):TS:=fun E σ H=>∃Γ μ env S fl env' S',Γ.K=K/\Rep Γ μ σ H env S/\f env S=some (fl,env',S')/\∀μ' σ' H',Ext μ H μ' H'->Rep Γ μ' σ' H' env' S'->FlQ Γ μ' E σ' H' fl
structure W6(Γ:Fr)(μ:Mu)(H:Hp)(J:It)(ds:List D)(w:List (Nat×List D)):Prop where
 step:∀(i:Nat)(d:D)(μ':Mu)(H':Hp)(σ':St)(env':Env)(S':Store),ds[i]?=some d->Ext μ H μ' H'->Rep Γ μ' σ' H' env' S'->calm w S'->J.go i H'/\∀x H'',J.yld i H' x H''->Same H' H''/\VR Γ μ' H'' x d
 stop:∀(μ':Mu)(H':Hp)(σ':St)(env':Env)(S':Store),Ext μ H μ' H'->Rep Γ μ' σ' H' env' S'->calm w S'->J.stop ds.length H'
def wpI(K:U0a)(f:JZ):TI:=fun σ H R=>∃Γ μ env S ds w S',Γ.K=K/\Rep Γ μ σ H env S/\f env S=some ((ds,w),S')/\∀J μ' H',Ext μ H μ' H'->Rep Γ μ' σ H' env S'->W6 Γ μ' H' J ds w->R J H'
structure JE(X:Cx)(e:Expr)(f:Av):Prop where
 pe:PE X e (wpE X.K f)
structure JA(X:Cx)(es:List Expr)(f:Bd):Prop where
 pa:PA X es (wpA X.K f)
structure JT(X:Cx)(e:Expr)(f:Dw):Prop where
 pt:PT X e (wpT X.K f)
structure JW(X:Cx)(e:Expr)(f:Dw):Prop where
 pw:PW X e (wpT X.K f)
structure JO(X:Cx)(e:Option Expr)(f:Qt):Prop where
 po:PO X e (wpO X.K f)
structure JS(X:Cx)(st:Stmt)(f:Az):Prop where
 ps:PS X st (wpS X.K f)
structure JSs(X:Cx)(sts:List Stmt)(f:Az):Prop where
 ps:PSs X sts (wpS X.K f)
structure JI(X:Cx)(tg e:Expr)(f:JZ):Prop where
 pi:PI X tg e (wpI X.K f)
structure JG(X:Cx)(tg:Expr)(p:Pat):Prop where
 pg:PG X tg (p.raw X.K)
structure JGs(X:Cx)(tgs:List Expr)(ps:List Pat):Prop where
 pg:PGs X tgs (Hi X.K ps)
structure JTs(X:Cx)(es:List Expr)(f:Dw):Prop where
 pt:PTs X es (wpT X.K f)
section
variable{X:Cx}
theorem PE.imp{e:Expr}{t t':TE}(h:PE X e t)(k:∀σ H Q,t' σ H Q->t σ H Q):PE X e t':=fun pins s σ H Q I q=>h pins s σ H Q I (k σ H Q q)
theorem PT.imp{e:Expr}{t t':TT}(h:PT X e t)(k:∀σ H Q,t' σ H Q->t σ H Q):PT X e t':=fun pins s σ H Q I q=>h pins s σ H Q I (k σ H Q q)
theorem PW.imp{e:Expr}{t t':TT}(h:PW X e t)(k:∀σ H Q,t' σ H Q->t σ H Q):PW X e t':=fun w pins s σ H Q I q=>h w pins s σ H Q I (k σ H Q q)
theorem PTs.imp{e:List Expr}{t t':TT}(h:PTs X e t)(k:∀σ H Q,t' σ H Q->t σ H Q):PTs X e t':=fun pins s σ H Q I q=>h pins s σ H Q I (k σ H Q q)
theorem PA.imp{e:List Expr}{t t':TA}(h:PA X e t)(k:∀σ H Q,t' σ H Q->t σ H Q):PA X e t':=fun p pins s σ H Q I q=>h p pins s σ H Q I (k σ H Q q)
theorem PO.imp{e:Option Expr}{t t':TO}(h:PO X e t)(k:∀σ H Q,t' σ H Q->t σ H Q):PO X e t':=fun pins s σ H Q I q=>h pins s σ H Q I (k σ H Q q)
theorem PS.imp{e:Stmt}{t t':TS}(h:PS X e t)(k:∀E σ H,t' E σ H->t E σ H):PS X e t':=fun pins s σ H E I q=>h pins s σ H E I (k E σ H q)
theorem PSs.imp{e:List Stmt}{t t':TS}(h:PSs X e t)(k:∀E σ H,t' E σ H->t E σ H):PSs X e t':=fun pins s σ H E I q=>h pins s σ H E I (k E σ H q)
theorem PI.imp{tg e:Expr}{t t':TI}(h:PI X tg e t)(k:∀σ H R,t' σ H R->t σ H R):PI X tg e t':=fun pins s σ H R I q=>h pins s σ H R I (k σ H R q)
theorem bind_some{α β:Type}{a:Option α}{f:α->Option β}{b:β}(h:a.bind f=some b):∃x,a=some x/\f x=some b:=by
 cases a with
 |none=>cases h
 |some x=>exact⟨x,rfl,h⟩
theorem map_some{α β:Type}{a:Option α}{f:α->β}{b:β}(h:a.map f=some b):∃x,a=some x/\f x=b:=by
 cases a with
 |none=>cases h
 |some x=>exact⟨x,rfl,U0x h⟩
def Ef(K:U0a)(r:R2)(g:Store->D->D->Option D):Prop:=∀(Γ:Fr)(μ:Mu)(σ:St)(H:Hp)(env:Env)(S:Store)(x y:V)(dx dy d:D),Γ.K=K->Rep Γ μ σ H env S->VR Γ μ H x dx->VR Γ μ H y dy->g S dx dy=some d ->
 ∀Q:VK,(∀v H',Same H H'->VR Γ μ H' v d->Q v H')->r x y H Q
def fY(K:U0a)(r:V->Hp->VK->Prop)(g:Store->D->Option D):Prop:=∀(Γ:Fr)(μ:Mu)(σ:St)(H:Hp)(env:Env)(S:Store)(x:V)(dx d:D),Γ.K=K->Rep Γ μ σ H env S->VR Γ μ H x dx->g S dx=some d ->
 ∀Q:VK,(∀v H',Same H H'->VR Γ μ H' v d->Q v H')->r x H Q
def K6(K:U0a)(r:List V->Hp->VK->Prop)(g:Store->List D->Option D):Prop:=∀(Γ:Fr)(μ:Mu)(σ:St)(H:Hp)(env:Env)(S:Store)(xs:List V)(ds:List D)(d:D),Γ.K=K->Rep Γ μ σ H env S->VRs Γ μ H xs ds->g S ds=some d ->
 ∀Q:VK,(∀v H',Same H H'->VR Γ μ H' v d->Q v H')->r xs H Q
def aL(K:U0a)(r:V->Option Int->Option Int->Hp->VK->Prop)(g:Store->D->Option Int->Option Int->Option D):Prop:=∀(Γ:Fr)(μ:Mu)(σ:St)(H:Hp)(env:Env)(S:Store)(x:V)(dx d:D)(l h:Option Int),Γ.K=K->Rep Γ μ σ H env S->VR Γ μ H x dx->g S dx l h=some d ->
 ∀Q:VK,(∀v H',Same H H'->VR Γ μ H' v d->Q v H')->r x l h H Q
theorem SM{K:U0a}{r:R2}{g:Store->D->D->Option D}{fa fb:Av}(hs:Ef K r g){σ:St}{H:Hp}{Q:VK}(h:wpE K (eOp g fa fb) σ H Q):tOp r (wpE K fa) (wpE K fb) σ H Q:=by
 obtain⟨Γ,μ,env,S,d,S',hK,R,e,q⟩:=h
 obtain⟨⟨x,S1⟩,e1,e⟩:=bind_some e
 obtain⟨⟨y,S2⟩,e2,e⟩:=bind_some e
 obtain⟨z,e3,e⟩:=map_some e
 cases e
 refine⟨Γ,μ,env,S,x,S1,hK,R,e1,fun v1 μ1 H1 x1 R1 r1=>?_⟩
 refine⟨Γ,μ1,env,S1,y,S2,hK,R1,e2,fun v2 μ2 H2 x2 R2 r2=>?_⟩
 refine hs Γ μ2 σ H2 env S2 v1 v2 x y _ hK R2 (r1.ext x2) r2 e3 Q fun v H' sm rv=>?_
 obtain⟨R3,x3⟩:=R2.grow sm
 exact q v μ2 H' (x1.trans (x2.trans x3)) R3 rv
theorem BR{op:Operator}{r:R2}{g:Store->D->D->Option D}{a b:Expr}{fa fb:Av}{pos:Pos}(ho:OpR X (binaryOp op) r)(hs:Ef X.K r g)(ha:JE X a fa)(hb:JE X b fb):JE X (.BinOp a op b pos) (eOp g fa fb) :=
 ⟨PE.imp (jr ho ha.pe hb.pe) fun _ _ _ h=>SM hs h⟩
theorem JN{op:CmpOp}{r:R2}{g:Store->D->D->Option D}{a b:Expr}{fa fb:Av}{pos:Pos}(ho:OpR X (compareOp op) r)(hs:Ef X.K r g)(ha:JE X a fa)(hb:JE X b fb)(hm:behindInMarks op b=false):JE X (.Compare a [op] [b] pos) (eOp g fa fb) :=
 ⟨PE.imp (bT ho ha.pe hb.pe hm) fun _ _ _ h=>SM hs h⟩
theorem Bo{r:R2}{g:Store->D->D->Option D}{a b:Expr}{fa fb:Av}{pos:Pos}(ho:IxR X r)(hs:Ef X.K r g)(ha:JE X a fa)(hb:JE X b fb)(hp:Vz b):JE X (.Subscript a b pos) (eOp g fa fb) :=
 ⟨PE.imp (jt ho ha.pe hb.pe hp) fun _ _ _ h=>SM hs h⟩
theorem Kf{op:UnaryOp}{r:V->Hp->VK->Prop}{g:Store->D->Option D}{a:Expr}{fa:Av}{pos:Pos}(ho:UnR X (unaryOp op) r)(hs:fY X.K r g)(ha:JE X a fa):JE X (.UnaryOp op a pos) (eUn g fa) :=
 ⟨PE.imp (jo ho ha.pe) fun σ H Q h=>by
  obtain⟨Γ,μ,env,S,d,S',hK,R,e,q⟩:=h
  obtain⟨⟨x,S1⟩,e1,e⟩:=bind_some e
  obtain⟨z,e3,e⟩:=map_some e
  cases e
  refine⟨Γ,μ,env,S,x,S1,hK,R,e1,fun v1 μ1 H1 x1 R1 r1=>?_⟩
  refine hs Γ μ1 σ H1 env S1 v1 x _ hK R1 r1 e3 Q fun v H' sm rv=>?_
  obtain⟨R3,x3⟩:=R1.grow sm
  exact q v μ1 H' (x1.trans x3) R3 rv⟩
theorem Af(i:Nat){x:Str}{pos:Pos}(hN:X.N[i]?=some x:=by rfl)(hv:Vis X.env.scope x:=by first|exact U64 rfl|exact U6f (U64 rfl)|exact U6f (U6f rfl))(hd:(x==("__debug__":Str))=false:=by decide)
  (hcd:(x==("__classdict__":Str))=false:=by decide):JE X (.Name x pos) (Ac i) :=
 ⟨PE.imp (XF hN hv hd hcd) fun σ H Q h=>by
  obtain⟨Γ,μ,env,S,d,S',hK,R,e,q⟩:=h
  obtain⟨d',e1,e⟩:=map_some e
  cases e
  have e1':env[i]?=some (some d):=by
   cases h:env[i]? with
   |none=>rw[h] at e1;cases e1
   |some o=>rw[h] at e1;exact congrArg some e1
  obtain⟨v,h1,h2⟩:=R.vals i d e1'
  exact⟨v,h1,q v μ H (Ext.refl _ _) R h2⟩⟩
theorem Yc{K:U0a}{v:V}{d:D}(h:∀Γ μ H,VR Γ μ H v d){σ:St}{H:Hp}{Q:VK}(w:wpE K (eC d) σ H Q):tC v σ H Q:=by
 obtain⟨Γ,μ,env,S,d',S',hK,R,e,q⟩:=w
 cases e
 exact q v μ H (Ext.refl _ _) R (h Γ μ H)
theorem Ai{i j pos}:JE X (.Constant (.int i) j pos) (eC (.int i)):=⟨PE.imp XJ fun _ _ _=>Yc fun _ _ _=>.int i⟩
theorem OJ{b j pos}:JE X (.Constant (.bool b) j pos) (eC (.bl b)):=⟨PE.imp jw fun _ _ _=>Yc fun _ _ _=>.bl b⟩
theorem Sd{n:String}{x:Str}{pos:Pos}(hg:Gl X x)(hm:X.mg x=none)(hv:bootBuiltins x=some (.type n))(hn:x≠"__name__":=by decide)(hd:(x==("__debug__":Str))=false:=by decide):JE X (.Name x pos) (eC (.ty n)) :=
 ⟨PE.imp (bV (v:=.ty n) hg hm hv rfl hn hd) fun _ _ _=>Yc fun _ _ _=>.ty n⟩
theorem Aj:JA X [] Ae:=⟨PA.imp QT fun σ H Q h=>by
 obtain⟨Γ,μ,env,S,d,S',hK,R,e,q⟩:=h
 cases e
 exact q [] μ H (Ext.refl _ _) R .nil⟩
theorem Ad{e:Expr}{es:List Expr}{f:Av}{r:Bd}(ha:JE X e f)(hr:JA X es r)(hs:starEach (e::es) X.env=(false,eval e X.env)::starEach es X.env:=by rfl):JA X (e::es) (Aa f r) :=
 ⟨PA.imp (Oh ha.pe hr.pa hs) fun σ H Q h=>by
  obtain⟨Γ,μ,env,S,d,S',hK,R,e,q⟩:=h
  obtain⟨⟨x,S1⟩,e1,e⟩:=bind_some e
  obtain⟨⟨y,S2⟩,e2,e⟩:=bind_some e
  cases e
  refine⟨Γ,μ,env,S,x,S1,hK,R,e1,fun v1 μ1 H1 x1 R1 r1=>?_⟩
  refine⟨Γ,μ1,env,S1,y,S2,hK,R1,e2,fun v2 μ2 H2 x2 R2 r2=>?_⟩
  exact q _ μ2 H2 (x1.trans x2) R2 (.cons (r1.ext x2) r2)⟩
theorem big{n:Nat}(h:n<=1000000):n<sizeLine:=U3r h (by decide)
theorem fu{K:U0a}{f:Bd}{σ:St}{H:Hp}{Q:VK}(hl:∀env S p,f env S=some p->p.1.length<=1000000)(h:wpE K (BW f) σ H Q):eX (wpA K f) σ H Q:=by
 obtain⟨Γ,μ,env,S,d,S',hK,R,e,q⟩:=h
 obtain⟨⟨x,S1⟩,e1,e⟩:=bind_some e
 cases e
 refine⟨Γ,μ,env,S,x,S1,hK,R,e1,fun vs μ1 H1 x1 R1 r1=>⟨by rw[r1.length];exact U2c (big (hl _ _ _ e1)),fun p hp=>?_⟩⟩
 have sm:=Dh hp (.tup vs)
 obtain⟨R2,x2⟩:=R1.grow sm
 exact q _ μ1 _ (x1.trans x2) R2 (.tup CN (r1.ext x2))
def Few(n:Nat)(f:Bd):Prop:=∀env S p,f env S=some p->p.1.length<=n
theorem Aw:Few 0 Ae:=fun env S p h=>by cases h;exact U0l _
theorem Ah{n:Nat}{f:Av}{r:Bd}(h:Few n r):Few (n+1) (Aa f r):=fun env S p e=>by
 obtain⟨⟨x,S1⟩,e1,e⟩:=bind_some e
 obtain⟨⟨y,S2⟩,e2,e⟩:=bind_some e
 cases e
 have:=h _ _ _ e2
 show(x::y).length<=n+1
 rw[U0f]
 exact Nat.succ_le_succ this
theorem Cd{es:List Expr}{f:Bd}{x1:Nat}{pos:Pos}{n:Nat}(h:JA X es f)(hf:Few n f)(hn:n<=1000000:=by decide):JE X (.Tuple es x1 pos) (BW f):=⟨PE.imp (gj h.pa) fun _ _ _ w=>fu (fun env S p e=>U08 (hf env S p e) hn) w⟩
theorem Ds{es:List Expr}{f:Bd}{pos:Pos}{n:Nat}(h:JA X es f)(hf:Few n f)(hn:n<=1000000:=by decide):JE X (.List es pos) (BL f):=⟨PE.imp (XH h.pa) fun σ H Q w=>by
 obtain⟨Γ,μ,env,S,d,S',hK,R,e,q⟩:=w
 obtain⟨⟨x,S1⟩,e1,e⟩:=bind_some e
 cases e
 refine⟨Γ,μ,env,S,x,S1,hK,R,e1,fun vs μ1 H1 x1 R1 r1=>⟨by rw[r1.length];exact U2c (big (U08 (hf _ _ _ e1) hn)),fun p hp=>?_⟩⟩
 obtain⟨R2,x2⟩:=R1.grow (Dh hp (.lst vs))
 exact q _ μ1 _ (x1.trans x2) R2 (.lst (R1.ok hp true) (R1.dead hp) CN (r1.ext x2))⟩
theorem Lr{es:List Expr}{f:Bd}{pos:Pos}{n:Nat}(h:JA X es f)(hf:Few n f)(hn:n<=1000000:=by decide):JE X (.List es pos) (JX f):=⟨PE.imp (XH h.pa) fun σ H Q w=>by
 obtain⟨Γ,μ,env,S,d,S',hK,R,e,q⟩:=w
 obtain⟨⟨x,S1⟩,e1,e⟩:=bind_some e
 cases e
 refine⟨Γ,μ,env,S,x,S1,hK,R,e1,fun vs μ1 H1 x1 R1 r1=>⟨by rw[r1.length];exact U2c (big (U08 (hf _ _ _ e1) hn)),fun p hp=>?_⟩⟩
 obtain⟨R2,x2⟩:=R1.laid hp r1
 exact q _ _ _ (x1.trans x2) R2 (.ref (by rw[U0i,R1.slen];simp) fun a h=>by
  rw[R1.slen] at h
  simp at h
  rw[←h]
  exact⟨rfl,⟨_,CN⟩⟩)⟩
end
end VS
end
section
namespace VS
open PySem PySem.Spec L2
section
variable{X:Cx}{a b c:Expr}{fa fb fc:Av}{pos:Pos}{rest:List Expr}
theorem Lg{op}(h:JE X a fa):JE X (.BoolOp op [a] pos) fa:=⟨gn h.pe⟩
theorem K8(ha:JE X a fa)(hb:JE X (.BoolOp .And (b::rest) pos) fb):JE X (.BoolOp .And (a::b::rest) pos) (M8 fa fb):=⟨PE.imp (iB ha.pe hb.pe) fun σ H Q h=>by
 obtain⟨Γ,μ,env,S,d,S',hK,R,e,q⟩:=h
 obtain⟨⟨x,S1⟩,e1,e⟩:=bind_some e
 refine⟨Γ,μ,env,S,x,S1,hK,R,e1,fun v1 μ1 H1 x1 R1 r1=>?_⟩
 dsimp only at e
 split at e
 .cases r1
  exact⟨true,rfl,by rw[if_pos rfl];exact⟨Γ,μ1,env,S1,d,S',hK,R1,e,fun v μ' H' x' R' r'=>q v μ' H' (x1.trans x') R' r'⟩⟩
 .cases r1
  cases e
  exact⟨false,rfl,by rw[if_neg U06];exact q _ μ1 H1 x1 R1 (.bl false)⟩
 .cases e⟩
theorem kO(ha:JE X a fa)(hb:JE X (.BoolOp .Or (b::rest) pos) fb):JE X (.BoolOp .Or (a::b::rest) pos) (eOr fa fb):=⟨PE.imp (jq ha.pe hb.pe) fun σ H Q h=>by
 obtain⟨Γ,μ,env,S,d,S',hK,R,e,q⟩:=h
 obtain⟨⟨x,S1⟩,e1,e⟩:=bind_some e
 refine⟨Γ,μ,env,S,x,S1,hK,R,e1,fun v1 μ1 H1 x1 R1 r1=>?_⟩
 dsimp only at e
 split at e
 .cases r1
  cases e
  exact⟨true,rfl,by rw[if_pos rfl];exact q _ μ1 H1 x1 R1 (.bl true)⟩
 .cases r1
  exact⟨false,rfl,by rw[if_neg U06];exact⟨Γ,μ1,env,S1,d,S',hK,R1,e,fun v μ' H' x' R' r'=>q v μ' H' (x1.trans x') R' r'⟩⟩
 .cases e⟩
theorem XR(ha:JE X a fa):JE X (.UnaryOp .Not a pos) (Qp fa):=⟨PE.imp (gq ha.pe) fun σ H Q h=>by
 obtain⟨Γ,μ,env,S,d,S',hK,R,e,q⟩:=h
 obtain⟨⟨x,S1⟩,e1,e⟩:=bind_some e
 refine⟨Γ,μ,env,S,x,S1,hK,R,e1,fun v1 μ1 H1 x1 R1 r1=>?_⟩
 dsimp only at e
 split at e
 .rename_i c
  cases r1
  cases e
  exact⟨c,rfl,q _ μ1 H1 x1 R1 (.bl _)⟩
 .cases e⟩
theorem Nj{e:Expr}(h:JE X e fa)(he:∀whole,isTrue e X.env whole=(do let v ←whole;standAt e.pos;holding [v] (truthy v)):=by intro _;rfl):JT X e (Bm fa):=⟨PT.imp (gO h.pe he) fun σ H Q h=>by
 obtain⟨Γ,μ,env,S,d,S',hK,R,e,q⟩:=h
 obtain⟨⟨x,S1⟩,e1,e⟩:=bind_some e
 refine⟨Γ,μ,env,S,x,S1,hK,R,e1,fun v1 μ1 H1 x1 R1 r1=>?_⟩
 dsimp only at e
 split at e
 .rename_i c
  cases r1
  cases e
  exact⟨_,rfl,q μ1 H1 x1 R1⟩
 .cases e⟩
theorem VG{K:U0a}{f:Av}{t:TE}(ht:∀σ H Q,wpE K f σ H Q->t σ H Q){σ:St}{H:Hp}{Q:Bool->Hp->Prop}(h:wpT K (Bm f) σ H Q):W8 t σ H Q:=by
 obtain⟨Γ,μ,env,S,d,S',hK,R,e,q⟩:=h
 obtain⟨⟨x,S1⟩,e1,e⟩:=bind_some e
 refine ht σ H _ ⟨Γ,μ,env,S,x,S1,hK,R,e1,fun v1 μ1 H1 x1 R1 r1=>?_⟩
 dsimp only at e
 split at e
 .cases r1
  cases e
  exact⟨_,rfl,q μ1 H1 x1 R1⟩
 .cases e
theorem Et{op:CmpOp}{r:R2}{g:Store->D->D->Option D}(ho:OpR X (compareOp op) r)(hs:Ef X.K r g)(ha:JE X a fa)(hb:JE X b fb)(hm:behindInMarks op b=false):JT X (.Compare a [op] [b] pos) (Bm (eOp g fa fb)) :=
 ⟨PT.imp (bH ho ha.pe hb.pe hm) fun σ H Q h=>VG (fun _ _ _=>SM hs) h⟩
theorem Yu{K:U0a}{r r':R2}{g g':Store->D->D->Option D}(hs:Ef K r g)(hs':Ef K r' g'){σ:St}{H:Hp}{Q:VK}(h:wpE K (Qa g g' fa fb fc) σ H Q):X7 r r' (wpE K fa) (wpE K fb) (wpE K fc) σ H Q:=by
 obtain⟨Γ,μ,env,S,d,S',hK,R,e,q⟩:=h
 obtain⟨⟨x,S1⟩,e1,e⟩:=bind_some e
 obtain⟨⟨y,S2⟩,e2,e⟩:=bind_some e
 obtain⟨z,e3,e⟩:=bind_some e
 refine⟨Γ,μ,env,S,x,S1,hK,R,e1,fun v1 μ1 H1 x1 R1 r1=>?_⟩
 refine⟨Γ,μ1,env,S1,y,S2,hK,R1,e2,fun v2 μ2 H2 x2 R2 r2=>?_⟩
 refine hs Γ μ2 σ H2 env S2 v1 v2 x y _ hK R2 (r1.ext x2) r2 e3 _ fun v H3 sm rv=>?_
 obtain⟨R3,x3⟩:=R2.grow sm
 dsimp only at e
 split at e
 .cases rv
  refine⟨true,rfl,?_⟩
  rw[if_pos rfl]
  obtain⟨⟨u,S3⟩,e4,e⟩:=bind_some e
  obtain⟨w,e5,e⟩:=map_some e
  cases e
  refine⟨Γ,μ2,env,S2,u,S3,hK,R3,e4,fun v4 μ4 H4 x4 R4 r4=>?_⟩
  refine hs' Γ μ4 σ H4 env S3 v2 v4 y u _ hK R4 (r2.ext (x3.trans x4)) r4 e5 _ fun v5 H5 sm5 rv5=>?_
  obtain⟨R5,x5⟩:=R4.grow sm5
  exact q v5 μ4 H5 (x1.trans (x2.trans (x3.trans (x4.trans x5)))) R5 rv5
 .cases rv
  cases e
  refine⟨false,rfl,?_⟩
  rw[if_neg U06]
  exact q _ μ2 H3 (x1.trans (x2.trans x3)) R3 (.bl false)
 .cases e
theorem Zf{op op':CmpOp}{r r':R2}{g g':Store->D->D->Option D}(ho:OpR X (compareOp op) r)(hs:Ef X.K r g)(ho':OpR X (compareOp op') r')(hs':Ef X.K r' g')(ha:JE X a fa)(hb:JE X b fb)(hc:JE X c fc)
  (hm:lastMarks [op,op'] [b,c]=false:=by with_unfolding_all rfl):JT X (.Compare a [op,op'] [b,c] pos) (Bm (Qa g g' fa fb fc)):=⟨PT.imp (ZJ ho ho' ha.pe hb.pe hc.pe hm) fun _ _ _ h=>VG (fun _ _ _=>Yu hs hs') h⟩
variable{ta tb:Dw}
theorem QC(h:JW X a ta):JT X a ta:=⟨h.pw.pt⟩
theorem R0(ha:JT X a ta):JW X (.BoolOp .And [a] pos) ta:=⟨bD ha.pt⟩
theorem XQ(ha:JT X a ta):JW X (.BoolOp .Or [a] pos) ta:=⟨gK ha.pt⟩
theorem QX(ha:JT X a ta)(hb:JW X (.BoolOp .And (b::rest) pos) tb):JW X (.BoolOp .And (a::b::rest) pos) (K1 ta tb):=⟨PW.imp (gM ha.pt hb.pw) fun σ H Q h=>by
 obtain⟨Γ,μ,env,S,d,S',hK,R,e,q⟩:=h
 obtain⟨⟨x,S1⟩,e1,e⟩:=bind_some e
 refine⟨Γ,μ,env,S,x,S1,hK,R,e1,fun μ1 H1 x1 R1=>?_⟩
 dsimp only at e
 by_cases hx:x=true
 .rw[if_pos hx] at e ⊢
  exact⟨Γ,μ1,env,S1,d,S',hK,R1,e,fun μ' H' x' R'=>q μ' H' (x1.trans x') R'⟩
 .rw[if_neg hx] at e ⊢
  cases e
  exact q μ1 H1 x1 R1⟩
theorem aC(ha:JT X a ta)(hb:JW X (.BoolOp .Or (b::rest) pos) tb):JW X (.BoolOp .Or (a::b::rest) pos) (tOr ta tb):=⟨PW.imp (jl ha.pt hb.pw) fun σ H Q h=>by
 obtain⟨Γ,μ,env,S,d,S',hK,R,e,q⟩:=h
 obtain⟨⟨x,S1⟩,e1,e⟩:=bind_some e
 refine⟨Γ,μ,env,S,x,S1,hK,R,e1,fun μ1 H1 x1 R1=>?_⟩
 dsimp only at e
 by_cases hx:x=true
 .rw[if_pos hx] at e ⊢
  cases e
  exact q μ1 H1 x1 R1
 .rw[if_neg hx] at e ⊢
  exact⟨Γ,μ1,env,S1,d,S',hK,R1,e,fun μ' H' x' R'=>q μ' H' (x1.trans x') R'⟩⟩
theorem QZ(ha:JT X a ta):JT X (.UnaryOp .Not a pos) (M4 ta):=⟨PT.imp (gP ha.pt) fun σ H Q h=>by
 obtain⟨Γ,μ,env,S,d,S',hK,R,e,q⟩:=h
 obtain⟨⟨x,S1⟩,e1,e⟩:=bind_some e
 cases e
 exact⟨Γ,μ,env,S,x,S1,hK,R,e1,fun μ1 H1 x1 R1=>q μ1 H1 x1 R1⟩⟩
theorem Iz:JTs X [] Ir:=⟨PTs.imp bG fun σ H Q h=>by
 obtain⟨Γ,μ,env,S,d,S',hK,R,e,q⟩:=h
 cases e
 exact q μ H (Ext.refl _ _) R⟩
theorem Vn(h:JT X c ta):JTs X [c] ta:=⟨bF h.pt⟩
variable{lo hi:Option Expr}{ol oh:Qt}{p2:Pos}
theorem R7:JO X none J8:=⟨PO.imp bM fun σ H Q h=>by
 obtain⟨Γ,μ,env,S,d,S',hK,R,e,q⟩:=h
 cases e
 exact q μ H (Ext.refl _ _) R⟩
theorem R6(h:JE X a fa):JO X (some a) (J7 fa):=⟨PO.imp (bL h.pe) fun σ H Q h=>by
 obtain⟨Γ,μ,env,S,d,S',hK,R,e,q⟩:=h
 obtain⟨⟨x,S1⟩,e1,e⟩:=bind_some e
 refine⟨Γ,μ,env,S,x,S1,hK,R,e1,fun v1 μ1 H1 x1 R1 r1=>?_⟩
 dsimp only at e
 split at e
 .cases r1
  cases e
  exact⟨_,rfl,q μ1 H1 x1 R1⟩
 .cases e⟩
theorem Pr{r:V->Option Int->Option Int->Hp->VK->Prop}{g:Store->D->Option Int->Option Int->Option D}(hr:SlR X r)(hs:aL X.K r g)(ha:JE X a fa)(hl:JO X lo ol)(hh:JO X hi oh) :
  JE X (.Subscript a (.Slice lo hi none p2) pos) (eSl g fa ol oh):=⟨PE.imp (ZQ hr ha.pe hl.po hh.po) fun σ H Q h=>by
 obtain⟨Γ,μ,env,S,d,S',hK,R,e,q⟩:=h
 obtain⟨⟨x,S1⟩,e1,e⟩:=bind_some e
 obtain⟨⟨l,S2⟩,e2,e⟩:=bind_some e
 obtain⟨⟨u,S3⟩,e3,e⟩:=bind_some e
 obtain⟨z,e4,e⟩:=map_some e
 cases e
 refine⟨Γ,μ,env,S,x,S1,hK,R,e1,fun v1 μ1 H1 x1 R1 r1=>?_⟩
 refine⟨Γ,μ1,env,S1,l,S2,hK,R1,e2,fun μ2 H2 x2 R2=>?_⟩
 refine⟨Γ,μ2,env,S2,u,S3,hK,R2,e3,fun μ3 H3 x3 R3=>?_⟩
 refine hs Γ μ3 σ H3 env S3 v1 x _ l u hK R3 (r1.ext (x2.trans x3)) e4 Q fun v H' sm rv=>?_
 obtain⟨R4,x4⟩:=R3.grow sm
 exact q v μ3 H' (x1.trans (x2.trans (x3.trans x4))) R4 rv⟩
theorem Zt{K:U0a}{r:List V->Hp->VK->Prop}{g:Store->List D->Option D}{f:Bd}(hs:K6 K r g){σ:St}{H:Hp}{Q:VK}(h:wpE K (eCB g f) σ H Q):tCB r (wpA K f) σ H Q:=by
 obtain⟨Γ,μ,env,S,d,S',hK,R,e,q⟩:=h
 obtain⟨⟨x,S1⟩,e1,e⟩:=bind_some e
 obtain⟨z,e4,e⟩:=map_some e
 cases e
 refine⟨Γ,μ,env,S,x,S1,hK,R,e1,fun v1 μ1 H1 x1 R1 r1=>?_⟩
 refine hs Γ μ1 σ H1 env S1 v1 x _ hK R1 r1 e4 Q fun v H' sm rv=>?_
 obtain⟨R4,x4⟩:=R1.grow sm
 exact q v μ1 H' (x1.trans x4) R4 rv
variable{x:Str}{p:Pos}{e:Expr}{es:List Expr}{id T:String}{f:Bd}
theorem DP{r:List V->Hp->VK->Prop}{g:Store->List D->Option D}(hc:Cv X (.builtin id) r)(hsm:K6 X.K r g)(hg:Gl X x)(hm:X.mg x=none)(hv:bootBuiltins x=some (.builtin id))(ha:JA X (e::es) f)(hn:x≠"__name__":=by decide)(hdb:(x==("__debug__":Str))=false:=by decide)
  (he:starEach (e::es) X.env=(false,eval e X.env)::starEach es X.env:=by rfl) (hpl:(backTo pos (starEach es X.env)).any (·.1)=false:=by rfl):JE X (.Call (.Name x p) (e::es) [] pos) (eCB g f) :=
 ⟨PE.imp (Tj hc hg hm hv ha.pa hn hdb he hpl) fun _ _ _ h=>Zt hsm h⟩
theorem Rb{r:List V->Hp->VK->Prop}{g:Store->List D->Option D}(hc:Cv X (.type T) r)(hsm:K6 X.K r g)(hg:Gl X x)(hm:X.mg x=none)(hv:bootBuiltins x=some (.type T))(ha:JA X (e::es) f)(hn:x≠"__name__":=by decide)(hdb:(x==("__debug__":Str))=false:=by decide)
  (he:starEach (e::es) X.env=(false,eval e X.env)::starEach es X.env:=by rfl) (hpl:(backTo pos (starEach es X.env)).any (·.1)=false:=by rfl):JE X (.Call (.Name x p) (e::es) [] pos) (eCB g f) :=
 ⟨PE.imp (Nu hc hg hm hv ha.pa hn hdb he hpl) fun _ _ _ h=>Zt hsm h⟩
end
section
variable{X:Cx}{st:Stmt}{sts:List Stmt}{f g:Az}{fa:Av}{a:Expr}{pos:Pos}{K:U0a}
theorem jU{E:Ends}{σ:St}{H:Hp}{fl:Fl}(h:wpS K (fun env S=>some (fl,env,S)) E σ H):∃Γ μ,FlQ Γ μ E σ H fl:=by
 obtain⟨Γ,μ,env,S,fl',env',S',hK,R,e,q⟩:=h
 cases e
 exact⟨Γ,μ,q μ σ H (Ext.refl _ _) R⟩
theorem En:JSs X [] Fy:=⟨PSs.imp bJ fun E σ H h=>let ⟨_,_,q⟩:=jU (fl:=.nx) h;q⟩
theorem U7:JS X st T7:=⟨PS.imp ZL fun E σ H h=>by obtain⟨_,_,_,_,_,_,_,_,_,e,_⟩:=h;cases e⟩
theorem Ao(h1:JS X st f)(h2:JSs X sts g):JSs X (st::sts) (Bq f g):=⟨PSs.imp (ZK h1.ps h2.ps) fun E σ H h=>by
 obtain⟨Γ,μ,env,S,fl,env',S',hK,R,e,q⟩:=h
 obtain⟨⟨fl1,env1,S1⟩,e1,e⟩:=bind_some e
 refine⟨Γ,μ,env,S,fl1,env1,S1,hK,R,e1,fun μ1 σ1 H1 x1 R1=>?_⟩
 dsimp only at e
 cases fl1 with
 |nx=>exact⟨Γ,μ1,env1,S1,fl,env',S',hK,R1,e,fun μ' σ' H' x' R'=>q μ' σ' H' (x1.trans x') R'⟩
 |brk=>cases e;exact q μ1 σ1 H1 x1 R1
 |cnt=>cases e;exact q μ1 σ1 H1 x1 R1
 |ret d=>cases e;exact q μ1 σ1 H1 x1 R1⟩
theorem Ay(h1:JS X st f):JSs X [st] f:=⟨bI h1.ps⟩
theorem JM(he:JE X a fa)(hs:swapsWith a none pos.line X.env=pure false:=by rfl):JS X (.Expr a pos) (Hh fa):=⟨PS.imp (bK he.pe hs) fun E σ H h=>by
 obtain⟨Γ,μ,env,S,fl,env',S',hK,R,e,q⟩:=h
 obtain⟨⟨x,S1⟩,e1,e⟩:=bind_some e
 cases e
 exact⟨Γ,μ,env,S,x,S1,hK,R,e1,fun v1 μ1 H1 x1 R1 r1=>q μ1 σ H1 x1 R1⟩⟩
theorem Ca(he:JE X a fa):JS X (.Return (some a) pos) (Dc fa):=⟨PS.imp (gR he.pe) fun E σ H h=>by
 obtain⟨Γ,μ,env,S,fl,env',S',hK,R,e,q⟩:=h
 obtain⟨⟨x,S1⟩,e1,e⟩:=bind_some e
 cases e
 exact⟨Γ,μ,env,S,x,S1,hK,R,e1,fun v1 μ1 H1 x1 R1 r1=>q μ1 σ H1 x1 R1 v1 r1⟩⟩
theorem Gf{c:Expr}{A B:List Stmt}{tc:Dw}(hc:JT X c tc)(ha:JSs X A f)(hb:JSs X B g):JS X (.If c A B pos) (sIf tc f g):=⟨PS.imp (jm hc.pt ha.ps hb.ps) fun E σ H h=>by
 obtain⟨Γ,μ,env,S,fl,env',S',hK,R,e,q⟩:=h
 obtain⟨⟨x,S1⟩,e1,e⟩:=bind_some e
 refine⟨Γ,μ,env,S,x,S1,hK,R,e1,fun μ1 H1 x1 R1=>?_⟩
 dsimp only at e
 by_cases hx:x=true
 .rw[if_pos hx] at e ⊢
  exact⟨Γ,μ1,env,S1,fl,env',S',hK,R1,e,fun μ' σ' H' x' R'=>q μ' σ' H' (x1.trans x') R'⟩
 .rw[if_neg hx] at e ⊢
  exact⟨Γ,μ1,env,S1,fl,env',S',hK,R1,e,fun μ' σ' H' x' R'=>q μ' σ' H' (x1.trans x') R'⟩⟩
theorem CJ{i:Nat}{x:Str}{pos':Pos}(hN:X.N.Nodup)(he:JE X a fa)(hi:X.N[i]?=some x:=by rfl)(hx:Loc X.env.scope x:=by first|exact U64 rfl|exact U6f rfl)(hs:swapsWith a (some (.Name x pos')) pos.line X.env=pure false:=by rfl)
  (hf:X.fn x=true∨X.env.scope.names.lookup x=some .local:=by first|exact .inl rfl|exact .inr rfl|assumption):JS X (.Assign [.Name x pos'] a pos) (Bh i fa):=⟨PS.imp (gQ hN hi hx he.pe hs hf) fun E σ H h=>by
 obtain⟨Γ,μ,env,S,fl,env',S',hK,R,e,q⟩:=h
 obtain⟨⟨y,S1⟩,e1,e⟩:=bind_some e
 cases e
 exact⟨Γ,μ,env,S,y,S1,hK,R,e1,fun v1 μ1 H1 x1 R1 r1=>q μ1 _ H1 x1 (R1.eZ i r1)⟩⟩
theorem Bx{i:Nat}{x:Str}(hN:X.N.Nodup)(hi:X.N[i]?=some x:=by rfl)(hx:Loc X.env.scope x:=by first|exact U64 rfl|exact U6f rfl)
  (hf:X.fn x=true∨X.env.scope.names.lookup x=some .local:=by first|exact .inl rfl|exact .inr rfl|assumption):JG X (.Name x pos) (.nm i):=⟨by rw[Pat.raw];exact bO hN hi hx hf⟩
theorem Lq:JGs X [] []:=⟨by rw[Hi];exact bN⟩
theorem EY{e:Expr}{es:List Expr}{t:Pat}{u:List Pat}(h1:JG X e t)(h2:JGs X es u)
  (hs:(assignEach (e::es) X.env).map (·.2)=assign e X.env::(assignEach es X.env).map (·.2):=by rfl):JGs X (e::es) (t::u):=⟨by rw[Hi];exact ZP h1.pg h2.pg hs⟩
theorem Nk{es:List Expr}{k:Nat}{gs:List Pat}(hc:X.calm=true)(h:JGs X es gs)(hn:(assignEach es X.env).length=gs.length:=by rfl)(hst:(assignEach es X.env).findIdx? (·.1)=none:=by rfl):JG X (.Tuple es k pos) (.tp gs) :=
 ⟨by rw[Pat.raw];exact gY hc h.pg hn hst⟩
theorem ig{tg:Expr}{gg:Pat}(he:JE X a fa)(hg:JG X tg gg)(hs:swapsWithSole [tg] a pos.line X.env=pure false:=by rfl)(hw:swappedStores [tg] a X.env=pure none:=by rfl)
  (h1:(assignEach [tg] X.env).map (·.2)=[assign tg X.env]:=by rfl):JS X (.Assign [tg] a pos) (W2 fa gg.sem):=⟨PS.imp (XD he.pe hg.pg hs hw h1) fun E σ H h=>by
 obtain⟨Γ,μ,env,S,fl,env',S',hK,R,e,q⟩:=h
 obtain⟨⟨y,S1⟩,e1,e⟩:=bind_some e
 obtain⟨env1,e2,e⟩:=bind_some e
 cases e
 exact⟨Γ,μ,env,S,y,S1,hK,R,e1,fun v1 μ1 H1 x1 R1 r1=>gg.run X.K R1 r1 e2 fun σ' R'=>q μ1 σ' H1 x1 R'⟩⟩
theorem Ik{tg iter:Expr}{body:List Stmt}{it:JZ}{gg:Pat}(hc:X.calm=true)(hi:JI X tg iter it)(hg:JG X tg gg)(hb:JSs X body f)(hp:PassesOwn (model X.prog X.w) X.A X.env X.xe)
  (hs:∀x,foldedSetIterable iter X.env x=pure x:=by intro _;rfl):JS X (.For tg iter body [] pos) (K3 it gg.sem f):=⟨PS.imp (gU hp hc hi.pi hg.pg hb.ps hs) fun E σ H h=>by
 obtain⟨Γ,μ,env,S,fl,env',S',hK,R,e,q⟩:=h
 obtain⟨⟨⟨ds,w⟩,S1⟩,e1,e⟩:=bind_some e
 refine⟨Γ,μ,env,S,ds,w,S1,hK,R,e1,fun J μ1 H1 x1 R1 ok=>?_⟩
 refine⟨fun i m σ2 H2=>∃μ2 env2 S2,m=ds.length-i/\i<=ds.length/\Ext μ1 H1 μ2 H2/\Rep Γ μ2 σ2 H2 env2 S2/\loop w gg.sem f (ds.drop i) env2 S2=some (fl,env',S'),⟨ds.length,μ1,env,S1,rfl,U3c _,Ext.refl _ _,R1,by rw[U5d];exact e⟩,?_⟩
 rintro i m σ2 H2 ⟨μ2,env2,S2,rfl,hi,x2,R2,el⟩
 by_cases hlt:i<ds.length
 .rw[U2t hlt] at el
  unfold loop at el
  by_cases hcm:calm w S2
  .rw[if_pos hcm] at el
   obtain⟨env3,e3,el⟩:=bind_some el
   obtain⟨⟨fl4,env4,S4⟩,e4,el⟩:=bind_some el
   obtain⟨go,yl⟩:=ok.step i ds[i] μ2 H2 σ2 env2 S2 (U0q hlt) x2 R2 hcm
   refine .inr ⟨go,fun σ5 H5=>∃μ5 env5 S5,Ext μ1 H1 μ5 H5/\Rep Γ μ5 σ5 H5 env5 S5/\loop w gg.sem f (ds.drop (i+1)) env5 S5=some (fl,env',S'),fun σ5 H5 ⟨μ5,env5,S5,x5,R5,e5⟩=>⟨ds.length-(i+1),by omega,μ5,env5,S5,rfl,hlt,x5,R5,e5⟩,fun x H3 y=>?_⟩
   obtain⟨sm,rx⟩:=yl x H3 y
   obtain⟨R3,x3⟩:=R2.grow sm
   refine gg.run X.K R3 rx e3 fun σ3 R3'=>?_
   refine⟨Γ,μ2,env3,S2,fl4,env4,S4,hK,R3',e4,fun μ4 σ4 H4 x4 R4=>?_⟩
   have x14:=x2.trans (x3.trans x4)
   dsimp only at el
   cases fl4 with
   |nx=>exact⟨μ4,env4,S4,x14,R4,el⟩
   |cnt=>exact⟨μ4,env4,S4,x14,R4,el⟩
   |brk=>cases el;exact q μ4 σ4 H4 (x1.trans x14) R4
   |ret d=>cases el;exact q μ4 σ4 H4 (x1.trans x14) R4
  .rw[if_neg hcm] at el;cases el
 .have hi':i=ds.length:=by omega
  subst hi'
  rw[List.drop_length] at el
  unfold loop at el
  by_cases hcm:calm w S2
  .rw[if_pos hcm] at el
   cases el
   exact .inl ⟨ok.stop μ2 H2 σ2 _ _ x2 R2 hcm,q μ2 σ2 H2 (x1.trans x2) R2⟩
  .rw[if_neg hcm] at el;cases el⟩
end
end VS
end
section
namespace VS
open PySem PySem.Spec L2
theorem Rep.cap{Γ:Fr}{μ:Mu}{σ:St}{H:Hp}{env:Env}{S:Store}(R:Rep Γ μ σ H env S)(k:Nat)(caps:List Nat):Rep Γ μ (HF k caps σ) H (N8 k caps env) S:=by
 refine⟨fun i d h=>?_,?_,R.sto,R.liv,R.inj,R.slen,R.ent,R.new⟩
 .unfold N8 at h
  by_cases hi:i<k
  .rw[U00 (by simpa using hi),U4a,if_pos hi] at h
   cases h
  .rw[U1f (by simpa using hi),U1t,U0v] at h
   cases e:caps[i-k]? with
   |none=>rw[e] at h;cases h
   |some a =>
    rw[e] at h
    have h':(env[a]?).join=some d:=U0x h
    have h2:env[a]?=some (some d):=by
     cases q:env[a]? with
     |none=>rw[q] at h';cases h'
     |some o=>rw[q] at h';exact congrArg some h'
    obtain⟨v,h3,h4⟩:=R.vals a d h2
    refine⟨v,?_,h4⟩
    unfold HF
    rw[U1f (by simpa using hi),U1t,U0v,e]
    show some (σ[a]?).join=some (some v)
    rw[h3];rfl
 .unfold HF N8
  rw[U0i,U0i,U0g,U0g,U1t,U1t]
section
variable{X:Cx}
theorem aQ{K:U0a}{k:Nat}{caps:List Nat}{it:JZ}{p:Pat}{t:Dw}{f:Av}{σ:St}{H:Hp}{Q:VK} (h:∃Γ μ env S ys S',Γ.K=K/\Rep Γ μ σ H env S/\Fb k caps it p.sem t f env S=some (ys,S') /\
  ∀xs μ' H',Ext μ H μ' H'->Rep Γ μ' σ H' env S'->VRs Γ μ' H' xs ys->∀q,H' q=none->Q (.ref q) (upd H' q (.lst xs))):Zv k caps (wpI K it) (p.raw K) (wpT K t) (wpE K f) σ H Q:=by
 obtain⟨Γ,μ,env,S,ys,S',hK,R,e,q⟩:=h
 obtain⟨⟨⟨ds,w⟩,S1⟩,e1,e⟩:=bind_some e
 refine⟨Γ,μ,env,S,ds,w,S1,hK,R,e1,fun J μ1 H1 x1 R1 ok=>?_⟩
 refine⟨fun i m zs H2=>∃μ2 S2 dzs,m=ds.length-i/\i<=ds.length/\Ext μ1 H1 μ2 H2/\Rep Γ μ2 σ H2 env S2/\VRs Γ μ2 H2 zs dzs/\J9 w (N8 k caps env) p.sem t f (ds.drop i) dzs S2=some (ys,S'),
  ⟨ds.length,μ1,S1,[],rfl,U3c _,Ext.refl _ _,R1,.nil,by rw[U5d];exact e⟩,?_⟩
 rintro i m zs H2 ⟨μ2,S2,dzs,rfl,hi,x2,R2,rz,el⟩
 by_cases hlt:i<ds.length
 .rw[U2t hlt] at el
  unfold J9 at el
  by_cases hcm:calm w S2/\dzs.length<=1000000
  .rw[if_pos hcm] at el
   obtain⟨env3,e3,el⟩:=bind_some el
   obtain⟨⟨b,S4⟩,e4,el⟩:=bind_some el
   have R2c:=R2.cap k caps
   obtain⟨go,yl⟩:=ok.step i ds[i] μ2 H2 _ _ S2 (U0q hlt) x2 R2c hcm.1
   refine .inr ⟨go,by rw[rz.length];exact big hcm.2,fun x H3 y=>?_⟩
   obtain⟨sm,rx⟩:=yl x H3 y
   obtain⟨R3,x3⟩:=R2c.grow sm
   obtain⟨R3o,_⟩:=R2.grow sm
   refine p.run K R3 rx e3 fun σ3 R3'=>?_
   refine⟨Γ,μ2,env3,S2,b,S4,hK,R3',e4,fun μ4 H4 x4 R4=>?_⟩
   dsimp only at el
   by_cases hb:b=true
   .rw[if_pos hb] at el ⊢
    obtain⟨⟨d5,S5⟩,e5,el⟩:=bind_some el
    refine⟨Γ,μ4,env3,S4,d5,S5,hK,R4,e5,fun v μ5 H5 x5 R5 r5=>?_⟩
    exact⟨ds.length-(i+1),by omega,μ5,S5,dzs++[d5],rfl,hlt,x2.trans (x3.trans (x4.trans x5)),R3o.back (x4.trans x5) R5,((rz.ext (x3.trans (x4.trans x5)))).append (.cons r5 .nil),el⟩
   .rw[if_neg hb] at el ⊢
    exact⟨ds.length-(i+1),by omega,μ4,S4,dzs,rfl,hlt,x2.trans (x3.trans x4),R3o.back x4 R4,rz.ext (x3.trans x4),el⟩
  .rw[if_neg hcm] at el;cases el
 .have hi':i=ds.length:=by omega
  subst hi'
  rw[List.drop_length] at el
  unfold J9 at el
  by_cases hcm:calm w S2/\dzs.length<=1000000
  .rw[if_pos hcm] at el
   cases el
   exact .inl ⟨ok.stop μ2 H2 σ env _ x2 R2 hcm.1,fun p hp=>q zs μ2 H2 (x1.trans x2) R2 rz p hp⟩
  .rw[if_neg hcm] at el;cases el
structure JC(X:Cx)(N2:List Str)(scope:Scope)(tg:Expr)(ifs:List Expr)(elt:Expr)(p:Pat)(t:Dw)(f:Av):Prop where
 all:∀(cl:List (Str×Addr))(C:Addr)(s:Shared)(H:Hp)(ex:List Addr),JG (Cw X N2 scope cl C s H ex) tg p/\JTs (Cw X N2 scope cl C s H ex) ifs t/\JE (Cw X N2 scope cl C s H ex) elt f
theorem GJ{elt tg iter:Expr}{ifs:List Expr}{scope:Scope}{pos:Pos}{N2:List Str}{k:Nat}{caps:List Nat}{it:JZ}{p:Pat}{t:Dw}{f:Av}
  (hc:X.calm=true) (hS:Fp X.env.scope X.N N2 k caps scope) (hlow:p.low k=true) (hi:JI X tg iter it) (hb:JC X N2 scope tg ifs elt p t f)
  (hs:∀x,foldedSetIterable iter X.env x=pure x:=by intro _;rfl):JE X (.ListComp elt [⟨tg,iter,ifs,0⟩] scope pos) (BL (Fb k caps it p.sem t f)) :=
 ⟨PE.imp (bR hc hS (p.aD X.K hlow) hi.pi (fun cl C s H ex=>let ⟨a,b,c⟩:=hb.all cl C s H ex;⟨a.pg,b.pt,c.pe⟩) hs) fun σ H Q h=>by
  obtain⟨Γ,μ,env,S,d,S',hK,R,e,q⟩:=h
  obtain⟨⟨ys,S1⟩,e1,e⟩:=bind_some e
  cases e
  refine aQ ⟨Γ,μ,env,S,ys,S1,hK,R,e1,fun xs μ1 H1 x1 R1 r1 z hz=>?_⟩
  obtain⟨R2,x2⟩:=R1.grow (Dh hz (.lst xs))
  exact q _ μ1 _ (x1.trans x2) R2 (.lst (R1.ok hz true) (R1.dead hz) CN (r1.ext x2))⟩
end
def listOf(S:Store):D->Option (List D)
 |.lst _ ds=>some ds
 |.ref i=>(S[i]?).join
 |_=>none
def Fx(S:Store):D->Option (List D)
 |.tup ds=>some ds
 |.scr ns=>some (ns.map .int)
 |d=>listOf S d
def idOf(ds:List D):D->List (Nat×List D)
 |.ref i=>[(i,ds)]
 |_=>[]
section
variable{Γ:Fr}{μ:Mu}{σ:St}{H:Hp}{env:Env}{S:Store}{v:V}{d:D}{ds:List D}
theorem join_some{α:Type}{a:Option (Option α)}{b:α}(h:a.join=some b):a=some (some b):=by
 cases a with
 |none=>cases h
 |some o=>exact congrArg some h
theorem VR.list(R:Rep Γ μ σ H env S)(r:VR Γ μ H v d)(h:listOf S d=some ds):∃a xs,v=.ref a/\H a=some (.lst xs)/\VRs Γ μ H xs ds:=by
 cases r with
 |lst o n hb rs=>cases h;exact⟨_,_,rfl,hb,rs⟩
 |@ref i v hi f =>
  obtain⟨a,h1,hc⟩:=R.sto i ds (join_some h)
  obtain⟨f1,f2⟩:=f a h1
  obtain⟨xs,h2,h3⟩:=hc.list f2
  exact⟨a,xs,f1,h2,h3⟩
 |_=>cases h
theorem VR.seq(hK:Γ.K=K)(R:Rep Γ μ σ H env S)(r:VR Γ μ H v d)(h:Fx S d=some ds):∃a xs,v=.ref a/\(SqL K H a xs∨SqT K H a xs)/\VRs Γ μ H xs ds:=by
 subst hK
 cases d with
 |tup es=>cases r with|tup hb rs=>cases h;exact⟨_,_,rfl,.inr (SqT.of hb),rs⟩
 |scr ns =>
  cases h
  cases r with
  |scrK hk=>exact⟨_,_,rfl,.inl (hk H),VRs.ints ns⟩
  |scrR n hb=>exact⟨_,_,rfl,.inl (.inl (.inr ⟨_,hb⟩)),VRs.ints ns⟩
 |lst m es=>obtain⟨a,xs,e1,e2,e3⟩:=VR.list R r h;exact⟨a,xs,e1,.inl (SqL.of e2),e3⟩
 |ref i=>obtain⟨a,xs,e1,e2,e3⟩:=VR.list R r h;exact⟨a,xs,e1,.inl (SqL.of e2),e3⟩
 |_=>cases h
end
def Dl(a:Av):JZ:=fun env S=>(a env S).bind fun p=>(Fx p.2 p.1).map fun ds=>((ds,idOf ds p.1),p.2)
section
variable{X:Cx}{tg:Expr}
def jW(K:U0a)(tl:TE):TI:=fun σ H R=>tl σ H fun x H1=>∃a,x=.ref a/\(((∃xs,SqL K H1 a xs)/\R (Itl K a) H1)∨((∃xs,SqT K H1 a xs)/\R (Itt K a) H1))
theorem gW{l:Expr}{tl:TE}(hl:PE X l tl):PI X tg l (jW X.K tl):=by
 intro pins s σ H R I h
 refine thn (hl pins s σ H _ I h) fun v s1 ⟨x,H1,I1,r1,q1⟩=>?_
 obtain⟨a,e,⟨⟨xs,hq⟩,q⟩|⟨⟨xs,hq⟩,q⟩⟩:=q1
 .subst e
  cases r1
  obtain⟨its,rv,p,hz⟩:=I1.list hq
  refine U4l p.isList ?_
  refine⟨s1.heap.objs.size,[s1.heap.objs.size],_,_,H1,rfl,I1.kept (t':=s1.toks) fun b o e=>U0d _ e,Xl a _,⟨_,U0r _ rfl,rfl,rfl⟩,fun b hb=>?_,q⟩
  have e:b=s1.heap.objs.size:=by simpa using hb
  subst e
  exact I1.Yl (U0l _) (I1.hok.fresh (U0l _))
 .subst e
  cases r1
  obtain⟨its,rv,p,hz⟩:=I1.tuple hq
  refine wpAny_pyIter_tuple (show s1.heap.IsTuple a its.toArray from p) ?_
  refine⟨s1.heap.objs.size,[s1.heap.objs.size],_,_,H1,rfl,I1.kept (t':=s1.toks) fun b o e=>U0d _ e,WX a _,⟨_,U0r _ rfl,rfl,rfl⟩,fun b hb=>?_,q⟩
  have e:b=s1.heap.objs.size:=by simpa using hb
  subst e
  exact I1.Yl (U0l _) (I1.hok.fresh (U0l _))
theorem Xq{d:D}{ds:List D}{S S':Store}(h:Fx S d=some ds)(c:calm (idOf ds d) S'):Fx S' d=some ds:=by
 cases d with
 |ref i =>
  have c':S'[i]?=some (some ds):=c (i,ds) (U1k.mpr rfl)
  show(S'[i]?).join=some ds
  rw[c'];rfl
 |_=>exact h
theorem VR.Ye{K:U0a}{Γ:Fr}{μ:Mu}{σ:St}{H:Hp}{env:Env}{S:Store}{v:V}{d:D}{ds:List D}(hK:Γ.K=K)(R:Rep Γ μ σ H env S)(r:VR Γ μ H v d)(h:Fx S d=some ds):(∃es,d=.tup es)∨∃a xs,v=.ref a/\SqL K H a xs/\VRs Γ μ H xs ds:=by
 subst hK
 cases d with
 |tup es=>exact .inl ⟨es,rfl⟩
 |scr ns =>
  cases h
  cases r with
  |scrK hk=>exact .inr ⟨_,_,rfl,hk H,VRs.ints ns⟩
  |scrR n hb=>exact .inr ⟨_,_,rfl,.inl (.inr ⟨_,hb⟩),VRs.ints ns⟩
 |lst m es=>obtain⟨a,xs,e1,e2,e3⟩:=VR.list R r h;exact .inr ⟨a,xs,e1,SqL.of e2,e3⟩
 |ref i=>obtain⟨a,xs,e1,e2,e3⟩:=VR.list R r h;exact .inr ⟨a,xs,e1,SqL.of e2,e3⟩
 |_=>cases h
theorem cZ{Γ:Fr}{μ:Mu}{H:Hp}{a:Addr}{ds:List D}{K:U0a}{w:List (Nat×List D)}(hr:∀μ' H' σ' env' S',Ext μ H μ' H'->Rep Γ μ' σ' H' env' S'->calm w S'->∃xs,SqL K H' a xs/\VRs Γ μ' H' xs ds):W6 Γ μ H (Itl K a) ds w:=by
 refine⟨fun i d μ' H' σ' env' S' hi x R c=>?_,fun μ' H' σ' env' S' x R c=>?_⟩
 .obtain⟨xs,h1,h2⟩:=hr μ' H' σ' env' S' x R c
  obtain⟨y,e1,e2⟩:=h2.get hi
  refine⟨⟨xs,y,h1,e1⟩,fun z H'' yl=>?_⟩
  obtain⟨e,f⟩:=yl
  subst e
  have:=f xs h1
  rw[e1] at this;cases this
  exact⟨Same.refl _,e2⟩
 .obtain⟨xs,h1,h2⟩:=hr μ' H' σ' env' S' x R c
  exact⟨xs,h1,by rw[h2.length];exact U0l _⟩
theorem XS{Γ:Fr}{μ:Mu}{H:Hp}{a:Addr}{ds:List D}{K:U0a}{w:List (Nat×List D)}(hr:∀μ' H' σ' env' S',Ext μ H μ' H'->Rep Γ μ' σ' H' env' S'->calm w S'->∃xs,SqT K H' a xs/\VRs Γ μ' H' xs ds):W6 Γ μ H (Itt K a) ds w:=by
 refine⟨fun i d μ' H' σ' env' S' hi x R c=>?_,fun μ' H' σ' env' S' x R c=>?_⟩
 .obtain⟨xs,h1,h2⟩:=hr μ' H' σ' env' S' x R c
  obtain⟨y,e1,e2⟩:=h2.get hi
  refine⟨⟨xs,y,h1,e1⟩,fun z H'' yl=>?_⟩
  obtain⟨e,f⟩:=yl
  subst e
  have:=f xs h1
  rw[e1] at this;cases this
  exact⟨Same.refl _,e2⟩
 .obtain⟨xs,h1,h2⟩:=hr μ' H' σ' env' S' x R c
  exact⟨xs,h1,by rw[h2.length];exact U0l _⟩
theorem FN{l:Expr}{f:Av}(hl:JE X l f):JI X tg l (Dl f):=⟨PI.imp (gW hl.pe) fun σ H Q h=>by
 obtain⟨Γ,μ,env,S,ds,w,S',hK,R,e,q⟩:=h
 obtain⟨⟨d,S1⟩,e1,e⟩:=bind_some e
 obtain⟨ds',e2,e⟩:=map_some e
 cases e
 refine⟨Γ,μ,env,S,d,S1,hK,R,e1,fun v μ1 H1 x1 R1 r1=>?_⟩
 rcases VR.Ye hK R1 r1 e2 with ⟨es,rfl⟩|⟨a,xs,rfl,hq,rs⟩
 .cases r1 with
  |@tup a xs _ hb rs =>
   refine⟨a,rfl,.inr ⟨⟨xs,SqT.of hb⟩,q _ μ1 H1 x1 R1 (XS fun μ' H' σ' env' S' x' R' c=>?_)⟩⟩
   have e2':es=ds:=U0x e2
   subst e2'
   exact⟨xs,SqT.of (x'.tups _ _ hb),rs.ext x'⟩
 .by_cases ht:∃es,d=.tup es
  .obtain⟨es,rfl⟩:=ht
   cases r1 with
   |@tup b ys _ hb rs' =>
    refine⟨a,rfl,.inr ⟨⟨ys,SqT.of hb⟩,q _ μ1 H1 x1 R1 (XS fun μ' H' σ' env' S' x' R' c=>?_)⟩⟩
    have e2':es=ds:=U0x e2
    subst e2'
    exact⟨ys,SqT.of (x'.tups _ _ hb),rs'.ext x'⟩
  .refine⟨a,rfl,.inl ⟨⟨xs,hq⟩,q _ μ1 H1 x1 R1 (cZ fun μ' H' σ' env' S' x' R' c=>?_)⟩⟩
   rcases VR.Ye hK R' (r1.ext x') (Xq e2 c) with z|⟨b,ys,e,h1,h2⟩
   .exact absurd z ht
   .cases e
    exact⟨ys,h1,h2⟩⟩
def upD(lo:Int)(n:Nat):List D:=(U3o n).map fun(i:Nat)=>.int (lo+i)
theorem U9{Γ:Fr}{μ:Mu}{H:Hp}(lo:Int)(n:Nat):W6 Γ μ H (Itr lo n) (upD lo n) []:=by
 have len:(upD lo n).length=n:=by unfold upD;rw[U0g,U6b]
 refine⟨fun i d μ' H' σ' env' S' hi x R c=>?_,fun μ' H' σ' env' S' x R c=>?_⟩
 .have hi':i<n:=by rw[←len];exact(U0h.mp hi).1
  refine⟨hi',fun y H'' yl=>?_⟩
  obtain⟨e1,e2⟩:=yl
  subst e1 e2
  unfold upD at hi
  rw[U0v,List.getElem?_range hi'] at hi
  cases hi
  exact⟨Same.refl _,.int _⟩
 .show n<=(upD lo n).length
  rw[len];exact U0l _
def r62(j:Int):Prop:=-(2^62)<=j/\j<2^62
instance(j:Int):Decidable (r62 j):=by unfold r62;infer_instance
def J3(a:Bd):JZ:=fun env S=>(a env S).bind fun p=>match p.1 with|[.int j]=>if r62 j then some ((upD 0 j.toNat,[]),p.2) else none|_=>none
def Ls(a:Bd):JZ:=fun env S=>(a env S).bind fun p=>match p.1 with|[.int i,.int j]=>if r62 i/\r62 j then some ((upD i (j-i).toNat,[]),p.2) else none|_=>none
theorem VRs.one{Γ:Fr}{μ:Mu}{H:Hp}{vs:List V}{d:D}(h:VRs Γ μ H vs [d]):∃v,vs=[v]/\VR Γ μ H v d:=by
 cases h with|cons r t=>cases t;exact⟨_,rfl,r⟩
theorem VRs.two{Γ:Fr}{μ:Mu}{H:Hp}{vs:List V}{d e:D}(h:VRs Γ μ H vs [d,e]):∃v u,vs=[v,u]/\VR Γ μ H v d/\VR Γ μ H u e:=by
 cases h with|cons r t=>cases t with|cons r' t=>cases t;exact⟨_,_,rfl,r,r'⟩
theorem Ra{a:Expr}{f:Bd}{p pos:Pos}(hg:Gl X "range")(hm:X.mg "range"=none)(ha:JA X [a] f)(hs:starEach [a] X.env=[(false,eval a X.env)]:=by rfl):JI X tg (.Call (.Name "range" p) [a] [] pos) (J3 f) :=
 ⟨PI.imp (Xz hg hm ha.pa hs) fun σ H Q h=>by
  obtain⟨Γ,μ,env,S,ds,w,S',hK,R,e,q⟩:=h
  obtain⟨⟨d,S1⟩,e1,e⟩:=bind_some e
  refine⟨Γ,μ,env,S,d,S1,hK,R,e1,fun v μ1 H1 x1 R1 r1=>?_⟩
  dsimp only at e
  split at e
  .rename_i j
   by_cases hj:r62 j
   .rw[if_pos hj] at e
    cases e
    obtain⟨v,rfl,r⟩:=r1.one
    cases r
    exact⟨j,rfl,hj.1,hj.2,q _ μ1 H1 x1 R1 (U9 0 _)⟩
   .rw[if_neg hj] at e;cases e
  .cases e⟩
theorem Y9{a b:Expr}{f:Bd}{p pos:Pos}(hg:Gl X "range")(hm:X.mg "range"=none)(ha:JA X [a,b] f)(hs:starEach [a,b] X.env=[(false,eval a X.env),(false,eval b X.env)]:=by rfl)(hs2:starEach [b] X.env=[(false,eval b X.env)]:=by rfl) :
  JI X tg (.Call (.Name "range" p) [a,b] [] pos) (Ls f) :=
 ⟨PI.imp (Xy hg hm ha.pa hs hs2) fun σ H Q h=>by
  obtain⟨Γ,μ,env,S,ds,w,S',hK,R,e,q⟩:=h
  obtain⟨⟨d,S1⟩,e1,e⟩:=bind_some e
  refine⟨Γ,μ,env,S,d,S1,hK,R,e1,fun v μ1 H1 x1 R1 r1=>?_⟩
  dsimp only at e
  split at e
  .rename_i i j
   by_cases hj:r62 i/\r62 j
   .rw[if_pos hj] at e
    cases e
    obtain⟨v,u,rfl,r,r'⟩:=r1.two
    cases r
    cases r'
    exact⟨i,j,rfl,⟨hj.1.1,hj.1.2,hj.2.1,hj.2.2⟩,q _ μ1 H1 x1 R1 (U9 i _)⟩
   .rw[if_neg hj] at e;cases e
  .cases e⟩
end
end VS
end
section
namespace VS
open PySem PySem.Spec L2
section
variable{X:Cx}{tg:Expr}
def W0:List D->List D->List D
 |x::xs,y::ys=>.tup [x,y]::W0 xs ys
 |_,_=>[]
def nY(a:Bd):JZ:=fun env S=>(a env S).bind fun p=>match p.1 with
 |[.tup xs,.tup ys]=>some ((W0 xs ys,[]),p.2)
 |[x,.tup ys]=>(listOf p.2 x).bind fun xs=>some ((W0 xs ys,idOf xs x),p.2)
 |[x,y]=>(listOf p.2 x).bind fun xs=>(listOf p.2 y).bind fun ys=>some ((W0 xs ys,idOf xs x++idOf ys y),p.2)
 |_=>none
def Yq(K:U0a)(r:V->List V->Hp->VK->Prop)(g:Store->D->List D->Option (D×Store)):Prop:=∀(Γ:Fr)(μ:Mu)(σ:St)(H:Hp)(env:Env)(S:Store)(x:V)(xs:List V)(dx:D)(ds:List D)(d:D)(S':Store),Γ.K=K->Rep Γ μ σ H env S->VR Γ μ H x dx->VRs Γ μ H xs ds->g S dx ds=some (d,S') ->
 ∀Q:VK,(∀v μ' H',Ext μ H μ' H'->Rep Γ μ' σ H' env S'->VR Γ μ' H' v d->Q v H')->r x xs H Q
def Gn(g:Store->D->List D->Option (D×Store))(o:Av)(a:Bd):Av:=fun env S=>(o env S).bind fun p=>if (listOf p.2 p.1).isSome then (a env p.2).bind fun q=>g q.2 p.1 q.1 else none
theorem aP{K:U0a}{r:V->List V->Hp->VK->Prop}{g:Store->D->List D->Option (D×Store)}{o:Av}{a:Bd}(hs:Yq K r g){σ:St}{H:Hp}{Q:VK}(h:wpE K (Gn g o a) σ H Q):tBM K "list" r (wpE K o) (wpA K a) σ H Q:=by
 obtain⟨Γ,μ,env,S,d,S',hK,R,e,q⟩:=h
 obtain⟨⟨x,S1⟩,e1,e⟩:=bind_some e
 refine⟨Γ,μ,env,S,x,S1,hK,R,e1,fun v1 μ1 H1 x1 R1 r1=>?_⟩
 dsimp only at e
 by_cases hl:(listOf S1 x).isSome=true
 .rw[if_pos hl] at e
  obtain⟨⟨ds,S2⟩,e2,e⟩:=bind_some e
  obtain⟨xs,hx⟩:=U46.mp hl
  obtain⟨b,us,rfl,hb,rb⟩:=VR.list R1 r1 hx
  refine⟨.inl ⟨rfl,us,SqL.of hb⟩,Γ,μ1,env,S1,ds,S2,hK,R1,e2,fun vs μ2 H2 x2 R2 r2=>?_⟩
  exact hs Γ μ2 σ H2 env S2 _ vs x ds d S' hK R2 (r1.ext x2) r2 e Q fun v μ' H' x' R' rv=>q v μ' H' (x1.trans (x2.trans x')) R' rv
 .rw[if_neg hl] at e;cases e
variable{o e:Expr}{es:List Expr}{fo:Av}{fa:Bd}{name:Str}{apos cpos:Pos}{id:String}{r:V->List V->Hp->VK->Prop}{g:Store->D->List D->Option (D×Store)}
theorem Jw(pa:PlainAttrs "list")(slot:Slot "list" name id)(hty:typeOf (.builtin id)=pure (.type "method_descriptor"))(hm:MtR X id r)(hsm:Yq X.K r g)(ho:JE X o fo)(ha:JA X (e::es) fa)
  (hbase:attributeBase o name X.env (eval o X.env)=eval o X.env:=by rfl)
  (hfew:((backTo cpos (starEach (e::es) X.env)).all (fun x=>!x.1)&&(backToKw cpos (keywordEach [] X.env)).all (fun x=>x.1.isSome)
   && decide ((e::es).length+([]:List Keyword).length+(if ([]:List Keyword).isEmpty then 0 else 1)<30))=true:=by rfl)
  (hline:(apos.endLine==cpos.line)=true:=by rfl) (hs:starEach (e::es) X.env=(false,eval e X.env)::starEach es X.env:=by rfl) (hplain:(backTo cpos (starEach es X.env)).any (·.1)=false:=by rfl) :
  JE X (.Call (.Attribute o name apos) (e::es) [] cpos) (Gn g fo fa) :=
 ⟨PE.imp (ju pa slot hty hm ho.pe ha.pa hbase hfew hline hs hplain) fun _ _ _ h=>aP hsm h⟩
theorem VR.Yg{Γ:Fr}{μ:Mu}{σ:St}{H:Hp}{env:Env}{S:Store}{v:V}{i:Nat}{ds:List D}(R:Rep Γ μ σ H env S)(r:VR Γ μ H v (.ref i))(h:S[i]?=some (some ds)):∃a xs,v=.ref a/\μ[i]?=some (some a)/\H a=some (.lst xs)/\VRs Γ μ H xs ds:=by
 cases r with
 |ref hi f =>
  obtain⟨a,h1,hc⟩:=R.sto i ds h
  obtain⟨f1,f2⟩:=f a h1
  obtain⟨xs,h2,h3⟩:=hc.list f2
  exact⟨a,xs,f1,h1,h2,h3⟩
def Ez(S:Store):D->List D->Option (D×Store)
 |.ref i,[d]=>match S[i]? with
  |some (some ds)=>if ds.length<1000000 then some (.non,S.set i (some (ds++[d]))) else none
  |_=>none
 |_,_=>none
theorem Hz{K:U0a}:Yq K Vf Ez:=by
 intro Γ μ σ H env S x xs dx ds d S' hK R rx rs e Q q
 unfold Ez at e
 split at e
 .rename_i i d1
  split at e
  .rename_i es he
   by_cases hl:es.length<1000000
   .rw[if_pos hl] at e
    cases e
    obtain⟨a,us,rfl,h1,h2,h3⟩:=VR.Yg R rx he
    obtain⟨y,rfl,ry⟩:=rs.one
    obtain⟨R2,x2⟩:=R.put h1 ⟨_,h2⟩ (h3.append (.cons ry .nil))
    exact⟨a,us,y,rfl,rfl,h2,by rw[h3.length];exact big (U2c hl),q _ μ _ x2 R2 .non⟩
   .rw[if_neg hl] at e;cases e
  .cases e
 .cases e
def nR(S:Store):D->List D->Option (D×Store)
 |.ref i,[.int k]=>match S[i]? with
  |some (some ds)=>if -(2^63)<=k/\k<2^63 then (PySem.seqIndex? k ds.length).bind fun j=>(ds[j]?).bind fun d=>some (d,S.set i (some (ds.eraseIdx j))) else none
  |_=>none
 |_,_=>none
def QM(v o i:Av):Az:=fun env S=>(v env S).bind fun p=>(o env p.2).bind fun q=>(i env q.2).bind fun r=>match q.1,r.1 with
 |.ref j,.int k=>(match r.2[j]? with
  |some (some ds)=>(ixN ds.length k).bind fun n=>some (.nx,env,r.2.set j (some (ds.set n p.1)))
  |_=>none)
 |_,_=>none
theorem Tz{a i:Expr}{fv fi:Av}{pos tpos:Pos}(he:JE X a fv)(ho:JE X o fo)(hi:JE X i fi)
  (ha:∀v,assign (.Subscript o i tpos) X.env v=(do
   let ov ←holding [v] (eval o X.env)
   let iv ←holding [v,ov] (eval i X.env)
   standAt tpos
   holding [v,ov,iv] (setItem ov iv v)
   release [v,ov,iv] []):=by intro _;rfl)
  (hs:swapsWithSole [.Subscript o i tpos] a pos.line X.env=pure false:=by rfl) (hw:swappedStores [.Subscript o i tpos] a X.env=pure none:=by rfl)
  (h1:(assignEach [.Subscript o i tpos] X.env).map (·.2)=[assign (.Subscript o i tpos) X.env]:=by rfl):JS X (.Assign [.Subscript o i tpos] a pos) (QM fv fo fi) :=
 ⟨PS.imp (XD he.pe (gZ ho.pe hi.pe set_list ha) hs hw h1) fun E σ H h=>by
  obtain⟨Γ,μ,env,S,fl,env',S',hK,R,e,q⟩:=h
  obtain⟨⟨x,S1⟩,e1,e⟩:=bind_some e
  obtain⟨⟨y,S2⟩,e2,e⟩:=bind_some e
  obtain⟨⟨z,S3⟩,e3,e⟩:=bind_some e
  refine⟨Γ,μ,env,S,x,S1,hK,R,e1,fun v1 μ1 H1 x1 R1 r1=>?_⟩
  refine⟨Γ,μ1,env,S1,y,S2,hK,R1,e2,fun v2 μ2 H2 x2 R2 r2=>?_⟩
  refine⟨Γ,μ2,env,S2,z,S3,hK,R2,e3,fun v3 μ3 H3 x3 R3 r3=>?_⟩
  dsimp only at e
  split at e
  .rename_i j k
   split at e
   .rename_i ds hd
    obtain⟨n,e4,e⟩:=bind_some e
    cases e
    obtain⟨b,us,rfl,g1,g2,g3⟩:=VR.Yg R3 (r2.ext x3) hd
    cases r3
    have r1':=r1.ext (x2.trans x3)
    obtain⟨R4,x4⟩:=R3.put g1 ⟨_,g2⟩ (g3.set r1' n)
    exact⟨b,us,_,n,rfl,rfl,g2,by rw[g3.length];exact e4,q μ3 σ _ (x1.trans (x2.trans (x3.trans x4))) R4⟩
   .cases e
  .cases e⟩
end
end VS
end
section
namespace VS
open PySem PySem.Spec L2
mutual
def Bf:D->Bool
 |.ref _=>false
 |.dref _=>false
 |.dcm _=>false
 |.tup ds=>BJ ds
 |.lst _ ds=>BJ ds
 |_=>true
def BJ:List D->Bool
 |[]=>true
 |d::r=>Bf d&&BJ r
end
mutual
def Bj:D->Bool
 |.ref _=>false
 |.dref _=>false
 |.dcf _=>false
 |.dcm _=>false
 |.lst _ _=>false
 |.scr _=>false
 |.emp=>false
 |.tup ds=>Cu ds
 |_=>true
def Cu:List D->Bool
 |[]=>true
 |d::r=>Bj d&&Cu r
end
mutual
def newD:D->Bool
 |.ref _=>false
 |.dref _=>false
 |.dcf _=>false
 |.dcm _=>false
 |.lst m ds=>m&&newL ds
 |.scr _=>false
 |.emp=>false
 |.tup ds=>newL ds
 |_=>true
def newL:List D->Bool
 |[]=>true
 |d::r=>newD d&&newL r
end
mutual
def den(k:Nat)(S:Store):D->Option D
 |.tup ds=>(Cz k S ds).map .tup
 |.lst m ds=>(Cz k S ds).map (.lst m)
 |.ref i=>if i<k then none else match S[i]? with|some (some ds)=>if BJ ds=true then some (.lst true ds) else none|_=>none
 |.non=>some .non
 |.bl b=>some (.bl b)
 |.int i=>some (.int i)
 |.str x=>some (.str x)
 |.ty n=>some (.ty n)
 |.scr ns=>some (.scr ns)
 |.emp=>some .emp
 |.dref i=>if i<k then none else match S[i]? with|some (some [.dcm kvs])=>some (.dcf kvs)|_=>none
 |.dcf kvs=>some (.dcf kvs)
 |.dcm _=>none
def Cz(k:Nat)(S:Store):List D->Option (List D)
 |[]=>some []
 |d::r=>(den k S d).bind fun x=>(Cz k S r).bind fun xs=>some (x::xs)
end
mutual
def age:D->D
 |.tup ds=>.tup (CW ds)
 |.lst _ ds=>.lst false (CW ds)
 |.ref i=>.ref i
 |.non=>.non
 |.bl b=>.bl b
 |.int i=>.int i
 |.str x=>.str x
 |.ty n=>.ty n
 |.scr ns=>.scr ns
 |.emp=>.emp
 |.dref i=>.dref i
 |.dcf kvs=>.dcf kvs
 |.dcm kvs=>.dcm kvs
def CW:List D->List D
 |[]=>[]
 |d::r=>age d::CW r
end
mutual
theorem G7:∀{d:D},Bj d=true->Bf d=true
 |.ref _,h=>by simp[Bj] at h
 |.lst _ _,h=>by simp[Bj] at h
 |.scr _,h=>by simp[Bj] at h
 |.emp,h=>by simp[Bj] at h
 |.dref _,h=>by simp[Bj] at h
 |.dcf _,h=>by simp[Bj] at h
 |.dcm _,h=>by simp[Bj] at h
 |.tup ds,h=>by rw[Bj] at h;rw[Bf];exact Bp h
 |.non,_=>rfl
 |.bl _,_=>rfl
 |.int _,_=>rfl
 |.str _,_=>rfl
 |.ty _,_=>rfl
theorem Bp:∀{ds:List D},Cu ds=true->BJ ds=true
 |[],_=>rfl
 |d::r,h=>by
  rw[Cu,U0m] at h
  rw[BJ,G7 h.1,Bp h.2];rfl
end
mutual
theorem Ma:∀{d:D},Bj d=true->newD d=true
 |.ref _,h=>by simp[Bj] at h
 |.lst _ _,h=>by simp[Bj] at h
 |.scr _,h=>by simp[Bj] at h
 |.emp,h=>by simp[Bj] at h
 |.dref _,h=>by simp[Bj] at h
 |.dcf _,h=>by simp[Bj] at h
 |.dcm _,h=>by simp[Bj] at h
 |.tup ds,h=>by rw[Bj] at h;rw[newD];exact Kl h
 |.non,_=>rfl
 |.bl _,_=>rfl
 |.int _,_=>rfl
 |.str _,_=>rfl
 |.ty _,_=>rfl
theorem Kl:∀{ds:List D},Cu ds=true->newL ds=true
 |[],_=>rfl
 |d::r,h=>by
  rw[Cu,U0m] at h
  rw[newL,Ma h.1,Kl h.2];rfl
end
mutual
theorem J4(k:Nat)(S:Store):∀{d:D},Bf d=true->den k S d=some d
 |.ref _,h=>by simp[Bf] at h
 |.lst m ds,h=>by rw[Bf] at h;rw[den,Dk k S h];rfl
 |.tup ds,h=>by rw[Bf] at h;rw[den,Dk k S h];rfl
 |.non,_=>by rw[den]
 |.bl _,_=>by rw[den]
 |.int _,_=>by rw[den]
 |.str _,_=>by rw[den]
 |.ty _,_=>by rw[den]
 |.scr _,_=>by rw[den]
 |.emp,_=>by rw[den]
 |.dref _,h=>by simp[Bf] at h
 |.dcf _,_=>by rw[den]
 |.dcm _,h=>by simp[Bf] at h
theorem Dk(k:Nat)(S:Store):∀{ds:List D},BJ ds=true->Cz k S ds=some ds
 |[],_=>by rw[Cz]
 |d::r,h=>by
  rw[BJ,U0m] at h
  rw[Cz,J4 k S h.1,Dk k S h.2];rfl
end
mutual
theorem Pu:∀{d:D},Bj d=true->age d=d
 |.ref _,h=>by simp[Bj] at h
 |.lst _ _,h=>by simp[Bj] at h
 |.scr _,h=>by simp[Bj] at h
 |.emp,h=>by simp[Bj] at h
 |.dref _,h=>by simp[Bj] at h
 |.dcf _,h=>by simp[Bj] at h
 |.dcm _,h=>by simp[Bj] at h
 |.tup ds,h=>by rw[Bj] at h;rw[age,Ew h]
 |.non,_=>by rw[age]
 |.bl _,_=>by rw[age]
 |.int _,_=>by rw[age]
 |.str _,_=>by rw[age]
 |.ty _,_=>by rw[age]
theorem Ew:∀{ds:List D},Cu ds=true->CW ds=ds
 |[],_=>by rw[CW]
 |d::r,h=>by
  rw[Cu,U0m] at h
  rw[CW,Pu h.1,Ew h.2]
end
section
variable{Γ Γ':Fr}{μ μ':Mu}{H:Hp}
mutual
theorem VR.age(hK:Γ'.K=Γ.K)(hN:∀a,¬Br μ a->Γ.N a∨Γ.H0 a=none->Γ'.N a)(hl:∀a o,H a=some o->¬Br μ a->¬Br μ' a):∀{v:V} {d:D},Bf d=true->VR Γ μ H v d->VR Γ' μ' H v (VS.age d)
 |_,_,_,.non=>by rw[VS.age];exact .non
 |_,_,_,.bl b=>by rw[VS.age];exact .bl b
 |_,_,_,.int i=>by rw[VS.age];exact .int i
 |_,_,_,.str x=>by rw[VS.age];exact .str x
 |_,_,_,.ty n=>by rw[VS.age];exact .ty n
 |_,_,h,.tup hb t=>by rw[Bf] at h;rw[VS.age];exact .tup hb (VRs.age hK hN hl h t)
 |_,_,h,.lst o n hb t=>by rw[Bf] at h;rw[VS.age];exact .lst ⟨fun z=>(by cases z),.inl (hN _ n o.2)⟩ (hl _ _ hb n) hb (VRs.age hK hN hl h t)
 |_,_,h,.ref _ _=>by simp[Bf] at h
 |_,_,_,.scrK k=>by rw[VS.age];exact .scrK (by rw[hK];exact k)
 |_,_,_,.scrR n hb=>by rw[VS.age];exact .scrR (hl _ _ hb n) hb
 |_,_,_,.emp o n hb=>by rw[VS.age];exact .emp ⟨fun z=>(by cases z),.inl (hN _ n o.2)⟩ (hl _ _ hb n) hb
 |_,_,h,.dref _ _=>by simp[Bf] at h
 |_,_,_,.dcf o n hb=>by rw[VS.age];exact .dcf ⟨fun z=>(by cases z),.inl (hN _ n o.2)⟩ (hl _ _ hb n) hb
theorem VRs.age(hK:Γ'.K=Γ.K)(hN:∀a,¬Br μ a->Γ.N a∨Γ.H0 a=none->Γ'.N a)(hl:∀a o,H a=some o->¬Br μ a->¬Br μ' a):∀{v:List V} {d:List D},BJ d=true->VRs Γ μ H v d->VRs Γ' μ' H v (CW d)
 |_,_,_,.nil=>by rw[CW];exact .nil
 |_,_,h,.cons r t=>by
  rw[BJ,U0m] at h
  rw[CW];exact .cons (VR.age hK hN hl h.1 r) (VRs.age hK hN hl h.2 t)
end
mutual
theorem VR.pure(hK:Γ'.K=Γ.K)(hN:∀m a xs,¬Br μ a->Γ.Ok m a->H a=some xs->Γ'.Ok m a/\¬Br μ' a)(ho:∀a o,H a=some o->¬Br μ a->(∀xs,o≠.lst xs)->(∀xs,o≠.dK xs)->¬Br μ' a):∀{v:V} {d:D},Bf d=true->VR Γ μ H v d->VR Γ' μ' H v d
 |_,_,_,.non=>.non
 |_,_,_,.bl b=>.bl b
 |_,_,_,.int i=>.int i
 |_,_,_,.str x=>.str x
 |_,_,_,.ty n=>.ty n
 |_,_,h,.tup hb t=>by rw[Bf] at h;exact .tup hb (VRs.pure hK hN ho h t)
 |_,_,h,.lst o n hb t=>by rw[Bf] at h;exact .lst (hN _ _ _ n o hb).1 (hN _ _ _ n o hb).2 hb (VRs.pure hK hN ho h t)
 |_,_,h,.ref _ _=>by simp[Bf] at h
 |_,_,_,.scrK k=>.scrK (by rw[hK];exact k)
 |_,_,_,.scrR n hb=>.scrR (ho _ _ hb n (fun _ z=>by cases z) fun _ z=>by cases z) hb
 |_,_,_,.emp o n hb=>.emp (hN _ _ _ n o hb).1 (hN _ _ _ n o hb).2 hb
 |_,_,h,.dref _ _=>by simp[Bf] at h
 |_,_,_,.dcf o n hb=>.dcf (hN _ _ _ n o hb).1 (hN _ _ _ n o hb).2 hb
theorem VRs.pure(hK:Γ'.K=Γ.K)(hN:∀m a xs,¬Br μ a->Γ.Ok m a->H a=some xs->Γ'.Ok m a/\¬Br μ' a)(ho:∀a o,H a=some o->¬Br μ a->(∀xs,o≠.lst xs)->(∀xs,o≠.dK xs)->¬Br μ' a):∀{v:List V} {d:List D},BJ d=true->VRs Γ μ H v d->VRs Γ' μ' H v d
 |_,_,_,.nil=>.nil
 |_,_,h,.cons r t=>by
  rw[BJ,U0m] at h
  exact .cons (VR.pure hK hN ho h.1 r) (VRs.pure hK hN ho h.2 t)
end
mutual
theorem VR.den{σ:St}{env:Env}{S S0:Store}{k:Nat}(R:Rep Γ μ σ H env S)(hK:Γ'.K=Γ.K)(h0:∀(i:Nat)(ds:List D)(a:Addr),k<=i->S0[i]?=some (some ds)->S[i]?=some (some ds)/\(μ[i]?=some (some a)->¬Br μ' a/\Γ'.Ok true a))
  (hN:∀m a,¬Br μ a->Γ.Ok m a->Γ'.Ok m a) (hl:∀a o,H a=some o->¬Br μ a->¬Br μ' a):∀{v:V} {d e:D},VR Γ μ H v d->VS.den k S0 d=some e->VR Γ' μ' H v e
 |_,_,_,.non,h=>by rw[VS.den] at h;cases h;exact .non
 |_,_,_,.bl b,h=>by rw[VS.den] at h;cases h;exact .bl b
 |_,_,_,.int i,h=>by rw[VS.den] at h;cases h;exact .int i
 |_,_,_,.str x,h=>by rw[VS.den] at h;cases h;exact .str x
 |_,_,_,.ty n,h=>by rw[VS.den] at h;cases h;exact .ty n
 |_,_,_,.tup hb t,h=>by
  rw[VS.den] at h
  obtain⟨es,e1,e2⟩:=map_some h
  subst e2
  exact .tup hb (VRs.den R hK h0 hN hl t e1)
 |_,_,_,.lst o n hb t,h=>by
  rw[VS.den] at h
  obtain⟨es,e1,e2⟩:=map_some h
  subst e2
  exact .lst (hN _ _ n o) (hl _ _ hb n) hb (VRs.den R hK h0 hN hl t e1)
 |_,.ref i,_,.ref hi f,h=>by
  rw[VS.den] at h
  by_cases hk:i<k
  .rw[if_pos hk] at h;cases h
  .rw[if_neg hk] at h
   split at h
   .rename_i ds hd
    by_cases hp:BJ ds=true
    .rw[if_pos hp] at h
     cases h
     have hS:=(h0 i ds 0 (by omega) hd).1
     obtain⟨a,h1,hc⟩:=R.sto i ds hS
     obtain⟨hv,f2⟩:=f a h1
     obtain⟨xs,h2,h3⟩:=hc.list f2
     subst hv
     obtain⟨z1,z2⟩:=(h0 i ds a (by omega) hd).2 h1
     exact .lst z2 z1 h2 (VRs.pure hK (fun m b ys n o hb=>⟨hN m b n o,hl b _ hb n⟩) (fun b o hb n _ _=>hl b o hb n) hp h3)
    .rw[if_neg hp] at h;cases h
   .cases h
 |_,_,_,.scrK k,h=>by rw[VS.den] at h;cases h;exact .scrK (by rw[hK];exact k)
 |_,_,_,.scrR n hb,h=>by rw[VS.den] at h;cases h;exact .scrR (hl _ _ hb n) hb
 |_,_,_,.emp o n hb,h=>by rw[VS.den] at h;cases h;exact .emp (hN _ _ n o) (hl _ _ hb n) hb
 |_,.dref i,_,.dref hi f,h=>by
  rw[VS.den] at h
  by_cases hk:i<k
  .rw[if_pos hk] at h;cases h
  .rw[if_neg hk] at h
   split at h
   .rename_i kvs hd
    cases h
    have hS:=(h0 i _ 0 (by omega) hd).1
    obtain⟨a,h1,hc⟩:=R.sto i _ hS
    obtain⟨hv,f2⟩:=f a h1
    obtain⟨kvs',q1,h2⟩:=hc.dict f2
    cases q1
    subst hv
    have z:=(h0 i _ a (by omega) hd).2 h1
    exact .dcf ⟨fun z=>(by cases z),z.2.2⟩ z.1 h2
   .cases h
 |_,_,_,.dcf o n hb,h=>by rw[VS.den] at h;cases h;exact .dcf (hN _ _ n o) (hl _ _ hb n) hb
theorem VRs.den{σ:St}{env:Env}{S S0:Store}{k:Nat}(R:Rep Γ μ σ H env S)(hK:Γ'.K=Γ.K)(h0:∀(i:Nat)(ds:List D)(a:Addr),k<=i->S0[i]?=some (some ds)->S[i]?=some (some ds)/\(μ[i]?=some (some a)->¬Br μ' a/\Γ'.Ok true a))
  (hN:∀m a,¬Br μ a->Γ.Ok m a->Γ'.Ok m a) (hl:∀a o,H a=some o->¬Br μ a->¬Br μ' a):∀{v:List V} {d e:List D},VRs Γ μ H v d->VS.Cz k S0 d=some e->VRs Γ' μ' H v e
 |_,_,_,.nil,h=>by rw[Cz] at h;cases h;exact .nil
 |_,_,_,.cons r t,h=>by
  rw[Cz] at h
  obtain⟨x,e1,h⟩:=bind_some h
  obtain⟨xs,e2,h⟩:=bind_some h
  cases h
  exact .cons (VR.den R hK h0 hN hl r e1) (VRs.den R hK h0 hN hl t e2)
end
mutual
theorem VR.new(hN:∀a xs,¬Br μ a->Γ.Ok true a->H a=some (.lst xs)->Γ'.Ok true a/\¬Br μ' a):∀{v:V} {d:D},newD d=true->VR Γ μ H v d->VR Γ' μ' H v d
 |_,_,_,.non=>.non
 |_,_,_,.bl b=>.bl b
 |_,_,_,.int i=>.int i
 |_,_,_,.str x=>.str x
 |_,_,_,.ty n=>.ty n
 |_,_,h,.tup hb t=>by rw[newD] at h;exact .tup hb (VRs.new hN h t)
 |_,.lst m ds,h,.lst o n hb t=>by
  rw[newD,U0m] at h
  obtain⟨rfl,h⟩:=h
  exact .lst (hN _ _ n o hb).1 (hN _ _ n o hb).2 hb (VRs.new hN h t)
 |_,_,h,.ref _ _=>by simp[newD] at h
 |_,_,h,.scrK _=>by simp[newD] at h
 |_,_,h,.scrR _ _=>by simp[newD] at h
 |_,_,h,.emp _ _ _=>by simp[newD] at h
 |_,_,h,.dref _ _=>by simp[newD] at h
 |_,_,h,.dcf _ _ _=>by simp[newD] at h
theorem VRs.new(hN:∀a xs,¬Br μ a->Γ.Ok true a->H a=some (.lst xs)->Γ'.Ok true a/\¬Br μ' a):∀{v:List V} {d:List D},newL d=true->VRs Γ μ H v d->VRs Γ' μ' H v d
 |_,_,_,.nil=>.nil
 |_,_,h,.cons r t=>by
  rw[newL,U0m] at h
  exact .cons (VR.new hN h.1 r) (VRs.new hN h.2 t)
end
mutual
theorem VR.flat:∀{v:V} {d:D},Bj d=true->VR Γ μ H v d->VR Γ' μ' H v d
 |_,_,_,.non=>.non
 |_,_,_,.bl b=>.bl b
 |_,_,_,.int i=>.int i
 |_,_,_,.str x=>.str x
 |_,_,_,.ty n=>.ty n
 |_,_,h,.tup hb t=>by rw[Bj] at h;exact .tup hb (VRs.flat h t)
 |_,_,h,.lst _ _ _ _=>by simp[Bj] at h
 |_,_,h,.ref _ _=>by simp[Bj] at h
 |_,_,h,.scrK _=>by simp[Bj] at h
 |_,_,h,.scrR _ _=>by simp[Bj] at h
 |_,_,h,.emp _ _ _=>by simp[Bj] at h
 |_,_,h,.dref _ _=>by simp[Bj] at h
 |_,_,h,.dcf _ _ _=>by simp[Bj] at h
theorem VRs.flat:∀{v:List V} {d:List D},Cu d=true->VRs Γ μ H v d->VRs Γ' μ' H v d
 |_,_,_,.nil=>.nil
 |_,_,h,.cons r t=>by
  rw[Cu,U0m] at h
  exact .cons (VR.flat h.1 r) (VRs.flat h.2 t)
end
mutual
theorem Q0{k:Nat}{S:Store}:∀{d e:D},den k S d=some e->Bf e=true
 |.tup ds,e,h=>by
  rw[den] at h
  obtain⟨es,e1,e2⟩:=map_some h
  subst e2
  rw[Bf];exact Kp e1
 |.lst m ds,e,h=>by
  rw[den] at h
  obtain⟨es,e1,e2⟩:=map_some h
  subst e2
  rw[Bf];exact Kp e1
 |.ref i,e,h=>by
  rw[den] at h
  by_cases hk:i<k
  .rw[if_pos hk] at h;cases h
  .rw[if_neg hk] at h
   split at h
   .rename_i ds hd
    by_cases hp:BJ ds=true
    .rw[if_pos hp] at h;cases h;rw[Bf];exact hp
    .rw[if_neg hp] at h;cases h
   .cases h
 |.non,e,h=>by rw[den] at h;cases h;rfl
 |.bl _,e,h=>by rw[den] at h;cases h;rfl
 |.int _,e,h=>by rw[den] at h;cases h;rfl
 |.str _,e,h=>by rw[den] at h;cases h;rfl
 |.ty _,e,h=>by rw[den] at h;cases h;rfl
 |.scr _,e,h=>by rw[den] at h;cases h;rfl
 |.emp,e,h=>by rw[den] at h;cases h;rfl
 |.dref i,e,h=>by
  rw[den] at h
  by_cases hk:i<k
  .rw[if_pos hk] at h;cases h
  .rw[if_neg hk] at h
   split at h
   .cases h;rfl
   .cases h
 |.dcf _,e,h=>by rw[den] at h;cases h;rfl
 |.dcm _,e,h=>by rw[den] at h;cases h
theorem Kp{k:Nat}{S:Store}:∀{d e:List D},Cz k S d=some e->BJ e=true
 |[],e,h=>by rw[Cz] at h;cases h;rfl
 |d::r,e,h=>by
  rw[Cz] at h
  obtain⟨x,e1,h⟩:=bind_some h
  obtain⟨xs,e2,h⟩:=bind_some h
  cases h
  rw[BJ,Q0 e1,Kp e2];rfl
end
end
end VS
end
section
namespace VS
open PySem PySem.Spec L2
abbrev Eh:=List D->Option D
abbrev Ih:=List Int->List D->Option (D×List Int)
def intsOf:List D->Option (List Int)
 |[]=>some []
 |.int i::r=>(intsOf r).map (i::·)
 |_=>none
theorem Gd:∀{ds:List D} {ns:List Int},intsOf ds=some ns->ds=ns.map D.int
 |[],_,h=>by cases h;rfl
 |.int i::r,ns,h=>by
  obtain⟨ms,e1,e2⟩:=map_some h
  subst e2
  rw[U0n,Gd e1]
 |.non::_,_,h=>by cases h
 |.bl _::_,_,h=>by cases h
 |.str _::_,_,h=>by cases h
 |.ty _::_,_,h=>by cases h
 |.tup _::_,_,h=>by cases h
 |.lst _ _::_,_,h=>by cases h
 |.ref _::_,_,h=>by cases h
 |.scr _::_,_,h=>by cases h
 |.emp::_,_,h=>by cases h
 |.dref _::_,_,h=>by cases h
 |.dcf _::_,_,h=>by cases h
 |.dcm _::_,_,h=>by cases h
@[simp] theorem Jl(ns:List Int):intsOf (ns.map D.int)=some ns:=by
 induction ns with
 |nil=>rfl
 |cons n r ih=>rw[U0n,intsOf,ih];rfl
def GC(np n:Nat)(f:Az):Eh:=fun ds=>if ds.length=np then (f (ds.map some++U0p (n-ds.length) none) []).bind fun p=>match p.1 with|.ret d=>den 0 p.2.2 d|.nx=>some .non|_=>none else none
def runM(np n:Nat)(f:Az):Ih:=fun ns ds=>if ds.length+1=np then (f (some (.ref 0)::(ds.map some++U0p (n-1-ds.length) none)) [some (ns.map D.int)]).bind fun p=>match p.2.2[0]? with
 |some (some cs)=>(intsOf cs).bind fun ms=>(match p.1 with|.ret d=>(den 1 p.2.2 d).map fun r=>(r,ms)|.nx=>some (.non,ms)|_=>none)
 |_=>none
 else none
def spP(K:U0a)(sem:Eh)(n:Nat):Sp:=fun vs H Q _=>∃(N:Addr->Prop)(ds:List D)(r:D),vs.length=n/\VRs ⟨K,H,N,[]⟩ [] H vs ds/\sem ds=some r/\∀v H',Same H H'->VR ⟨K,H,N,[]⟩ [] H' v r->Q v H'
def spM(K:U0a)(sem:Ih)(n:Nat):Sp:=fun vs H Q _=>∃(N:Addr->Prop)(a:Addr)(us:List V)(ns:List Int)(ds:List D)(r:D)(ms:List Int),vs=.ref a::us/\vs.length=n/\H a=some (.lst (ns.map V.int))/\VRs ⟨K,H,N,[a]⟩ [some a] H us ds/\sem ns ds=some (r,ms) /\
 ∀v H',(∀b o,b≠a->H b=some o->H' b=some o)->H' a=some (.lst (ms.map V.int))->VR ⟨K,H,N,[a]⟩ [some a] H' v r->Q v H'
section
variable{P:Program}{w:World}{K:U0a}{mg:Str->Option Value}{base:Heap}
theorem RQ{N:List Str}{vs:List V}{ds:List D}{Γ:Fr}{μ:Mu}{H:Hp}(r:VRs Γ μ H vs ds){i:Nat}{d:D}{n:Nat}(h:(ds.map some++U0p n none:Env)[i]?=some (some d)):∃v,(vs.map some++U0p (N.length-vs.length) none:St)[i]?=some (some v)/\VR Γ μ H v d:=by
 have hi:i<ds.length:=by
  by_cases hi:i<ds.length
  .exact hi
  .rw[U1f (by simpa using hi),U4a] at h
   split at h<;>cases h
 rw[U00 (by simpa using hi),U0v] at h
 have h2:ds[i]?=some d:=by
  cases q:ds[i]? with
  |none=>rw[q] at h;cases h
  |some e=>rw[q] at h;cases h;rfl
 obtain⟨v,e1,e2⟩:=r.get h2
 refine⟨v,?_,e2⟩
 rw[U00 (by rw[U0g,r.length];exact hi),U0v,e1]
 rfl
theorem Gj{a:Addr}:¬Br [] a:=fun z=>by simp[Br] at z
theorem MP{a b:Addr}:Br [some b] a↔a=b:=by simp[Br]
theorem fnP{x qual:Str}{st:Stmt}{f:Addr}{fd:FuncData}{N ps:List Str}{k:Nat}{fs:Az}(F:Fun K x qual st f fd)(Sc:CQ N ps (Al st))
  (hb:∀(cdv:Value)(A:Around)(outer:List PySem.Env)(s:Shared)(H:Hp)(E:XK),Dm k (A.deeper (PyProof.Rows.envOfC qual (Al st) s.heap.objs.size f cdv))->JSs (N7 CX0 P w K mg base N qual (Al st) f cdv A outer s H E).nox (Bt st) fs) :
  Ci P w K mg base CX0 (k+1) f fd ps (spP K (GC ps.length N.length fs) ps.length):=by
 refine F.ok Sc (fun vs H Q E h=>?_) (fun cdv A outer s H vs Q E hr h=>?_)
 .obtain⟨_,_,_,hl,_⟩:=h;exact hl
 obtain⟨Nn,ds,r,hl,rs,e,q⟩:=h
 refine⟨_,(hb cdv A outer s H E hr).ps,?_⟩
 have hdl:=rs.length
 unfold GC at e
 rw[if_pos (by omega)] at e
 obtain⟨⟨fl,env',S'⟩,e1,e⟩:=bind_some e
 have hpl:ps.length<=N.length:=by have:=congrArg U3b Sc.pre;rw[U1i] at this;omega
 refine⟨⟨K,H,Nn,[]⟩,[],_,[],fl,env',S',rfl,⟨fun i d h=>RQ rs h,?_,fun i ds h=>by simp at h,fun i a h=>by simp at h,fun i j a h=>by simp at h,rfl,Ext.refl _ _,fun i a _ h=>by simp at h⟩,e1,fun μ' σ' H' x' R'=>?_⟩
 .unfold L2.start
  rw[U0i,U0g,U1t,U0i,U0g,U1t,hdl]
 have sm:Same H H':=fun b o hb=>(x'.keep b o hb Gj).1
 dsimp only at e
 cases fl with
 |nx=>cases e;exact q _ H' sm .non
 |brk=>cases e
 |cnt=>cases e
 |ret d =>
  intro v rv
  refine q v H' sm (VR.den R' rfl (fun i ds a _ hs=>⟨hs,fun hm=>⟨Gj,?_⟩⟩) (fun m a _ o=>o) (fun a o _ _=>Gj) rv e)
  have hn:=R'.new i a (U3c _) hm
  exact⟨fun _=>hn,.inr hn⟩
theorem fnM{x qual:Str}{st:Stmt}{f:Addr}{fd:FuncData}{N ps:List Str}{k:Nat}{fs:Az}(F:Fun K x qual st f fd)(Sc:CQ N ps (Al st))
  (hb:∀(cdv:Value)(A:Around)(outer:List PySem.Env)(s:Shared)(H:Hp)(E:XK),Dm k (A.deeper (PyProof.Rows.envOfC qual (Al st) s.heap.objs.size f cdv))->JSs (N7 CX0 P w K mg base N qual (Al st) f cdv A outer s H E).nox (Bt st) fs) :
  Ci P w K mg base CX0 (k+1) f fd ps (spM K (runM ps.length N.length fs) ps.length):=by
 refine F.ok Sc (fun vs H Q E h=>?_) (fun cdv A outer s H vs Q E hr h=>?_)
 .obtain⟨_,_,_,_,_,_,_,_,hl,_⟩:=h;exact hl
 obtain⟨Nn,a,us,ns,ds,r,ms,rfl,hl,ha,rs,e,q⟩:=h
 refine⟨_,(hb cdv A outer s H E hr).ps,?_⟩
 have hdl:=rs.length
 rw[U0f] at hl
 unfold runM at e
 rw[if_pos (by omega)] at e
 obtain⟨⟨fl,env',S'⟩,e1,e⟩:=bind_some e
 have hpl:ps.length<=N.length:=by have:=congrArg U3b Sc.pre;rw[U1i] at this;omega
 refine⟨⟨K,H,Nn,[a]⟩,[some a],_,[some (ns.map D.int)],fl,env',S',rfl,⟨fun i d h=>?_,?_,fun i es h=>?_,fun i b h=>?_,fun i j b h1 h2=>?_,rfl,Ext.refl _ _,fun i b hi h=>?_⟩,e1,fun μ' σ' H' x' R'=>?_⟩
 .cases i with
  |zero =>
   simp at h
   subst h
   refine⟨.ref a,by simp[L2.start],.ref (by simp) fun b hb=>?_⟩
   simp at hb;rw[←hb];exact⟨rfl,⟨_,ha⟩⟩
  |succ i =>
   rw[List.getElem?_cons_succ] at h
   obtain⟨v,e1,e2⟩:=RQ (N:=U0p (N.length-1) "") rs h
   refine⟨v,?_,e2⟩
   unfold L2.start
   rw[U0n,U15,List.getElem?_cons_succ,U0f]
   rw[U1t] at e1
   rw[show N.length-(us.length+1)=N.length-1-us.length by omega]
   exact e1
 .unfold L2.start
  rw[U0i,U0g,U1t,U0f,U0f,U0i,U0g,U1t,hdl]
  omega
 .cases i with
  |zero=>simp at h;subst h;exact⟨a,by simp,.inl ⟨_,ha,VRs.ints ns⟩⟩
  |succ i=>simp at h
 .cases i with
  |zero=>exact⟨_,rfl⟩
  |succ i=>simp at h
 .cases i with
  |zero=>cases j with
   |zero=>rfl
   |succ j=>simp at h2
  |succ i=>simp at h1
 .cases i with
  |zero=>simp at hi
  |succ i=>simp at h
 have sm:∀b o,b≠a->H b=some o->H' b=some o:=fun b o hb h=>(x'.keep b o h fun z=>hb (MP.mp z)).1
 dsimp only at e
 split at e
 .rename_i cs hc
  obtain⟨ms',e3,e5⟩:=bind_some e
  clear e
  obtain⟨a',g1,gc⟩:=R'.sto 0 cs hc
  obtain⟨xs',g2,g3⟩:∃xs,H' a'=some (.lst xs)/\VRs _ μ' H' xs cs:=by
   rcases gc with z|⟨kvs,q,_⟩
   .exact z
   .rw[q] at e3;cases e3
  have ea:a'=a:=by
   have:=x'.ids 0 a' (by simp) g1
   simp at this;exact this.symm
  subst ea
  have ec:=Gd e3
  subst ec
  have ex:=g3.Oa
  subst ex
  cases fl with
  |nx=>cases e5;exact q _ H' sm g2 .non
  |brk=>cases e5
  |cnt=>cases e5
  |ret d =>
   intro v rv
   dsimp only at e5
   obtain⟨r',e4,e6⟩:=map_some e5
   cases e6
   refine q v H' sm g2 (VR.den R' rfl (fun i es b hi hs=>⟨hs,fun hm=>⟨fun z=>?_,?_⟩⟩) (fun m b _ o=>o) (fun b o _ n z=>n ?_) rv e4)
   .have:b=a':=MP.mp z
    subst this
    have:=R'.inj 0 i b g1 hm
    omega
   .have hn:=R'.new i b hi hm
    exact⟨fun _=>hn,.inr hn⟩
   .have:b=a':=MP.mp z
    subst this
    exact U12 g1
 .cases e
end
theorem Ey{np n:Nat}{f:Az}{ds:List D}{r:D}(h:GC np n f ds=some r):ds.length=np/\Bf r=true:=by
 unfold GC at h
 by_cases hl:ds.length=np
 .rw[if_pos hl] at h
  obtain⟨⟨fl,env',S'⟩,e1,e⟩:=bind_some h
  refine⟨hl,?_⟩
  dsimp only at e
  cases fl with
  |nx=>cases e;rfl
  |brk=>cases e
  |cnt=>cases e
  |ret d=>exact Q0 e
 .rw[if_neg hl] at h;cases h
theorem Iv{np n:Nat}{f:Az}{ns:List Int}{ds:List D}{r:D×List Int}(h:runM np n f ns ds=some r):ds.length+1=np/\Bf r.1=true:=by
 unfold runM at h
 by_cases hl:ds.length+1=np
 .rw[if_pos hl] at h
  obtain⟨⟨fl,env',S'⟩,e1,e⟩:=bind_some h
  refine⟨hl,?_⟩
  dsimp only at e
  split at e
  .rename_i cs hc
   obtain⟨ms',e3,e⟩:=bind_some e
   cases fl with
   |nx=>cases e;rfl
   |brk=>cases e
   |cnt=>cases e
   |ret d =>
    dsimp only at e
    obtain⟨r',e4,e⟩:=map_some e
    cases e
    exact Q0 e4
  .cases e
 .rw[if_neg hl] at h;cases h
end VS
end
section
namespace VS
open PySem PySem.Spec L2
structure Dd(P:Program)(w:World)(K:U0a)(mg:Str->Option Value)(base:Heap)(x:Str)(k:Nat)(sem:Eh):Prop where
 cal:∃ps,Cal P w K mg base x k ps (spP K sem ps.length)/\∀ds r,sem ds=some r->ds.length=ps.length/\Bf r=true
structure G3(P:Program)(w:World)(K:U0a)(mg:Str->Option Value)(base:Heap)(x:Str)(k:Nat)(sem:Ih):Prop where
 cal:∃ps,Cal P w K mg base x k ps (spM K sem ps.length)/\∀ns ds r,sem ns ds=some r->ds.length+1=ps.length/\Bf r.1=true
def Ax(sem:Eh)(a:Bd):Av:=fun env S=>(a env S).bind fun p=>(Cz 0 p.2 p.1).bind fun ds=>(sem (CW ds)).bind fun r=>if (BJ p.1||newD r)=true then some (r,p.2) else none
def Am(sem:Ih)(a:Bd):Av:=fun env S=>(a env S).bind fun p=>match p.1 with
 |.ref i::rest=>(match p.2[i]? with
  |some (some cs)=>(intsOf cs).bind fun ns=>(Cz 0 (p.2.set i none) rest).bind fun ds=>(sem ns (CW ds)).bind fun r=>if (BJ rest||newD r.1)=true then some (r.1,p.2.set i (some (r.2.map D.int))) else none
  |_=>none)
 |_=>none
def SN(n:Nat):List D->Option (List D×List D)
 |[]=>none
 |d::r=>if Bj d=true then (SN n r).map fun p=>(d::p.1,p.2) else match d with
  |.lst true ds=>if (Cu ds&&Cu r)=true then some (.ref n::r,ds) else none
  |_=>none
def Mz(n:Nat):D->Option (D×List D)
 |.lst true ds=>if Cu ds=true then some (.ref n,ds) else none
 |.tup es=>(SN n es).map fun p=>(.tup p.1,p.2)
 |_=>none
def JQ(sem:Eh)(a:Bd):Av:=fun env S=>(Ax sem a env S).bind fun p=>(Mz p.2.length p.1).bind fun q=>some (q.1,p.2++[some q.2])
section
variable{Γ:Fr}{μ:Mu}{σ:St}{H H':Hp}{env:Env}{S:Store}
theorem lend{K:U0a}(hK:Γ.K=K)(R:Rep Γ μ σ H env S){S0:Store}{m0:List Addr}{vs:List V}{ds es:List D}(r:VRs Γ μ H vs ds)(e:Cz 0 S0 ds=some es)(h0:∀(i:Nat)(ds:List D)(a:Addr),S0[i]?=some (some ds)->S[i]?=some (some ds)/\(μ[i]?=some (some a)->¬Br (m0.map some) a))(hm:∀a∈m0,Br μ a)
  (c:Bool) (hc:(BJ ds||c)=true):∃N:Addr->Prop,VRs ⟨K,H,N,m0⟩ (m0.map some) H vs (CW es)/\(c=true∨∀a,N a->¬Br μ a/\(Γ.N a∨Γ.H0 a=none)):=by
 subst hK
 have hl:∀a o,H a=some o->¬Br μ a->¬Br (m0.map some) a:=fun a o _ n z=>n (hm a (by simpa [Br] using z))
 by_cases hp:BJ ds=true
 .rw[Dk 0 S0 hp] at e
  cases e
  exact⟨fun a=>¬Br μ a/\(Γ.N a∨Γ.H0 a=none),VRs.age (Γ:=Γ) (Γ':=⟨Γ.K,H,fun a=>¬Br μ a/\(Γ.N a∨Γ.H0 a=none),m0⟩) rfl (fun a n o=>⟨n,o⟩) hl hp r,.inr fun a z=>z⟩
 .have hc':c=true:=by simpa [hp] using hc
  refine⟨fun _=>True,?_,.inl hc'⟩
  have r1:VRs ⟨Γ.K,fun _=>none,fun _=>True,m0⟩ (m0.map some) H vs es:=VRs.den (Γ':=⟨Γ.K,fun _=>none,fun _=>True,m0⟩) R rfl (fun i ds a _ hs=>⟨(h0 i ds a hs).1,fun z=>⟨(h0 i ds a hs).2 z,⟨fun _=>rfl,.inl trivial⟩⟩⟩) (fun m a _ _=>⟨fun _=>rfl,.inl trivial⟩) hl r e
  exact VRs.age (Γ:=⟨Γ.K,fun _=>none,fun _=>True,m0⟩) (Γ':=⟨Γ.K,H,fun _=>True,m0⟩) (μ:=m0.map some) rfl (fun a _ _=>trivial) (fun a o _ n=>n) (Kp e) r1
theorem home{K:U0a}(hK:Γ.K=K)(R:Rep Γ μ σ H env S){N:Addr->Prop}{m0:List Addr}{v:V}{r:D}(lv:∀a,Br μ a->IsL H' a∨IsK H' a)(hp:Bf r=true)(c:newD r=true∨∀a,N a->¬Br μ a/\(Γ.N a∨Γ.H0 a=none))
  (rv:VR ⟨K,H,N,m0⟩ (m0.map some) H' v r):VR Γ μ H' v r:=by
 subst hK
 rcases c with c|c
 .exact VR.new (fun a xs n o hb=>⟨R.ok (o.1 rfl) true,R.dead (o.1 rfl)⟩) c rv
 .refine VR.pure (Γ:=⟨Γ.K,H,N,m0⟩) (Γ':=Γ) rfl (fun m a xs n o hb=>?_) (fun a o hb n hx hy z=>?_) hp rv
  .rcases o.2 with z|z
   .refine⟨⟨fun hm=>R.fresh (o.1 hm),(c a z).2⟩,(c a z).1⟩
   .exact⟨R.ok z m,R.dead z⟩
  .rcases lv a z with ⟨xs,q⟩|⟨xs,q⟩
   .rw[q] at hb
    exact hx xs (U0x hb).symm
   .rw[q] at hb
    exact hy xs (U0x hb).symm
theorem Rep.adopt(R:Rep Γ μ σ H env S)(sm:Same H H'){a:Addr}{xs:List V}{ds:List D}(hn:H a=none)(ha:H' a=some (.lst xs))(hf:Cu ds=true){Γ':Fr}{μ':Mu}(rs:VRs Γ' μ' H' xs ds) :
  Rep Γ (μ++[some a]) σ H' env (S++[some ds])/\Ext μ H (μ++[some a]) H':=by
 have ne:∀b o,H b=some o->b≠a:=fun b o h z=>by rw[z,hn] at h;cases h
 have x:Ext μ H (μ++[some a]) H':=by
  refine⟨fun b o h n=>⟨sm b o h,fun z=>?_⟩,fun b ys h=>sm b _ h,fun b h=>sm.free h,fun i b hi h=>?_,by rw[U0i];omega,fun b _ ⟨ys,h⟩=>⟨ys,sm b _ h⟩,fun b _ ⟨ys,h⟩=>⟨ys,sm b _ h⟩⟩
  .rcases U1l.mp z with z|z
   .exact n z
   .have z':b=a:=by simpa using z
    exact ne b o h z'
  .rw[U00 hi] at h;exact h
 have idx:∀i b,(μ++[some a])[i]?=some (some b)->(i<μ.length/\μ[i]?=some (some b))∨(i=μ.length/\b=a):=fun i b h=>by
  by_cases hi:i<μ.length
  .rw[U00 hi] at h;exact .inl ⟨hi,h⟩
  .rw[U1f (by omega)] at h
   have hl:=(U0h.mp h).1
   have hi':i=μ.length:=by simp at hl;omega
   subst hi'
   simp at h
   exact .inr ⟨rfl,h.symm⟩
 have no:∀i,μ[i]?=some (some a)->False:=fun i h=>R.dead hn (U12 h)
 refine⟨⟨fun i d h=>?_,R.len,fun i es h=>?_,fun i b h=>?_,fun i j b h1 h2=>?_,by rw[U0i,U0i,R.slen];rfl,R.ent.trans x,fun i b hi h=>?_⟩,x⟩
 .obtain⟨v,h1,h2⟩:=R.vals i d h
  exact⟨v,h1,h2.ext x⟩
 .by_cases hi:i<S.length
  .rw[U00 hi] at h
   obtain⟨b,h1,h2⟩:=R.sto i es h
   exact⟨b,by rw[U00 (by rw[←R.slen];exact hi)];exact h1,h2.to x fun o q=>sm _ _ q⟩
  .rw[U1f (by omega)] at h
   have hl:=(U0h.mp h).1
   have hi':i=S.length:=by simp at hl;omega
   subst hi'
   simp at h
   subst h
   exact⟨a,by rw[R.slen];simp,.inl ⟨xs,ha,VRs.flat hf rs⟩⟩
 .rcases idx i b h with ⟨hi,h⟩|⟨rfl,rfl⟩
  .obtain⟨ds',q⟩:=R.liv i b h
   exact⟨ds',by rw[U00 (by rw[R.slen];exact hi)];exact q⟩
  .exact⟨ds,by rw[←R.slen];simp⟩
 .rcases idx i b h1 with ⟨_,g1⟩|⟨e1,e2⟩
  .rcases idx j b h2 with ⟨_,g2⟩|⟨e3,e4⟩
   .exact R.inj i j b g1 g2
   .exact(no i (e4 ▸ g1)).elim
  .rcases idx j b h2 with ⟨_,g2⟩|⟨e3,_⟩
   .exact(no j (e2 ▸ g2)).elim
   .rw[e1,e3]
 .rcases idx i b h with ⟨_,h⟩|⟨rfl,rfl⟩
  .exact R.new i b hi h
  .exact R.fresh hn
end
theorem TY{Γ:Fr}{μ:Mu}{H:Hp}{n:Nat}:∀{vs:List V} {ds:List D} {p:List D×List D},SN n ds=some p->VRs Γ μ H vs ds ->
  ∃a xs,Γ.Ok true a/\H a=some (.lst xs)/\VRs Γ μ H xs p.2/\Cu p.2=true/\∀(Γ':Fr)(μ':Mu),μ'[n]?=some (some a)->VRs Γ' μ' H vs p.1
 |_,[],_,h,_=>by cases h
 |_,d::r,p,h,.cons (xs:=vr) rd rr=>by
  unfold SN at h
  by_cases hf:Bj d=true
  .rw[if_pos hf] at h
   obtain⟨q,e1,e2⟩:=map_some h
   subst e2
   obtain⟨a,xs,h1,h2,h3,h4,h5⟩:=TY e1 rr
   exact⟨a,xs,h1,h2,h3,h4,fun Γ' μ' z=>.cons (VR.flat hf rd) (h5 Γ' μ' z)⟩
  .rw[if_neg hf] at h
   split at h
   .rename_i ds
    by_cases hg:(Cu ds&&Cu r)=true
    .rw[if_pos hg] at h
     cases h
     rw[U0m] at hg
     cases rd with
     |@lst _ a xs _ o nl hb t =>
      refine⟨a,xs,o,hb,t,hg.1,fun Γ' μ' z=>.cons (.ref (U0h.mp z).1 fun b hb'=>?_) (VRs.flat hg.2 rr)⟩
      rw[z] at hb';cases hb';exact⟨rfl,⟨_,hb⟩⟩
    .rw[if_neg hg] at h;cases h
   .cases h
theorem aY{Γ:Fr}{μ:Mu}{H:Hp}{n:Nat}{v:V}{d:D}{p:D×List D}(h:Mz n d=some p)(r:VR Γ μ H v d) :
  ∃a xs,Γ.Ok true a/\H a=some (.lst xs)/\VRs Γ μ H xs p.2/\Cu p.2=true/\∀(Γ':Fr)(μ':Mu),μ'[n]?=some (some a)->VR Γ' μ' H v p.1:=by
 unfold Mz at h
 split at h
 .rename_i ds
  by_cases hg:Cu ds=true
  .rw[if_pos hg] at h
   cases h
   cases r with
   |@lst _ a xs _ o nl hb t =>
    refine⟨a,xs,o,hb,t,hg,fun Γ' μ' z=>.ref (U0h.mp z).1 fun b hb'=>?_⟩
    rw[z] at hb';cases hb';exact⟨rfl,⟨_,hb⟩⟩
  .rw[if_neg hg] at h;cases h
 .rename_i es
  obtain⟨q,e1,e2⟩:=map_some h
  subst e2
  cases r with
  |@tup b xs _ hb t =>
   obtain⟨a,ys,h1,h2,h3,h4,h5⟩:=TY e1 t
   exact⟨a,ys,h1,h2,h3,h4,fun Γ' μ' z=>.tup hb (h5 Γ' μ' z)⟩
 .cases h
section
variable{X:Cx}{x:Str}{k k':Nat}{e:Expr}{es:List Expr}{f:Bd}{p pos:Pos}
theorem Cj{sem:Eh}(c:Dd X.prog X.w X.K X.mg X.base x k sem)(hr:Dm k' X.A)(hk:k<=k')(hg:Gl X x)(ha:JA X (e::es) f)
  (hdb:(x==("__debug__":Str))=false:=by decide) (he:starEach (e::es) X.env=(false,eval e X.env)::starEach es X.env:=by rfl) (hpl:(backTo pos (starEach es X.env)).any (·.1)=false:=by rfl) :
  JE X (.Call (.Name x p) (e::es) [] pos) (Ax sem f):=by
 obtain⟨ps,c,hok⟩:=c.cal
 refine⟨PE.imp (Ph c hr hk hg ha.pa hdb he hpl) fun σ H Q h=>?_⟩
 obtain⟨Γ,μ,env,S,d,S',hK,R,e,q⟩:=h
 obtain⟨⟨as,S1⟩,e1,e⟩:=bind_some e
 obtain⟨ds,e2,e⟩:=bind_some e
 obtain⟨r,e3,e⟩:=bind_some e
 refine⟨Γ,μ,env,S,as,S1,hK,R,e1,fun vs μ1 H1 x1 R1 r1=>?_⟩
 show spP X.K sem ps.length (vs++[]) H1 Q E0
 rw[U1j]
 dsimp only at e e2
 by_cases hc:(BJ as||newD r)=true
 .rw[if_pos hc] at e
  cases e
  obtain⟨hl,hp⟩:=hok _ _ e3
  obtain⟨N,rs,cN⟩:=lend hK R1 (m0:=[]) r1 e2 (fun i ds a hs=>⟨hs,fun _=>Gj⟩) (fun a z=>by simp at z) (newD d) hc
  refine⟨N,_,d,?_,rs,e3,fun v H' sm rv=>?_⟩
  .rw[rs.length,hl]
  obtain⟨R2,x2⟩:=R1.grow sm
  exact q v μ1 H' (x1.trans x2) R2 (home hK R1 (fun a z=>R2.live z) hp cN rv)
 .rw[if_neg hc] at e;cases e
theorem U8{sem:Eh}(c:Dd X.prog X.w X.K X.mg X.base x k sem)(hr:Dm k' X.A)(hk:k<=k')(hg:Gl X x)(ha:JA X (e::es) f)
  (hdb:(x==("__debug__":Str))=false:=by decide) (he:starEach (e::es) X.env=(false,eval e X.env)::starEach es X.env:=by rfl) (hpl:(backTo pos (starEach es X.env)).any (·.1)=false:=by rfl) :
  JE X (.Call (.Name x p) (e::es) [] pos) (JQ sem f):=by
 obtain⟨ps,c,hok⟩:=c.cal
 refine⟨PE.imp (Ph c hr hk hg ha.pa hdb he hpl) fun σ H Q h=>?_⟩
 obtain⟨Γ,μ,env,S,d,S',hK,R,e,q⟩:=h
 obtain⟨⟨d0,S0⟩,e0,e⟩:=bind_some e
 obtain⟨t,et,e⟩:=bind_some e
 cases e
 obtain⟨⟨as,S1⟩,e1,e⟩:=bind_some e0
 obtain⟨ds,e2,e⟩:=bind_some e
 obtain⟨r,e3,e⟩:=bind_some e
 refine⟨Γ,μ,env,S,as,S1,hK,R,e1,fun vs μ1 H1 x1 R1 r1=>?_⟩
 show spP X.K sem ps.length (vs++[]) H1 Q E0
 rw[U1j]
 dsimp only at e e2
 by_cases hc:(BJ as||newD r)=true
 .rw[if_pos hc] at e
  cases e
  obtain⟨hl,hp⟩:=hok _ _ e3
  obtain⟨N,rs,cN⟩:=lend hK R1 (m0:=[]) r1 e2 (fun i ds a hs=>⟨hs,fun _=>Gj⟩) (fun a z=>by simp at z) (newD d0) hc
  refine⟨N,_,d0,?_,rs,e3,fun v H' sm rv=>?_⟩
  .rw[rs.length,hl]
  obtain⟨a,xs,h1,h2,h3,h4,h5⟩:=aY et rv
  obtain⟨R2,x2⟩:=R1.adopt sm (h1.1 rfl) h2 h4 h3
  exact q v _ H' (x1.trans x2) R2 (h5 _ _ (by rw[R1.slen];simp))
 .rw[if_neg hc] at e;cases e
theorem Bv{sem:Ih}(c:G3 X.prog X.w X.K X.mg X.base x k sem)(hr:Dm k' X.A)(hk:k<=k')(hg:Gl X x)(ha:JA X (e::es) f)
  (hdb:(x==("__debug__":Str))=false:=by decide) (he:starEach (e::es) X.env=(false,eval e X.env)::starEach es X.env:=by rfl) (hpl:(backTo pos (starEach es X.env)).any (·.1)=false:=by rfl) :
  JE X (.Call (.Name x p) (e::es) [] pos) (Am sem f):=by
 obtain⟨ps,c,hok⟩:=c.cal
 refine⟨PE.imp (Ph c hr hk hg ha.pa hdb he hpl) fun σ H Q h=>?_⟩
 obtain⟨Γ,μ,env,S,d,S',hK,R,e,q⟩:=h
 obtain⟨⟨as,S1⟩,e1,e⟩:=bind_some e
 refine⟨Γ,μ,env,S,as,S1,hK,R,e1,fun vs μ1 H1 x1 R1 r1=>?_⟩
 show spM X.K sem ps.length (vs++[]) H1 Q E0
 rw[U1j]
 dsimp only at e
 split at e
 .rename_i i rest
  split at e
  .rename_i cs hcs
   obtain⟨ns,e4,e⟩:=bind_some e
   obtain⟨ds,e2,e⟩:=bind_some e
   obtain⟨⟨r,ms⟩,e3,e⟩:=bind_some e
   dsimp only at e
   by_cases hc:(BJ rest||newD r)=true
   .rw[if_pos hc] at e
    cases e
    obtain⟨hl,hp⟩:=hok _ _ _ e3
    have ecs:=Gd e4
    subst ecs
    cases r1 with
    |@cons v0 _ us _ r0 rr =>
     obtain⟨a,xs,rfl,h1,h2,h3⟩:=VR.Yg R1 r0 hcs
     have ex:=h3.Oa
     subst ex
     have hi:i<S1.length:=(U0h.mp hcs).1
     obtain⟨N,rs,cN⟩:=lend hK R1 (S0:=S1.set i none) (m0:=[a]) rr e2 (fun j es b hs=>by
      have hj:i≠j:=fun z=>by
       subst z
       rw[U2r hi] at hs;cases hs
      rw[U2z hj] at hs
      exact⟨hs,fun hm z=>hj (R1.inj i j a h1 (by rw[show a=b from (MP.mp z).symm];exact hm))⟩) (fun b z=>by
       have:b=a:=by simpa using z
       rw[this];exact U12 h1) (newD d) hc
     refine⟨N,a,us,ns,_,d,ms,rfl,?_,h2,rs,e3,fun v H' sm ha' rv=>?_⟩
     .rw[U0f,rs.length,hl]
     obtain⟨R2,x2⟩:=R1.put h1 ⟨_,h2⟩ (VRs.ints ms)
     have sm2:Same (upd H1 a (.lst (ms.map V.int))) H':=fun b o hb=>by
      by_cases z:b=a
      .rw[z,CN] at hb;cases hb;rw[z];exact ha'
      .rw[BK z] at hb;exact sm b o z hb
     obtain⟨R3,x3⟩:=R2.grow sm2
     exact q v μ1 H' (x1.trans (x2.trans x3)) R3 (home hK R1 (fun a z=>R3.live z) hp cN rv)
   .rw[if_neg hc] at e;cases e
  .cases e
 .cases e
end
end VS
end
section
namespace VS
open PySem PySem.Spec L2
theorem OpR.or{X:Cx}{f:Value->Value->Sem Value}{r r':R2}(h:OpR X f r)(h':OpR X f r'):OpR X f (fun x y H Q=>r x y H Q∨r' x y H Q):=fun pins s σ H x y v u Q I rx ry q=>q.elim (fun z=>h pins s σ H x y v u Q I rx ry z) fun z=>h' pins s σ H x y v u Q I rx ry z
theorem Cv.or{X:Cx}{f:Value}{r r':List V->Hp->VK->Prop}(h:Cv X f r)(h':Cv X f r'):Cv X f (fun xs H Q=>r xs H Q∨r' xs H Q):=fun pins s σ H xs us Q I rs q=>q.elim (fun z=>h pins s σ H xs us Q I rs z) fun z=>h' pins s σ H xs us Q I rs z
def oI(c:Int->Int->Bool)(g:Int->Int->D)(_:Store):D->D->Option D
 |.int i,.int j=>if c i j=true then some (g i j) else none
 |_,_=>none
def Gh(_ _:Int):Bool:=true
theorem W9{K:U0a}{C:Int->Int->Prop}{c:Int->Int->Bool}(g:Int->Int->Int)(hc:∀i j,c i j=true->C i j):Ef K (rI C fun i j=>.int (g i j)) (oI c fun i j=>.int (g i j)):=by
 intro Γ μ σ H env S x y dx dy d hK R rx ry e Q q
 unfold oI at e
 split at e
 .rename_i i j
  by_cases h:c i j=true
  .rw[if_pos h] at e;cases e;cases rx;cases ry
   exact⟨i,j,rfl,rfl,hc i j h,q _ H (Same.refl H) (.int _)⟩
  .rw[if_neg h] at e;cases e
 .cases e
theorem gC{K:U0a}(g:Int->Int->Int):Ef K (rI0 fun i j=>.int (g i j)) (oI Gh fun i j=>.int (g i j)):=by
 intro Γ μ σ H env S x y dx dy d hK R rx ry e Q q
 unfold oI at e
 split at e
 .rename_i i j
  rw[if_pos (show Gh i j=true from rfl)] at e;cases e;cases rx;cases ry
  exact⟨i,j,rfl,rfl,q _ H (Same.refl H) (.int _)⟩
 .cases e
theorem QL{K:U0a}(g:Int->Int->Bool):Ef K (rI0 fun i j=>.bl (g i j)) (oI Gh fun i j=>.bl (g i j)):=by
 intro Γ μ σ H env S x y dx dy d hK R rx ry e Q q
 unfold oI at e
 split at e
 .rename_i i j
  rw[if_pos (show Gh i j=true from rfl)] at e;cases e;cases rx;cases ry
  exact⟨i,j,rfl,rfl,q _ H (Same.refl H) (.bl _)⟩
 .cases e
def Fd:=oI Gh fun i j=>.int (i-j)
def Kv(i j:Int):Bool:=(decide (-(2^64)<i)&&decide (i<2^64))||(decide (-(2^64)<j)&&decide (j<2^64))
def Qs(_ j:Int):Bool:=decide (0<j)&&decide (j<2^64)
def Qq(_ j:Int):Bool:=decide (0<j)
def Iu(i j:Int):Bool:=decide (0<=j)&&decide (j<=1000000)&&decide (i.natAbs<2^64)
def oDiv:=oI Qs fun i j=>.int (i/j)
def oMod:=oI Qq fun i j=>.int (i%j)
def DN:=oI Iu fun i j=>.int (i^j.toNat)
def oLt:=oI Gh fun i j=>.bl (decide (i<j))
def oLe:=oI Gh fun i j=>.bl (decide (i<=j))
def oGt:=oI Gh fun i j=>.bl (decide (j<i))
def oGe:=oI Gh fun i j=>.bl (decide (j<=i))
theorem Jr{K:U0a}:Ef K (rI0 fun i j=>.int (i-j)) Fd:=gC _
theorem Vd{K:U0a}:Ef K (rI (fun _ j=>0<j/\j<2^64) fun i j=>.int (i/j)) oDiv:=W9 _ fun i j h=>by simpa [Qs] using h
theorem Js{K:U0a}:Ef K (rI (fun _ j=>0<j) fun i j=>.int (i%j)) oMod:=W9 _ fun i j h=>by simpa [Qq] using h
theorem Gp{K:U0a}:Ef K (rI Yt fun i j=>.int (i^j.toNat)) DN:=W9 _ fun i j h=>by simpa [Iu,Yt,and_assoc] using h
theorem QJ{K:U0a}:Ef K (rI0 fun i j=>.bl (decide (i<j))) oLt:=QL _
theorem T5{K:U0a}:Ef K (rI0 fun i j=>.bl (decide (i<=j))) oLe:=QL _
theorem QK{K:U0a}:Ef K (rI0 fun i j=>.bl (decide (j<i))) oGt:=QL _
theorem T6{K:U0a}:Ef K (rI0 fun i j=>.bl (decide (j<=i))) oGe:=QL _
def Ep(_:Store):D->Option D
 |.int i=>some (.int (-i))
 |_=>none
theorem Hv{K:U0a}:fY K (rU fun i=>.int (-i)) Ep:=by
 intro Γ μ σ H env S x dx d hK R rx e Q q
 unfold Ep at e
 split at e
 .cases e;cases rx;exact⟨_,rfl,q _ H (Same.refl H) (.int _)⟩
 .cases e
def Bk(S:Store):D->D->Option D
 |.int i,.int j=>some (.int (i+j))
 |.tup a,.tup b=>if a.length+b.length<=1000000 then some (.tup (a++b)) else none
 |.str x,.str y=>if x.length+y.length<=1000000 then some (.str (x++y)) else none
 |x,y=>(listOf S x).bind fun a=>(listOf S y).bind fun b=>if a.length+b.length<=1000000 then some (.lst true (a++b)) else none
def Zz:R2:=fun x y H Q=>∃(a b:Addr)(xs ys:List V),x=.ref a/\y=.ref b/\H a=some (.tup xs)/\H b=some (.tup ys)/\xs.length+ys.length<=sizeLine/\∀p H',Same H H'->H' p=some (.tup (xs++ys))->Q (.ref p) H'
def jk:R2:=fun x y H Q=>∃i j,x=.str i/\y=.str j/\i.length+j.length<=sizeLine/\Q (.str (i++j)) H
def aA:R2:=fun x y H Q=>(rI0 fun i j=>.int (i+j)) x y H Q∨Zz x y H Q∨jk x y H Q∨fQ x y H Q
theorem Cp{X:Cx}:OpR X (binaryOp .Add) aA:=OpR.or iJ (OpR.or bZ (OpR.or Wh iI))
theorem Cm{K:U0a}:Ef K aA Bk:=by
 intro Γ μ σ H env S x y dx dy d hK R rx ry e Q q
 unfold Bk at e
 split at e
 .cases e;cases rx;cases ry;exact .inl ⟨_,_,rfl,rfl,q _ H (Same.refl H) (.int _)⟩
 .rename_i a b
  by_cases h:a.length+b.length<=1000000
  .rw[if_pos h] at e;cases e
   cases rx with
   |@tup p xs _ hp rp =>
    cases ry with
    |@tup p2 ys _ hp2 rp2 =>
     refine .inr (.inl ⟨p,p2,xs,ys,rfl,rfl,hp,hp2,by rw[rp.length,rp2.length];exact U2c (big h),fun t H' sm ht=>?_⟩)
     obtain⟨R2,x2⟩:=R.grow sm
     exact q _ H' sm (.tup ht ((rp.append rp2).ext x2))
  .rw[if_neg h] at e;cases e
 .rename_i a b
  by_cases h:a.length+b.length<=1000000
  .rw[if_pos h] at e;cases e;cases rx;cases ry
   exact .inr (.inr (.inl ⟨_,_,rfl,rfl,U2c (big h),q _ H (Same.refl H) (.str _)⟩))
  .rw[if_neg h] at e;cases e
 .obtain⟨a,e1,e⟩:=bind_some e
  obtain⟨b,e2,e⟩:=bind_some e
  by_cases h:a.length+b.length<=1000000
  .rw[if_pos h] at e;cases e
   obtain⟨p,xs,rfl,hp,rp⟩:=VR.list R rx e1
   obtain⟨p2,ys,rfl,hp2,rp2⟩:=VR.list R ry e2
   refine .inr (.inr (.inr ⟨p,p2,xs,ys,rfl,rfl,hp,hp2,by rw[rp.length,rp2.length];exact U2c (big h),fun t ht=>?_⟩))
   obtain⟨R2,x2⟩:=R.grow (Dh ht (.lst (xs++ys)))
   exact q _ _ (Dh ht _) (.lst (R.ok ht true) (R.dead ht) CN ((rp.append rp2).ext x2))
  .rw[if_neg h] at e;cases e
def Ge(S:Store):D->D->Option D
 |.int i,.int j=>if Kv i j=true then some (.int (i*j)) else none
 |.tup a,.int k=>if a≠[]/\1<=k/\k<2^60/\a.length*k.toNat<=1000000 then some (.tup (U0p k.toNat a).flatten) else none
 |x,.int k=>(listOf S x).bind fun a=>if -(2^63)<=k/\k<2^63/\a.length*k.toNat<=1000000 then some (.lst true (U0p k.toNat a).flatten) else none
 |_,_=>none
def Zy:R2:=fun x y H Q=>(rI Sw fun i j=>.int (i*j)) x y H Q∨Zx x y H Q∨fK x y H Q
theorem Hy{X:Cx}:OpR X (binaryOp .Mult) Zy:=OpR.or iG (OpR.or bW iC)
theorem Hw{K:U0a}:Ef K Zy Ge:=by
 intro Γ μ σ H env S x y dx dy d hK R rx ry e Q q
 unfold Ge at e
 split at e
 .rename_i i j
  by_cases h:Kv i j=true
  .rw[if_pos h] at e;cases e;cases rx;cases ry
   exact .inl ⟨_,_,rfl,rfl,by simpa [Kv,Sw] using h,q _ H (Same.refl H) (.int _)⟩
  .rw[if_neg h] at e;cases e
 .rename_i a k
  by_cases h:a≠[]/\1<=k/\k<2^60/\a.length*k.toNat<=1000000
  .rw[if_pos h] at e;cases e
   cases ry
   cases rx with
   |@tup p xs _ hp rp =>
    have hl:=rp.length
    refine .inr (.inl ⟨p,k,xs,rfl,rfl,hp,fun z=>h.1 (U2o.mp (by rw[←hl,z];rfl)),h.2.1,h.2.2.1,by rw[hl];exact U2c (big h.2.2.2),fun t H' sm ht=>?_⟩)
    obtain⟨R2,x2⟩:=R.grow sm
    exact q _ H' sm (.tup ht ((rp.rep _).ext x2))
  .rw[if_neg h] at e;cases e
 .rename_i k _ _
  obtain⟨a,e1,e⟩:=bind_some e
  by_cases h:-(2^63)<=k/\k<2^63/\a.length*k.toNat<=1000000
  .rw[if_pos h] at e;cases e
   cases ry
   obtain⟨p,xs,rfl,hp,rp⟩:=VR.list R rx e1
   refine .inr (.inr ⟨p,k,xs,rfl,rfl,hp,h.1,h.2.1,by rw[rp.length];exact U2c (big h.2.2),fun t ht=>?_⟩)
   obtain⟨R2,x2⟩:=R.grow (Dh ht (.lst (U0p k.toNat xs).flatten))
   exact q _ _ (Dh ht _) (.lst (R.ok ht true) (R.dead ht) CN ((rp.rep _).ext x2))
  .rw[if_neg h] at e;cases e
 .cases e
def oIx(S:Store):D->D->Option D
 |x,.int i=>(Fx S x).bind fun ds=>atI ds i
 |_,_=>none
theorem dJ{Γ:Fr}{μ:Mu}{H:Hp}{xs:List V}{ds:List D}{i:Int}{d:D}(r:VRs Γ μ H xs ds)(h:atI ds i=some d):∃x,atI xs i=some x/\VR Γ μ H x d:=by
 unfold atI at h ⊢
 obtain⟨j,e1,e2⟩:=bind_some h
 obtain⟨x,f1,f2⟩:=r.get e2
 exact⟨x,by rw[r.length,e1];exact f1,f2⟩
theorem BX{K:U0a}:Ef K (rIx K) oIx:=by
 intro Γ μ σ H env S x y dx dy d hK R rx ry e Q q
 unfold oIx at e
 split at e
 .rename_i i
  obtain⟨ds,e1,e⟩:=bind_some e
  cases ry
  obtain⟨a,xs,rfl,hq,rs⟩:=VR.seq hK R rx e1
  obtain⟨v,f1,f2⟩:=dJ rs e
  rcases hq with hq|hq
  .exact .inl ⟨a,xs,i,v,rfl,rfl,hq,f1,q _ H (Same.refl H) f2⟩
  .exact .inr (.inl ⟨a,xs,i,v,rfl,rfl,hq,f1,q _ H (Same.refl H) f2⟩)
 .cases e
def cut(xs:List D)(lo hi:Option Int):List D:=(xs.drop (HT.sIx xs.length 0 lo)).take (HT.sIx xs.length xs.length hi-HT.sIx xs.length 0 lo)
def oSl(S:Store)(x:D)(lo hi:Option Int):Option D:=match x with
 |.tup ds=>some (.tup (cut ds lo hi))
 |x=>(Fx S x).map fun ds=>.lst true (cut ds lo hi)
def fH:V->Option Int->Option Int->Hp->VK->Prop:=fun x lo hi H Q=>∃(a:Addr)(xs:List V),x=.ref a/\H a=some (.tup xs)/\∀p H',Same H H'->H' p=some (.tup (Ig xs lo hi))->Q (.ref p) H'
def fJ(K:U0a):V->Option Int->Option Int->Hp->VK->Prop:=fun x lo hi H Q=>fH x lo hi H Q∨fG K x lo hi H Q
theorem Sx{X:Cx}:SlR X (fJ X.K):=SlR.or ak ao
theorem T4{K:U0a}:aL K (fJ K) oSl:=by
 intro Γ μ σ H env S x dx d l h hK R rx e Q q
 have key:∀{xs:List V} {ds:List D} {H':Hp},VRs Γ μ H' xs ds->VRs Γ μ H' (Ig xs l h) (cut ds l h):=fun r=>by
  unfold Ig cut
  rw[r.length]
  exact(r.drop _).take _
 unfold oSl at e
 split at e
 .cases e
  cases rx with
  |@tup p xs _ hp rp =>
   refine .inl ⟨p,xs,rfl,hp,fun t H' sm ht=>?_⟩
   obtain⟨R2,x2⟩:=R.grow sm
   exact q _ H' sm (.tup ht (key (rp.ext x2)))
 .rename_i ht
  obtain⟨ds,e1,e2⟩:=map_some e
  subst e2
  rcases VR.Ye hK R rx e1 with ⟨es,z⟩|⟨a,xs,rfl,hq,rs⟩
  .exact absurd z (ht es)
  .refine .inr ⟨a,xs,rfl,hq,fun t htt=>?_⟩
   obtain⟨R2,x2⟩:=R.grow (Dh htt (.lst (Ig xs l h)))
   exact q _ _ (Dh htt _) (.lst (R.ok htt true) (R.dead htt) CN (key (rs.ext x2)))
def NK(S:Store):List D->Option D
 |[x]=>(Fx S x).map fun ds=>.int ds.length
 |_=>none
theorem Vb{K:U0a}:K6 K (m9 K) NK:=by
 intro Γ μ σ H env S xs ds d hK R rs e Q q
 unfold NK at e
 split at e
 .obtain⟨es,e1,e2⟩:=map_some e
  subst e2
  obtain⟨v,rfl,r⟩:=rs.one
  obtain⟨a,xs,rfl,hq,rx⟩:=VR.seq hK R r e1
  refine⟨a,xs,rfl,hq,?_⟩
  rw[rx.length]
  exact q _ H (Same.refl H) (.int _)
 .cases e
def K5(S:Store):List D->Option D
 |[x]=>(listOf S x).bind fun ds=>(boolsOf ds).map fun bs=>.bl (bs.all id)
 |_=>none
where boolsOf:List D->Option (List Bool)
 |[]=>some []
 |.bl b::r=>(boolsOf r).map (b::·)
 |_=>none
@[simp] theorem VB(bs:List Bool):K5.boolsOf (bs.map D.bl)=some bs:=by
 induction bs with
 |nil=>rfl
 |cons b r ih=>rw[U0n,K5.boolsOf,ih];rfl
theorem Pa{Γ:Fr}{μ:Mu}{H:Hp}:∀{xs:List V} {ds:List D} {bs:List Bool},VRs Γ μ H xs ds->K5.boolsOf ds=some bs->xs=bs.map V.bl
 |_,[],_,.nil,h=>by cases h;rfl
 |_,.bl b::r,bs,.cons q t,h=>by
  rw[K5.boolsOf] at h
  obtain⟨cs,e1,e2⟩:=map_some h
  subst e2
  cases q
  rw[U0n,Pa t e1]
 |_,.non::_,_,_,h=>by cases h
 |_,.int _::_,_,_,h=>by cases h
 |_,.str _::_,_,_,h=>by cases h
 |_,.ty _::_,_,_,h=>by cases h
 |_,.tup _::_,_,_,h=>by cases h
 |_,.lst _ _::_,_,_,h=>by cases h
 |_,.ref _::_,_,_,h=>by cases h
 |_,.scr _::_,_,_,h=>by cases h
 |_,.emp::_,_,_,h=>by cases h
def mF(K:U0a):List V->Hp->VK->Prop:=fun xs H Q=>∃(p:Addr)(bs:List Bool),xs=[.ref p]/\SqL K H p (bs.map V.bl)/\Q (.bl (bs.all id)) H
theorem Ve{K:U0a}:K6 K (mF K) K5:=by
 intro Γ μ σ H env S xs ds d hK R rs e Q q
 unfold K5 at e
 split at e
 .obtain⟨es,e1,e⟩:=bind_some e
  obtain⟨bs,e2,e3⟩:=map_some e
  subst e3
  obtain⟨v,rfl,r⟩:=rs.one
  obtain⟨a,xs,rfl,ha,rx⟩:=VR.list R r e1
  have:=Pa rx e2
  subst this
  exact⟨a,bs,rfl,SqL.of ha,q _ H (Same.refl H) (.bl _)⟩
 .cases e
def Sh(_:Store):List D->Option D
 |[.int i,.int j]=>some (.int (if j>i then j else i))
 |_=>none
def Kg(_:Store):List D->Option D
 |[.int i,.int j]=>some (.int (if j<i then j else i))
 |_=>none
def M9(_:Store):List D->Option D
 |[.int i]=>some (.int i)
 |[.bl k]=>some (.int (if k then 1 else 0))
 |_=>none
theorem Z5{K:U0a}:K6 K (fun xs H Q=>∃i j,xs=[.int i,.int j]/\Q (.int (if j>i then j else i)) H) Sh:=by
 intro Γ μ σ H env S xs ds d hK R rs e Q q
 unfold Sh at e
 split at e
 .cases e
  obtain⟨v,u,rfl,r1,r2⟩:=rs.two
  cases r1;cases r2
  exact⟨_,_,rfl,q _ H (Same.refl H) (.int _)⟩
 .cases e
theorem Td{K:U0a}:K6 K (fun xs H Q=>∃i j,xs=[.int i,.int j]/\Q (.int (if j<i then j else i)) H) Kg:=by
 intro Γ μ σ H env S xs ds d hK R rs e Q q
 unfold Kg at e
 split at e
 .cases e
  obtain⟨v,u,rfl,r1,r2⟩:=rs.two
  cases r1;cases r2
  exact⟨_,_,rfl,q _ H (Same.refl H) (.int _)⟩
 .cases e
theorem Vc{K:U0a}:K6 K (fun xs H Q=>(∃i,xs=[.int i]/\Q (.int i) H)∨∃k,xs=[.bl k]/\Q (.int (if k then 1 else 0)) H) M9:=by
 intro Γ μ σ H env S xs ds d hK R rs e Q q
 unfold M9 at e
 split at e
 .cases e
  obtain⟨v,rfl,r1⟩:=rs.one
  cases r1
  exact .inl ⟨_,rfl,q _ H (Same.refl H) (.int _)⟩
 .cases e
  obtain⟨v,rfl,r1⟩:=rs.one
  cases r1
  exact .inr ⟨_,rfl,q _ H (Same.refl H) (.int _)⟩
 .cases e
def Hj:List Int->Option Int
 |[]=>none
 |n::r=>some (r.foldl (fun a b=>if a<b then b else a) n)
theorem cu(r:List Int):∀n:Int,(r.foldl (fun a b=>if a<b then b else a) n=n∨r.foldl (fun a b=>if a<b then b else a) n∈r)/\n<=r.foldl (fun a b=>if a<b then b else a) n/\∀m∈r,m<=r.foldl (fun a b=>if a<b then b else a) n:=by
 induction r with
 |nil=>intro n;exact⟨.inl rfl,U4j _,fun m h=>by simp at h⟩
 |cons x r ih =>
  intro n
  rw[U22]
  by_cases h:n<x
  .rw[if_pos h]
   obtain⟨h1,h2,h3⟩:=ih x
   refine⟨.inr (by rcases h1 with z|z;(rw[z];exact U04);exact U0o _ z),by omega,fun m hm=>?_⟩
   rcases U0u.mp hm with z|z
   .rw[z];exact h2
   .exact h3 m z
  .rw[if_neg h]
   obtain⟨h1,h2,h3⟩:=ih n
   refine⟨by rcases h1 with z|z;exact .inl z;exact .inr (U0o _ z),h2,fun m hm=>?_⟩
   rcases U0u.mp hm with z|z
   .rw[z];omega
   .exact h3 m z
theorem Ln{ns:List Int}{m:Int}(h:Hj ns=some m):m∈ns/\∀n∈ns,n<=m:=by
 cases ns with
 |nil=>cases h
 |cons x r =>
  cases h
  obtain⟨h1,h2,h3⟩:=cu r x
  refine⟨by rcases h1 with z|z;(rw[z];exact U04);exact U0o _ z,fun n hn=>?_⟩
  rcases U0u.mp hn with z|z
  .rw[z];exact h2
  .exact h3 n z
def QF(S:Store):List D->Option D
 |[x]=>(listOf S x).bind fun ds=>(intsOf ds).bind fun ns=>(Hj ns).map .int
 |_=>none
theorem Z4{K:U0a}:K6 K (fun xs H Q=>∃(p:Addr)(ns:List Int),xs=[.ref p]/\SqL K H p (ns.map V.int)/\ns≠[]/\∀m,m∈ns->(∀n∈ns,n<=m)->Q (.int m) H) QF:=by
 intro Γ μ σ H env S xs ds d hK R rs e Q q
 unfold QF at e
 split at e
 .obtain⟨es,e1,e⟩:=bind_some e
  obtain⟨ns,e2,e⟩:=bind_some e
  obtain⟨m,e3,e4⟩:=map_some e
  subst e4
  obtain⟨v,rfl,r⟩:=rs.one
  obtain⟨a,xs,rfl,ha,rx⟩:=VR.list R r e1
  have:=Gd e2
  subst this
  have:=rx.Oa
  subst this
  refine⟨a,ns,rfl,SqL.of ha,(fun z=>by rw[z] at e3;cases e3),fun m' h1 h2=>?_⟩
  obtain⟨g1,g2⟩:=Ln e3
  have:m'=m:=U6p (g2 _ h1) (h2 _ g1)
  rw[this]
  exact q _ H (Same.refl H) (.int _)
 .cases e
def Yp(K:U0a)(r:List V->Hp->VK->Prop)(g:Store->List D->Option (List D)):Prop:=∀(Γ:Fr)(μ:Mu)(σ:St)(H:Hp)(env:Env)(S:Store)(xs:List V)(ds es:List D),Γ.K=K->Rep Γ μ σ H env S->VRs Γ μ H xs ds->g S ds=some es ->
 ∀Q:VK,(∀l ys,H l=none->VRs Γ μ H ys es->Q (.ref l) (upd H l (.lst ys)))->r xs H Q
def QD(g:Store->List D->Option (List D))(a:Bd):Av:=fun env S=>(a env S).bind fun p=>(g p.2 p.1).map fun es=>(.lst true es,p.2)
theorem aO{K:U0a}{r:List V->Hp->VK->Prop}{g:Store->List D->Option (List D)}{f:Bd}(hs:Yp K r g){σ:St}{H:Hp}{Q:VK}(h:wpE K (QD g f) σ H Q):tCB r (wpA K f) σ H Q:=by
 obtain⟨Γ,μ,env,S,d,S',hK,R,e,q⟩:=h
 obtain⟨⟨x,S1⟩,e1,e⟩:=bind_some e
 obtain⟨z,e4,e⟩:=map_some e
 cases e
 refine⟨Γ,μ,env,S,x,S1,hK,R,e1,fun v1 μ1 H1 x1 R1 r1=>?_⟩
 refine hs Γ μ1 σ H1 env S1 v1 x _ hK R1 r1 e4 Q fun l ys hl ry=>?_
 obtain⟨R4,x4⟩:=R1.grow (Dh hl (.lst ys))
 exact q _ μ1 _ (x1.trans x4) R4 (.lst (R1.ok hl true) (R1.dead hl) CN (ry.ext x4))
section
variable{X:Cx}{x:Str}{p pos:Pos}{e:Expr}{es:List Expr}{T:String}{f:Bd}{r:List V->Hp->VK->Prop}{g:Store->List D->Option (List D)}
theorem cW(hc:Cv X (.type T) r)(hsm:Yp X.K r g)(hg:Gl X x)(hm:X.mg x=none)(hv:bootBuiltins x=some (.type T))(ha:JA X (e::es) f)(hn:x≠"__name__":=by decide)(hdb:(x==("__debug__":Str))=false:=by decide)
  (he:starEach (e::es) X.env=(false,eval e X.env)::starEach es X.env:=by rfl) (hpl:(backTo pos (starEach es X.env)).any (·.1)=false:=by rfl):JE X (.Call (.Name x p) (e::es) [] pos) (QD g f) :=
 ⟨PE.imp (Nu hc hg hm hv ha.pa hn hdb he hpl) fun _ _ _ h=>aO hsm h⟩
end
def nList(S:Store):List D->Option (List D)
 |[x]=>Fx S x
 |_=>none
theorem Z6{K:U0a}:Yp K (bC K) nList:=by
 intro Γ μ σ H env S xs ds es hK R rs e Q q
 unfold nList at e
 split at e
 .obtain⟨v,rfl,r⟩:=rs.one
  obtain⟨a,ys,rfl,hq,ry⟩:=VR.seq hK R r e
  exact⟨a,ys,rfl,hq,fun l hl=>q l ys hl ry⟩
 .cases e
end VS
end
section
namespace VS
open PySem PySem.Spec L2
mutual
def toP:D->Option PyData
 |.non=>some .none
 |.bl b=>some (.bool b)
 |.int i=>some (.int i)
 |.str x=>some (.str x)
 |.tup ds=>(HD ds).map .tuple
 |.lst _ ds=>(HD ds).map .list
 |.emp=>some (.dict [])
 |.ref _=>none
 |.scr _=>none
 |.ty _=>none
 |.dref _=>none
 |.dcf _=>none
 |.dcm _=>none
def HD:List D->Option (List PyData)
 |[]=>some []
 |d::r=>(toP d).bind fun x=>(HD r).bind fun xs=>some (x::xs)
end
mutual
theorem VR.tr{Γ:Fr}{μ:Mu}{H:Hp}:∀{v:V} {d:D} {p:PyData},VR Γ μ H v d->toP d=some p->Tr (fun _=>True) H v p
 |_,_,_,.non,h=>by rw[toP] at h;cases h;exact .non
 |_,_,_,.bl b,h=>by rw[toP] at h;cases h;exact .bl b
 |_,_,_,.int i,h=>by rw[toP] at h;cases h;exact .int i
 |_,_,_,.str x,h=>by rw[toP] at h;cases h;exact .str x
 |_,_,_,.ty _,h=>by rw[toP] at h;cases h
 |_,_,_,.tup hb t,h=>by
  rw[toP] at h
  obtain⟨ps,e1,e2⟩:=map_some h
  subst e2
  exact .tup trivial hb (VRs.tr t e1)
 |_,_,_,.lst _ _ hb t,h=>by
  rw[toP] at h
  obtain⟨ps,e1,e2⟩:=map_some h
  subst e2
  exact .lst trivial hb (VRs.tr t e1)
 |_,_,_,.ref _ _,h=>by rw[toP] at h;cases h
 |_,_,_,.scrK _,h=>by rw[toP] at h;cases h
 |_,_,_,.scrR _ _,h=>by rw[toP] at h;cases h
 |_,_,_,.emp _ _ hb,h=>by rw[toP] at h;cases h;exact .dct trivial hb
 |_,_,_,.dref _ _,h=>by rw[toP] at h;cases h
 |_,_,_,.dcf _ _ _,h=>by rw[toP] at h;cases h
theorem VRs.tr{Γ:Fr}{μ:Mu}{H:Hp}:∀{v:List V} {d:List D} {p:List PyData},VRs Γ μ H v d->HD d=some p->Ii (fun _=>True) H v p
 |_,_,_,.nil,h=>by rw[HD] at h;cases h;exact .nil
 |_,_,_,.cons r t,h=>by
  rw[HD] at h
  obtain⟨x,e1,h⟩:=bind_some h
  obtain⟨xs,e2,h⟩:=bind_some h
  cases h
  exact .cons (VR.tr r e1) (VRs.tr t e2)
end
def CT(S:Store)(d:D):Option PyData:=(den 0 S d).bind toP
theorem VR.see{Γ:Fr}{μ:Mu}{σ:St}{H:Hp}{env:Env}{S:Store}{v:V}{d:D}{p:PyData}(R:Rep Γ μ σ H env S)(r:VR Γ μ H v d)(h:CT S d=some p):Tr (fun _=>True) H v p:=by
 obtain⟨e,e1,e2⟩:=bind_some h
 have r1:VR ⟨Γ.K,fun _=>none,fun _=>True,[]⟩ [] H v e:=VR.den (Γ':=⟨Γ.K,fun _=>none,fun _=>True,[]⟩) R rfl (fun i ds a _ hs=>⟨hs,fun z=>⟨Gj,⟨fun _=>rfl,.inl trivial⟩⟩⟩) (fun m a _ _=>⟨fun _=>rfl,.inl trivial⟩) (fun a o _ _=>Gj) r e1
 exact r1.tr e2
def eqP(neg:Bool)(S:Store)(x y:D):Option D:=(CT S x).bind fun p=>(CT S y).bind fun q=>if (U19 p&&U19 q)=true then some (.bl (neg ^^ U6x p q)) else none
def oEq(neg:Bool)(S:Store):D->D->Option D
 |.int i,.int j=>some (.bl (neg ^^ decide (i=j)))
 |x,y=>eqP neg S x y
def mD:R2:=fun x y H Q=>∃(N N':Addr->Prop)(d e:PyData),Tr N H x d/\Tr N' H y e/\U19 d=true/\U19 e=true/\Q (.bl (U6x d e)) H
def m8:R2:=fun x y H Q=>∃(N N':Addr->Prop)(d e:PyData),Tr N H x d/\Tr N' H y e/\U19 d=true/\U19 e=true/\Q (.bl (!PyData.eqv d e)) H
def fP:R2:=fun x y H Q=>rEq x y H Q∨mD x y H Q
def Yh:R2:=fun x y H Q=>rNe x y H Q∨m8 x y H Q
theorem Le{X:Cx}{k:Nat}(hr:Dm k X.A):OpR X (compareOp .Eq) fP:=OpR.or jz (iH hr)
theorem Lb{X:Cx}{k:Nat}(hr:Dm k X.A):OpR X (compareOp .NotEq) Yh:=OpR.or jy (iD hr)
theorem LQ{K:U0a}:Ef K fP (oEq false):=by
 intro Γ μ σ H env S x y dx dy d hK R rx ry e Q q
 unfold oEq at e
 split at e
 .rename_i i j
  cases e;cases rx;cases ry
  refine .inl ⟨rfl,?_⟩
  have:decide (V.int i=V.int j)=decide (i=j):=by simp
  rw[this]
  exact q _ H (Same.refl H) (by simpa using VR.bl (decide (i=j)))
 .unfold eqP at e
  obtain⟨p,e1,e⟩:=bind_some e
  obtain⟨p2,e2,e⟩:=bind_some e
  by_cases h:(U19 p&&U19 p2)=true
  .rw[if_pos h] at e
   cases e
   rw[U0m] at h
   exact .inr ⟨_,_,p,p2,rx.see R e1,ry.see R e2,h.1,h.2,q _ H (Same.refl H) (by simpa using VR.bl (U6x p p2))⟩
  .rw[if_neg h] at e;cases e
theorem QH{K:U0a}:Ef K Yh (oEq true):=by
 intro Γ μ σ H env S x y dx dy d hK R rx ry e Q q
 unfold oEq at e
 split at e
 .rename_i i j
  cases e;cases rx;cases ry
  refine .inl ⟨rfl,?_⟩
  have:decide (V.int i=V.int j)=decide (i=j):=by simp
  rw[this]
  exact q _ H (Same.refl H) (by simpa using VR.bl (!decide (i=j)))
 .unfold eqP at e
  obtain⟨p,e1,e⟩:=bind_some e
  obtain⟨p2,e2,e⟩:=bind_some e
  by_cases h:(U19 p&&U19 p2)=true
  .rw[if_pos h] at e
   cases e
   rw[U0m] at h
   exact .inr ⟨_,_,p,p2,rx.see R e1,ry.see R e2,h.1,h.2,q _ H (Same.refl H) (by simpa using VR.bl (!PyData.eqv p p2))⟩
  .rw[if_neg h] at e;cases e
section
variable{X:Cx}{a:Expr}{fa:Av}{x:Str}{p pos:Pos}{dM:Addr}{D:List (PyData×PyData)}
end
def isT(T:String)(d:PyData):Bool:=match T with
 |"str"=>(match d with|.str _=>true|_=>false)
 |T=>Ss T d
theorem cT{K:U0a}(d:PyData):U20 K (.type (tyName d)) (.type "str")=some (isT "str" d):=by
 cases d with
 |none=>exact Bs (a:="NoneType") (r:=false) (by decide +kernel)
 |bool _=>exact Bs (a:="bool") (r:=false) (by decide +kernel)
 |int _=>exact Bs (a:="int") (r:=false) (by decide +kernel)
 |str _=>exact Bs (a:="str") (r:=true) (by decide +kernel)
 |list _=>exact Bs (a:="list") (r:=false) (by decide +kernel)
 |tuple _=>exact Bs (a:="tuple") (r:=false) (by decide +kernel)
 |dict _=>exact Bs (a:="dict") (r:=false) (by decide +kernel)
def Hl(S:Store):List D->Option D
 |[x,.ty "int"]=>(CT S x).map fun p=>.bl (isT "int" p)
 |[x,.ty "bool"]=>(CT S x).map fun p=>.bl (isT "bool" p)
 |[x,.ty "tuple"]=>(CT S x).map fun p=>.bl (isT "tuple" p)
 |[x,.ty "list"]=>(CT S x).map fun p=>.bl (isT "list" p)
 |[x,.ty "str"]=>(CT S x).map fun p=>.bl (isT "str" p)
 |[x,.tup [.ty "tuple",.ty "list"]]=>(CT S x).bind fun p=>if noDict p=true then some (.bl (isSeq p)) else none
 |_=>none
def mC(K:U0a):List V->Hp->VK->Prop:=fun xs H Q=>∃(x:V)(T:String)(t:Value)(b:Bool),xs=[x,.ty T]/\Ho K H x t/\U20 K t (.type T)=some b/\Q (.bl b) H
def ji:List V->Hp->VK->Prop:=fun xs H Q=>∃(N:Addr->Prop)(x:V)(d:PyData)(p:Addr),xs=[x,.ref p]/\H p=some (.tup [.ty "tuple",.ty "list"])/\Tr N H x d/\noDict d=true/\Q (.bl (isSeq d)) H
def WD(K:U0a):List V->Hp->VK->Prop:=fun xs H Q=>mC K xs H Q∨ji xs H Q
theorem Mg{X:Cx}:Cv X (.builtin "isinstance") (WD X.K):=Cv.or V9 SJ
theorem Od{K:U0a}:K6 K (WD K) Hl:=by
 intro Γ μ σ H env S xs ds d hK R rs e Q q
 have go:∀(T:String)(x:D),(∀p:PyData,U20 K (.type (tyName p)) (.type T)=some (isT T p))->ds=[x,.ty T]->((CT S x).map fun p=>D.bl (isT T p))=some d->WD K xs H Q:=fun T x hk hd e'=>by
  subst hd
  obtain⟨p,e1,e2⟩:=map_some e'
  subst e2
  obtain⟨v,u,rfl,r1,r2⟩:=rs.two
  cases r2
  exact .inl ⟨v,T,_,_,rfl,(r1.see R e1).ty,hk p,q _ H (Same.refl H) (.bl _)⟩
 unfold Hl at e
 split at e
 .exact go "int" _ cU rfl e
 .exact go "bool" _ Ze rfl e
 .exact go "tuple" _ kit_tuple rfl e
 .exact go "list" _ Zd rfl e
 .exact go "str" _ cT rfl e
 .obtain⟨p,e1,e⟩:=bind_some e
  by_cases h:noDict p=true
  .rw[if_pos h] at e
   cases e
   obtain⟨v,u,rfl,r1,r2⟩:=rs.two
   cases r2 with
   |@tup a ys _ ha ry =>
    cases ry with
    |cons q1 t1 =>
     cases t1 with
     |cons q2 t2 =>
      cases t2;cases q1;cases q2
      exact .inr ⟨_,v,p,a,rfl,ha,r1.see R e1,h,q _ H (Same.refl H) (.bl _)⟩
  .rw[if_neg h] at e;cases e
 .cases e
def El(S:Store):List D->Option D
 |[x]=>(CT S x).bind fun p=>if (p.showable&&decide (p.depth<=60)&&decide (p.shown.length<=1000000))=true then some (.str p.shown) else none
 |_=>none
def jh:List V->Hp->VK->Prop:=fun xs H Q=>∃(N:Addr->Prop)(v:V)(d:PyData),xs=[v]/\Tr N H v d/\d.showable=true/\d.depth<=60/\d.shown.length<=sizeLine/\Q (.str d.shown) H
theorem MK{K:U0a}:K6 K jh El:=by
 intro Γ μ σ H env S xs ds d hK R rs e Q q
 unfold El at e
 split at e
 .obtain⟨p,e1,e⟩:=bind_some e
  by_cases h:(p.showable&&decide (p.depth<=60)&&decide (p.shown.length<=1000000))=true
  .rw[if_pos h] at e
   cases e
   simp only[U0m,decide_eq_true_eq] at h
   obtain⟨v,rfl,r1⟩:=rs.one
   exact⟨_,v,p,rfl,r1.see R e1,h.1.1,h.1.2,U2c (big h.2),q _ H (Same.refl H) (.str _)⟩
  .rw[if_neg h] at e;cases e
 .cases e
def Gm(ns:List Int):List Int:=(SetP.once ns).mergeSort fun a b=>decide (a<=b)
theorem Wb{ns ms:List Int}(h:ms.Perm (SetP.once ns))(s:ms.Pairwise (·<=·)):ms=Gm ns:=by
 have h2:(Gm ns).Perm (SetP.once ns):=U4z _ _
 have s2:(Gm ns).Pairwise (·<=·):=by
  have:=List.pairwise_mergeSort (le:=fun a b:Int=>decide (a<=b)) (by intro a b c h1 h2;simp at *;omega) (by intro a b;simp;omega) (SetP.once ns)
  exact this.imp fun h=>by simpa using h
 exact U16.eq_of_pairwise (fun a b _ _ h1 h2=>U6p h1 h2) s s2 (h.trans h2.symm)
section
variable{X:Cx}{a:Expr}{as:List Expr}{f:Bd}{p p2 pos pos2:Pos}
end
end VS
end
section
namespace VS
open PySem PySem.Spec L2
def QG(K:U0a):Sp:=fun vs H Q _=>∃(l:Addr)(ns:List Int),vs=[.ref l]/\Only H/\ns.length<=63/\SqL K H l (ns.map V.int)/\∀H',Q (.bl true) H'
theorem iU{K:U0a}{sem:Eh}(h:∀ns:List Int,ns.length<=63->sem [.scr ns]=some (.bl true)):∀vs H Q E,QG K vs H Q E->spP K sem 1 vs H Q E:=by
 intro vs H Q E ⟨l,ns,e,hO,hl,hq,q⟩
 subst e
 refine⟨fun _=>False,[.scr ns],.bl true,rfl,.cons ?_ .nil,h ns hl,fun v H' sm rv=>?_⟩
 .rcases hq with hq|hq
  .rcases hq with hq|⟨o,hq⟩
   .rcases hO l with z|⟨o,xs,z⟩
    .rw[z] at hq;cases hq
    .rw[z] at hq;cases hq
   .exact .scrR Gj hq
  .exact .scrK fun H'=>.inr hq
 .cases rv;exact q H'
end VS
end
section
namespace VS
open PySem L2
theorem G4(a b:Az)(env:VS.Env)(S:Store):VS.Bq a b env S=(a env S).bind fun p=>match p.1 with|.nx=>b p.2.1 p.2.2|f=>some (f,p.2.1,p.2.2):=rfl
theorem Ce(i:Nat)(a:Av)(env:VS.Env)(S:Store):VS.Bh i a env S=(a env S).bind fun p=>some (.nx,env.set i (some p.1),p.2):=rfl
theorem Cg(a:Av)(env:VS.Env)(S:Store):VS.Dc a env S=(a env S).bind fun p=>some (.ret p.1,env,p.2):=rfl
theorem LR(c:Dw)(a b:Az)(env:VS.Env)(S:Store):VS.sIf c a b env S=(c env S).bind fun p=>if p.1=true then a env p.2 else b env p.2:=rfl
theorem bB(a:Av)(g:K7)(env:VS.Env)(S:Store):VS.W2 a g env S=(a env S).bind fun p=>(g p.1 env).bind fun e=>some (.nx,e,p.2):=rfl
theorem Lk(a:Av)(env:VS.Env)(S:Store):VS.Hh a env S=(a env S).bind fun p=>some (.nx,env,p.2):=rfl
theorem Jt(env:VS.Env)(S:Store):VS.Fy  env S=some (.nx,env,S):=rfl
theorem Gq(it:JZ)(g:K7)(b:Az)(env:VS.Env)(S:Store):VS.K3 it g b env S=(it env S).bind fun p=>loop p.1.2 g b p.1.1 env p.2:=rfl
theorem Nq(v o i:Av)(env:VS.Env)(S:Store):VS.QM v o i env S=(v env S).bind fun p=>(o env p.2).bind fun q=>(i env q.2).bind fun r=>match q.1,r.1 with
 |.ref j,.int k=>(match r.2[j]? with
  |some (some ds)=>(ixN ds.length k).bind fun n=>some (.nx,env,r.2.set j (some (ds.set n p.1)))
  |_=>none)
 |_,_=>none:=rfl
theorem DY(i:Nat)(env:VS.Env)(S:Store):VS.Ac i env S=(env[i]?.join).map fun d=>(d,S):=rfl
theorem GD(d:D)(env:VS.Env)(S:Store):VS.eC d env S=some (d,S):=rfl
theorem Bb(g:Store->D->D->Option D)(a b:Av)(env:VS.Env)(S:Store):VS.eOp g a b env S=(a env S).bind fun p=>(b env p.2).bind fun q=>(g q.2 p.1 q.1).map fun d=>(d,q.2):=rfl
theorem j6(g:Store->D->Option D)(a:Av)(env:VS.Env)(S:Store):VS.eUn g a env S=(a env S).bind fun p=>(g p.2 p.1).map fun d=>(d,p.2):=rfl
theorem Dj(env:VS.Env)(S:Store):VS.Ae  env S=some ([],S):=rfl
theorem Aq(a:Av)(r:Bd)(env:VS.Env)(S:Store):VS.Aa a r env S=(a env S).bind fun p=>(r env p.2).bind fun q=>some (p.1::q.1,q.2):=rfl
theorem FP(g:Store->List D->Option D)(a:Bd)(env:VS.Env)(S:Store):VS.eCB g a env S=(a env S).bind fun p=>(g p.2 p.1).map fun d=>(d,p.2):=rfl
theorem Jz(a b:Av)(env:VS.Env)(S:Store):VS.M8 a b env S=(a env S).bind fun p=>match p.1 with|.bl true=>b env p.2|.bl false=>some (.bl false,p.2)|_=>none:=rfl
theorem j7(a b:Av)(env:VS.Env)(S:Store):VS.eOr a b env S=(a env S).bind fun p=>match p.1 with|.bl true=>some (.bl true,p.2)|.bl false=>b env p.2|_=>none:=rfl
theorem dF(a:Av)(env:VS.Env)(S:Store):VS.Qp a env S=(a env S).bind fun p=>match p.1 with|.bl c=>some (.bl (!c),p.2)|_=>none:=rfl
theorem YJ(g g':Store->D->D->Option D)(a b c:Av)(env:VS.Env)(S:Store):VS.Qa g g' a b c env S=(a env S).bind fun p=>(b env p.2).bind fun q=>(g q.2 p.1 q.1).bind fun z=>match z with
 |.bl true=>(c env q.2).bind fun r=>(g' r.2 q.1 r.1).map fun d=>(d,r.2)
 |.bl false=>some (.bl false,q.2)
 |_=>none:=rfl
theorem DX(a:Av)(env:VS.Env)(S:Store):VS.Bm a env S=(a env S).bind fun p=>match p.1 with|.bl c=>some (c,p.2)|_=>none:=rfl
theorem Lj(a b:Dw)(env:VS.Env)(S:Store):VS.K1 a b env S=(a env S).bind fun p=>if p.1=true then b env p.2 else some (false,p.2):=rfl
theorem X6(a b:Dw)(env:VS.Env)(S:Store):VS.tOr a b env S=(a env S).bind fun p=>if p.1=true then some (true,p.2) else b env p.2:=rfl
theorem Ob(a:Dw)(env:VS.Env)(S:Store):VS.M4 a env S=(a env S).bind fun p=>some (!p.1,p.2):=rfl
theorem Di(a:Bd)(env:VS.Env)(S:Store):VS.BL a env S=(a env S).bind fun p=>some (.lst true p.1,p.2):=rfl
theorem dD(a:Bd)(env:VS.Env)(S:Store):VS.JX a env S=(a env S).bind fun p=>some (.ref p.2.length,p.2++[some p.1]):=rfl
theorem Lw(a:Bd)(env:VS.Env)(S:Store):VS.BW a env S=(a env S).bind fun p=>some (.tup p.1,p.2):=rfl
theorem Ko(sem:Eh)(a:Bd)(env:VS.Env)(S:Store):VS.Ax sem a env S=(a env S).bind fun p=>(Cz 0 p.2 p.1).bind fun ds=>(sem (CW ds)).bind fun r=>if (BJ p.1||newD r)=true then some (r,p.2) else none:=rfl
theorem Nv(sem:Ih)(a:Bd)(env:VS.Env)(S:Store):VS.Am sem a env S=(a env S).bind fun p=>match p.1 with
 |.ref i::rest=>(match p.2[i]? with
  |some (some cs)=>(intsOf cs).bind fun ns=>(Cz 0 (p.2.set i none) rest).bind fun ds=>(sem ns (CW ds)).bind fun r=>if (BJ rest||newD r.1)=true then some (r.1,p.2.set i (some (r.2.map D.int))) else none
  |_=>none)
 |_=>none:=rfl
theorem YH(sem:Eh)(a:Bd)(env:VS.Env)(S:Store):VS.JQ sem a env S=(Ax sem a env S).bind fun p=>(Mz p.2.length p.1).bind fun q=>some (q.1,p.2++[some q.2]):=rfl
theorem UW(g:Store->D->List D->Option (D×Store))(o:Av)(a:Bd)(env:VS.Env)(S:Store):VS.Gn g o a env S=(o env S).bind fun p=>if (listOf p.2 p.1).isSome then (a env p.2).bind fun q=>g q.2 p.1 q.1 else none:=rfl
theorem Zk(g:Store->List D->Option (List D))(a:Bd)(env:VS.Env)(S:Store):VS.QD g a env S=(a env S).bind fun p=>(g p.2 p.1).map fun es=>(.lst true es,p.2):=rfl
theorem Om(a:Av)(env:VS.Env)(S:Store):VS.Dl a env S=(a env S).bind fun p=>(Fx p.2 p.1).map fun ds=>((ds,idOf ds p.1),p.2):=rfl
theorem Dy(np n:Nat)(f:Az)(ds:List D):VS.GC np n f ds=if ds.length=np then (f (ds.map some++U0p (n-ds.length) none) []).bind fun p=>match p.1 with|.ret d=>den 0 p.2.2 d|.nx=>some .non|_=>none else none:=rfl
theorem Gs(np n:Nat)(f:Az)(ns:List Int)(ds:List D):VS.runM np n f ns ds=if ds.length+1=np then (f (some (.ref 0)::(ds.map some++U0p (n-1-ds.length) none)) [some (ns.map D.int)]).bind fun p=>match p.2.2[0]? with
 |some (some cs)=>(intsOf cs).bind fun ms=>(match p.1 with|.ret d=>(den 1 p.2.2 d).map fun r=>(r,ms)|.nx=>some (.non,ms)|_=>none)
 |_=>none
 else none:=rfl
theorem Es(i:Nat)(d:D)(env:VS.Env):Pat.sem (.nm i) d env=some (env.set i (some d)):=by rw[Pat.sem]
theorem Ng(ps:List Pat)(ds:List D)(env:VS.Env):Pat.sem (.tp ps) (.tup ds) env=G9 ps ds env:=by rw[Pat.sem]
theorem KD(env:VS.Env):G9 [] [] env=some env:=by rw[G9]
theorem JV(p:Pat)(ps:List Pat)(d:D)(ds:List D)(env:VS.Env):G9 (p::ps) (d::ds) env=(Pat.sem p d env).bind fun e=>G9 ps ds e:=by rw[G9]
@[simp] theorem n8(S:Store):calm [] S=True:=by simp[calm]
@[simp] theorem n6(i:Nat)(ds:List D)(S:Store):calm [(i,ds)] S=(S[i]?=some (some ds)):=by simp[calm]
@[simp] theorem nT{α:Type}(S:List α)(a:α):(S++[a])[S.length]?=some a:=by simp
@[simp] theorem nO{α:Type}(S:List α)(a b:α):(S++[a]).set S.length b=S++[b]:=by simp
theorem Ol{n k:Nat}(h:k<n):ixN n (k:Int)=some k:=by
 unfold ixN
 rw[if_pos (by omega),if_pos (by omega)];simp
@[simp] theorem kh{n:Nat}:ixN (n+1) 0=some 0:=Ol (k:=0) (by omega)
@[simp] theorem kZ{n:Nat}:ixN (n+2) 1=some 1:=Ol (k:=1) (by omega)
@[simp] theorem kY{n:Nat}:ixN (n+3) 2=some 2:=Ol (k:=2) (by omega)
@[simp] theorem kW{n:Nat}:ixN (n+4) 3=some 3:=Ol (k:=3) (by omega)
@[simp] theorem nq{α:Type}(a:α)(l:List α):atI (a::l) 0=some a:=by unfold atI;rw[U0f,kh];rfl
@[simp] theorem nj{α:Type}(a b:α)(l:List α):atI (a::b::l) 1=some b:=by unfold atI;rw[U0f,U0f,kZ];rfl
@[simp] theorem ni{α:Type}(a b c:α)(l:List α):atI (a::b::c::l) 2=some c:=by unfold atI;rw[U0f,U0f,U0f,kY];rfl
@[simp] theorem nZ{α:Type}(a b c d:α)(l:List α):atI (a::b::c::d::l) 3=some d:=by unfold atI;rw[U0f,U0f,U0f,U0f,kW];rfl
theorem cJ{w:List (Nat×List D)}{g:K7}{b:Az}(I:Nat->Env->Store->Prop)(R:D->Store->Prop){ds:List D}{env:Env}{S:Store}(h0:I 0 env S)(hc:∀i env S,I i env S->calm w S)
  (step:∀i d env S,ds[i]?=some d->I i env S->∃env1,g d env=some env1/\((∃env2 S2,(b env1 S=some (.nx,env2,S2)∨b env1 S=some (.cnt,env2,S2))/\I (i+1) env2 S2)∨∃r env2 S2,b env1 S=some (.ret r,env2,S2)/\R r S2)) :
  (∃env' S',loop w g b ds env S=some (.nx,env',S')/\I ds.length env' S')∨∃r env' S',loop w g b ds env S=some (.ret r,env',S')/\R r S':=by
 have key:∀(l:List D)(i:Nat)(env:Env)(S:Store),ds.drop i=l->i<=ds.length->I i env S->(∃env' S',loop w g b l env S=some (.nx,env',S')/\I ds.length env' S')∨∃r env' S',loop w g b l env S=some (.ret r,env',S')/\R r S':=by
  intro l
  induction l with
  |nil =>
   intro i env S hd hi h
   have:i=ds.length:=by
    have:=congrArg U3b hd
    simp at this;omega
   subst this
   exact .inl ⟨env,S,by unfold loop;rw[if_pos (hc _ _ _ h)],h⟩
  |cons d r ih =>
   intro i env S hd hi h
   have hlt:i<ds.length:=by
    have:=congrArg U3b hd
    simp at this;omega
   have e:ds[i]?=some d:=by
    rw[U2t hlt] at hd
    rw[U0q hlt,(List.cons.inj hd).1]
   have hr:ds.drop (i+1)=r:=by
    rw[U2t hlt] at hd
    exact(List.cons.inj hd).2
   obtain⟨env1,e1,q⟩:=step i d env S e h
   rcases q with ⟨env2,S2,e2,q⟩|⟨v,env2,S2,e2,q⟩
   .have e3:loop w g b (d::r) env S=loop w g b r env2 S2:=by
     rcases e2 with e2|e2<;>(rw[loop,if_pos (hc _ _ _ h),e1];show(b env1 S).bind _=_;rw[e2];rfl)
    rw[e3]
    exact ih (i+1) env2 S2 hr hlt q
   .refine .inr ⟨v,env2,S2,?_,q⟩
    rw[loop,if_pos (hc _ _ _ h),e1]
    show(b env1 S).bind _=_
    rw[e2];rfl
 exact key ds 0 env S (by simp) (U3c _) h0
theorem GF{w:List (Nat×List D)}{g:K7}{b:Az}(I:Nat->Env->Store->Prop){ds:List D}{env:Env}{S:Store}(h0:I 0 env S)(hc:∀i env S,I i env S->calm w S)
  (step:∀i d env S,ds[i]?=some d->I i env S->∃env1,g d env=some env1/\∃env2 S2,b env1 S=some (.nx,env2,S2)/\I (i+1) env2 S2) :
  ∃env' S',loop w g b ds env S=some (.nx,env',S')/\I ds.length env' S':=by
 rcases cJ I (fun _ _=>False) h0 hc (fun i d env S e h=>by
  obtain⟨env1,e1,env2,S2,e2,q⟩:=step i d env S e h
  exact⟨env1,e1,.inl ⟨env2,S2,.inl e2,q⟩⟩) with h|⟨_,_,_,_,h⟩
 .exact h
 .exact h.elim
theorem Lx{α:Type}{w:List (Nat×List D)}{e0:VS.Env}{g:K7}{t:Dw}{f:Av}{S:Store}(hc:calm w S)(enc:α->D)(p:α->Bool)(F:α->D):∀(l:List α)(ys:List D),ys.length+l.length<=1000000 ->
  (∀a∈l,∃e1,g (enc a) e0=some e1/\t e1 S=some (p a,S)/\(p a=true->f e1 S=some (F a,S)))->J9 w e0 g t f (l.map enc) ys S=some (ys++(l.filter p).map F,S)
 |[],ys,hl,_=>by rw[U1m,J9,if_pos ⟨hc,by simpa using hl⟩];simp
 |d::r,ys,hl,h=>by
  rw[U0f] at hl
  obtain⟨e1,h1,h2,h3⟩:=h d U04
  have hr:∀x∈r,_:=fun x hx=>h x (U0o _ hx)
  rw[U0n,J9,if_pos ⟨hc,by omega⟩,h1]
  simp only[U0b,h2]
  by_cases hp:p d=true
  .simp only[hp,if_true,h3 hp,U0b]
   rw[Lx hc enc p F r (ys++[F d]) (by rw[U0i];simp;omega) hr,List.filter_cons_of_pos hp]
   simp
  .rw[if_neg hp,List.filter_cons_of_neg hp]
   exact Lx hc enc p F r ys (by omega) hr
theorem Oo{α:Type}{w:List (Nat×List D)}{e0:VS.Env}{g:K7}{f:Av}{S:Store}(hc:calm w S)(enc F:α->D)(l:List α)(hl:l.length<=1000000)(h:∀a∈l,∃e1,g (enc a) e0=some e1/\f e1 S=some (F a,S)):J9 w e0 g VS.Ir f (l.map enc) [] S=some (l.map F,S):=by
 have:=Lx (t:=VS.Ir) hc enc (fun _=>true) F l [] (by simpa using hl) (fun d hd=>let ⟨e1,h1,h2⟩:=h d hd;⟨e1,h1,rfl,fun _=>h2⟩)
 rw[this,U1y,List.filter_eq_self.mpr (by simp)]
theorem Qu(lo:Int)(n:Nat):(upD lo n).length=n:=by unfold upD;rw[U0g,U6b]
theorem VJ{lo:Int}{n i:Nat}{d:D}(h:(upD lo n)[i]?=some d):i<n/\d=.int (lo+i):=by
 have hi:i<n:=by rw[←Qu lo n];exact(U0h.mp h).1
 unfold upD at h
 rw[U0v,List.getElem?_range hi] at h
 cases h
 exact⟨hi,rfl⟩
theorem Xv{j:Int}(h0:-1000000<=j)(h1:j<=1000000):r62 j:=⟨U6i (by decide) h0,Int.lt_of_le_of_lt h1 (by decide)⟩
theorem XC{f:Bd}{env:VS.Env}{S S':Store}{j:Int}(n:Nat)(hf:f env S=some ([.int j],S'))(hn:j.toNat=n)(h0:-1000000<=j)(h1:j<=1000000):J3 f env S=some ((upD 0 n,[]),S'):=by
 unfold J3
 rw[hf,U0b]
 show(if r62 j then some ((upD 0 j.toNat,([]:List (Nat×List D))),S') else none)=_
 rw[if_pos (Xv h0 h1),hn]
theorem gJ{f:Bd}{env:VS.Env}{S S':Store}{i j:Int}(n:Nat)(hf:f env S=some ([.int i,.int j],S'))(hn:(j-i).toNat=n)(h0:r62 i)(h1:r62 j):Ls f env S=some ((upD i n,[]),S'):=by
 unfold Ls
 rw[hf,U0b]
 show(if r62 i/\r62 j then some ((upD i (j-i).toNat,([]:List (Nat×List D))),S') else none)=_
 rw[if_pos ⟨h0,h1⟩,hn]
theorem G8{α:Type}{F:α->D}(l:List α)(h:∀a∈l,Bj (F a)=true):Cu (l.map F)=true:=by
 induction l with
 |nil=>rfl
 |cons a r ih=>rw[U0n,Cu,h a U04,ih fun b hb=>h b (U0o _ hb)];rfl
theorem Z1{α:Type}{F:α->D}{G:α->PyData}(l:List α)(h:∀a∈l,toP (F a)=some (G a)):HD (l.map F)=some (l.map G):=by
 induction l with
 |nil=>rw[U1m,HD];rfl
 |cons a r ih=>rw[U0n,HD,h a U04,ih fun b hb=>h b (U0o _ hb)];rfl
abbrev St2:=Int×Int
def Ak(p:St2):D:=.tup [.int p.1,.int p.2]
def Fz(b:List St2):D:=.tup (b.map Ak)
def N6(m:Bool)(n:Nat)(bs:List (List St2)):D:=.tup [.int n,.lst m (bs.map Fz)]
@[simp] theorem Eu(p:St2):Bj (Ak p)=true:=rfl
@[simp] theorem IW(b:List St2):Bj (Fz b)=true:=by rw[Fz,Bj];exact G8 b fun p _=>Eu p
theorem Ft(bs:List (List St2)):Cu (bs.map Fz)=true:=G8 bs fun b _=>IW b
def pS(p:St2):PyData:=.tuple [.int p.1,.int p.2]
def pB(b:List St2):PyData:=.tuple (b.map pS)
theorem Pg(p:St2):toP (Ak p)=some (pS p):=by simp[Ak,toP,HD,pS]
theorem Z0(b:List St2):toP (Fz b)=some (pB b):=by rw[Fz,toP,Z1 b fun p _=>Pg p];rfl
@[simp] theorem nG(S:Store)(x:D):Hl S [x,.ty "int"]=(CT S x).map fun p=>.bl (isT "int" p):=rfl
@[simp] theorem jG:isT "int" (.none)=false:=rfl
@[simp] theorem jK(b:Bool):isT "int" (.bool b)=true:=rfl
@[simp] theorem jR(i:Int):isT "int" (.int i)=true:=rfl
@[simp] theorem jQ(s:Str):isT "int" (.str s)=false:=rfl
@[simp] theorem jH(l:List PyData):isT "int" (.list l)=false:=rfl
@[simp] theorem eG(l:List PyData):isT "int" (.tuple l)=false:=rfl
@[simp] theorem jJ(l:List (PyData×PyData)):isT "int" (.dict l)=false:=rfl
@[simp] theorem lU(S:Store)(x:D):Hl S [x,.ty "bool"]=(CT S x).map fun p=>.bl (isT "bool" p):=rfl
@[simp] theorem eH:isT "bool" (.none)=false:=rfl
@[simp] theorem eU(b:Bool):isT "bool" (.bool b)=true:=rfl
@[simp] theorem jM(i:Int):isT "bool" (.int i)=false:=rfl
@[simp] theorem jL(s:Str):isT "bool" (.str s)=false:=rfl
@[simp] theorem eN(l:List PyData):isT "bool" (.list l)=false:=rfl
@[simp] theorem dZ(l:List PyData):isT "bool" (.tuple l)=false:=rfl
@[simp] theorem eO(l:List (PyData×PyData)):isT "bool" (.dict l)=false:=rfl
@[simp] theorem X3(S:Store)(x:D):Hl S [x,.ty "tuple"]=(CT S x).map fun p=>.bl (isT "tuple" p):=rfl
@[simp] theorem dR:isT "tuple" (.none)=false:=rfl
@[simp] theorem dX(b:Bool):isT "tuple" (.bool b)=false:=rfl
@[simp] theorem dh(i:Int):isT "tuple" (.int i)=false:=rfl
@[simp] theorem dg(s:Str):isT "tuple" (.str s)=false:=rfl
@[simp] theorem dU(l:List PyData):isT "tuple" (.list l)=false:=rfl
@[simp] theorem aN(l:List PyData):isT "tuple" (.tuple l)=true:=rfl
@[simp] theorem dW(l:List (PyData×PyData)):isT "tuple" (.dict l)=false:=rfl
@[simp] theorem YX(S:Store)(x:D):Hl S [x,.ty "list"]=(CT S x).map fun p=>.bl (isT "list" p):=rfl
@[simp] theorem dw:isT "list" (.none)=false:=rfl
@[simp] theorem eF(b:Bool):isT "list" (.bool b)=false:=rfl
@[simp] theorem jF(i:Int):isT "list" (.int i)=false:=rfl
@[simp] theorem jE(s:Str):isT "list" (.str s)=false:=rfl
@[simp] theorem dz(l:List PyData):isT "list" (.list l)=true:=rfl
@[simp] theorem dY(l:List PyData):isT "list" (.tuple l)=false:=rfl
@[simp] theorem eE(l:List (PyData×PyData)):isT "list" (.dict l)=false:=rfl
@[simp] theorem nA(S:Store)(x:D):Hl S [x,.ty "str"]=(CT S x).map fun p=>.bl (isT "str" p):=rfl
@[simp] theorem jA:isT "str" (.none)=false:=rfl
@[simp] theorem jD(b:Bool):isT "str" (.bool b)=false:=rfl
@[simp] theorem jP(i:Int):isT "str" (.int i)=false:=rfl
@[simp] theorem jO(s:Str):isT "str" (.str s)=true:=rfl
@[simp] theorem jB(l:List PyData):isT "str" (.list l)=false:=rfl
@[simp] theorem dj(l:List PyData):isT "str" (.tuple l)=false:=rfl
@[simp] theorem jC(l:List (PyData×PyData)):isT "str" (.dict l)=false:=rfl
@[simp] theorem nF(S:Store)(x:D):Hl S [x,.tup [.ty "tuple",.ty "list"]]=(CT S x).bind fun p=>if noDict p=true then some (.bl (isSeq p)) else none:=rfl
@[simp] theorem mW(S:Store)(i:Int):CT S (.int i)=some (.int i):=by simp[CT,den,toP]
@[simp] theorem nP(S:Store)(b:Bool):CT S (.bl b)=some (.bool b):=by simp[CT,den,toP]
@[simp] theorem mV(S:Store):CT S .non=some .none:=by simp[CT,den,toP]
@[simp] theorem mU(S:Store)(x:Str):CT S (.str x)=some (.str x):=by simp[CT,den,toP]
@[simp] theorem lJ(S:Store)(p:St2):CT S (Ak p)=some (pS p):=by rw[CT,J4 0 S (G7 (Eu p))];exact Pg p
@[simp] theorem lK(S:Store)(b:List St2):CT S (Fz b)=some (pB b):=by rw[CT,J4 0 S (G7 (IW b))];exact Z0 b
@[simp] theorem Jm(ns:List Int):Cu (ns.map D.int)=true:=G8 ns fun _ _=>rfl
@[simp] theorem YK(k:Nat)(S:Store)(ns:List Int):Cz k S (ns.map D.int)=some (ns.map D.int):=Dk k S (Bp (Jm ns))
@[simp] theorem lV(ns:List Int):CW (ns.map D.int)=ns.map D.int:=Ew (Jm ns)
@[simp] theorem Wf(ns:List Int):BJ (ns.map D.int)=true:=Bp (Jm ns)
@[simp] theorem lR(ns:List Int):newL (ns.map D.int)=true:=Kl (Jm ns)
theorem TV(lo:Int)(n:Nat):upD lo n=((U3o n).map fun(i:Nat)=>lo+(i:Int)).map D.int:=by unfold upD;rw[U0s];rfl
@[simp] theorem mz(k:Nat)(S:Store)(lo:Int)(n:Nat):Cz k S (upD lo n)=some (upD lo n):=by rw[TV];exact YK ..
@[simp] theorem lQ(lo:Int)(n:Nat):BJ (upD lo n)=true:=by rw[TV];exact Wf _
@[simp] theorem lG(k:Nat)(S:Store)(bs:List (List St2)):Cz k S (bs.map Fz)=some (bs.map Fz):=Dk k S (Bp (Ft bs))
@[simp] theorem lH(bs:List (List St2)):CW (bs.map Fz)=bs.map Fz:=Ew (Ft bs)
@[simp] theorem jN(bs:List (List St2)):BJ (bs.map Fz)=true:=Bp (Ft bs)
@[simp] theorem lF(bs:List (List St2)):newL (bs.map Fz)=true:=Kl (Ft bs)
@[simp] theorem jT(bs:List (List St2)):Cu (bs.map Fz)=true:=Ft bs
@[simp] theorem mZ(k:Nat)(S:Store)(p:St2):den k S (Ak p)=some (Ak p):=J4 k S (G7 (Eu p))
@[simp] theorem mq(k:Nat)(S:Store)(b:List St2):den k S (Fz b)=some (Fz b):=J4 k S (G7 (IW b))
@[simp] theorem nH(p:St2):age (Ak p)=Ak p:=Pu (Eu p)
@[simp] theorem nM(b:List St2):age (Fz b)=Fz b:=Pu (IW b)
@[simp] theorem lM(p:St2):Bf (Ak p)=true:=G7 (Eu p)
@[simp] theorem lO(b:List St2):Bf (Fz b)=true:=G7 (IW b)
@[simp] theorem mX(p:St2):newD (Ak p)=true:=Ma (Eu p)
@[simp] theorem mY(b:List St2):newD (Fz b)=true:=Ma (IW b)
@[simp] theorem mj(k:Nat)(S:Store)(m:Bool)(n:Nat)(bs:List (List St2)):den k S (N6 m n bs)=some (N6 m n bs):=by simp[N6,den,Cz,Dk k S (Bp (Ft bs))]
@[simp] theorem nJ(m:Bool)(n:Nat)(bs:List (List St2)):age (N6 m n bs)=N6 false n bs:=by simp[N6,age,CW,Ew (Ft bs)]
@[simp] theorem lN(m:Bool)(n:Nat)(bs:List (List St2)):Bf (N6 m n bs)=true:=by simp[N6,Bf,BJ,Bp (Ft bs)]
structure Good(n:Nat)(bs:List (List St2)):Prop where
 ways:n=1∨n=2∨n=3
 most:bs.length<=[0,20,10,6].getD n 0
 box:∀b∈bs,b.length=n/\∀p∈b,p.1<p.2/\-1000000000<=p.1/\p.2<=1000000000
def lev:Nat->PyData->Bool
 |_,.none=>true
 |_,.bool _=>true
 |_,.int _=>true
 |k+1,.list xs=>xs.all (lev k)
 |k+1,.tuple xs=>xs.all (lev k)
 |_,_=>false
theorem Qz{k:Nat}(ih:∀d,lev k d=true->U35 d=true/\d.depth<=k):∀xs:List PyData,xs.all (lev k)=true->U5k xs=true/\U3z xs<=k
 |[],_=>⟨by rw[U5k],by rw[U3z];omega⟩
 |x::xs,h=>by
  rw[List.all_cons,U0m] at h
  obtain⟨h1,h2⟩:=ih x h.1
  obtain⟨h3,h4⟩:=Qz ih xs h.2
  exact⟨by rw[U5k,h1,h3];rfl,by rw[U3z];omega⟩
theorem QV:∀(k:Nat)(d:PyData),lev k d=true->U35 d=true/\d.depth<=k
 |k,.none,_=>⟨by rw[U35],by rw[U2v];omega⟩
 |k,.bool _,_=>⟨by rw[U35],by rw[U2v];omega⟩
 |k,.int _,_=>⟨by rw[U35],by rw[U2v];omega⟩
 |0,.list _,h=>by simp[lev] at h
 |0,.tuple _,h=>by simp[lev] at h
 |k,.str _,h=>by cases k<;>simp[lev] at h
 |k,.dict _,h=>by cases k<;>simp[lev] at h
 |k+1,.list xs,h=>by
  rw[lev] at h
  obtain⟨h1,h2⟩:=Qz (QV k) xs h
  exact⟨by rw[U35];exact h1,by rw[U2v];omega⟩
 |k+1,.tuple xs,h=>by
  rw[lev] at h
  obtain⟨h1,h2⟩:=Qz (QV k) xs h
  exact⟨by rw[U35];exact h1,by rw[U2v];omega⟩
theorem Qd{k:Nat}{d:PyData}(h:lev k d=true)(hk:k<=60):U19 d=true:=by
 obtain⟨h1,h2⟩:=QV k d h
 unfold U19
 rw[h1,U6z]
 exact decide_eq_true (by omega)
theorem Py{neg:Bool}{S:Store}{x y:D}{p:PyData}(k:Nat)(hx:CT S x=some p)(hy:CT S y=some p)(h:lev k p=true)(hk:k<=60):eqP neg S x y=some (.bl (neg ^^ true)):=by
 unfold eqP
 rw[hx,hy]
 simp only[U0b]
 rw[Qd h hk,SeqAt.eqv_refl _ (QV k p h).1];rfl
theorem dB{neg:Bool}{S:Store}{x:D}{m:Bool}{l:List PyData}(k:Nat)(hx:CT S x=some (.list l))(h:lev k (.list l)=true)(hk:k<=60):eqP neg S x (.lst m [])=some (.bl (neg ^^ l.isEmpty)):=by
 unfold eqP
 have hy:CT S (.lst m [])=some (.list []):=by simp[CT,den,Cz,toP,HD]
 rw[hx,hy]
 simp only[U0b]
 rw[Qd h hk]
 cases l with
 |nil=>rfl
 |cons a r=>rfl
theorem iT(k:Nat)(p:St2):lev (k+1) (pS p)=true:=by simp[pS,lev]
theorem Ba{a b:Az}{env env1:VS.Env}{S S1:Store}(h:a env S=some (.nx,env1,S1)):Bq a b env S=b env1 S1:=by rw[G4,h];rfl
theorem K9{c:Dw}{a b:Az}{env:VS.Env}{S S1:Store}(h:c env S=some (true,S1)):sIf c a b env S=a env S1:=by rw[LR,h];rfl
theorem Gg{c:Dw}{a b:Az}{env:VS.Env}{S S1:Store}(h:c env S=some (false,S1)):sIf c a b env S=b env S1:=by rw[LR,h];rfl
end VS
end
section
namespace VS
open PySem PySem.Spec L2
end VS
namespace HT
open PySem PySem.Spec PyProof PyProof.Rows
end HT
namespace L2
open PySem PySem.Spec PyProof PyProof.Rows
end L2
namespace VS
open PySem PySem.Spec L2
end VS
end
section
set_option maxRecDepth 100000
namespace HT
open PySem PySem.Spec PyProof.Rows
section
variable{prog:Program}{w:World}{A:Around}{E:Value->Shared->Prop}{s:Shared}
variable{z TI TO i1 i2 T:Addr}{fp1 fp2:List Addr}{n1 n2 k:Nat}{P1 P2:Nat->Value->Prop}{S1 S2:Nat->Heap->Prop}{c:Bool}
end
end HT
end
section
namespace L2
open PySem PySem.Spec PyProof.Rows
section
variable{X:Cx}{pins:List (Addr×Obj)}{σ:St}{H:Hp}{s:Shared}
end
section
variable{X:Cx}
end
end L2
end
section
namespace VS
open PySem PySem.Spec L2 PyProof.Rows
end VS
end
section
namespace VS
open PySem PySem.Spec L2
end VS
end
section
namespace HT
open PySem PySem.Spec PyProof PyProof.Rows
end HT
namespace L2
open PySem PySem.Spec PyProof PyProof.Rows
end L2
end
section
namespace VS
open PySem PySem.Spec L2
def M5(neg:Bool)(_:Store):D->D->Option D
 |.str a,.str b=>some (.bl (neg ^^ decide (a=b)))
 |_,_=>none
theorem Va{K:U0a}:Ef K Yh (M5 true):=by
 intro Γ μ σ H env S x y dx dy d hK R rx ry e Q q
 unfold M5 at e
 split at e
 .rename_i a b
  cases e;cases rx;cases ry
  refine .inl ⟨rfl,?_⟩
  have:decide (V.str a=V.str b)=decide (a=b):=by simp
  rw[this]
  exact q _ H (Same.refl H) (by simpa using VR.bl (!decide (a=b)))
 .cases e
end VS
end
section
namespace L2
open PySem PySem.Spec PyProof PyProof.Rows
section
variable{X:Cx}
end
end L2
end
section
namespace HT
open PySem PySem.Spec PyProof PyProof.Rows
section
variable{P0:Program}{wd:World}{Ar:Around}{Er:Value->Shared->Prop}{sh:Shared}
theorem YT{nm:String}{bi:Builtin}{xs:List Value}{kv:List (Str×Value)}{Qv:Value->Shared->Prop}(k1:builtinKind nm=none)(k2:plainId nm=true)(k3:entryFor table nm=some bi)(k4:argsOk nm ⟨xs,kv⟩)
  (k5:wpAny (model P0 wd) Ar.in1 (bi ⟨xs,kv⟩) (fun fin t=>match fin with
   |.done f=>(match (Except.ok f:Result) with|.ok (.ret v)=>Qv v t|.ok _=>False|.error e=>Er e t)
   |.again c=>c.quiet=true/\codeAny (model P0 wd) Ar c (fun r t'=>match r with|.ok (.ret v)=>Qv v t'|.ok _=>False|.error e=>Er e t') t) Er sh):wpAny (model P0 wd) Ar (call (.builtin nm) xs kv) Qv Er sh:=by
 apply wpAny_call;apply codeAny_call_builtin k2 k3
 simp only[checkBuiltinCall,k1]
 cases g:Manifest.signature? nm with
 |none=>exact U0c k5
 |some sg =>
  have e:Bind.checkArgs nm sg ⟨xs,kv⟩=pure ():=by simpa only[argsOk,g] using k4
  simp only[e];exact U0c k5
theorem Oj:(toString "max"++toString ".loop":String)="max.loop":=by decide
variable{J:Addr}{fp wr:List Addr}{n:Nat}{P:Nat->Value->Prop}{St:Nat->Heap->Prop}{Rr:Result->Shared->Prop}{dv:Value}
theorem Y7(W:Walks P0 wd Ar.in1 J fp wr n P St)(bt:Nat->Nat->Bool)(hG:CmpOf P0 wd Ar.in1 .Gt P bt)(B:Addr)(nB:B ∉ fp) :
  ∀(k j:Nat)(t:Shared)(vb:Value)(c:Nat),n-(j+1)=k->j+1<=n->St (j+1) t.heap->P (argBest bt j) vb->t.heap.get? B=some { cls:=.type "list",dict:=none,data:=.seq #[vb,vb] c,slots:=#[] } ->
  (∀v h' tk,P (argBest bt (n-1)) v->(∀b o,b ∉ wr->b≠B->t.heap.get? b=some o->h'.get? b=some o)->Rr (.ok (.ret v)) { t with heap:=h',toks:=tk }) ->
  codeAny (model P0 wd) Ar (.builtin "max.loop" ⟨[.ref J,.none,.ref B],[("default",dv)]⟩) Rr t:=by
 have wB:B ∉ wr:=fun h=>nB (W.sub _ h)
 intro k
 induction k with
 |zero =>
  intro j t vb c q1 q2 q3 q4 q5 q6
  have jn:j+1=n:=by omega
  apply codeAny_builtin U6j;rw[U2p U3n _]
  show wpAny _ Ar.in1 (seqItems? (.ref B) >>= _) _ _ t
  apply U0;apply U5c q5 rfl
  show wpAny _ Ar.in1 (tryCatch (pyNext (.ref J)) _ >>= _) _ _ t
  refine U0 (U5e (W.done t _ _ (jn ▸ q3) fun h1 tk1 kp=>?_))
  have q5':=kp B _ wB q5
  show wpAny _ Ar.in1 (updateSeq B (fun _=>#[]) >>= _) _ _ _
  apply U0;apply U43 q5' rfl
  refine U0 (U6s (U0c (q6 vb _ tk1 (by rw[←jn];exact q4) fun b o n1 n2 e=>(U0z _ _ (U3l n2)).trans (kp b o n1 e))))
 |succ k ih =>
  intro j t vb c q1 q2 q3 q4 q5 q6
  have jn:j+1<n:=by omega
  apply codeAny_builtin U6j;rw[U2p U3n _]
  show wpAny _ Ar.in1 (seqItems? (.ref B) >>= _) _ _ t
  apply U0;apply U5c q5 rfl
  show wpAny _ Ar.in1 (tryCatch (pyNext (.ref J)) _ >>= _) _ _ t
  refine U0 (U5e (W.item (j+1) t _ _ jn q3 fun v h1 tk1 pv st1 kp=>?_))
  have q5':=kp B _ wB q5
  show wpAny _ Ar.in1 (tryCatch (holding [v,v] (richCompare .Gt v vb >>= _)) _ >>= _) _ _ _
  refine U0 (U5e (U2j (U0 (hG (j+1) (argBest bt j) v vb _ _ _ pv q4 (U0 (U2j (U2g (U0 (U6s (U0c ?_))))))))))
  cases hb:bt (j+1) (argBest bt j) with
  |true =>
   simp only[if_true]
   apply U0;apply U43 q5' rfl
   refine U0 (U6s ?_)
   rw[Oj]
   refine U0c ⟨plainId_quiet U3n _,ih (j+1) _ v _ (by omega) jn (W.frame _ _ _ st1 fun b hbf o e=>(U0z _ _ (fun h:B=b=>nB (by rw[h];exact hbf))).trans e) (by simp only[argBest,hb,if_true];exact pv) (U2k _ q5' rfl) fun v' h2 tk2 pv' kp2=>?_⟩
   exact q6 v' h2 tk2 pv' fun b o n1 n2 e=>kp2 b o n1 n2 ((U0z _ _ (U3l n2)).trans (kp b o n1 e))
  |false =>
   simp only[U07,if_false]
   refine U0 (U6s ?_)
   rw[Oj]
   exact U0c ⟨plainId_quiet U3n _,ih (j+1) _ vb c (by omega) jn st1 (by simp only[argBest,hb,U07,if_false];exact q4) q5' fun v' h2 tk2 pv' kp2=>q6 v' h2 tk2 pv' fun b o n1 n2 e=>kp2 b o n1 n2 (kp b o n1 e)⟩
theorem cF(W:Walks P0 wd Ar.in1 J fp wr n P St)(bt:Nat->Nat->Bool)(hG:CmpOf P0 wd Ar.in1 .Gt P bt)(B:Addr)(nB:B ∉ fp){t:Shared}{c:Nat}(st:St 0 t.heap)(q5:t.heap.get? B=some { cls:=.type "list",dict:=none,data:=.seq #[] c,slots:=#[] })
  (q6:∀v h' tk,(n=0/\v=dv∨0<n/\P (argBest bt (n-1)) v)->(∀b o,b ∉ wr->b≠B->t.heap.get? b=some o->h'.get? b=some o)->Rr (.ok (.ret v)) { t with heap:=h',toks:=tk }) :
  codeAny (model P0 wd) Ar (.builtin "max.loop" ⟨[.ref J,.none,.ref B],[("default",dv)]⟩) Rr t:=by
 have wB:B ∉ wr:=fun h=>nB (W.sub _ h)
 apply codeAny_builtin U6j;rw[U2p U3n _]
 show wpAny _ Ar.in1 (seqItems? (.ref B) >>= _) _ _ t
 apply U0;apply U5c q5 rfl
 show wpAny _ Ar.in1 (tryCatch (pyNext (.ref J)) _ >>= _) _ _ t
 by_cases h0:n=0
 .refine U0 (U5e (W.done t _ _ (h0 ▸ st) fun h1 tk1 kp=>?_))
  show wpAny _ Ar.in1 (rule _ >>= _) _ _ _
  exact U0 (U3p (U0c (q6 dv _ tk1 (.inl ⟨h0,rfl⟩) fun b o n1 n2 e=>kp b o n1 e)))
 .have hn:0<n:=by omega
  refine U0 (U5e (W.item 0 t _ _ hn st fun v h1 tk1 pv st1 kp=>?_))
  have q5':=kp B _ wB q5
  show wpAny _ Ar.in1 (updateSeq B (fun _=>#[v,v]) >>= _) _ _ _
  apply U0;apply U43 q5' rfl
  rw[Oj]
  refine U0c ⟨plainId_quiet U3n _,Y7 W bt hG B nB _ 0 _ v _ rfl hn (W.frame _ _ _ st1 fun b hbf o e=>(U0z _ _ (fun h:B=b=>nB (by rw[h];exact hbf))).trans e) pv (U2k _ q5' rfl) fun v' h2 tk2 pv' kp2=>?_⟩
  exact q6 v' h2 tk2 (.inr ⟨hn,pv'⟩) fun b o n1 n2 e=>kp2 b o n1 n2 ((U0z _ _ (U3l n2)).trans (kp b o n1 e))
theorem YZ(a d:Value):argsOk "max" ⟨[a],[("default",d)]⟩:=by unfold argsOk;kernel_rfl
end
end HT
namespace L2
open PySem PySem.Spec PyProof PyProof.Rows
section
variable{X:Cx}
theorem YQ(hc:X.calm=true){pins:List (Addr×Obj)}{σ:St}{H:Hp}{s:Shared}(I:Inv X pins σ H s){p:Addr}{ns:List Int}{d:Int}{t:Tok}(hq:SqL X.K H p (ns.map V.int)){Q:VK}(q0:ns=[]->Q (.int d) H)(q1:ns≠[]->∀m∈ns,(∀n∈ns,n<=m)->Q (.int m) H) :
  wpAny (model X.prog X.w) X.A (call (.builtin "max") [.ref p] [("default",.int d t)]) (EP X pins σ Q) X.xe s:=by
 obtain⟨its,rv,pl,hz⟩:=I.list hq
 have hlen:=rv.length
 rw[U0g] at hlen
 have hl:=pl.isList
 have hlt:p<s.heap.objs.size:=by obtain⟨o,ho,_⟩:=hl;exact U0k ho
 have hval:∀i v,its.toArray[i]?=some v->∃t,v=U4r (ns.getD i 0) t:=fun i v e=>by
  rw[U3x] at e
  have hi:i<ns.length:=by rw[hlen];exact(U0h.mp e).1
  obtain⟨u,e1,ru⟩:=rv.get (i:=i) (x:=.int ns[i]) (by rw[U0v,U0q hi];rfl)
  rw[e] at e1;cases e1
  rw[show ns.getD i 0=ns[i] by rw[U1x,U0q hi];rfl]
  exact ru
 refine HT.YT F.kind_max F.plain_max F.entry_max (HT.YZ _ _) ?_
 show wpAny _ X.A.in1 (Builtin.Builtins.bindParams "max" ["key","default"] 0 ⟨[],[("default",.int d t)]⟩ >>= _) _ _ s
 refine U0 (wpAny_of_eq (show Builtin.Builtins.bindParams "max" ["key","default"] 0 ⟨[],[("default",.int d t)]⟩=pure [none,some (.int d t)] by kernel_rfl) ?_)
 refine U0 (U0c (U0 (U4l hl (U0 (U17 ?_)))))
 rw[HT.Oj]
 have W:=Walks.list (prog:=X.prog) (w:=X.w) (A:=X.A.in1) (by simpa using I.ok.hd hc) s.heap.objs.size p (U1c hlt) its.toArray
 refine U0c ⟨plainId_quiet U3n _,HT.cF W _ (CmpOf.ints_gt (fun i=>ns.getD i 0) hval) _ ?_ ⟨⟨_,U0d _ (U0r _ rfl),rfl,rfl⟩,(hl.push _).push _⟩ (U0r _ rfl) fun v h' tk hv hk=>?_⟩
 .intro hm
  rw[U2l] at hm
  rcases U0u.mp hm with z|z
  .exact absurd z (U3q (U4t _))
  .exact absurd (U1k.mp z) (U3q (U4m hlt))
 .have J:Inv X pins σ H { s with heap:=h',toks:=tk }:=I.kept (h':=h') (t':=tk) fun b o e=>hk b o (fun z=>absurd (U1k.mp z) (U1c (U0k e))) (fun z=>absurd (U0k e) (by rw[z,U2l];exact U6w.mpr (U4h _))) (U0d _ (U0d _ e))
  rcases hv with ⟨h0,rfl⟩|⟨h0,hP⟩
  .exact⟨.int d,H,J,⟨t,rfl⟩,q0 (U2o.mp (by rw[hlen];simpa using h0))⟩
  .obtain⟨g1,g2⟩:=argBest_gt (fun i=>ns.getD i 0) (its.toArray.size-1)
   obtain⟨t',rfl⟩:=hval _ _ hP
   rw[U0j,←hlen] at g1 g2 h0
   have hb:argBest (fun i j=>decide (ns.getD i 0>ns.getD j 0)) (ns.length-1)<ns.length:=by omega
   rw[U0j,←hlen]
   refine⟨.int _,H,J,⟨t',rfl⟩,q1 (fun z=>by rw[z] at h0;simp at h0) _ ?_ fun n hn=>?_⟩
   .rw[U1x,U0q hb]
    exact U4u hb
   .obtain⟨j,hj,rfl⟩:=U3j hn
    have:=g2 j (by omega)
    rw[U1x,U0q hj] at this
    exact this
def jc(K:U0a)(d:Int)(te:TE):TE:=fun σ H Q=>te σ H fun x H1=>∃(p:Addr)(ns:List Int),x=.ref p/\SqL K H1 p (ns.map V.int)/\(ns=[]->Q (.int d) H1)/\(ns≠[]->∀m∈ns,(∀n∈ns,n<=m)->Q (.int m) H1)
theorem bQ{e:Expr}{te:TE}{d:Int}{j:Nat}{p pos kp kp0:Pos}(hc:X.calm=true)(hg:Gl X "max")(hm:X.mg "max"=none)(he:PE X e te)(hs:starEach [e] X.env=[(false,eval e X.env)]:=by rfl) :
  PE X (.Call (.Name "max" p) [e] [⟨some "default",.Constant (.int d) j kp0,kp⟩] pos) (jc X.K d te):=by
 intro pins s σ H Q I h
 refine U45 (Lf I hg hm (by decide +kernel:bootBuiltins "max"=some (.builtin "max")) ?_)
 refine PyProof.Rows.callWith_kw ?_ (by rw[hs];rfl) (by rw[hs];rfl) rfl rfl
 refine thn (Oh he QT hs pos pins s σ H (fun vs H1=>match vs with
  |[x]=>∃(p:Addr)(ns:List Int),x=.ref p/\SqL X.K H1 p (ns.map V.int)/\(ns=[]->Q (.int d) H1)/\(ns≠[]->∀m∈ns,(∀n∈ns,n<=m)->Q (.int m) H1)
  |_=>False) I h) fun us s1 ⟨vs,H1,I1,r1,q1⟩=>?_
 cases r1 with
 |nil=>exact q1.elim
 |cons rx rr =>
  cases rr with
  |cons _ _=>exact q1.elim
  |nil =>
   obtain⟨a,ns,rfl,hq,q0,q2⟩:=q1
   cases rx
   refine PyProof.Rows.kws_cons (thn (XJ pins s1 σ H1 (fun y H2=>y=.int d/\H2=H1) I1 ⟨rfl,rfl⟩) fun u s2 ⟨y,H2,I2,r2,e1,e2⟩=>PyProof.Rows.kws_nil ?_)
   subst e1 e2
   obtain⟨t0,rfl⟩:=(show ∃t,u=U4r d t from r2)
   exact YQ hc I2 hq q0 q2
end
end L2
end
section
namespace VS
open PySem PySem.Spec L2
def WT(d:Int)(a:Av):Av:=fun env S=>(a env S).bind fun p=>(listOf p.2 p.1).bind fun ds=>(intsOf ds).map fun ns=>(.int ((Hj ns).getD d),p.2)
theorem Zm(d:Int)(a:Av)(env:VS.Env)(S:Store):WT d a env S=(a env S).bind fun p=>(listOf p.2 p.1).bind fun ds=>(intsOf ds).map fun ns=>(.int ((Hj ns).getD d),p.2):=rfl
theorem cX{X:Cx}{e:Expr}{f:Av}{d:Int}{j:Nat}{p pos kp kp0:Pos}(hc:X.calm=true)(hg:Gl X "max")(hm:X.mg "max"=none)(he:JE X e f)(hs:starEach [e] X.env=[(false,eval e X.env)]:=by rfl) :
  JE X (.Call (.Name "max" p) [e] [⟨some "default",.Constant (.int d) j kp0,kp⟩] pos) (WT d f) :=
 ⟨PE.imp (bQ hc hg hm he.pe hs) fun σ H Q h=>by
  obtain⟨Γ,μ,env,S,y,S',hK,R,e,q⟩:=h
  obtain⟨⟨x,S1⟩,e1,e⟩:=bind_some e
  obtain⟨ds,e2,e⟩:=bind_some e
  obtain⟨ns,e3,e⟩:=map_some e
  cases e
  refine⟨Γ,μ,env,S,x,S1,hK,R,e1,fun v1 μ1 H1 x1 R1 r1=>?_⟩
  obtain⟨a,xs,rfl,ha,rs⟩:=VR.list R1 r1 e2
  have:=Gd e3
  subst this
  have:=rs.Oa
  subst this
  refine⟨a,ns,rfl,SqL.of ha,fun z=>?_,fun z m h1 h2=>?_⟩
  .have:=q (.int ((Hj ns).getD d)) μ1 H1 x1 R1 (.int _)
   rw[z] at this
   exact this
  .cases hm:Hj ns with
   |none =>
    cases ns with
    |nil=>exact absurd rfl z
    |cons a r=>simp[Hj] at hm
   |some m' =>
    obtain⟨g1,g2⟩:=Ln hm
    have e:m=m':=U6p (g2 _ h1) (h2 _ g1)
    have:=q (.int ((Hj ns).getD d)) μ1 H1 x1 R1 (.int _)
    rw[hm] at this
    rw[e]
    exact this⟩
end VS
end
section
namespace VS
open PySem PySem.Spec L2
end VS
end
section
set_option maxRecDepth 100000
namespace HT
open PySem PySem.Spec PyProof.Rows
section
variable{prog:Program}{w:World}{A:Around}{E:Value->Shared->Prop}{s:Shared}
structure nW(z TI TO i1 i2 i3:Addr)(fp1 fp2 fp3:List Addr):Prop where
 a1:TI≠z
 a2:TO≠z
 a3:TI≠TO
 b1:∀b∈fp1,b≠z/\b≠TO/\b≠i2/\b≠i3
 b2:∀b∈fp2,b≠z/\b≠TO/\b≠i1/\b≠i3
 b3:∀b∈fp3,b≠z/\b≠TO/\b≠i1/\b≠i2
 c1:i1≠z/\i1≠TO/\i1≠TI
 c2:i2≠z/\i2≠TO/\i2≠TI
 c3:i3≠z/\i3≠TO/\i3≠TI
section
variable{z TI TO i1 i2 i3:Addr}{fp1 fp2 fp3:List Addr}{n1 n2 n3 k:Nat}{P1 P2 P3:Nat->Value->Prop}{S1 S2 S3:Nat->Heap->Prop}{a b c:Value}
end
set_option maxHeartbeats 4000000 in
end
end HT
end
section
namespace HT
open PySem PySem.Spec PyProof.Rows
section
variable{prog:Program}{w:World}{A:Around}{E:Value->Shared->Prop}{s:Shared}
end
end HT
namespace L2
open PySem PySem.Spec PyProof.Rows
end L2
end
section
namespace L2
open PySem PySem.Spec PyProof.Rows
section
variable{X:Cx}
end
end L2
end
section
namespace VS
open PySem PySem.Spec L2
section
variable{X:Cx}
end
end VS
end
section
set_option maxRecDepth 100000
namespace L2
open PySem PySem.Spec PyProof.Rows
section
variable{κ:Type}[DecidableEq κ]
end
section
variable{P:Program}{w:World}{H:Hp}{h:Heap}{a:Addr}
end
section
variable{X:Cx}{pins:List (Addr×Obj)}{σ:St}{H:Hp}{s:Shared}{a:Addr}{y v:V}{u r:Value}{o:Option V}{A:Around}{E:Value->Shared->Prop}
end
section
variable{X:Cx}{pins:List (Addr×Obj)}{σ:St}{H:Hp}{s:Shared}{a:Addr}{kvs:List (Key×V)}{k:Key}{u:Value}{A:Around}{E:Value->Shared->Prop}
end
section
variable{X:Cx}{o i e value:Expr}{pos pos' tpos:Pos}{td ty tv:TE}
end
section
variable{X:Cx}{pos:Pos}
end
structure M1(X:Cx)(o:Expr)(m:Str)(apos:Pos)(e:Expr)(cpos:Pos):Prop where
 base:attributeBase o m X.env (eval o X.env)=eval o X.env
 few:((backTo cpos (starEach [e] X.env)).all (fun x=>!x.1)&&(backToKw cpos (keywordEach [] X.env)).all (fun x=>x.1.isSome)
  && decide (([e]:List Expr).length+([]:List Keyword).length+(if ([]:List Keyword).isEmpty then 0 else 1)<30))=true
 line:(apos.endLine==cpos.line)=true
 trees:backTo cpos (starEach [e] X.env)=[(false,eval e X.env)]
structure M2(X:Cx)(o:Expr)(m:Str)(apos:Pos)(e f:Expr)(cpos:Pos):Prop where
 base:attributeBase o m X.env (eval o X.env)=eval o X.env
 few:((backTo cpos (starEach [e,f] X.env)).all (fun x=>!x.1)&&(backToKw cpos (keywordEach [] X.env)).all (fun x=>x.1.isSome)
  && decide (([e,f]:List Expr).length+([]:List Keyword).length+(if ([]:List Keyword).isEmpty then 0 else 1)<30))=true
 line:(apos.endLine==cpos.line)=true
 trees:backTo cpos (starEach [e,f] X.env)=[(false,eval e X.env),(false,eval f X.env)]
section
variable{X:Cx}{pins:List (Addr×Obj)}{σ:St}{H:Hp}{s:Shared}{a:Addr}{y d:V}{u r:Value}{o:Option V}{A:Around}{E:Value->Shared->Prop}
end
section
variable{X:Cx}{o e f:Expr}{apos cpos:Pos}{td ty tx:TE}
end
section
variable{X:Cx}{pins:List (Addr×Obj)}{σ:St}{H:Hp}{s:Shared}{a:Addr}{kvs:List (Key×V)}{A:Around}{E:Value->Shared->Prop}
end
section
variable{X:Cx}{pins:List (Addr×Obj)}{σ:St}{H:Hp}{s:Shared}{a:Addr}{y:V}{u:Value}{A:Around}{E:Value->Shared->Prop}
end
section
variable{X:Cx}
end
section
variable{κ:Type}[DecidableEq κ]
end
end L2
end
section
namespace VS
open PySem PySem.Spec L2
section
variable{Γ:Fr}{μ:Mu}{σ:St}{H:Hp}{env:Env}{S:Store}{v:V}{d:D}
end
section
variable{X:Cx}{o i e f value:Expr}{pos pos' apos cpos:Pos}{fo fi fe fv ft:Av}
end
end VS
end
section
namespace SetP
open PySem PySem.Spec PyProof.Rows
section
variable{prog:Program}{w:World}{K:Type}[DecidableEq K]{knd:KeyKind prog w K}{A:Around}{E:Value->Shared->Prop}{s:Shared}
end
end SetP
namespace L2
open PySem PySem.Spec PyProof.Rows
variable{X:Cx}
end L2
end
section
namespace VS
open PySem PySem.Spec L2
end VS
end
section
set_option maxRecDepth 100000
namespace HT
open PySem PySem.Spec PyProof.Rows
section
variable{prog:Program}{w:World}{K:Type}[DecidableEq K]{knd:KeyKind prog w K}{A:Around}{E:Value->Shared->Prop}{s:Shared}
end
end HT
namespace L2
open PySem PySem.Spec PyProof.Rows
section
variable{X:Cx}{o:Expr}{td:TE}{p pos apos cpos:Pos}
end
end L2
end
section
namespace VS
open PySem PySem.Spec L2
end VS
end
section
namespace Tm
open PySem PyProof.Rows
def Vq:Bool->Keyed->Array Keyed->Nat->Nat->Nat->StateT SortSt Sem (Option Nat):=sortPriv% PySem.Builtin.gallop
def kv(p:Keyed):Int:=numOf p.1
def IsI(p:Keyed):Prop:=∃n t q,p=(.int n t,q)
def Hr(xs:Array Keyed):Prop:=∀p∈xs.toList,IsI p
theorem Hr.get{xs:Array Keyed}(h:Hr xs){i:Nat}(hi:i<xs.size):IsI xs[i]/\kv xs[i]=K xs i:=by
 refine⟨h _ (by simp),?_⟩
 unfold K
 rw[getElem?_pos xs i hi];rfl
section
variable{prog:Program}{w:World}{A:Around}{E:Value->Shared->Prop}{s:Shared}
theorem NT{st:SortSt}{x y:Keyed}{Q:Option Bool->SortSt->Prop}(hx:IsI x)(hy:IsI y)(hk:kindOf st=oneType')(h:Q (some (decide (kv x<kv y))) st) :
  wpS (model prog w) A E s (lt' x y) Q st:=by
 obtain⟨a,t,p,rfl⟩:=hx
 obtain⟨b,u,q,rfl⟩:=hy
 rw[lt'_eq]
 refine wpS_bind (wpS_get ?_)
 rw[hk,keyLt'_oneType]
 refine wpS_bind (wpS_lift (wpAny_attempt (oneLt_int ⟨rfl,?_⟩)))
 exact wpS_pure h
theorem CK{xs:Array Keyed}{i:Nat}{Q:Keyed->SortSt->Prop}{st:SortSt}(hi:i<xs.size)(h:Q xs[i] st):wpS (model prog w) A E s (elem' xs i) Q st:=by
 rw[elem'_eq,getElem?_pos xs i hi]
 exact wpS_pure h
def bey(left:Bool)(k x:Int):Bool:=if left then decide (x<k) else !decide (k<x)
theorem Li{left:Bool}{key:Keyed}{arr:Array Keyed}{j:Nat}{Q:Option Bool->SortSt->Prop}{st:SortSt}(hk:kindOf st=oneType')(hkey:IsI key)(hI:Hr arr)(hj:j<arr.size)(h:Q (some (bey left (kv key) (K arr j))) st) :
  wpS (model prog w) A E s (elem' arr j >>= fun x=>if left=true then lt' x key else lt' key x >>= fun y=>pure (U2q (fun z=>!z) y)) Q st:=by
 obtain⟨g1,g2⟩:=hI.get hj
 refine wpS_bind (CK hj ?_)
 cases left with
 |true =>
  rw[if_pos rfl]
  refine NT g1 hkey hk ?_
  rw[g2];exact h
 |false =>
  rw[if_neg (by decide)]
  refine wpS_bind (NT hkey g1 hk (wpS_pure ?_))
  rw[g2];exact h
theorem Gu{left:Bool}{key:Keyed}{arr:Array Keyed}{base n hint:Nat}{Q:Option Nat->SortSt->Prop}{st:SortSt}(hk:kindOf st=oneType')(hkey:IsI key)(hI:Hr arr)(hb:base+n<=arr.size)(hh:hint<n)
  (hm:∀i j,i<=j->j<n->bey left (kv key) (K arr (base+j))=true->bey left (kv key) (K arr (base+i))=true)
  (h:∀k,k<=n->(∀i,i<k->bey left (kv key) (K arr (base+i))=true)->(∀i,k<=i->i<n->bey left (kv key) (K arr (base+i))=false)->Q (some k) st) :
  wpS (model prog w) A E s (Vq left key arr base n hint) Q st:=by
 have hm':∀i j,i<=j->j<n->bey left (kv key) (K arr (base+i))=false->bey left (kv key) (K arr (base+j))=false:=fun i j h1 h2 h3=>by
  cases e:bey left (kv key) (K arr (base+j)) with
  |false=>rfl
  |true=>rw[hm i j h1 h2 e] at h3;cases h3
 have fin:∀(f:Nat->Option (Option Nat)×Nat×Nat->StateT SortSt Sem (ForInStep (Option (Option Nat)×Nat×Nat)))(R:Option (Option Nat)×Nat×Nat->SortSt->Prop)(lo hi:Nat),lo<=hi->hi<=n->(∀i,i<lo->bey left (kv key) (K arr (base+i))=true)->(∀i,hi<=i->i<n->bey left (kv key) (K arr (base+i))=false) ->
   (∀x lo hi,lo≥hi->f x (none,lo,hi)=pure (ForInStep.done (none,lo,hi))) ->
   (∀x lo hi Q',lo<hi->hi<=n->Q' (U3y (if bey left (kv key) (K arr (base+(lo+(hi-lo)/2)))=true then (none,lo+(hi-lo)/2+1,hi) else (none,lo,lo+(hi-lo)/2))) st->wpS (model prog w) A E s (f x (none,lo,hi)) Q' st) ->
   (∀lo k,Q (some k) st->R (none,lo,k) st)->wpS (model prog w) A E s (forIn [0:n] (none,lo,hi) f) R st:=fun f R lo hi h1 h2 h3 h4 f1 f2 f3=>by
  refine wpS_forRange (I:=fun x c st'=>st'=st/\∃lo hi,c=(none,lo,hi)/\lo<=hi/\hi<=n/\hi-lo<=n-x/\(∀i,i<lo->bey left (kv key) (K arr (base+i))=true)/\(∀i,hi<=i->i<n->bey left (kv key) (K arr (base+i))=false)) ?step ?fin ⟨rfl,lo,hi,rfl,h1,h2,by omega,h3,h4⟩
  case fin =>
   rintro c st' ⟨rfl,lo,hi,rfl,h1,h2,h5,h3,h4⟩
   have:lo=hi:=by omega
   subst this
   exact f3 lo lo (h lo h2 h3 h4)
  case step =>
   rintro x c st' _ hx ⟨rfl,lo,hi,rfl,h1,h2,h5,h3,h4⟩
   by_cases hge:lo≥hi
   .rw[f1 x lo hi hge]
    have:lo=hi:=by omega
    subst this
    exact wpS_pure (f3 lo lo (h lo h2 h3 h4))
   .refine f2 x lo hi _ (by omega) h2 ?_
    cases e:bey left (kv key) (K arr (base+(lo+(hi-lo)/2))) with
    |true=>exact⟨rfl,lo+(hi-lo)/2+1,hi,rfl,by omega,h2,by omega,fun i hi'=>hm i (lo+(hi-lo)/2) (by omega) (by omega) e,h4⟩
    |false=>exact⟨rfl,lo,lo+(hi-lo)/2,rfl,by omega,by omega,by omega,h3,fun i h6 h7=>hm' (lo+(hi-lo)/2) i h6 h7 e⟩
 unfold Vq
 refine wpS_bind (Li hk hkey hI (by omega) ?_)
 cases e:bey left (kv key) (K arr (base+hint)) with
 |true =>
  refine wpS_bind (wpS_mono (wpS_forRange (I:=fun x c st'=>st'=st/\∃l o,c=(none,l,o)/\l<o/\hint+l<n/\x+1<=o/\bey left (kv key) (K arr (base+(hint+l)))=true)
   (Q:=fun c st'=>st'=st/\∃l o,c=(none,l,o)/\l<o/\hint+l<n/\bey left (kv key) (K arr (base+(hint+l)))=true/\(n-hint<=o∨(o<n-hint/\bey left (kv key) (K arr (base+(hint+o)))=false))) ?step ?fin ⟨rfl,0,1,rfl,by omega,by omega,by omega,e⟩) ?post)
  case fin =>
   rintro c st' ⟨rfl,l,o,rfl,h1,h2,h3,h4⟩
   exact⟨rfl,l,o,rfl,h1,h2,h4,.inl (by omega)⟩
  case step =>
   rintro x c st' _ hx ⟨rfl,l,o,rfl,h1,h2,h3,h4⟩
   dsimp only
   by_cases hge:o≥n-hint
   .rw[if_pos hge]
    exact wpS_pure ⟨rfl,l,o,rfl,h1,h2,h4,.inl hge⟩
   .rw[if_neg hge]
    refine wpS_bind (Li hk hkey hI (by omega) ?_)
    cases e2:bey left (kv key) (K arr (base+(hint+o))) with
    |true=>exact wpS_pure ⟨rfl,o,2*o+1,rfl,by omega,by omega,by omega,e2⟩
    |false=>exact wpS_pure ⟨rfl,l,o,rfl,h1,h2,h4,.inr ⟨by omega,e2⟩⟩
  case post =>
   rintro c st' ⟨rfl,l,o,rfl,h1,h2,h4,h5⟩
   refine wpS_bind (fin _ _ (hint+l+1) (hint+min o (n-hint)) (by omega) (by omega) (fun i hi=>hm i (hint+l) (by omega) h2 h4) (fun i h6 h7=>by
    rcases h5 with z|⟨z1,z2⟩
    .omega
    .exact hm' (hint+o) i (by omega) h7 z2) (fun x lo hi hge=>if_pos hge) (fun x lo hi Q' hlt hle hq=>?_) fun lo k hq=>wpS_pure hq)
   dsimp only
   rw[if_neg (by omega)]
   refine wpS_bind (Li hk hkey hI (by omega) ?_)
   cases e2:bey left (kv key) (K arr (base+(lo+(hi-lo)/2)))<;>(rw[e2] at hq;exact wpS_pure hq)
 |false =>
  refine wpS_bind (wpS_mono (wpS_forRange (I:=fun x c st'=>st'=st/\∃l o,c=(none,l,o)/\l<o/\l<=hint/\x+1<=o/\bey left (kv key) (K arr (base+(hint-l)))=false)
   (Q:=fun c st'=>st'=st/\∃l o,c=(none,l,o)/\l<o/\l<=hint/\bey left (kv key) (K arr (base+(hint-l)))=false/\(hint+1<=o∨(o<=hint/\bey left (kv key) (K arr (base+(hint-o)))=true))) ?step ?fin ⟨rfl,0,1,rfl,by omega,by omega,by omega,e⟩) ?post)
  case fin =>
   rintro c st' ⟨rfl,l,o,rfl,h1,h2,h3,h4⟩
   exact⟨rfl,l,o,rfl,h1,h2,h4,.inl (by omega)⟩
  case step =>
   rintro x c st' _ hx ⟨rfl,l,o,rfl,h1,h2,h3,h4⟩
   dsimp only
   by_cases hge:o≥hint+1
   .rw[if_pos hge]
    exact wpS_pure ⟨rfl,l,o,rfl,h1,h2,h4,.inl hge⟩
   .rw[if_neg hge]
    refine wpS_bind (Li hk hkey hI (by omega) ?_)
    cases e2:bey left (kv key) (K arr (base+(hint-o))) with
    |false=>exact wpS_pure ⟨rfl,o,2*o+1,rfl,by omega,by omega,by omega,e2⟩
    |true=>exact wpS_pure ⟨rfl,l,o,rfl,h1,h2,h4,.inr ⟨by omega,e2⟩⟩
  case post =>
   rintro c st' ⟨rfl,l,o,rfl,h1,h2,h4,h5⟩
   refine wpS_bind (fin _ _ (hint+1-min o (hint+1)) (hint-l) (by omega) (by omega) (fun i hi=>by
    rcases h5 with z|⟨z1,z2⟩
    .omega
    .exact hm i (hint-o) (by omega) (by omega) z2) (fun i h6 h7=>hm' (hint-l) i h6 h7 h4) (fun x lo hi hge=>if_pos hge) (fun x lo hi Q' hlt hle hq=>?_) fun lo k hq=>wpS_pure hq)
   dsimp only
   rw[if_neg (by omega)]
   refine wpS_bind (Li hk hkey hI (by omega) ?_)
   cases e2:bey left (kv key) (K arr (base+(lo+(hi-lo)/2)))<;>(rw[e2] at hq;exact wpS_pure hq)
end
end Tm
end
section
namespace Tm
open PySem PyProof.Rows
def Tq:Array Keyed->Array Keyed->StateT SortSt Sem (Array Keyed):=sortPriv% PySem.Builtin.mergeLo
def srt(l:List Keyed):Prop:=l.Pairwise fun p q=>kv p<=kv q
theorem KC{a:Array Keyed}{i:Nat}(hi:i<a.size):kv a[i]=K a i:=by
 unfold K
 rw[getElem?_pos a i hi];rfl
theorem Pk{a:Array Keyed}{n:Nat}{p:Keyed}(h:p∈a.toList.drop n):∃i,n<=i/\i<a.size/\kv p=K a i:=by
 obtain⟨j,hj,rfl⟩:=U3j h
 rw[U1s,U0e] at hj
 refine⟨n+j,by omega,by omega,?_⟩
 rw[List.getElem_drop,U3d]
 exact KC _
theorem Tv{a:Array Keyed}{n k:Nat}{p:Keyed}(h:p∈(a.toList.drop n).take k):∃i,n<=i/\i<n+k/\i<a.size/\kv p=K a i:=by
 obtain⟨j,hj,rfl⟩:=U3j h
 rw[U1i,U1s,U0e] at hj
 refine⟨n+j,by omega,by omega,by omega,?_⟩
 rw[List.getElem_take,List.getElem_drop,U3d]
 exact KC _
structure ML(a b out:Array Keyed)(ia ib:Nat):Prop where
 perm:out.toList.Perm (a.toList.take ia++b.toList.take ib)
 sa:srt (out.toList++a.toList.drop ia)
 sb:srt (out.toList++b.toList.drop ib)
theorem chunk{out x r y:List Keyed}(h1:srt (out++(x++r)))(h2:srt (out++y))(h3:∀p∈x,∀q∈y,kv p<=kv q):srt (out++x++r)/\srt (out++x++y):=by
 unfold srt at *
 refine⟨by rw[U0w];exact h1,?_⟩
 obtain⟨o1,o2,o3⟩:=U1e.mp h1
 obtain⟨x1,x2,x3⟩:=U1e.mp o2
 obtain⟨p1,p2,p3⟩:=U1e.mp h2
 refine U1e.mpr ⟨U1e.mpr ⟨o1,x1,fun p hp q hq=>o3 p hp q (U2y _ hq)⟩,p2,fun p hp q hq=>?_⟩
 rcases U1l.mp hp with z|z
 .exact p3 p z q hq
 .exact h3 p z q hq
theorem ML.J6{a b out out':Array Keyed}{ia ib:Nat}(h:ML a b out ia ib)(k:Nat)(ho:out'.toList=out.toList++(a.toList.drop ia).take k)(hle:∀i j,ia<=i->i<ia+k->i<a.size->ib<=j->j<b.size->K a i<=K b j):ML a b out' (ia+k) ib:=by
 have e:(a.toList.drop ia).take k++a.toList.drop (ia+k)=a.toList.drop ia:=by rw[←U4q];exact U1n ..
 obtain⟨c1,c2⟩:=chunk (x:=(a.toList.drop ia).take k) (r:=a.toList.drop (ia+k)) (by rw[e];exact h.sa) h.sb fun p hp q hq=>by
  obtain⟨i,i1,i2,i3,i4⟩:=Tv hp
  obtain⟨j,j1,j2,j3⟩:=Pk hq
  rw[i4,j3]
  exact hle i j i1 i2 i3 j1 j2
 refine⟨?_,by rw[ho];exact c1,by rw[ho];exact c2⟩
 rw[ho,List.take_add]
 refine(h.perm.append_right _).trans ?_
 rw[U0w,U0w]
 exact U1u _ U1v
theorem ML.swap{a b out:Array Keyed}{ia ib:Nat}(h:ML a b out ia ib):ML b a out ib ia:=⟨h.perm.trans U1v,h.sb,h.sa⟩
theorem ML.Kd{a b out out':Array Keyed}{ia ib:Nat}(h:ML a b out ia ib)(k:Nat)(ho:out'.toList=out.toList++(b.toList.drop ib).take k)(hle:∀i j,ib<=i->i<ib+k->i<b.size->ia<=j->j<a.size->K b i<=K a j):ML a b out' ia (ib+k):=(h.swap.J6 k ho hle).swap
theorem IK{a out:Array Keyed}{i:Nat}(hi:i<a.size):(out.push a[i]).toList=out.toList++(a.toList.drop i).take 1:=by
 have:(a.toList.drop i).take 1=[a[i]]:=by
  rw[U2t (by rw[U0e];exact hi)];rfl
 rw[this];simp
theorem Px{a out:Array Keyed}{i k:Nat}:(out++a.extract i (i+k)).toList=out.toList++(a.toList.drop i).take k:=by
 rw[U1r,U3e,U2u,U5h]
theorem UL(a out:Array Keyed)(i:Nat):out++a.extract i (i+0)=out:=Array.toList_inj.mp (by rw[Px,List.take_zero,U1j])
theorem Jy(a:Array Keyed)(i:Nat):(a.extract i a.size).toList=a.toList.drop i:=by
 rw[U3e,U2u,U2d (by rw[U1s,U0e];omega)]
theorem Mf(a:Array Keyed):a.toList.drop a.size=[]:=List.drop_eq_nil_of_le (by rw[U0e];exact U0l _)
theorem ML.aJ{a b out r:Array Keyed}{ia ib:Nat}(h:ML a b out ia ib)(hb:ib=b.size)(hr:r.toList=out.toList++a.toList.drop ia):r.toList.Perm (a.toList++b.toList)/\srt r.toList:=by
 refine⟨?_,by rw[hr];exact h.sa⟩
 have e:b.toList.take ib=b.toList:=U2d (by rw[U0e];omega)
 have p:=h.perm
 rw[e] at p
 rw[hr]
 refine(p.append_right _).trans ?_
 rw[U0w]
 refine(U1u _ U1v).trans ?_
 rw[←U0w,U1n]
theorem ML.kI{a b out r:Array Keyed}{ia ib:Nat}(h:ML a b out ia ib)(ha:ia+1=a.size)(hmax:∀j,j<b.size->K b j<=K a (a.size-1))(hr:r.toList=out.toList++b.toList.drop ib++a.toList.drop ia):r.toList.Perm (a.toList++b.toList)/\srt r.toList:=by
 constructor
 .rw[hr,U0w]
  refine(h.perm.append_right _).trans ?_
  have e1:=U1n ia a.toList
  have e2:=U1n ib b.toList
  generalize a.toList.take ia=x at *
  generalize a.toList.drop ia=x' at *
  generalize b.toList.take ib=y at *
  generalize b.toList.drop ib=y' at *
  rw[←e1,←e2,U0w,U0w]
  refine U1u _ ?_
  rw[←U0w]
  exact U1v
 .rw[hr]
  have sa:=h.sa
  unfold srt at *
  obtain⟨_,a2,a3⟩:=U1e.mp sa
  refine U1e.mpr ⟨h.sb,a2,fun p hp q hq=>?_⟩
  obtain⟨i,i1,i2,i3⟩:=Pk hq
  have:i=a.size-1:=by omega
  subst this
  rcases U1l.mp hp with z|z
  .exact a3 p z q hq
  .obtain⟨j,j1,j2,j3⟩:=Pk z
   rw[i3,j3]
   exact hmax j j2
theorem Jj{a:Array Keyed}(h:SortedTo a a.size):srt a.toList:=by
 unfold srt
 rw[U3a]
 intro i j hi hj hij
 rw[U0e] at hi hj
 rw[U3d,U3d,KC,KC]
 exact h i j (by omega) hj
structure EqG(st st':SortSt):Prop where
 kind:kindOf st'=kindOf st
 arr:arrOf st'=arrOf st
 pend:pendingOf st'=pendingOf st
 failed:failedOf st'=failedOf st
theorem EqG.refl(st:SortSt):EqG st st:=⟨rfl,rfl,rfl,rfl⟩
section
variable{prog:Program}{w:World}{A:Around}{E:Value->Shared->Prop}{s:Shared}
theorem Bl{σ α:Type}{M:Model}{c:Prop}[Decidable c]{x y:StateT σ Sem α}{Q:α->σ->Prop}{st:σ}(hx:c->wpS M A E s x Q st)(hy:¬c->wpS M A E s y Q st):wpS M A E s (if c then x else y) Q st:=by
 by_cases h:c
 .rw[if_pos h];exact hx h
 .rw[if_neg h];exact hy h
theorem Ut{a b:Array Keyed}{Q:Array Keyed->SortSt->Prop}{st:SortSt}(hk:kindOf st=oneType')(Ia:Hr a)(Ib:Hr b)(Sa:SortedTo a a.size)(Sb:SortedTo b b.size)(na:0<a.size)(nb:0<b.size)
  (hmin:∀i,i<a.size->K b 0<=K a i) (hmax:∀j,j<b.size->K b j<=K a (a.size-1))
  (h:∀r st',EqG st st'->r.toList.Perm (a.toList++b.toList)->srt r.toList->Q r st'):wpS (model prog w) A E s (Tq a b) Q st:=by
 have kL:∀out ia ib r,ML a b out ia ib->ib=b.size->r=out++a.extract ia a.size++b.extract ib b.size->r.toList.Perm (a.toList++b.toList)/\srt r.toList:=fun out ia ib r m e hr=>m.aJ e (by
  rw[hr,e,U1r,U1r,Jy,Jy,Mf,U1j])
 have kR:∀out ia ib r,ML a b out ia ib->ia=a.size->r=out++a.extract ia a.size++b.extract ib b.size->r.toList.Perm (a.toList++b.toList)/\srt r.toList:=fun out ia ib r m e hr=>by
  obtain⟨q1,q2⟩:=m.swap.aJ (r:=r) e (by rw[hr,e,U1r,U1r,Jy,Jy,Mf,U1j])
  exact⟨q1.trans U1v,q2⟩
 have kM:∀out ia ib r,ML a b out ia ib->ia+1=a.size->r=out++b.extract ib b.size++a.extract ia a.size->r.toList.Perm (a.toList++b.toList)/\srt r.toList:=fun out ia ib r m e hr=>m.kI e hmax (by
  rw[hr,U1r,U1r,Jy,Jy])
 have m0:ML a b #[b[0]] 0 1:=by
  have:ML a b #[] 0 0:=⟨by simp,by
   show srt a.toList
   exact Jj Sa,by
   show srt b.toList
   exact Jj Sb⟩
  refine this.Kd (out':=#[b[0]]) 1 (IK (out:=#[]) nb) fun i j h1 h2 h3 h4 h5=>?_
  have:i=0:=by omega
  subst this
  exact hmin j h5
 unfold Tq
 refine wpS_bind (wpS_lift (U3p ⟨rfl,?_⟩))
 refine wpS_bind (CK nb ?_)
 dsimp only
 by_cases e1:1=b.size
 .rw[if_pos (by simpa using e1)]
  obtain⟨q1,q2⟩:=kL _ _ _ _ m0 e1 rfl
  exact wpS_pure (h _ _ (EqG.refl st) q1 q2)
 rw[if_neg (by simpa using e1)]
 by_cases e2:0+1=a.size
 .rw[if_pos (by simpa using e2)]
  obtain⟨q1,q2⟩:=kM _ _ _ _ m0 e2 rfl
  exact wpS_pure (h _ _ (EqG.refl st) q1 q2)
 rw[if_neg (by simpa using e2)]
 refine wpS_bind (wpS_get ?_)
 refine wpS_bind (wpS_mono (wpS_forRange
  (I:=fun x c st'=>EqG st st'/\∃out ia ib g,c=(none,out,ia,ib,g)/\ML a b out ia ib/\ia+1<a.size/\ib<b.size/\x<=ia+ib)
  (Q:=fun c st'=>EqG st st'/\∃r y,c=(some r,y)/\r.toList.Perm (a.toList++b.toList)/\srt r.toList) ?step ?fin ⟨EqG.refl st,_,0,1,_,rfl,m0,by omega,by omega,by omega⟩) ?post)
 case fin =>
  rintro c st' ⟨_,out,ia,ib,g,rfl,_,h1,h2,h3⟩
  omega
 case post =>
  rintro c st' ⟨hE,r,y,rfl,q1,q2⟩
  exact wpS_pure (h r st' hE q1 q2)
 case step =>
  rintro x c st1 _ hx ⟨hE,out,ia,ib,g,rfl,m,h1,h2,h3⟩
  dsimp only
  refine wpS_bind (wpS_mono (wpS_forRange
   (I:=fun y c st'=>EqG st st'/\∃out ia' ib' ac bc,c=(none,out,ia',ib',ac,bc)/\ML a b out ia' ib'/\ia'+1<a.size/\ib'<b.size/\ia+ib+y<=ia'+ib')
   (Q:=fun c st'=>EqG st st'/\((∃r y,c=(some r,y)/\r.toList.Perm (a.toList++b.toList)/\srt r.toList)∨∃out ia' ib' ac bc,c=(none,out,ia',ib',ac,bc)/\ML a b out ia' ib'/\ia'+1<a.size/\ib'<b.size/\ia+ib+1<=ia'+ib')) ?step1 ?fin1 ⟨hE,out,ia,ib,0,0,rfl,m,h1,h2,by omega⟩) ?post1)
  case fin1 =>
   rintro c st' ⟨_,out,ia',ib',ac,bc,rfl,_,h4,h5,h6⟩
   omega
  case step1 =>
   rintro y c st' _ hy ⟨hE',out',ia',ib',ac,bc,rfl,m',h4,h5,h6⟩
   dsimp only
   have gb:=Ib.get h5
   have ga:=Ia.get (show ia'<a.size by omega)
   refine wpS_bind (CK h5 (wpS_bind (CK (show ia'<a.size by omega) (wpS_bind (NT gb.1 ga.1 (hE'.kind.trans hk) ?_)))))
   rw[gb.2,ga.2]
   by_cases hw:K b ib'<K a ia'
   .simp only[hw,decide_true,if_true]
    refine wpS_bind (CK h5 ?_)
    have m2:ML a b (out'.push b[ib']) ia' (ib'+1):=m'.Kd 1 (IK h5) fun i j i1 i2 i3 j1 j2=>by
     have:i=ib':=by omega
     subst this
     have:=Sa ia' j j1 j2
     omega
    by_cases e3:ib'+1=b.size
    .rw[if_pos (by simpa using e3)]
     exact wpS_pure ⟨hE',.inl ⟨_,_,rfl,kL _ _ _ _ m2 e3 rfl⟩⟩
    .rw[if_neg (by simpa using e3)]
     by_cases e4:bc+1≥g
     .rw[if_pos e4]
      exact wpS_pure ⟨hE',.inr ⟨_,_,_,_,_,rfl,m2,h4,by omega,by omega⟩⟩
     .rw[if_neg e4]
      exact wpS_pure ⟨hE',_,_,_,_,_,rfl,m2,h4,by omega,by omega⟩
   .simp only[hw,decide_false,U07,if_false]
    refine wpS_bind (CK (show ia'<a.size by omega) ?_)
    have m2:ML a b (out'.push a[ia']) (ia'+1) ib':=m'.J6 1 (IK (show ia'<a.size by omega)) fun i j i1 i2 i3 j1 j2=>by
     have:i=ia':=by omega
     subst this
     have:=Sb ib' j j1 j2
     omega
    by_cases e3:ia'+1+1=a.size
    .rw[if_pos (by simpa using e3)]
     exact wpS_pure ⟨hE',.inl ⟨_,_,rfl,kM _ _ _ _ m2 e3 rfl⟩⟩
    .rw[if_neg (by simpa using e3)]
     by_cases e4:ac+1≥g
     .rw[if_pos e4]
      exact wpS_pure ⟨hE',.inr ⟨_,_,_,_,_,rfl,m2,by omega,h5,by omega⟩⟩
     .rw[if_neg e4]
      exact wpS_pure ⟨hE',_,_,_,_,_,rfl,m2,by omega,h5,by omega⟩
  case post1 =>
   rintro c st' ⟨hE',⟨r,y,rfl,q⟩|⟨out',ia',ib',ac,bc,rfl,m',h4,h5,h6⟩⟩
   .exact wpS_pure ⟨hE',r,_,rfl,q⟩
   .dsimp only
    refine wpS_bind (wpS_lift (U3p ⟨rfl,?_⟩))
    refine wpS_bind (wpS_mono (wpS_forRange
     (I:=fun y c st'=>EqG st st'/\∃out ia ib g ac bc,c=(none,out,ia,ib,g,ac,bc)/\ML a b out ia ib/\ia+1<a.size/\ib<b.size/\ia'+ib'+y<=ia+ib)
     (Q:=fun c st'=>EqG st st'/\((∃r y,c=(some r,y)/\r.toList.Perm (a.toList++b.toList)/\srt r.toList)∨∃out ia ib g ac bc,c=(none,out,ia,ib,g,ac,bc)/\ML a b out ia ib/\ia+1<a.size/\ib<b.size/\ia'+ib'<=ia+ib)) ?step2 ?fin2 ⟨hE',out',ia',ib',_,ac,bc,rfl,m',h4,h5,by omega⟩) ?post2)
    case fin2 =>
     rintro c st' ⟨_,out,ia,ib,g,ac,bc,rfl,_,h7,h8,h9⟩
     omega
    case post2 =>
     rintro c st' ⟨hE2,⟨r,y,rfl,q⟩|⟨out,ia2,ib2,g2,ac,bc,rfl,m2,h7,h8,h9⟩⟩
     .exact wpS_pure ⟨hE2,r,_,rfl,q⟩
     .dsimp only
      refine wpS_bind (wpS_modify (wpS_pure ⟨⟨hE2.kind,hE2.arr,hE2.pend,hE2.failed⟩,_,_,_,_,rfl,m2,h7,h8,by omega⟩))
    case step2 =>
     rintro y c st2 _ hy ⟨hE2,out2,ia2,ib2,g2,ac2,bc2,rfl,m2,h7,h8,h9⟩
     refine Bl (fun _=>?_) (fun _=>?_)
     all_goals
      refine wpS_bind (wpS_modify ?_)
      refine wpS_bind (CK h8 ?_)
      have gb:=Ib.get h8
      have hE3:∀g,EqG st (SortSt.mk' (kindOf st2) (arrOf st2) (pendingOf st2) g (failedOf st2)):=fun g=>⟨hE2.kind,hE2.arr,hE2.pend,hE2.failed⟩
      refine wpS_bind (Gu (base:=ia2) (n:=a.size-ia2) (hint:=0) (hE2.kind.trans hk) gb.1 Ia (by omega) (by omega) (fun i j i1 i2 i3=>?_) fun k k1 k2 k3=>?_)
      .unfold bey at *
       have:=Sa (ia2+i) (ia2+j) (by omega) (by omega)
       simp at i3 ⊢
       omega
      have k2':∀i,ia2<=i->i<ia2+k->K a i<=K b ib2:=fun i i1 i2=>by
       have:=k2 (i-ia2) (by omega)
       rw[show ia2+(i-ia2)=i by omega,gb.2] at this
       unfold bey at this
       simp at this
       omega
      have k3':∀i,ia2+k<=i->i<a.size->K b ib2<K a i:=fun i i1 i2=>by
       have:=k3 (i-ia2) (by omega) (by omega)
       rw[show ia2+(i-ia2)=i by omega,gb.2] at this
       unfold bey at this
       simp at this
       omega
      have m3:ML a b (out2++a.extract ia2 (ia2+k)) (ia2+k) ib2:=m2.J6 k Px fun i j i1 i2 i3 j1 j2=>U6i (k2' i i1 i2) (Sb ib2 j j1 j2)
      clear k2 k3 k2' m2
      apply Bl
      case' hx =>
       intro hk0
       refine Bl (fun e3=>?_) (fun e3=>?_)
       .exact wpS_pure ⟨hE3 _,.inl ⟨_,_,rfl,kM _ _ _ _ m3 (by simpa using e3) rfl⟩⟩
       have e3:¬ia2+k+1=a.size:=fun z=>e3 (by simpa using z)
       refine Bl (fun e4=>?_) (fun e4=>?_)
       .exact wpS_pure ⟨hE3 _,.inl ⟨_,_,rfl,kR _ _ _ _ m3 (by simpa using e4) rfl⟩⟩
       have e4:¬ia2+k=a.size:=fun z=>e4 (by simpa using z)
       have h10:ia2+k+1<a.size:=by omega
       have h11:ia'+ib'+y<=ia2+k+ib2:=by omega
       have hga:ia2+k<a.size:=by omega
       have ga:=Ia.get hga
       obtain⟨z,hz⟩:∃z,K a (ia2+k)=z:=⟨_,rfl⟩
      case' hy =>
       intro hk0
       have:k=0:=by
        have:¬k>0:=hk0
        omega
       subst this
       have h10:ia2+1<a.size:=by omega
       have h11:ia'+ib'+y<=ia2+ib2:=by omega
       rw[UL,U49] at m3
       have hga:ia2<a.size:=by omega
       have ga:=Ia.get hga
       obtain⟨z,hz⟩:∃z,K a ia2=z:=⟨_,rfl⟩
       rw[U49] at k3'
      all_goals
       refine wpS_bind (CK h8 ?_)
       have m4:=m3.Kd 1 (IK h8) fun i j i1 i2 i3 j1 j2=>(by
        have:i=ib2:=by omega
        subst this
        have:=k3' j j1 j2
        omega)
       refine Bl (fun e5=>?_) (fun e5=>?_)
       .exact wpS_pure ⟨hE3 _,.inl ⟨_,_,rfl,kL _ _ _ _ m4 (by simpa using e5) rfl⟩⟩
       have e5:¬ib2+1=b.size:=fun z=>e5 (by simpa using z)
       refine wpS_bind (CK hga ?_)
       refine wpS_bind (Gu (base:=ib2+1) (n:=b.size-(ib2+1)) (hint:=0) (hE2.kind.trans hk) ga.1 Ib (by omega) (by omega) (fun i j i1 i2 i3=>?_) fun k' k1' k2 k3=>?_)
       .unfold bey at *
        have:=Sb (ib2+1+i) (ib2+1+j) (by omega) (by omega)
        simp at i3 ⊢
        omega
       have gk:=ga.2.trans hz
       have k2':∀i,ib2+1<=i->i<ib2+1+k'->K b i<z:=fun i i1 i2=>by
        have:=k2 (i-(ib2+1)) (by omega)
        rw[show ib2+1+(i-(ib2+1))=i by omega,gk] at this
        unfold bey at this
        exact of_decide_eq_true this
       have k3':∀i,ib2+1+k'<=i->i<b.size->z<=K b i:=fun i i1 i2=>by
        have:=k3 (i-(ib2+1)) (by omega) (by omega)
        rw[show ib2+1+(i-(ib2+1))=i by omega,gk] at this
        unfold bey at this
        have:=of_decide_eq_false this
        omega
       have m5:=m4.Kd k' (Px (a:=b)) fun i j i1 i2 i3 j1 j2=>U4p (Int.lt_of_lt_of_le (k2' i i1 i2) (by rw[←hz];exact Sa _ j j1 j2))
       clear k2 k3 k2' m4
       apply Bl
       case' hx =>
        intro hk0
        refine Bl (fun e6=>?_) (fun e6=>?_)
        .exact wpS_pure ⟨hE3 _,.inl ⟨_,_,rfl,kL _ _ _ _ m5 (by simpa using e6) rfl⟩⟩
        have e6:¬ib2+1+k'=b.size:=fun z=>e6 (by simpa using z)
        have h12:ib2+1+k'<b.size:=by omega
       case' hy =>
        intro hk0
        have:k'=0:=by
         have:¬k'>0:=hk0
         omega
        subst this
        have h12:ib2+1<b.size:=by omega
        rw[UL,U49] at m5
        rw[U49] at k3'
       all_goals
        refine wpS_bind (CK hga ?_)
        have m6:=m5.J6 1 (IK hga) fun i j i1 i2 i3 j1 j2=>(by
         rw[Nat.le_antisymm (Nat.lt_succ_iff.mp i2) i1,hz]
         exact k3' j j1 j2)
        refine Bl (fun e7=>?_) (fun e7=>?_)
        .exact wpS_pure ⟨hE3 _,.inl ⟨_,_,rfl,kM _ _ _ _ m6 (by simpa using e7) rfl⟩⟩
        have e7:¬_:=fun z=>e7 (beq_iff_eq.mpr z)
        try dsimp only at e7
        refine Bl (fun _=>?_) (fun _=>?_)
        .exact wpS_pure ⟨hE3 _,.inr ⟨_,_,_,_,_,_,rfl,m6,(by first|omega|(dsimp only;omega)),(by first|omega|(dsimp only;omega)),(by first|omega|(dsimp only;omega))⟩⟩
        .exact wpS_pure ⟨hE3 _,_,_,_,_,_,_,rfl,m6,(by first|omega|(dsimp only;omega)),(by first|omega|(dsimp only;omega)),(by first|omega|(dsimp only;omega))⟩
end
end Tm
end
section
namespace Tm
open PySem PyProof.Rows
def Tt:Array Keyed->Array Keyed->StateT SortSt Sem (Array Keyed):=sortPriv% PySem.Builtin.mergeHi
theorem Pj{a:Array Keyed}{n:Nat}{p:Keyed}(h:p∈a.toList.take n):∃i,i<n/\i<a.size/\kv p=K a i:=by
 obtain⟨j,hj,rfl⟩:=U3j h
 rw[U1i,U0e] at hj
 refine⟨j,by omega,by omega,?_⟩
 rw[List.getElem_take,U3d]
 exact KC _
structure MH(a b out:Array Keyed)(na nb:Nat):Prop where
 perm:out.toList.Perm (a.toList.drop na++b.toList.drop nb)
 sa:srt (a.toList.take na++out.toList.reverse)
 sb:srt (b.toList.take nb++out.toList.reverse)
theorem j8{R x r y:List Keyed}(h1:srt (r++x++R))(h2:srt (y++R))(h3:∀q∈y,∀p∈x,kv q<=kv p):srt (r++(x++R))/\srt (y++(x++R)):=by
 unfold srt at *
 refine⟨by rw[←U0w];exact h1,?_⟩
 obtain⟨o1,o2,o3⟩:=U1e.mp h1
 obtain⟨x1,x2,x3⟩:=U1e.mp o1
 obtain⟨p1,p2,p3⟩:=U1e.mp h2
 refine U1e.mpr ⟨p1,U1e.mpr ⟨x2,o2,fun p hp q hq=>o3 p (U01 _ hp) q hq⟩,fun p hp q hq=>?_⟩
 rcases U1l.mp hq with z|z
 .exact h3 p hp q z
 .exact p3 p hp q z
theorem MH.J6{a b out out':Array Keyed}{na nb:Nat}(h:MH a b out na nb)(n':Nat)(hn:n'<=na)(hs:na<=a.size)(ho:out'.toList=out.toList++((a.toList.drop n').take (na-n')).reverse)(hle:∀i j,n'<=i->i<na->j<nb->j<b.size->K b j<=K a i):MH a b out' n' nb:=by
 have e:a.toList.take n'++(a.toList.drop n').take (na-n')=a.toList.take na:=by
  rw[←List.take_add];congr 1;omega
 have e2:(a.toList.drop n').take (na-n')++a.toList.drop na=a.toList.drop n':=by
  have:=U1n (na-n') (a.toList.drop n')
  rw[U4q,show n'+(na-n')=na by omega] at this
  exact this
 obtain⟨c1,c2⟩:=j8 (x:=(a.toList.drop n').take (na-n')) (r:=a.toList.take n') (by rw[e];exact h.sa) h.sb fun q hq p hp=>by
  obtain⟨i,i1,i2,i3,i4⟩:=Tv hp
  obtain⟨j,j1,j2,j3⟩:=Pj hq
  rw[i4,j3]
  exact hle i j i1 (by omega) j1 j2
 refine⟨?_,by rw[ho,List.reverse_append,List.reverse_reverse];exact c1,by rw[ho,List.reverse_append,List.reverse_reverse];exact c2⟩
 generalize (a.toList.drop n').take (na-n')=x at *
 rw[ho,←e2]
 refine(h.perm.append_right _).trans ?_
 refine(U1u _ (U6c _)).trans ?_
 refine U1v.trans ?_
 rw[←U0w]
theorem MH.swap{a b out:Array Keyed}{na nb:Nat}(h:MH a b out na nb):MH b a out nb na:=⟨h.perm.trans U1v,h.sb,h.sa⟩
theorem MH.Kd{a b out out':Array Keyed}{na nb:Nat}(h:MH a b out na nb)(n':Nat)(hn:n'<=nb)(hs:nb<=b.size)(ho:out'.toList=out.toList++((b.toList.drop n').take (nb-n')).reverse)(hle:∀i j,n'<=i->i<nb->j<na->j<a.size->K a j<=K b i):MH a b out' na n':=(h.swap.J6 n' hn hs ho hle).swap
theorem Il{a out:Array Keyed}{n:Nat}(hn:n-1<a.size)(h0:0<n):(out.push a[n-1]).toList=out.toList++((a.toList.drop (n-1)).take (n-(n-1))).reverse:=by
 rw[IK hn,show n-(n-1)=1 by omega]
 have:(a.toList.drop (n-1)).take 1=[a[n-1]]:=by
  rw[U2t (by rw[U0e];exact hn)];rfl
 rw[this];rfl
theorem Rg{a out:Array Keyed}{n' n:Nat}:(out++(a.extract n' n).reverse).toList=out.toList++((a.toList.drop n').take (n-n')).reverse:=by
 rw[U1r,U4w,U3e,U2u]
theorem Ie(a:Array Keyed)(n:Nat):(a.extract 0 n).toList=a.toList.take n:=by
 rw[U3e,U2u,U5d,Nat.sub_zero]
theorem MH.aK{a b out r:Array Keyed}{na nb:Nat}(h:MH a b out na nb)(ha:na=0)(hr:r.toList=b.toList.take nb++out.toList.reverse):r.toList.Perm (a.toList++b.toList)/\srt r.toList:=by
 refine⟨?_,by rw[hr];exact h.sb⟩
 have p:=h.perm
 rw[ha,U5d] at p
 rw[hr]
 refine(U1u _ ((U6c _).trans p)).trans ?_
 refine U1v.trans ?_
 rw[U0w]
 refine U1u _ (U1v.trans ?_)
 rw[U1n]
theorem MH.j5{a b out r:Array Keyed}{na nb:Nat}(h:MH a b out na nb)(hb:nb=1)(hmin:∀i,i<a.size->K b 0<=K a i)(hr:r.toList=b.toList.take nb++a.toList.take na++out.toList.reverse):r.toList.Perm (a.toList++b.toList)/\srt r.toList:=by
 constructor
 .rw[hr]
  refine(U1u _ ((U6c _).trans h.perm)).trans ?_
  have e1:=U1n na a.toList
  have e2:=U1n nb b.toList
  generalize a.toList.take na=x at *
  generalize a.toList.drop na=x' at *
  generalize b.toList.take nb=y at *
  generalize b.toList.drop nb=y' at *
  rw[←e1,←e2,U0w]
  refine U1v.trans ?_
  rw[U0w,U0w,U0w]
  refine U1u _ (U1u _ U1v)
 .rw[hr,U0w]
  have sb:=h.sb
  unfold srt at *
  obtain⟨b1,b2,b3⟩:=U1e.mp sb
  refine U1e.mpr ⟨b1,h.sa,fun p hp q hq=>?_⟩
  obtain⟨i,i1,i2,i3⟩:=Pj hp
  have:i=0:=by omega
  subst this
  rcases U1l.mp hq with z|z
  .obtain⟨j,j1,j2,j3⟩:=Pj z
   rw[i3,j3]
   exact hmin j j2
  .exact b3 p hp q z
section
variable{prog:Program}{w:World}{A:Around}{E:Value->Shared->Prop}{s:Shared}
theorem Uu{a b:Array Keyed}{Q:Array Keyed->SortSt->Prop}{st:SortSt}(hk:kindOf st=oneType')(Ia:Hr a)(Ib:Hr b)(Sa:SortedTo a a.size)(Sb:SortedTo b b.size)(na:0<a.size)(nb:0<b.size)
  (hmin:∀i,i<a.size->K b 0<=K a i) (hmax:∀j,j<b.size->K b j<=K a (a.size-1))
  (h:∀r st',EqG st st'->r.toList.Perm (a.toList++b.toList)->srt r.toList->Q r st'):wpS (model prog w) A E s (Tt a b) Q st:=by
 have kA:∀out na nb r,MH a b out na nb->na=0->r=a.extract 0 na++b.extract 0 nb++out.reverse->r.toList.Perm (a.toList++b.toList)/\srt r.toList:=fun out na nb r m e hr=>m.aK e (by
  rw[hr,e,U1r,U1r,U4w,Ie,Ie];rfl)
 have kB:∀out na nb r,MH a b out na nb->nb=0->r=a.extract 0 na++b.extract 0 nb++out.reverse->r.toList.Perm (a.toList++b.toList)/\srt r.toList:=fun out na nb r m e hr=>by
  obtain⟨q1,q2⟩:=m.swap.aK (r:=r) e (by
   rw[hr,e,U1r,U1r,U4w,Ie,Ie,List.take_zero,U1j])
  exact⟨q1.trans U1v,q2⟩
 have kF:∀out na nb r,MH a b out na nb->nb=1->r=b.extract 0 nb++a.extract 0 na++out.reverse->r.toList.Perm (a.toList++b.toList)/\srt r.toList:=fun out na nb r m e hr=>m.j5 e hmin (by
  rw[hr,U1r,U1r,U4w,Ie,Ie])
 have hl:a.size-1<a.size:=by omega
 have m0:MH a b #[a[a.size-1]] (a.size-1) b.size:=by
  have:MH a b #[] a.size b.size:=⟨by rw[Mf,Mf];exact .nil,by
   show srt (a.toList.take a.size++[])
   rw[U1j,U2d (by rw[U0e];exact U0l _)]
   exact Jj Sa,by
   show srt (b.toList.take b.size++[])
   rw[U1j,U2d (by rw[U0e];exact U0l _)]
   exact Jj Sb⟩
  refine this.J6 (out':=#[a[a.size-1]]) (a.size-1) (by omega) (U0l _) (Il (out:=#[]) hl na) fun i j h1 h2 h3 h4=>?_
  have:i=a.size-1:=by omega
  subst this
  exact hmax j h4
 unfold Tt
 refine wpS_bind (wpS_lift (U3p ⟨rfl,?_⟩))
 refine wpS_bind (CK hl ?_)
 refine Bl (fun e1=>?_) (fun e1=>?_)
 .obtain⟨q1,q2⟩:=kA _ _ _ _ m0 (by simpa using e1) rfl
  exact wpS_pure (h _ _ (EqG.refl st) q1 q2)
 have e1:¬a.size-1=0:=fun z=>e1 (by simpa using z)
 refine Bl (fun e2=>?_) (fun e2=>?_)
 .obtain⟨q1,q2⟩:=kF _ _ _ _ m0 (by simpa using e2) rfl
  exact wpS_pure (h _ _ (EqG.refl st) q1 q2)
 have e2:¬b.size=1:=fun z=>e2 (by simpa using z)
 refine wpS_bind (wpS_get ?_)
 refine wpS_bind (wpS_mono (wpS_forRange
  (I:=fun x c st'=>EqG st st'/\∃na nb out g,c=(none,na,nb,out,g)/\MH a b out na nb/\0<na/\1<nb/\na<=a.size/\nb<=b.size/\x+na+nb<=a.size+b.size)
  (Q:=fun c st'=>EqG st st'/\∃r y,c=(some r,y)/\r.toList.Perm (a.toList++b.toList)/\srt r.toList) ?step ?fin ⟨EqG.refl st,_,_,_,_,rfl,m0,by omega,by omega,by omega,by omega,by omega⟩) ?post)
 case fin =>
  rintro c st' ⟨_,na,nb,out,g,rfl,_,h1,h2,h3,h4,h5⟩
  omega
 case post =>
  rintro c st' ⟨hE,r,y,rfl,q1,q2⟩
  exact wpS_pure (h r st' hE q1 q2)
 case step =>
  rintro x c st1 _ hx ⟨hE,na0,nb0,out,g,rfl,m,h1,h2,s1,s2,h3⟩
  refine wpS_bind (wpS_mono (wpS_forRange
   (I:=fun y c st'=>EqG st st'/\∃na nb out ac bc,c=(none,na,nb,out,ac,bc)/\MH a b out na nb/\0<na/\1<nb/\na<=a.size/\nb<=b.size/\y+na+nb<=na0+nb0)
   (Q:=fun c st'=>EqG st st'/\((∃r y,c=(some r,y)/\r.toList.Perm (a.toList++b.toList)/\srt r.toList)∨∃na nb out ac bc,c=(none,na,nb,out,ac,bc)/\MH a b out na nb/\0<na/\1<nb/\na<=a.size/\nb<=b.size/\1+na+nb<=na0+nb0)) ?step1 ?fin1 ⟨hE,na0,nb0,out,0,0,rfl,m,h1,h2,s1,s2,by omega⟩) ?post1)
  case fin1 =>
   rintro c st' ⟨_,na,nb,out,ac,bc,rfl,_,h4,h5,s3,s4,h6⟩
   omega
  case step1 =>
   rintro y c st' _ hy ⟨hE',na',nb',out',ac,bc,rfl,m',h4,h5,s3,s4,h6⟩
   have ib:nb'-1<b.size:=by omega
   have ia:na'-1<a.size:=by omega
   have gb:=Ib.get ib
   have ga:=Ia.get ia
   refine wpS_bind (CK ib (wpS_bind (CK ia (wpS_bind (NT gb.1 ga.1 (hE'.kind.trans hk) ?_)))))
   rw[gb.2,ga.2]
   by_cases hw:K b (nb'-1)<K a (na'-1)
   .simp only[hw,decide_true,if_true]
    refine wpS_bind (CK ia ?_)
    have m2:MH a b (out'.push a[na'-1]) (na'-1) nb':=m'.J6 (na'-1) (by omega) s3 (Il ia h4) fun i j i1 i2 j1 j2=>by
     have:i=na'-1:=by omega
     subst this
     have:=Sb j (nb'-1) (by omega) (by omega)
     omega
    by_cases e3:na'-1=0
    .rw[if_pos (by simpa using e3)]
     exact wpS_pure ⟨hE',.inl ⟨_,_,rfl,kA _ _ _ _ m2 e3 rfl⟩⟩
    .rw[if_neg (by simpa using e3)]
     by_cases e4:ac+1≥g
     .rw[if_pos e4]
      exact wpS_pure ⟨hE',.inr ⟨_,_,_,_,_,rfl,m2,by omega,h5,by omega,by omega,by omega⟩⟩
     .rw[if_neg e4]
      exact wpS_pure ⟨hE',_,_,_,_,_,rfl,m2,by omega,h5,by omega,by omega,by omega⟩
   .simp only[hw,decide_false,U07,if_false]
    refine wpS_bind (CK ib ?_)
    have m2:MH a b (out'.push b[nb'-1]) na' (nb'-1):=m'.Kd (nb'-1) (by omega) s4 (Il ib (by omega)) fun i j i1 i2 j1 j2=>by
     have:i=nb'-1:=by omega
     subst this
     have:=Sa j (na'-1) (by omega) (by omega)
     omega
    by_cases e3:nb'-1=1
    .rw[if_pos (by simpa using e3)]
     exact wpS_pure ⟨hE',.inl ⟨_,_,rfl,kF _ _ _ _ m2 e3 rfl⟩⟩
    .rw[if_neg (by simpa using e3)]
     by_cases e4:bc+1≥g
     .rw[if_pos e4]
      exact wpS_pure ⟨hE',.inr ⟨_,_,_,_,_,rfl,m2,h4,by omega,by omega,by omega,by omega⟩⟩
     .rw[if_neg e4]
      exact wpS_pure ⟨hE',_,_,_,_,_,rfl,m2,h4,by omega,by omega,by omega,by omega⟩
  case post1 =>
   rintro c st' ⟨hE',⟨r,y,rfl,q⟩|⟨na',nb',out',ac,bc,rfl,m',h4,h5,s3,s4,h6⟩⟩
   .exact wpS_pure ⟨hE',r,_,rfl,q⟩
   .refine wpS_bind (wpS_lift (U3p ⟨rfl,?_⟩))
    refine wpS_bind (wpS_mono (wpS_forRange
     (I:=fun y c st'=>EqG st st'/\∃na nb out g ac bc,c=(none,na,nb,out,g,ac,bc)/\MH a b out na nb/\0<na/\1<nb/\na<=a.size/\nb<=b.size/\y+na+nb<=na'+nb')
     (Q:=fun c st'=>EqG st st'/\((∃r y,c=(some r,y)/\r.toList.Perm (a.toList++b.toList)/\srt r.toList)∨∃na nb out g ac bc,c=(none,na,nb,out,g,ac,bc)/\MH a b out na nb/\0<na/\1<nb/\na<=a.size/\nb<=b.size/\na+nb<=na'+nb')) ?step2 ?fin2 ⟨hE',na',nb',out',_,ac,bc,rfl,m',h4,h5,s3,s4,by omega⟩) ?post2)
    case fin2 =>
     rintro c st' ⟨_,na,nb,out,g,ac,bc,rfl,_,h7,h8,s5,s6,h9⟩
     omega
    case post2 =>
     rintro c st' ⟨hE2,⟨r,y,rfl,q⟩|⟨na2,nb2,out,g2,ac,bc,rfl,m2,h7,h8,s5,s6,h9⟩⟩
     .exact wpS_pure ⟨hE2,r,_,rfl,q⟩
     .refine wpS_bind (wpS_modify (wpS_pure ⟨⟨hE2.kind,hE2.arr,hE2.pend,hE2.failed⟩,na2,nb2,out,_,rfl,m2,h7,h8,s5,s6,by omega⟩))
    case step2 =>
     rintro y c st2 _ hy ⟨hE2,na2,nb2,out2,g2,ac2,bc2,rfl,m2,h7,h8,s5,s6,h9⟩
     refine Bl (fun _=>?_) (fun _=>?_)
     all_goals
      have ib:nb2-1<b.size:=by omega
      refine wpS_bind (wpS_modify ?_)
      refine wpS_bind (CK ib ?_)
      have gb:=Ib.get ib
      have hE3:∀g,EqG st (SortSt.mk' (kindOf st2) (arrOf st2) (pendingOf st2) g (failedOf st2)):=fun g=>⟨hE2.kind,hE2.arr,hE2.pend,hE2.failed⟩
      refine wpS_bind (Gu (base:=0) (n:=na2) (hint:=na2-1) (hE2.kind.trans hk) gb.1 Ia (by omega) (by omega) (fun i j i1 i2 i3=>?_) fun k k1 k2 k3=>?_)
      .unfold bey at *
       have:=Sa (0+i) (0+j) (by omega) (by omega)
       simp at i3 ⊢
       simp at this
       omega
      have k2':∀i,i<k->K a i<=K b (nb2-1):=fun i i1=>by
       have:=k2 i i1
       rw[U37,gb.2] at this
       unfold bey at this
       simp at this
       omega
      have k3':∀i,k<=i->i<na2->K b (nb2-1)<K a i:=fun i i1 i2=>by
       have:=k3 i i1 i2
       rw[U37,gb.2] at this
       unfold bey at this
       simp at this
       omega
      have m3:MH a b (out2++(a.extract k na2).reverse) k nb2:=m2.J6 k k1 s5 Rg fun i j i1 i2 j1 j2=>(by
       have:=Sb j (nb2-1) (by omega) (by omega)
       have:=k3' i i1 i2
       omega)
      clear k2 k3 k3'
      apply Bl
      case' hx =>
       intro hk0
       refine Bl (fun e3=>?_) (fun e3=>?_)
       .exact wpS_pure ⟨hE3 _,.inl ⟨_,_,rfl,kA _ _ _ _ m3 (by simpa using e3) rfl⟩⟩
       have e3:¬k=0:=fun z=>e3 (by simpa using z)
       have hga:k-1<a.size:=by omega
       have h10:0<k:=by omega
       have s7:k<=a.size:=by omega
       have h11:y+k+nb2<=na'+nb':=by omega
       have ga:=Ia.get hga
       obtain⟨z,hz⟩:∃z,K a (k-1)=z:=⟨_,rfl⟩
       have hz2:∀j,j<k->K a j<=z:=fun j hj=>by rw[←hz];exact Sa j (k-1) (by omega) (by omega)
      case' hy =>
       intro hk0
       have:k=na2:=by
        have:¬na2-k>0:=hk0
        omega
       subst this
       have m3:=m2
       have hga:k-1<a.size:=by omega
       have h10:0<k:=by omega
       have s7:k<=a.size:=by omega
       have h11:y+k+nb2<=na'+nb':=by omega
       have ga:=Ia.get hga
       obtain⟨z,hz⟩:∃z,K a (k-1)=z:=⟨_,rfl⟩
       have hz2:∀j,j<k->K a j<=z:=fun j hj=>by rw[←hz];exact Sa j (k-1) (by omega) (by omega)
      all_goals
       refine wpS_bind (CK ib ?_)
       have m4:=m3.Kd (nb2-1) (by omega) s6 (Il ib (by omega)) fun i j i1 i2 j1 j2=>(by
        have:i=nb2-1:=by omega
        subst this
        exact k2' j j1)
       refine Bl (fun e5=>?_) (fun e5=>?_)
       .exact wpS_pure ⟨hE3 _,.inl ⟨_,_,rfl,kF _ _ _ _ m4 (by simpa using e5) rfl⟩⟩
       have e5:¬nb2-1=1:=fun z=>e5 (by simpa using z)
       refine wpS_bind (CK hga ?_)
       refine wpS_bind (Gu (base:=0) (n:=nb2-1) (hint:=nb2-1-1) (hE2.kind.trans hk) ga.1 Ib (by omega) (by omega) (fun i j i1 i2 i3=>?_) fun k' k1' k2 k3=>?_)
       .unfold bey at *
        have:=Sb (0+i) (0+j) (by omega) (by omega)
        simp at i3 ⊢
        simp at this
        omega
       have gk:=ga.2.trans hz
       have q2':∀i,i<k'->K b i<z:=fun i i1=>by
        have:=k2 i i1
        rw[U37,gk] at this
        unfold bey at this
        exact of_decide_eq_true this
       have q3':∀i,k'<=i->i<nb2-1->z<=K b i:=fun i i1 i2=>by
        have:=k3 i i1 i2
        rw[U37,gk] at this
        unfold bey at this
        have:=of_decide_eq_false this
        omega
       have m5:=m4.Kd k' k1' (by omega) (Rg (a:=b)) fun i j i1 i2 j1 j2=>U6i (hz2 j j1) (q3' i i1 i2)
       clear k2 k3 q3'
       apply Bl
       case' hx =>
        intro hk0
        refine Bl (fun e6=>?_) (fun e6=>?_)
        .exact wpS_pure ⟨hE3 _,.inl ⟨_,_,rfl,kF _ _ _ _ m5 (by simpa using e6) rfl⟩⟩
        have e6:¬k'=1:=fun z=>e6 (by simpa using z)
        refine Bl (fun e8=>?_) (fun e8=>?_)
        .exact wpS_pure ⟨hE3 _,.inl ⟨_,_,rfl,kB _ _ _ _ m5 (by simpa using e8) rfl⟩⟩
        have e8:¬k'=0:=fun z=>e8 (by simpa using z)
        have h12:1<k':=by omega
       case' hy =>
        intro hk0
        have:k'=nb2-1:=by
         have:¬nb2-1-k'>0:=hk0
         omega
        subst this
        have m5:=m4
        have h12:1<nb2-1:=by omega
       all_goals
        refine wpS_bind (CK hga ?_)
        have m6:=m5.J6 (k-1) (by omega) s7 (Il hga h10) fun i j i1 i2 j1 j2=>(by
         have:i=k-1:=by omega
         subst this
         rw[hz]
         exact U4p (q2' j j1))
        refine Bl (fun e7=>?_) (fun e7=>?_)
        .exact wpS_pure ⟨hE3 _,.inl ⟨_,_,rfl,kA _ _ _ _ m6 (by simpa using e7) rfl⟩⟩
        have e7:¬k-1=0:=fun z=>e7 (by simpa using z)
        refine Bl (fun _=>?_) (fun _=>?_)
        .exact wpS_pure ⟨hE3 _,.inr ⟨_,_,_,_,_,_,rfl,m6,(by first|omega|(dsimp only;omega)),(by first|omega|(dsimp only;omega)),(by first|omega|(dsimp only;omega)),(by first|omega|(dsimp only;omega)),(by first|omega|(dsimp only;omega))⟩⟩
        .exact wpS_pure ⟨hE3 _,_,_,_,_,_,_,rfl,m6,(by first|omega|(dsimp only;omega)),(by first|omega|(dsimp only;omega)),(by first|omega|(dsimp only;omega)),(by first|omega|(dsimp only;omega)),(by first|omega|(dsimp only;omega))⟩
end
end Tm
end
section
namespace Tm
open PySem PyProof.Rows
structure RB(a₀:Array Keyed)(st0:SortSt)(lo:Nat)(st:SortSt):Prop where
 perm:(arrOf st).Perm a₀
 pre:∀i,i<lo->(arrOf st)[i]?=(arrOf st0)[i]?
 kind:kindOf st=oneType'
 failed:failedOf st=none
 pend:pendingOf st=pendingOf st0
structure Keys(a₀:Array Keyed):Prop where
 allI:Hr a₀
 uniq:(a₀.toList.map kv).Nodup
theorem Ti{a₀ xs:Array Keyed}(h:Hr a₀)(hp:xs.Perm a₀):Hr xs:=fun p hm=>h p ((U4x.mp hp).mem_iff.mp hm)
theorem fj{a₀ xs:Array Keyed}(h:Keys a₀)(hp:xs.Perm a₀){i j:Nat}(hi:i<a₀.size)(hj:j<a₀.size)(hij:i≠j):K xs i≠K xs j:=by
 have hn:(xs.toList.map kv).Nodup:=((U4x.mp hp).map kv).nodup_iff.mpr h.uniq
 have sz:=hp.size_eq
 have h1:i<xs.size:=by omega
 have h2:j<xs.size:=by omega
 intro z
 rw[←KC h1,←KC h2] at z
 have g:∀k (hk:k<xs.size),(xs.toList.map kv)[k]'(by rw[U0g,U0e];exact hk)=kv xs[k]:=fun k hk=>by rw[List.getElem_map,U3d]
 have P:=U3a.mp hn
 rcases Nat.lt_or_gt_of_ne hij with l|l
 .exact P i j (by rw[U0g,U0e];exact h1) (by rw[U0g,U0e];exact h2) l (by rw[g i h1,g j h2];exact z)
 .exact P j i (by rw[U0g,U0e];exact h2) (by rw[U0g,U0e];exact h1) l (by rw[g i h1,g j h2];exact z.symm)
variable{a₀:Array Keyed}{st0:SortSt}{lo:Nat}
theorem RB.size{st:SortSt}(h:RB a₀ st0 lo st):(arrOf st).size=a₀.size:=h.perm.size_eq
theorem RB.mirror{st:SortSt}(h:RB a₀ st0 lo st){j:Nat}(hj:j<=a₀.size):RB a₀ st0 lo (setArr st (mirror (arrOf st) lo j ((j-lo)/2))) :=
 ⟨(mirror_perm _ _ _ _).trans h.perm,fun i hi=>by
  show(PyProof.Rows.mirror (arrOf st) lo j ((j-lo)/2))[i]?=_
  rw[getElem?_mirror_all (by rw[h.size];exact hj),if_neg (by omega)]
  exact h.pre i hi,h.kind,h.failed,h.pend⟩
theorem RB.bubble{st:SortSt}(h:RB a₀ st0 lo st){k d:Nat}(hk:lo+k<a₀.size)(hd:d<=k):RB a₀ st0 lo (setArr st (bubble (arrOf st) (lo+k) d)) :=
 ⟨(bubble_perm _ _ _).trans h.perm,fun i hi=>by
  show(PyProof.Rows.bubble (arrOf st) (lo+k) d)[i]?=_
  rw[getElem?_bubble (by rw[h.size];exact hk) d (by omega),if_neg (by omega),if_neg (by omega)]
  exact h.pre i hi,h.kind,h.failed,h.pend⟩
def JB(xs:Array Keyed)(lo m:Nat):Prop:=∀i j,i<=j->j<m->K xs (lo+i)<=K xs (lo+j)
section
variable{prog:Program}{w:World}{A:Around}{E:Value->Shared->Prop}{s:Shared}
theorem Jq{st:SortSt}{i j:Nat}{Q:Option Bool->SortSt->Prop}(hB:RB a₀ st0 lo st)(h0:Keys a₀)(hi:i<a₀.size)(hj:j<a₀.size)
  (h:Q (some (decide (K (arrOf st) i<K (arrOf st) j))) st):wpS (model prog w) A E s (ltAt' i j) Q st:=by
 have I:=Ti h0.allI hB.perm
 have g1:=I.get (show i<(arrOf st).size by rw[hB.size];exact hi)
 have g2:=I.get (show j<(arrOf st).size by rw[hB.size];exact hj)
 rw[ltAt'_eq]
 refine wpS_bind (wpS_get (wpS_bind (CK (by rw[hB.size];exact hi) (wpS_bind (CK (by rw[hB.size];exact hj) (NT g1.1 g2.1 hB.kind ?_))))))
 rw[g1.2,g2.2]
 exact h
theorem Yv{st:SortSt}{n ok:Nat}{Q:Bool->SortSt->Prop}(h0:Keys a₀)(hn:lo+n<=a₀.size)(hok:ok<=n)(hB:RB a₀ st0 lo st)(hs:JB (arrOf st) lo ok)
  (h:∀st',RB a₀ st0 lo st'->JB (arrOf st') lo n->Q true st'):wpS (model prog w) A E s (binarySort' lo n ok) Q st:=by
 rw[binarySort'_eq]
 refine wpS_bind (wpS_mono (wpS_forRange (I:=fun k c st'=>c=(none,())/\RB a₀ st0 lo st'/\JB (arrOf st') lo (min k n))
  (Q:=fun c st'=>c=(none,())/\RB a₀ st0 lo st'/\JB (arrOf st') lo n) ?step ?fin ?init) ?post)
 case post =>
  rintro c st' ⟨rfl,hB',hs'⟩
  exact wpS_pure (h st' hB' hs')
 case init =>
  refine⟨rfl,hB,fun i j hij hj=>?_⟩
  by_cases h1:ok=0
  .have:i=j:=by omega
   subst this;exact U4j _
  .exact hs i j hij (by omega)
 case fin =>
  rintro c st' ⟨hc,hB',hs'⟩
  refine⟨hc,hB',?_⟩
  rwa [show min (max (max ok 1) n) n=n by omega] at hs'
 case step =>
  rintro k c st' hak hkn ⟨rfl,hB',hs'⟩
  rw[show min k n=k by omega] at hs'
  refine wpS_bind (wpS_mono (wpS_forRange (I:=fun x c st''=>st''=st'/\∃l r,c=(none,l,r)/\l<=r/\r<=k/\r-l<=k-x /\
    (∀i,i<l->K (arrOf st') (lo+i)<=K (arrOf st') (lo+k))/\(∀i,r<=i->i<k->K (arrOf st') (lo+k)<K (arrOf st') (lo+i)))
   (Q:=fun c st''=>st''=st'/\∃l r,c=(none,l,r)/\l<=k /\
    (∀i,i<l->K (arrOf st') (lo+i)<=K (arrOf st') (lo+k))/\(∀i,l<=i->i<k->K (arrOf st') (lo+k)<K (arrOf st') (lo+i))) ?istep ?ifin ?iinit) ?ipost)
  case iinit=>exact⟨rfl,0,k,rfl,by omega,by omega,by omega,fun i hi=>by omega,fun i h1 h2=>by omega⟩
  case ifin =>
   rintro c st'' ⟨rfl,l,r,rfl,hlr,hrk,hm,hlo,hhi⟩
   have:l=r:=by omega
   subst this
   exact⟨rfl,l,l,rfl,hrk,hlo,hhi⟩
  case istep =>
   rintro x c st'' _ hxk ⟨rfl,l,r,rfl,hlr,hrk,hm,hlo,hhi⟩
   dsimp only
   by_cases hge:l≥r
   .rw[if_pos hge]
    have:l=r:=by omega
    subst this
    exact wpS_pure ⟨rfl,l,l,rfl,hrk,hlo,hhi⟩
   .rw[if_neg hge]
    refine wpS_bind (Jq hB' h0 (by omega) (by omega) ?_)
    by_cases hless:K (arrOf st'') (lo+k)<K (arrOf st'') (lo+(l+r)/2)
    .simp only[hless,decide_true,if_true]
     refine wpS_pure ⟨rfl,l,(l+r)/2,rfl,by omega,by omega,by omega,hlo,fun i h1 h2=>?_⟩
     exact Int.lt_of_lt_of_le hless (hs' _ _ h1 h2)
    .simp only[hless,decide_false,U07,if_false]
     refine wpS_pure ⟨rfl,(l+r)/2+1,r,rfl,by omega,by omega,by omega,fun i h1=>?_,hhi⟩
     exact U6i (hs' i ((l+r)/2) (by omega) (by omega)) (Int.not_lt.mp hless)
  case ipost =>
   rintro c st'' ⟨rfl,l,r,rfl,hlk,hlo,hhi⟩
   show wpS _ _ _ _ (do moveDown' (lo+k) (lo+l);pure (U3y (none,()))) _ _
   rw[moveDown'_eq]
   have ed:lo+k-(lo+l)=k-l:=by omega
   rw[ed]
   refine wpS_bind (wpS_modify (wpS_pure ⟨rfl,hB'.bubble (by omega) (by omega),?_⟩))
   rw[show min (k+1) n=k+1 by omega]
   have hks:lo+k<(arrOf st'').size:=by rw[hB'.size];omega
   intro i j hij hj
   show K (bubble (arrOf st'') (lo+k) (k-l)) (lo+i)<=K (bubble (arrOf st'') (lo+k) (k-l)) (lo+j)
   rw[K_bubble hks (by omega),K_bubble hks (by omega),show lo+k-(k-l)=lo+l by omega]
   have e1:∀i,0<i->lo+i-1=lo+(i-1):=fun i h=>by omega
   repeat' split
   all_goals first
    |(exfalso;omega)
    |exact U4j _
    |exact hlo _ (by omega)
    |(rw[e1 _ (by omega)];exact U4p (hhi _ (by omega) (by omega)))
    |(rw[e1 i (by omega),e1 j (by omega)];exact hs' _ _ (by omega) (by omega))
    |(rw[e1 j (by omega)];exact hs' _ _ (by omega) (by omega))
    |(rw[e1 j (by omega)];exact hlo _ (by omega))
    |exact hs' _ _ (by omega) (by omega)
theorem WW{st:SortSt}{nrem:Nat}{Q:Option Nat->SortSt->Prop}(h0:Keys a₀)(hn:lo+nrem<=a₀.size)(h1:1<=nrem)(hB:RB a₀ st0 lo st)
  (h:∀m st',RB a₀ st0 lo st'->1<=m->m<=nrem->JB (arrOf st') lo m->Q (some m) st') :
  wpS (model prog w) A E s (countRun' lo nrem) Q st:=by
 have up:∀(f:Nat->Option (Option Nat)×Nat->StateT SortSt Sem (ForInStep (Option (Option Nat)×Nat)))(R:Option (Option Nat)×Nat->SortSt->Prop)(a:Nat)(st:SortSt),1<=a->a<=nrem->RB a₀ st0 lo st->JB (arrOf st) lo a ->
   (∀x y Q',1<=y->y<nrem->Q' (if K (arrOf st) (lo+y)<K (arrOf st) (lo+y-1) then ForInStep.done (none,y) else U3y (none,y+1)) st->wpS (model prog w) A E s (f x (none,y)) Q' st) ->
   (∀n,a<=n->n<=nrem->JB (arrOf st) lo n->(n=nrem∨K (arrOf st) (lo+n)<K (arrOf st) (lo+n-1))->R (none,n) st)->wpS (model prog w) A E s (forIn [a:nrem] (none,a) f) R st:=fun f R a st ha han hB hs hf hR=>by
  refine wpS_forRange (I:=fun x c st'=>st'=st/\c=(none,x)/\JB (arrOf st) lo x) ?step ?fin ⟨rfl,rfl,hs⟩
  case fin =>
   rintro c st' ⟨rfl,rfl,hs'⟩
   rw[show max a nrem=nrem by omega] at hs' ⊢
   exact hR nrem han (U0l _) hs' (.inl rfl)
  case step =>
   rintro x c st' hax hxn ⟨rfl,rfl,hs'⟩
   refine hf x x _ (by omega) hxn ?_
   by_cases hless:K (arrOf st') (lo+x)<K (arrOf st') (lo+x-1)
   .rw[if_pos hless]
    exact hR x hax (by omega) hs' (.inr hless)
   .rw[if_neg hless]
    refine⟨rfl,rfl,fun i j hij hj=>?_⟩
    by_cases hjx:j<x
    .exact hs' i j hij hjx
    .have hj':j=x:=by omega
     subst hj'
     by_cases hi':i=j
     .subst hi';exact U4j _
     .have:=hs' i (j-1) (by omega) (by omega)
      rw[show lo+(j-1)=lo+j-1 by omega] at this
      omega
 unfold countRun'
 refine wpS_bind (up _ _ 1 st (U0l _) h1 hB (fun i j hij hj=>by
  have:i=j:=by omega
  subst this;exact U4j _) (fun x y Q' y1 y2 hq=>?_) fun n n1 n2 hsn hor=>?_)
 .refine wpS_bind (Jq hB h0 (by omega) (by omega) ?_)
  by_cases z:K (arrOf st) (lo+y)<K (arrOf st) (lo+y-1)
  .rw[if_pos z] at hq
   simp only[z,decide_true,if_true]
   exact wpS_pure hq
  .rw[if_neg z] at hq
   simp only[z,decide_false,U07,if_false]
   exact wpS_pure hq
 refine Bl (fun e1=>?_) (fun e1=>?_)
 .exact wpS_pure (h n st hB n1 n2 hsn)
 have e1:¬n=nrem:=fun z=>e1 (by simpa using z)
 have hlt:=hor.resolve_left e1
 refine Bl (fun e2=>?_) (fun e2=>?_)
 .have e2:n>1:=e2
  refine wpS_bind (Jq hB h0 (by omega) (by omega) ?_)
  have rose:K (arrOf st) lo<K (arrOf st) (lo+n-1):=by
   have q1:=hsn 0 (n-1) (by omega) (by omega)
   have q2:=fj h0 hB.perm (i:=lo) (j:=lo+n-1) (by omega) (by omega) (by omega)
   rw[U49,show lo+(n-1)=lo+n-1 by omega] at q1
   omega
  refine Bl (fun _=>?_) (fun e3=>absurd (decide_eq_true rose) e3)
  exact wpS_pure (h n st hB n1 n2 hsn)
 have e2:n=1:=by
  have:¬n>1:=e2
  omega
 subst e2
 have hd0:∀i j,i<j->j<1+1->K (arrOf st) (lo+j)<K (arrOf st) (lo+i):=fun i j h2 h3=>by
  have e3:i=0:=by omega
  have e4:j=1:=by omega
  subst e3 e4
  exact hlt
 refine wpS_bind (wpS_lift (U3p ⟨rfl,?_⟩))
 refine wpS_bind (wpS_mono (wpS_forRange (I:=fun x c st'=>st'=st/\c=(none,x,0)/\∀i j,i<j->j<x->K (arrOf st) (lo+j)<K (arrOf st) (lo+i))
  (Q:=fun c st'=>st'=st/\∃n,c=(none,n,0)/\1<=n/\n<=nrem/\∀i j,i<j->j<n->K (arrOf st) (lo+j)<K (arrOf st) (lo+i)) ?step ?fin ⟨rfl,rfl,hd0⟩) ?post)
 case fin =>
  rintro c st' ⟨rfl,rfl,hd⟩
  rw[show max (1+1) nrem=nrem by omega] at hd
  refine⟨rfl,nrem,?_,by omega,U0l _,hd⟩
  rw[show max (1+1) nrem=nrem by omega]
 case step =>
  rintro x c st' hx1 hx2 ⟨rfl,rfl,hd⟩
  dsimp only
  refine wpS_bind (Jq hB h0 (by omega) (by omega) ?_)
  by_cases z:K (arrOf st') (lo+x)<K (arrOf st') (lo+x-1)
  .simp only[z,decide_true,if_true]
   refine Bl (fun e=>by omega) (fun _=>?_)
   refine wpS_pure ⟨rfl,rfl,fun i j h2 h3=>?_⟩
   by_cases hj:j<x
   .exact hd i j h2 hj
   .have:j=x:=by omega
    subst this
    by_cases hi:i=j-1
    .subst hi
     rw[show lo+(j-1)=lo+j-1 by omega];exact z
    .have:=hd i (j-1) (by omega) (by omega)
     rw[show lo+(j-1)=lo+j-1 by omega] at this
     omega
  .simp only[z,decide_false,U07,if_false]
   refine wpS_bind (Jq hB h0 (by omega) (by omega) ?_)
   have larger:K (arrOf st') (lo+x-1)<K (arrOf st') (lo+x):=by
    have:=fj h0 hB.perm (i:=lo+x) (j:=lo+x-1) (by omega) (by omega) (by omega)
    omega
   simp only[larger,decide_true,if_true]
   exact wpS_pure ⟨rfl,x,rfl,by omega,by omega,hd⟩
 case post =>
  rintro c st' ⟨rfl,n,rfl,n1,n2,hd⟩
  refine Bl (fun e=>by simp at e) (fun _=>?_)
  refine wpS_bind ?_
  show wpS _ _ _ _ (reverseSlice' _ _) _ _
  have hB2:=hB.mirror (j:=lo+n) (by omega)
  have hsz:lo+n<=(arrOf st').size:=by rw[hB.size];omega
  refine wpS_reverse (wpS_bind (up _ _ n _ n1 n2 hB2 (fun i j hij hj=>?_) (fun x y Q' y1 y2 hq=>?_) fun m m1 m2 hsm _=>wpS_pure (h m _ hB2 (by omega) m2 hsm)))
  .show K (mirror (arrOf st') lo (lo+n) ((lo+n-lo)/2)) (lo+i)<=K (mirror (arrOf st') lo (lo+n) ((lo+n-lo)/2)) (lo+j)
   rw[K_mirror hsz,K_mirror hsz,if_pos (by omega),if_pos (by omega),show lo+(lo+n)-1-(lo+i)=lo+(n-1-i) by omega,show lo+(lo+n)-1-(lo+j)=lo+(n-1-j) by omega]
   by_cases e:i=j
   .subst e;exact U4j _
   .exact U4p (hd _ _ (by omega) (by omega))
  .refine wpS_bind (Jq hB2 h0 (by omega) (by omega) ?_)
   split at hq
   .rename_i z
    simp only[z,decide_true,if_true]
    exact wpS_pure hq
   .rename_i z
    simp only[z,decide_false,U07,if_false]
    exact wpS_pure hq
end
end Tm
end
section
namespace Tm
open PySem PyProof.Rows
def kx(l:List Keyed)(i:Nat):Int:=match l[i]? with
 |some p=>kv p
 |none=>0
theorem NP(xs:Array Keyed)(i:Nat):K xs i=kx xs.toList i:=by
 unfold K kx
 rw[U2a]
 rfl
theorem Pq(a b:List Keyed)(i:Nat):kx (a++b) (a.length+i)=kx b i:=by
 unfold kx
 rw[U1f (by omega),U5h]
theorem Vm{a:List Keyed}(b:List Keyed){i:Nat}(h:i<a.length):kx (a++b) i=kx a i:=by
 unfold kx
 rw[U00 h]
theorem Ni{l:List Keyed}{i:Nat}(h:i<l.length):kx l i=kv l[i]:=by
 unfold kx
 rw[U0q h]
theorem Iw(l:List Keyed)(k i:Nat):kx (l.drop k) i=kx l (k+i):=by
 unfold kx
 rw[U52]
theorem Jv{l:List Keyed}{k i:Nat}(h:i<k):kx (l.take k) i=kx l i:=by
 unfold kx
 rw[U53,if_pos h]
theorem HN{l:List Keyed}(h:srt l){i j:Nat}(hij:i<=j)(hj:j<l.length):kx l i<=kx l j:=by
 by_cases e:i=j
 .subst e;exact U4j _
 .rw[Ni (by omega),Ni hj]
  exact U3a.mp h i j (by omega) hj (by omega)
theorem Mh{a:Array Keyed}(h:srt a.toList):SortedTo a a.size:=fun i j hij hj=>by
 rw[NP,NP]
 exact HN h hij (by rw[U0e];exact hj)
theorem Gi{l:List Keyed}{p:Keyed}(h:p∈l):∃i,i<l.length/\kv p=kx l i:=by
 obtain⟨i,hi,rfl⟩:=U3j h
 exact⟨i,hi,(Ni hi).symm⟩
theorem Oc{a b:List Keyed}(ha:srt a)(hb:srt b)(h:∀p∈a,∀q∈b,kv p<=kv q):srt (a++b):=U1e.mpr ⟨ha,hb,h⟩
theorem laid(s:Nat):∀(l:List Keyed)(n:Nat)(arr:Array Keyed),s+n+l.length<=arr.size->((l.zipIdx n).foldl (fun a q=>a.setIfInBounds (s+q.2) q.1) arr).toList=arr.toList.take (s+n)++l++arr.toList.drop (s+n+l.length)
 |[],n,arr,h=>by simp
 |p::l,n,arr,h=>by
  rw[U0f] at h
  rw[List.zipIdx_cons,U22,laid s l (n+1) _ (by rw[Array.size_setIfInBounds];omega),Array.toList_setIfInBounds]
  have hl:s+n<arr.toList.length:=by rw[U0e];omega
  have e1:(arr.toList.set (s+n) p).take (s+(n+1))=arr.toList.take (s+n)++[p]:=by
   rw[List.set_eq_take_append_cons_drop,if_pos hl,List.append_cons]
   rw[U3i (by simp;omega),U2d (by simp;omega)]
  have e2:(arr.toList.set (s+n) p).drop (s+(n+1)+l.length)=arr.toList.drop (s+n+(l.length+1)):=by
   rw[List.drop_set_of_lt (by omega)]
   congr 1
   omega
  rw[e1,e2,U0f]
  simp
section
variable{prog:Program}{w:World}{A:Around}{E:Value->Shared->Prop}{s:Shared}
theorem aR{σ:Type}{M:Model}{st st':σ}{Q:PUnit->σ->Prop}(h:Q ⟨⟩ st'):wpS M A E s (set st':StateT σ Sem PUnit) Q st:=by
 unfold wpS;rw[StateT.run_set];exact U0c ⟨rfl,h⟩
theorem Uv{st:SortSt}{i sa na pw sb nb pw2:Nat}{L1 x y L2:List Keyed}{Q:Bool->SortSt->Prop}(hI:Hr (arrOf st))(hk:kindOf st=oneType')(hf:failedOf st=none)(hp1:(pendingOf st)[i]?=some (sa,na,pw))(hp2:(pendingOf st)[i+1]?=some (sb,nb,pw2))
  (hl:(arrOf st).toList=L1++(x++(y++L2))) (e1:sa=L1.length) (e2:na=x.length) (e3:sb=sa+na) (e4:nb=y.length) (x0:0<na) (y0:0<nb) (sx:srt x) (sy:srt y)
  (h:∀st' z,kindOf st'=oneType'->failedOf st'=none->pendingOf st'=((pendingOf st).setIfInBounds i (sa,na+nb,pw)).eraseIdxIfInBounds (i+1)->(arrOf st').toList=L1++(z++L2)->z.Perm (x++y)->srt z->Q true st') :
  wpS (model prog w) A E s (mergeAt' i) Q st:=by
 have hsz:(arrOf st).size=sa+na+nb+L2.length:=by
  have:(arrOf st).toList.length=_:=congrArg U3b hl
  rw[U0e] at this
  simp only[U0i] at this
  omega
 have Kx:∀i,i<na->K (arrOf st) (sa+i)=kx x i:=fun i hi=>by rw[NP,hl,e1,Pq,Vm _ (by omega)]
 have Ky:∀i,i<nb->K (arrOf st) (sb+i)=kx y i:=fun i hi=>by rw[NP,hl,e3,e1,e2,U60,Pq,Pq,Vm _ (by omega)]
 unfold mergeAt'
 refine wpS_bind (wpS_get ?_)
 rw[hp1,hp2]
 refine wpS_bind (aR ?_)
 have hsb:sb<(arrOf st).size:=by omega
 have gk:=hI.get hsb
 have hb1:sa+na<=(arrOf st).size:=by omega
 have hb2:sb+nb<=(arrOf st).size:=by omega
 have ky0:K (arrOf st) sb=kx y 0:=Ky 0 y0
 refine wpS_bind (CK hsb ?_)
 refine wpS_bind (Gu (base:=sa) (n:=na) (hint:=0) hk gk.1 hI hb1 x0 (fun i j i1 i2 i3=>?_) fun k k1 k2 k3=>?_)
 .rw[Kx j i2] at i3
  rw[Kx i (by omega)]
  have:=HN sx i1 (by omega)
  unfold bey at *
  simp at i3 ⊢
  omega
 have k2':∀i,i<k->kx x i<=kx y 0:=fun i i1=>by
  have:=k2 i i1
  rw[Kx i (by omega),gk.2,ky0] at this
  unfold bey at this
  simp at this
  omega
 have k3':∀i,k<=i->i<na->kx y 0<kx x i:=fun i i1 i2=>by
  have:=k3 i i1 i2
  rw[Kx i i2,gk.2,ky0] at this
  unfold bey at this
  simp at this
  omega
 clear k2 k3
 refine Bl (fun e5=>?_) (fun e5=>?_)
 .have e5:na-k=0:=by simpa using e5
  refine wpS_pure (h _ (x++y) hk hf rfl (by rw[U0w];exact hl) (U4o _) (Oc sx sy fun p hp q hq=>?_))
  obtain⟨i,i1,i2⟩:=Gi hp
  obtain⟨j,j1,j2⟩:=Gi hq
  have:=k2' i (by omega)
  have:=HN sy (U3c j) j1
  omega
 have e5:¬na-k=0:=fun z=>e5 (by simpa using z)
 have hil:sa+k+(na-k)-1<(arrOf st).size:=by omega
 have gl:=hI.get hil
 have kl:K (arrOf st) (sa+k+(na-k)-1)=kx x (na-1):=by
  rw[show sa+k+(na-k)-1=sa+(na-1) by omega]
  exact Kx _ (by omega)
 refine wpS_bind (CK hil ?_)
 refine wpS_bind (Gu (base:=sb) (n:=nb) (hint:=nb-1) hk gl.1 hI hb2 (by omega) (fun i j i1 i2 i3=>?_) fun m m1 q2 q3=>?_)
 .rw[Ky j i2] at i3
  rw[Ky i (by omega)]
  have:=HN sy i1 (by omega)
  unfold bey at *
  simp at i3 ⊢
  omega
 have q2':∀i,i<m->kx y i<kx x (na-1):=fun i i1=>by
  have:=q2 i i1
  rw[Ky i (by omega),gl.2,kl] at this
  unfold bey at this
  simp at this
  omega
 have q3':∀i,m<=i->i<nb->kx x (na-1)<=kx y i:=fun i i1 i2=>by
  have:=q3 i i1 i2
  rw[Ky i i2,gl.2,kl] at this
  unfold bey at this
  simp at this
  omega
 clear q2 q3
 refine Bl (fun e6=>?_) (fun e6=>?_)
 .have e6:m=0:=by simpa using e6
  refine wpS_pure (h _ (x++y) hk hf rfl (by rw[U0w];exact hl) (U4o _) (Oc sx sy fun p hp q hq=>?_))
  obtain⟨i,i1,i2⟩:=Gi hp
  obtain⟨j,j1,j2⟩:=Gi hq
  have:=q3' j (by omega) (by omega)
  have:=HN sx (show i<=na-1 by omega) (by omega)
  omega
 have e6:¬m=0:=fun z=>e6 (by simpa using z)
 have hA:((arrOf st).extract (sa+k) sb).toList=x.drop k:=by
  rw[U3e,U2u,hl,←U4q,e1,U5f,List.drop_append_of_le_length (by omega),U3i (by rw[U1s];omega),U2d (by rw[U1s];omega)]
 have hBl:((arrOf st).extract sb (sb+m)).toList=y.take m:=by
  rw[U3e,U2u,hl,e3,←U4q,e1,U5f,e2,U5f,U3i (by omega)]
  congr 1
  omega
 obtain⟨a,ha⟩:∃a,a=(arrOf st).extract (sa+k) sb:=⟨_,rfl⟩
 obtain⟨b,hb⟩:∃b,b=(arrOf st).extract sb (sb+m):=⟨_,rfl⟩
 rw[←ha] at hA
 rw[←hb] at hBl
 have za:a.size=na-k:=by rw[←U0e,hA,U1s];omega
 have zb:b.size=m:=by rw[←U0e,hBl,U1i];omega
 have Ia:Hr a:=fun p hp=>hI p (by
  rw[hA] at hp
  rw[hl]
  exact U01 _ (U2y _ (List.mem_of_mem_drop hp)))
 have Ib:Hr b:=fun p hp=>hI p (by
  rw[hBl] at hp
  rw[hl]
  exact U01 _ (U01 _ (U2y _ (List.mem_of_mem_take hp))))
 have Sa:SortedTo a a.size:=Mh (by rw[hA];exact sx.sublist (U59 ..))
 have Sb:SortedTo b b.size:=Mh (by rw[hBl];exact sy.sublist (U5i ..))
 have Ka:∀i,K a i=kx x (k+i):=fun i=>by rw[NP,hA,Iw]
 have Kb:∀i,i<m->K b i=kx y i:=fun i hi=>by rw[NP,hBl,Jv hi]
 have hmin:∀i,i<a.size->K b 0<=K a i:=fun i hi=>by
  rw[Kb 0 (by omega),Ka]
  exact U4p (k3' _ (by omega) (by omega))
 have hmax:∀j,j<b.size->K b j<=K a (a.size-1):=fun j hj=>by
  rw[Kb j (by omega),Ka,show k+(a.size-1)=na-1 by omega]
  exact U4p (q2' j (by omega))
 have fin:∀(r:Array Keyed)(st':SortSt),EqG (SortSt.mk' (kindOf st) (arrOf st) (((pendingOf st).setIfInBounds i (sa,na+nb,pw)).eraseIdxIfInBounds (i+1)) (gallopOf st) (failedOf st)) st'->r.toList.Perm (a.toList++b.toList)->srt r.toList ->
   ∀st2:SortSt,kindOf st2=kindOf st'->failedOf st2=failedOf st'->pendingOf st2=pendingOf st'->(arrOf st2).toList=((r.toList.zipIdx 0).foldl (fun a q=>a.setIfInBounds (sa+k+q.2) q.1) (arrOf st')).toList->Q true st2:=fun r st' hE p1 p2 st2 z1 z2 z3 z4=>by
  have er:(arrOf st')=arrOf st:=hE.arr
  have hlen:r.toList.length=na-k+m:=by
   rw[p1.length_eq,U0i,U0e,U0e,za,zb]
  rw[er,laid (sa+k) r.toList 0 (arrOf st) (by omega),hl,U49] at z4
  have t1:(L1++(x++(y++L2))).take (sa+k)=L1++x.take k:=by
   rw[e1,List.take_append,U2d (by omega),U5h,U3i (by omega)]
  have t2:(L1++(x++(y++L2))).drop (sa+k+r.toList.length)=y.drop m++L2:=by
   rw[hlen,show sa+k+(na-k+m)=L1.length+(x.length+m) by omega,←U4q,U5f,←U4q,U5f,List.drop_append_of_le_length (by omega)]
  rw[t1,t2] at z4
  rw[hA,hBl] at p1
  refine h st2 (x.take k++(r.toList++y.drop m)) (z1.trans (hE.kind.trans hk)) (z2.trans (hE.failed.trans hf)) (z3.trans hE.pend) ?_ ?_ ?_
  .rw[z4];simp
  .refine(U1u _ (p1.append_right _)).trans ?_
   rw[U0w,U1n,←U0w,U1n]
  .refine Oc (sx.sublist (U5i ..)) (Oc p2 (sy.sublist (U59 ..)) fun p hp q hq=>?_) fun p hp q hq=>?_
   .obtain⟨j,j1,j2⟩:=Gi hq
    rw[Iw] at j2
    rw[U1s] at j1
    have g1:=q3' (m+j) (by omega) (by omega)
    rcases U1l.mp (p1.mem_iff.mp hp) with w|w
    .obtain⟨i,i1,i2⟩:=Gi w
     rw[Iw] at i2
     rw[U1s] at i1
     have:=HN sx (show k+i<=na-1 by omega) (by omega)
     omega
    .obtain⟨i,i1,i2⟩:=Gi w
     rw[U1i] at i1
     rw[Jv (by omega)] at i2
     have:=HN sy (show i<=m+j by omega) (by omega)
     omega
   .obtain⟨i,i1,i2⟩:=Gi hp
    rw[U1i] at i1
    rw[Jv (by omega)] at i2
    have g1:=k2' i (by omega)
    rcases U1l.mp hq with w|w
    .rcases U1l.mp (p1.mem_iff.mp w) with w|w
     .obtain⟨j,j1,j2⟩:=Gi w
      rw[Iw] at j2
      rw[U1s] at j1
      have:=HN sx (show i<=k+j by omega) (by omega)
      omega
     .obtain⟨j,j1,j2⟩:=Gi w
      rw[U1i] at j1
      rw[Jv (by omega)] at j2
      have:=HN sy (U3c j) (by omega)
      omega
    .obtain⟨j,j1,j2⟩:=Gi w
     rw[Iw] at j2
     rw[U1s] at j1
     have:=HN sy (U3c (m+j)) (by omega)
     omega
 refine Bl (fun _=>wpS_bind ?_) (fun _=>wpS_bind ?_)
 .refine Ut hk (ha ▸ Ia) (hb ▸ Ib) (ha ▸ Sa) (hb ▸ Sb) (by rw[←ha];omega) (by rw[←hb];omega) (by rw[←ha,←hb];exact hmin) (by rw[←ha,←hb];exact hmax) fun r st' hE p1 p2=>?_
  rw[←ha,←hb] at p1
  refine wpS_bind (wpS_modify (wpS_bind (wpS_get (wpS_pure ?_))))
  have hn:failedOf st'=none:=hE.failed.trans hf
  show Q (failedOf st').isNone _
  rw[hn]
  exact fin r st' hE p1 p2 _ rfl rfl rfl rfl
 .refine Uu hk (ha ▸ Ia) (hb ▸ Ib) (ha ▸ Sa) (hb ▸ Sb) (by rw[←ha];omega) (by rw[←hb];omega) (by rw[←ha,←hb];exact hmin) (by rw[←ha,←hb];exact hmax) fun r st' hE p1 p2=>?_
  rw[←ha,←hb] at p1
  refine wpS_bind (wpS_modify (wpS_bind (wpS_get (wpS_pure ?_))))
  have hn:failedOf st'=none:=hE.failed.trans hf
  show Q (failedOf st').isNone _
  rw[hn]
  exact fin r st' hE p1 p2 _ rfl rfl rfl rfl
end
end Tm
end
section
namespace Tm
open PySem PyProof.Rows
def offs:Nat->List (List Keyed)->List (Nat×Nat)
 |_,[]=>[]
 |s,x::xs=>(s,x.length)::offs (s+x.length) xs
theorem MN:∀(s:Nat)(xs ys:List (List Keyed)),offs s (xs++ys)=offs s xs++offs (s+xs.flatten.length) ys
 |s,[],ys=>by simp[offs]
 |s,x::xs,ys=>by
  rw[U15,offs,MN,offs,U2i,U0i,←U60];rfl
theorem KJ:∀(s:Nat)(xs:List (List Keyed)),(offs s xs).length=xs.length
 |_,[]=>rfl
 |s,x::xs=>by rw[offs,U0f,KJ,U0f]
theorem RW{α β:Type}(f:α->β):∀(l:List α)(i:Nat),(l.eraseIdx i).map f=(l.map f).eraseIdx i
 |[],i=>by simp
 |a::l,0=>rfl
 |a::l,i+1=>by
  show f a::(l.eraseIdx i).map f=f a::(l.map f).eraseIdx i
  rw[RW f l i]
structure RI(a₀:Array Keyed)(rest:List Keyed)(lo m:Nat)(st:SortSt):Prop where
 perm:(arrOf st).Perm a₀
 kind:kindOf st=oneType'
 failed:failedOf st=none
 many:(pendingOf st).size=m
 runs:∃xs:List (List Keyed),(arrOf st).toList=xs.flatten++rest/\xs.flatten.length=lo/\(pendingOf st).toList.map (fun e=>(e.1,e.2.1))=offs 0 xs/\∀x∈xs,x≠[]/\srt x
theorem UJ:∀xs:List (List Keyed),(∀x∈xs,x≠[]/\srt x)->xs.length<=xs.flatten.length
 |[],_=>by simp
 |x::xs,h=>by
  have:=UJ xs fun y hy=>h y (U0o _ hy)
  have:=U4.mpr (h x U04).1
  rw[U2i,U0i,U0f]
  omega
theorem RI.few{a₀:Array Keyed}{rest:List Keyed}{lo m:Nat}{st:SortSt}(h:RI a₀ rest lo m st):m<=lo:=by
 obtain⟨xs,_,h2,h3,h4⟩:=h.runs
 have:=UJ xs h4
 have e:(pendingOf st).toList.length=xs.length:=by
  have:=congrArg U3b h3
  rw[U0g,KJ] at this
  exact this
 rw[U0e,h.many] at e
 omega
section
variable{prog:Program}{w:World}{A:Around}{E:Value->Shared->Prop}{s:Shared}{a₀:Array Keyed}
theorem Ou{rest:List Keyed}{lo m i:Nat}{st:SortSt}{Q:Bool->SortSt->Prop}(h0:Hr a₀)(hR:RI a₀ rest lo m st)(hi:i+1<m)(h:∀st',RI a₀ rest lo (m-1) st'->Q true st'):wpS (model prog w) A E s (mergeAt' i) Q st:=by
 obtain⟨xs,h1,h2,h3,h4⟩:=hR.runs
 have hlen:xs.length=m:=by
  have:=congrArg U3b h3
  rw[U0g,KJ,U0e,hR.many] at this
  exact this.symm
 obtain⟨x,y,xs2,hd⟩:∃x y xs2,xs.drop i=x::y::xs2:=by
  have e:=U1s (i:=i) (l:=xs)
  match hx:xs.drop i with
  |[]=>rw[hx] at e;simp at e;omega
  |[_]=>rw[hx] at e;simp at e;omega
  |x::y::r=>exact⟨x,y,r,rfl⟩
 obtain⟨xs1,hx1⟩:∃xs1,xs1=xs.take i:=⟨_,rfl⟩
 have hl1:xs1.length=i:=by rw[hx1,U1i];omega
 have hx:xs=xs1++x::y::xs2:=by rw[hx1,←hd,U1n]
 clear hx1 hd
 subst hx
 have ho:offs 0 (xs1++x::y::xs2)=offs 0 xs1++(xs1.flatten.length,x.length)::(xs1.flatten.length+x.length,y.length)::offs (xs1.flatten.length+x.length+y.length) xs2:=by
  rw[MN,U37];rfl
 rw[ho] at h3
 have hol:(offs 0 xs1).length=i:=by rw[KJ];exact hl1
 have g:∀j:Nat,((pendingOf st)[j]?).map (fun e:Nat×Nat×Nat=>(e.1,e.2.1))=(offs 0 xs1++(xs1.flatten.length,x.length)::(xs1.flatten.length+x.length,y.length)::offs (xs1.flatten.length+x.length+y.length) xs2)[j]?:=fun j=>by
  rw[←h3,U0v,U2a]
 have g1:=g i
 have g2:=g (i+1)
 rw[U1f (by omega),hol,Nat.sub_self] at g1
 rw[U1f (by omega),hol,show i+1-i=1 by omega] at g2
 obtain⟨⟨sa,na,pw⟩,p1,p2⟩:=U2e.mp g1
 obtain⟨⟨sb,nb,pw2⟩,p3,p4⟩:=U2e.mp g2
 obtain⟨rfl,rfl⟩:=Prod.mk.inj p2
 obtain⟨rfl,rfl⟩:=Prod.mk.inj p4
 have mx:=h4 x (by simp)
 have my:=h4 y (by simp)
 refine Uv (L1:=xs1.flatten) (x:=x) (y:=y) (L2:=xs2.flatten++rest) (Ti h0 hR.perm) hR.kind hR.failed p1 p3 (by rw[h1];simp) rfl rfl rfl rfl (U4.mpr mx.1) (U4.mpr my.1) mx.2 my.2 fun st' z q1 q2 q3 q4 q5 q6=>h st' ⟨?_,q1,q2,?_,xs1++z::xs2,?_,?_,?_,?_⟩
 .refine Array.Perm.trans (U4x.mpr ?_) hR.perm
  rw[q4,h1]
  have:(xs1++x::y::xs2).flatten++rest=xs1.flatten++((x++y)++(xs2.flatten++rest)):=by simp
  rw[this]
  exact U1u _ (q5.append_right _)
 .rw[q3,←U0e,Array.toList_eraseIdxIfInBounds,List.length_eraseIdx,U0e,Array.size_setIfInBounds,hR.many,if_pos hi]
 .rw[q4];simp
 .have:=q5.length_eq
  simp only[List.flatten_append,U2i,U0i] at *
  omega
 .have hz:=q5.length_eq
  rw[U0i] at hz
  have e5:offs 0 (xs1++z::xs2)=offs 0 xs1++(xs1.flatten.length,x.length+y.length)::offs (xs1.flatten.length+x.length+y.length) xs2:=by
   rw[MN,U37,offs,hz,U60]
  rw[q3,Array.toList_eraseIdxIfInBounds,Array.toList_setIfInBounds,RW,List.map_set,h3,e5,List.set_append_right _ _ (by omega),hol,Nat.sub_self,List.set_cons_zero,List.eraseIdx_append_of_length_le (by omega),hol,show i+1-i=1 by omega]
  rfl
 .intro u hu
  rcases U1l.mp hu with k|k
  .exact h4 u (U2y _ k)
  .rcases U0u.mp k with k|k
   .subst k
    refine⟨fun e=>mx.1 ?_,q6⟩
    rw[e] at q5
    have:=q5.length_eq
    rw[U0i,U1b] at this
    exact U2o.mp (by omega)
   .exact h4 u (U01 _ (U0o _ (U0o _ k)))
theorem RI.run{rest:List Keyed}{lo m n:Nat}{st st':SortSt}(hR:RI a₀ rest lo m st)(hB:RB a₀ st lo st')(hn:lo+n<=a₀.size)(hs:JB (arrOf st') lo n) :
  ∃x rest',RI a₀ (x++rest') lo m st'/\x.length=n/\srt x:=by
 obtain⟨xs,h1,h2,h3,h4⟩:=hR.runs
 have sz:=hB.size
 have et:(arrOf st').toList.take lo=xs.flatten:=by
  have:(arrOf st).toList.take lo=xs.flatten:=by rw[h1,←h2,List.take_left]
  rw[←this]
  refine U6d fun j=>?_
  rw[U53,U53]
  by_cases hj:j<lo
  .rw[if_pos hj,if_pos hj,U2a,U2a]
   exact hB.pre j hj
  .rw[if_neg hj,if_neg hj]
 have e2:(arrOf st').toList=xs.flatten++(((arrOf st').toList.drop lo).take n++((arrOf st').toList.drop lo).drop n):=by
  rw[U1n,←et,U1n]
 have hl:(((arrOf st').toList.drop lo).take n).length=n:=by
  rw[U1i,U1s,U0e];omega
 refine⟨((arrOf st').toList.drop lo).take n,((arrOf st').toList.drop lo).drop n,⟨hB.perm,hB.kind,hB.failed,by rw[hB.pend];exact hR.many,xs,e2,h2,by rw[hB.pend];exact h3,h4⟩,hl,?_⟩
 unfold srt
 rw[U3a]
 intro i j hi hj hij
 rw[←Ni hi,←Ni hj,Jv (by omega),Jv (by omega),Iw,Iw,←NP,←NP]
 exact hs i j (by omega) (by omega)
theorem RI.push{x rest:List Keyed}{lo m n:Nat}{st st':SortSt}(hR:RI a₀ (x++rest) lo m st)(hx:x.length=n)(hn:0<n)(hs:srt x)(h1:kindOf st'=kindOf st)(h2:failedOf st'=failedOf st)(h3:arrOf st'=arrOf st)(h4:pendingOf st'=(pendingOf st).push (lo,n,0)):RI a₀ rest (lo+n) (m+1) st':=by
 obtain⟨xs,g1,g2,g3,g4⟩:=hR.runs
 refine⟨by rw[h3];exact hR.perm,h1.trans hR.kind,h2.trans hR.failed,by rw[h4,Array.size_push,hR.many],xs++[x],by rw[h3,g1];simp,by simp[g2,hx],?_,fun u hu=>?_⟩
 .rw[h4,U6a,U18,g3,MN,U37,g2,offs,hx];rfl
 .rcases U1l.mp hu with k|k
  .exact g4 u k
  .rw[U1k.mp k]
   exact⟨U4.mp (by omega),hs⟩
theorem RI.same{rest:List Keyed}{lo m:Nat}{st st':SortSt}(hR:RI a₀ rest lo m st)(h1:kindOf st'=kindOf st)(h2:failedOf st'=failedOf st)(h3:arrOf st'=arrOf st)(h4:(pendingOf st').toList.map (fun e=>(e.1,e.2.1))=(pendingOf st).toList.map (fun e=>(e.1,e.2.1))):RI a₀ rest lo m st':=by
 obtain⟨xs,g1,g2,g3,g4⟩:=hR.runs
 refine⟨by rw[h3];exact hR.perm,h1.trans hR.kind,h2.trans hR.failed,?_,xs,by rw[h3];exact g1,g2,h4.trans g3,g4⟩
 have:=congrArg U3b h4
 rw[U0g,U0g,U0e,U0e,hR.many] at this
 exact this
end
end Tm
end
section
namespace Tm
open PySem PyProof.Rows
theorem cG{α β:Type}(g:α->β)(f:α->α)(hf:∀a,g (f a)=g a)(l:List α)(i:Nat):(l.modify i f).map g=l.map g:=by
 refine U6d fun j=>?_
 rw[U0v,U0v,List.getElem?_modify]
 cases l[j]? with
 |none=>rfl
 |some a =>
  show some (g (if i=j then f a else a))=some (g a)
  split
  .rw[hf]
  .rfl
theorem ite_le(c:Prop)[Decidable c](a b:Nat):(if c then a else b)<=max a b:=by split<;>omega
section
variable{prog:Program}{w:World}{A:Around}{E:Value->Shared->Prop}{s:Shared}{a₀:Array Keyed}
theorem Us{st:SortSt}{Q:Unit->SortSt->Prop}(h0:Keys a₀)(hB:SBase a₀ st)(h2:2<=a₀.size)
  (h:∀st',(arrOf st').Perm a₀->failedOf st'=none->SortedTo (arrOf st') a₀.size->Q () st'):wpS (model prog w) A E s sortRuns' Q st:=by
 have base:RI a₀ (arrOf st).toList 0 0 st:=⟨hB.perm,hB.kind,hB.failed,by rw[hB.pend];rfl,[],by simp,rfl,by rw[hB.pend];rfl,fun x hx=>by simp at hx⟩
 rw[sortRuns'_eq]
 refine wpS_bind (wpS_get ?_)
 dsimp only
 rw[hB.size]
 generalize minRun' a₀.size a₀.size 0=mr
 refine wpS_bind (wpS_mono (wpS_forRange
  (I:=fun x c st'=>∃lo rest m,c=(none,lo)/\RI a₀ rest lo m st'/\x<=lo/\lo<=a₀.size)
  (Q:=fun c st'=>∃rest m,c=(none,a₀.size)/\RI a₀ rest a₀.size m st') ?step ?fin ⟨0,_,0,rfl,base,by omega,by omega⟩) ?post)
 case fin =>
  rintro c st' ⟨lo,rest,m,rfl,hR,h3,h4⟩
  have:lo=a₀.size:=by omega
  subst this
  exact⟨rest,m,rfl,hR⟩
 case step =>
  rintro x c st' _ hx ⟨lo,rest,m,rfl,hR,h3,h4⟩
  dsimp only
  by_cases hge:lo≥a₀.size
  .rw[if_pos hge]
   have:lo=a₀.size:=by omega
   subst this
   exact wpS_pure ⟨rest,m,rfl,hR⟩
  rw[if_neg hge]
  have B0:RB a₀ st' lo st':=⟨hR.perm,fun _ _=>rfl,hR.kind,hR.failed,rfl⟩
  have rest_of:∀(st3:SortSt)(n:Nat),RB a₀ st' lo st3->0<n->lo+n<=a₀.size->JB (arrOf st3) lo n->∃x rest',RI a₀ (x++rest') lo m st3/\x.length=n/\srt x:=fun st3 n b1 b2 b3 b4=>hR.run b1 b3 b4
  refine wpS_bind (WW h0 (by omega) (by omega) B0 fun k st2 B2 k1 k2 hs2=>?_)
  apply Bl
  case' hx =>
   intro hlt
   refine wpS_bind (wpS_lift (U3p ⟨rfl,?_⟩))
   refine wpS_bind (Yv (n:=min (a₀.size-lo) mr) h0 (by omega) (by omega) B2 hs2 fun st3 B3 hs3=>?_)
   rw[if_neg (by decide)]
   have n1:0<min (a₀.size-lo) mr:=by omega
   have n2:lo+min (a₀.size-lo) mr<=a₀.size:=by omega
   generalize min (a₀.size-lo) mr=n at *
  case' hy =>
   intro hlt
   obtain⟨n,rfl⟩:∃n,n=k:=⟨_,rfl⟩
   obtain⟨st3,rfl⟩:∃st3,st3=st2:=⟨_,rfl⟩
   have B3:=B2
   have hs3:=hs2
   have n1:0<n:=by omega
   have n2:lo+n<=a₀.size:=by omega
  all_goals
   obtain⟨u,rest',hR3,hu,su⟩:=rest_of st3 n B3 n1 n2 hs3
   refine wpS_bind (wpS_get ?_)
   cases hb:(pendingOf st3).back? with
   |none=>exact wpS_bind (wpS_modify (wpS_pure ⟨lo+n,rest',_,rfl,hR3.push hu n1 su rfl rfl rfl rfl,by omega,n2⟩))
   |some e =>
    obtain⟨s1,l1,p1⟩:=e
    refine wpS_bind (wpS_mono (wpS_forRange (I:=fun _ c st4=>c=(none,())/\∃m,RI a₀ (u++rest') lo m st4) (Q:=fun c st4=>c=(none,())/\∃m,RI a₀ (u++rest') lo m st4) ?_ (fun _ _ hh=>hh) ⟨rfl,m,hR3⟩) ?_)
    .rintro y c st4 _ _ ⟨rfl,m4,hR4⟩
     refine wpS_bind (wpS_get ?_)
     by_cases hp:(pendingOf st4).size>1
     .rw[if_pos hp,getElem?_pos (pendingOf st4) _ (show(pendingOf st4).size-2<(pendingOf st4).size by omega)]
      obtain⟨t1,t2,t3⟩:=(pendingOf st4)[(pendingOf st4).size-2]'(by omega)
      refine Bl (fun _=>wpS_pure ⟨rfl,m4,hR4⟩) (fun _=>?_)
      refine wpS_bind (Ou h0.allI hR4 (by have:=hR4.many;omega) fun st5 hR5=>?_)
      rw[if_neg (by decide)]
      exact wpS_pure ⟨rfl,_,hR5⟩
     .rw[if_neg hp]
      exact wpS_pure ⟨rfl,m4,hR4⟩
    .rintro c st4 ⟨rfl,m4,hR4⟩
     refine wpS_bind (wpS_modify ?_)
     refine wpS_bind (wpS_modify (wpS_pure ⟨lo+n,rest',m4+1,rfl,RI.push (st:=setPending st4 ((pendingOf st4).modify ((pendingOf st4).size-1) fun q=>(q.1,q.2.1,_))) (hR4.same rfl rfl rfl ?_) hu n1 su rfl rfl rfl rfl,by omega,n2⟩))
     show((pendingOf st4).modify _ _).toList.map _=_
     rw[Array.toList_modify]
     refine cG _ _ ?_ _ _
     intro q
     rfl
 case post =>
  rintro c st' ⟨rest,m,rfl,hR⟩
  have hm:m<=a₀.size:=hR.few
  refine wpS_bind (wpS_mono (wpS_forRange (I:=fun x c st4=>c=(none,())/\∃m,RI a₀ rest a₀.size m st4/\m+x<=a₀.size+1) (Q:=fun c st4=>c=(none,())/\∃m,RI a₀ rest a₀.size m st4/\m<=1) ?_ (fun c st4 hh=>?_) ⟨rfl,m,hR,by omega⟩) ?_)
  .rintro x c st4 _ hx ⟨rfl,m4,hR4,hm4⟩
   refine wpS_bind (wpS_get ?_)
   have mm:=hR4.many
   refine Bl (fun e=>wpS_pure ⟨rfl,m4,hR4,by omega⟩) (fun e=>?_)
   have e:¬(pendingOf st4).size<=1:=e
   refine wpS_bind (Ou h0.allI hR4 ?_ fun st5 hR5=>?_)
   .refine U3r (Nat.succ_le_succ (ite_le _ _ _)) ?_
    omega
   .rw[if_neg (by decide)]
    exact wpS_pure ⟨rfl,_,hR5,by omega⟩
  .obtain⟨rfl,m4,hR4,hm4⟩:=hh
   exact⟨rfl,m4,hR4,by omega⟩
  .rintro c st4 ⟨rfl,m4,hR4,hm4⟩
   obtain⟨xs,g1,g2,g3,g4⟩:=hR4.runs
   have hl:xs.length=m4:=by
    have:=congrArg U3b g3
    rw[U0g,KJ,U0e,hR4.many] at this
    exact this.symm
   have sz:(arrOf st4).size=a₀.size:=hR4.perm.size_eq
   have hr:rest=[]:=by
    have:=congrArg U3b g1
    rw[U0e,U0i] at this
    exact U2o.mp (by omega)
   have hs:srt (arrOf st4).toList:=by
    rw[g1,hr,U1j]
    match xs,hl with
    |[],_=>exact .nil
    |[x],_=>rw[U2i,List.flatten_nil,U1j];exact(g4 x (by simp)).2
    |x::y::r,hl=>simp at hl;omega
   have:=Mh hs
   rw[sz] at this
   exact wpS_pure (h st4 hR4.perm hR4.failed this)
end
end Tm
end
section
set_option maxRecDepth 100000
namespace SetP
open PySem PyProof.Rows Tm
theorem cV{vs:List Value}{ns:List Int}(hI:IntsAre vs ns)(hd:ns.Nodup):Keys (pairsOf vs):=by
 refine⟨fun p hp=>?_,?_⟩
 .obtain⟨n,t,e⟩:=hI.intKeys p hp
  exact⟨n,t,p.2,Prod.ext e rfl⟩
 .have e:(pairsOf vs).toList.map kv=((vs.zip vs).map Prod.fst).map numOf:=by rw[pairsOf_toList,U0s];rfl
  rw[e,List.map_fst_zip (U0l _),hI.nums]
  exact hd
section
variable{prog:Program}{w:World}{A:Around}{E:Value->Shared->Prop}{s:Shared}
theorem S9{a:Addr}{vs:List Value}{ns:List Int}{n:Nat}{P:Fin->Shared->Prop}(ho:s.heap.get? a=some (seqObj "list" vs.toArray n))(hI:IntsAre vs ns)(hd:ns.Nodup)(hl:vs.length<1000)
  (h:∀(out:Array Value)(ns':List Int),IntsAre out.toList ns'->ns'.Perm ns->ns'.Pairwise (·<=·)->P (.done (.ret .none)) { s with heap:=sortedHeap s.heap a vs out }) :
  wpAny (model prog w) A (Builtin.«list.sort» ⟨[.ref a],[]⟩) P E s:=by
 by_cases h64:vs.length<64
 .exact list_sort_tree ho hI h64 h
 obtain⟨v₁,v₂,rest,rfl⟩:∃v₁ v₂ rest,vs=v₁::v₂::rest:=by
  match vs,h64 with
  |[],h64=>simp at h64
  |[_],h64=>simp at h64
  |v₁::v₂::rest,_=>exact⟨v₁,v₂,rest,rfl⟩
 have many:¬(v₁::v₂::rest).toArray.size<2:=by simp
 have lt:=U0k ho
 have room:∀xs:Array Value,xs.size=(v₁::v₂::rest).length->xs.size<=sizeLine+1:=fun xs e=>by rw[e,sizeLine_eq];omega
 rw[list_sort_plain]
 refine U0 (listItems_at ho rfl (U0 (listUpdate_at ho rfl ?_ (hsz:=by rw[U0j,sizeLine_eq];omega))))
 obtain⟨e1,o1⟩:∃e1,(s.heap.update a (U2h fun _=>#[])).get? a=some (seqObj "list" #[] e1):=⟨_,get?_update_seq ho (fun _=>#[])⟩
 refine U0 (seqEpoch_at o1 rfl (U0 (wpAny_newTuple (U0 (wpAny_newList (U2j ?_))))))
 have o2:(((s.heap.update a (U2h fun _=>#[])).push (seqObj "tuple" (v₁::v₂::rest).toArray 0)).push (seqObj "list" #[] 0)).get? a=some (seqObj "list" #[] e1) :=
  U0d _ (U0d _ o1)
 show wpAny (model prog w) A _ P E { s with heap:=((s.heap.update a (U2h fun _=>#[])).push (seqObj "tuple" (v₁::v₂::rest).toArray 0)).push (seqObj "list" #[] 0) }
 dsimp only
 rw[if_neg many,if_neg many,keyKind_ints hI]
 refine U0 (U0c (U0 (U5a (Us (a₀:=pairsOf (v₁::v₂::rest)) (Q:=fun _ st'=>(arrOf st').Perm (pairsOf (v₁::v₂::rest))/\failedOf st'=none/\SortedTo (arrOf st') (pairsOf (v₁::v₂::rest)).size)
  (cV hI hd) ⟨Array.Perm.refl _,rfl,rfl,rfl⟩ (by rw[pairsOf_size];simp) fun st' a1 a2 a3=>⟨a1,a2,a3⟩) ?_ fun _ _ e=>e)))
 rintro⟨⟨⟩,st'⟩ s' ⟨rfl,hp,hf,hs⟩
 obtain⟨ns',r1,r2,r3⟩:=sorted_out hI hp hs
 dsimp only
 refine U0 (seqEpoch_at o2 rfl (U0 (listUpdate_at o2 rfl ?_ (hsz2:=room _ ((Array.size_map ..).trans (hp.size_eq.trans (pairsOf_size _)))))))
 rw[hf]
 simp only[bne_self_eq_false,U07,if_false]
 exact U0c (h _ ns' r1 r2 r3)
theorem Wv{S:Addr}{ds:List Int}{Q:List Value->Shared->Prop}(hh:A.handled=none)(hS:SetT prog w s.heap S ds)(h64:ds.length<1000)
  (h:∀h' d' tk vs ns,(∀b o,s.heap.get? b=some o->h'.get? b=some o)->IntsAre vs ns->ns.Perm ds->Q vs { s with heap:=h',drawn:=d',toks:=tk }):wpAny (model prog w) A (collect (.ref S)) Q E s:=by
 obtain⟨o,ho,hex⟩:∃o,s.heap.get? S=some o/\o.ExactSet:=by
  obtain⟨_,o,es,ep,t,ho,hex,_⟩:=hS
  exact⟨o,ho,hex⟩
 have hlt:=U0k ho
 unfold collect
 refine U0 (wpAny_runValue (codeAny_builtin F.entry_proto_collect ?_))
 rw[U2p F.plain_proto_collect _]
 show wpAny _ A.in1 (newList [] >>= fun l=>again (.builtin "list.__iadd__" ⟨[l,.ref S],[]⟩)) _ _ s
 refine U0 (U17 (U0c ⟨plainId_quiet F.plain_list_iadd _,codeAny_builtin F.entry_list_iadd ?_⟩))
 rw[U2p F.plain_list_iadd _]
 generalize hL:s.heap.objs.size=L
 generalize hg:s.heap.push { cls:=.type "list",dict:=none,data:=.seq ([]:List Value).toArray }=g
 have k1:∀b o,s.heap.get? b=some o->g.get? b=some o:=fun b o e=>hg ▸ U0d _ e
 have hLg:g.get? L=some { cls:=.type "list",data:=.seq ([]:List Value).toArray }:=hg ▸ hL ▸ U0r _ rfl
 have hsz:g.objs.size=L+1:=by rw[←hg,U2l,hL]
 have hLS:L≠S:=by rw[←hL];exact U3q hlt
 have hT:U56 { s with heap:=g } (.ref S) "set":=⟨o,k1 _ _ ho,hex.1⟩
 show wpAny _ A.in1 (Builtin.List.listExtendWith (.ref L) (.ref S) (.ref L)) _ _ _
 unfold Builtin.List.listExtendWith
 refine U0 (U5s hT ?_)
 have h1:Builtin.List.listSameRef (.ref L) (.ref S)=false:=by simp[Builtin.List.listSameRef,hLS]
 have h2:(U24 "set"==U24 "list")=false:=by decide
 have h3:(U24 "set"==U24 "tuple")=false:=by decide
 simp only[h1,h2,h3,Bool.or_false,U07,if_false]
 refine U0 (iy (s:={ s with heap:=g }) (hS.sameBut fun o e=>k1 _ _ e) fun g2 d2 it T vs k2 hit hTT x ⟨ns,hi,hp⟩=>?_)
 have hT2:U56 { s with heap:=g2,drawn:=d2 } (.ref S) "set":=⟨o,k2 _ _ (k1 _ _ ho),hex.1⟩
 refine U0 (U2j (iz hT2 ?_))
 have hit':L<it:=by
  have hit2:g.objs.size<=it:=hit
  omega
 show wpAny _ A.in1 (rule "list.extend.makes-room" >>= fun _=>Builtin.List.listTouch (.ref L) >>= fun _=>again (.builtin "list.extend.loop" ⟨[.ref L,.ref it,.ref L],[]⟩)) _ _ _
 refine U0 (U3p (U0 ?_))
 have e1:=k2 _ _ hLg
 show wpAny _ A.in1 (updateSeq L (·.push .none) >>= fun _=>updateSeq L (·.pop)) _ _ _
 refine U0 (U43 e1 rfl ?_)
 have e2:=U2k (U2h (·.push U2s)) e1 rfl
 refine U43 e2 rfl ?_
 have e3:=U2k (U2h (·.pop)) e2 rfl
 have oth:∀b o,b≠L->g2.get? b=some o->((g2.update L (U2h (·.push U2s))).update L (U2h (·.pop))).get? b=some o:=fun b o hb e=>(U0z _ _ (U3l hb)).trans ((U0z _ _ (U3l hb)).trans e)
 have hvn:vs.length=ns.length:=IntsAre.length hi
 have hv64:vs.length<1000:=by rw[hvn,hp.length_eq];exact h64
 have hz:vs.length<=sizeLine:=by rw[sizeLine_eq];omega
 have nin:L ∉ [it,S,T]:=fun z=>by
  simp only[U0u,U4v,or_false] at z
  rcases z with z|z|z
  .omega
  .exact hLS z
  .rcases hTT with q|q
   .exact hLS (z.trans q)
   .have q':g.objs.size<=T:=q
    omega
 have W:=(aV (prog:=prog) (w:=w) (A:=A.in1) (by simpa using hh) it S T vs).toS
 have x3:Ji w ((g2.update L (U2h (·.push U2s))).update L (U2h (·.pop))) it S T vs 0:=x.keep fun b hb o e=>oth b o (fun z=>nin (z ▸ hb)) e
 refine U0c ⟨plainId_quiet F.plain_extend_loop _,codeAny_extend_loopS W hz L nin _ vs.length 0 _ _ _ (by omega) (U3c _) x3 e3 (ItemsOf.nil _) fun s' acc c hm hS' hacc=>?_⟩
 show wpAny _ A (load L >>= _) _ _ s'
 refine U0 (wpAny_load hS' ?_)
 have eacc:acc.toList=vs:=by
  apply U6d
  intro j
  rw[U2a]
  cases hj:acc[j]? with
  |some v=>exact(hacc.2 j v hj).symm
  |none =>
   have:acc.size<=j:=by simpa using hj
   rw[hacc.1] at this
   exact(U5q this).symm
 obtain⟨h',g',d',tk,os'⟩:=s'
 have q1:g'=s.gens:=hm.gens
 have q2:os'=s.os:=hm.os
 subst q1 q2
 refine U0c ?_
 show Q acc.toList _
 rw[eacc]
 refine h h' d' tk vs ns (fun b o e=>hm.heap b o ?_ (oth b o ?_ (k2 _ _ (k1 _ _ e)))) hi hp
 .have hb:b<L:=by rw[←hL];exact U0k e
  intro z
  rcases U0u.mp z with z|z
  .exact absurd z (U1c hb)
  .exact absurd (U1k.mp z) (U1c (U44 hb hit'))
 .exact U1c (by rw[←hL];exact U0k e)
theorem Xo{S:Addr}{ds:List Int}{Q:Value->Shared->Prop}(hh:A.handled=none)(hS:SetT prog w s.heap S ds)(h64:ds.length<1000)
  (h:∀h' d' tk l vs ns n,(∀b o,s.heap.get? b=some o->h'.get? b=some o)->(∀b o,s.heap.get? b=some o->b<l)->h'.get? l=some { cls:=.type "list",data:=.seq vs n }->IntsAre vs.toList ns->ns.Perm ds->ns.Pairwise (·<=·)->Q (.ref l) { s with heap:=h',drawn:=d',toks:=tk }) :
  wpAny (model prog w) A (call (.builtin "sorted") [.ref S]) Q E s:=by
 refine Calls.call_function_entry kind_sorted plain_sorted entry_sorted (args_sorted1 _) ?_
 unfold Builtin.«sorted»
 refine U0 (m:=checkCount "sorted" 1 1 _) (U0c ?_)
 refine U0 (Wv (A:=A.in1) (by simpa using hh) hS h64 fun h1 d1 t1 vs ns k1 hi hp=>?_)
 have hv64:vs.length<1000:=by rw[show vs.length=ns.length from IntsAre.length hi,hp.length_eq];exact h64
 refine U0 (wpAny_newList ?_)
 have hoL:(h1.push (seqObj "list" vs.toArray 0)).get? h1.objs.size=some (seqObj "list" vs.toArray 0):=U0r _ rfl
 show wpAny _ _ _ _ _ { s with heap:=h1.push (seqObj "list" vs.toArray 0),drawn:=d1,toks:=t1 }
 refine U0 (U2j (U3m slot_list_sort ⟨_,hoL,rfl⟩ entry_list_sort (S9 hoL hi (hp.nodup_iff.mpr hS.nd) hv64 fun out ns' a1 a2 a3=>⟨_,rfl,?_⟩) (args_list_sort _)))
 refine U0c ⟨_,rfl,?_⟩
 have old:∀b o,s.heap.get? b=some o->b≠h1.objs.size:=fun b o e=>U1c (U0k (k1 b o e))
 obtain⟨n',e'⟩:=Ql (out:=out) hoL
 refine h _ d1 t1 h1.objs.size out ns' n' (fun b o e=>Q7 (old b o e) (U0d _ (k1 b o e))) (fun b o e=>U0k (k1 b o e)) e' a1 (a2.trans hp) a3
end
end SetP
end
section
namespace L2
open PySem PySem.Spec PyProof.Rows
variable{X:Cx}
theorem Qn(hc:X.calm=true):Cv X (.builtin "sorted") (fun xs H Q=>∃(a:Addr)(ds:List Int),xs=[.ref a]/\H a=some (Sq X.prog X.w a ds)/\ds.length<1000 /\
  ∀(l:Addr)(ns:List Int),H l=none->ns.Perm ds->ns.Pairwise (·<=·)->Q (.ref l) (upd H l (.lst (ns.map V.int)))):=by
 intro pins s σ H xs us Q I r h
 obtain⟨a,ds,rfl,hH,hl,q⟩:=h
 obtain⟨u,rfl,rx⟩:=vals1 r
 cases rx
 obtain⟨T,_,_⟩:=(show DK X.prog X.w H s.heap a (Sq X.prog X.w a ds) from I.hok a _ hH)
 refine SetP.Xo (I.ok.hd hc) T hl fun h' d' tk l vs ns n k hb e hi hp hs=>?_
 have hn:s.heap.get? l=none:=by
  cases q:s.heap.get? l with
  |none=>rfl
  |some o=>exact absurd (hb l o q) (U4b _)
 have hsy:sysModules≠l:=by
  obtain⟨o,_,_,e,_⟩:=I.ok.mod.glob
  exact U1c (U44 (by decide:(1:Nat)<3) (hb _ _ (I.bk _ _ e)))
 have hlen:ns.length<1000:=by rw[hp.length_eq];exact hl
 refine⟨.ref l,_,I.laidN (d':=d') (t':=tk) (o:=.lst (ns.map V.int)) k hn hsy ⟨?_,vs.toList,n,Np hi,by simpa using e⟩,rfl,q l ns (I.Vi hn) hp hs⟩
 rw[U0g]
 exact U2c (Xp (by omega))
end L2
end
section
namespace VS
open PySem PySem.Spec L2
def Gk(a:Av):Av:=fun env S=>(a env S).bind fun p=>(listOf p.2 p.1).bind fun ds=>(intsOf ds).bind fun ns=>if ns.length<1000/\(SetP.once ns).length<1000 then some (.lst true ((Gm ns).map .int),p.2) else none
theorem Oz{X:Cx}{a:Expr}{f:Av}{p p2 pos pos2:Pos}(hc:X.calm=true)(ha:JE X a f)(hg:Gl X "sorted")(hm:X.mg "sorted"=none)(hg2:Gl X "set")(hm2:X.mg "set"=none) 
  (he:starEach [a] X.env=[(false,eval a X.env)]:=by rfl) (he2:starEach [.Call (.Name "set" p2) [a] [] pos2] X.env=[(false,eval (.Call (.Name "set" p2) [a] [] pos2) X.env)]:=by rfl):JE X (.Call (.Name "sorted" p) [.Call (.Name "set" p2) [a] [] pos2] [] pos) (Gk f) :=
 ⟨PE.imp (Tj (Qn hc) hg hm YW (Oh (Nu (Zo hc) hg2 hm2 j9 (Oh ha.pe QT he) (he:=he) (hpl:=rfl)) QT he2) (he:=he2) (hpl:=rfl)) fun σ H Q h=>by
  obtain⟨Γ,μ,env,S,d,S',hK,R,e,q⟩:=h
  obtain⟨⟨y,S1⟩,e1,e⟩:=bind_some e
  obtain⟨ds,e2,e⟩:=bind_some e
  obtain⟨ns,e3,e⟩:=bind_some e
  by_cases hl:ns.length<1000/\(SetP.once ns).length<1000
  .rw[if_pos hl] at e
   cases e
   refine⟨Γ,μ,env,S,y,_,hK,R,e1,fun v1 μ1 H1 x1 R1 r1=>?_⟩
   obtain⟨b,xs,rfl,hb,rb⟩:=VR.list R1 r1 e2
   have:=Gd e3
   subst this
   have:=rb.Oa
   subst this
   refine⟨b,ns,rfl,SqL.of hb,hl.1,fun s hs=>?_⟩
   obtain⟨R2,x2⟩:=R1.grow (Dh hs (Sq X.prog X.w s (SetP.once ns)))
   refine⟨s,_,rfl,CN,hl.2,fun l ms hl' hp hsrt=>?_⟩
   have:=Wb hp hsrt
   subst this
   obtain⟨R3,x3⟩:=R2.grow (Dh hl' (.lst ((Gm ns).map V.int)))
   exact q _ μ1 _ (x1.trans (x2.trans x3)) R3 (.lst (R2.ok hl' true) (R2.dead hl') CN (VRs.ints _))
  .rw[if_neg hl] at e;cases e⟩
theorem Uq(a:Av)(env:VS.Env)(S:Store):Gk a env S=(a env S).bind fun p=>(listOf p.2 p.1).bind fun ds=>(intsOf ds).bind fun ns=>if ns.length<1000/\(SetP.once ns).length<1000 then some (.lst true ((Gm ns).map .int),p.2) else none:=rfl
end VS
end
section
namespace VS
def at1(bs:List (List St2))(i w:Nat):St2:=(bs.getD i []).getD w (0,0)
def inS(p:St2)(x:Int):Bool:=decide (p.1<=x)&&decide (x<p.2)
def steps(E:List Int):List St2:=E.zip E.tail
theorem Wc(ns:List Int):(Gm ns).Pairwise (·<·):=by
 obtain⟨o1,o2,o3⟩:=SetP.KH ns
 have hp:(Gm ns).Perm (SetP.once ns):=U4z _ _
 have hs:(Gm ns).Pairwise (·<=·):=by
  have:=List.pairwise_mergeSort (le:=fun a b:Int=>decide (a<=b)) (by intro a b c h1 h2;simp at *;omega) (by intro a b;simp;omega) (SetP.once ns)
  exact this.imp fun h=>by simpa using h
 exact(hs.and (hp.nodup_iff.mpr o1)).imp fun⟨h,n⟩=>by omega
end VS
end
section
namespace VS
end VS
end
section
namespace VS
def S1(vs:List St2):Int:=((steps (Gm (vs.map (fun p=>p.1)++vs.map fun p=>p.2))).map fun p=>(p.2-p.1)*(if vs.any (fun v=>inS v p.1) then 1 else 0)).sum
end VS
end
section
namespace VS
structure Norm(l:List St2):Prop where
 pos:∀p∈l,p.1<p.2
 far:l.Pairwise fun p q=>p.2<q.1
structure Asc(l:List St2):Prop where
 pos:∀p∈l,p.1<p.2
 up:l.Pairwise fun p q=>p.2<=q.1
def ups(a:Int)(n:Nat):List Int:=(U3o n).map fun(i:Nat)=>a+i
theorem VH{a x:Int}{n:Nat}:x∈ups a n↔a<=x/\x<a+n:=by
 unfold ups
 rw[U3f]
 constructor
 .rintro⟨i,hi,rfl⟩
  have:=U3k.mp hi
  omega
 .rintro⟨h1,h2⟩
  exact⟨(x-a).toNat,U3k.mpr (by omega),by omega⟩
theorem TF(a:Int)(n:Nat):ups a (n+1)=ups a n++[a+n]:=by
 unfold ups
 rw[List.range_succ,U18];rfl
end VS
end
section
namespace VS
open PySem L2
theorem Kh:∀{a b:List Int},a.Pairwise (·<·)->b.Pairwise (·<·)->(∀x,x∈a↔x∈b)->a=b
 |[],[],_,_,_=>rfl
 |[],y::b,_,_,h=>by have:=(h y).mpr U04;simp at this
 |x::a,[],_,_,h=>by have:=(h x).mp U04;simp at this
 |x::a,y::b,ha,hb,h=>by
  obtain⟨a1,a2⟩:=U3s.mp ha
  obtain⟨b1,b2⟩:=U3s.mp hb
  have e:x=y:=by
   rcases U0u.mp ((h x).mp U04) with z|z
   .exact z
   .rcases U0u.mp ((h y).mpr U04) with w|w
    .exact w.symm
    .have:=b1 x z;have:=a1 y w;omega
  subst e
  congr 1
  refine Kh a2 b2 fun z=>?_
  constructor
  .intro hz
   rcases U0u.mp ((h z).mp (U0o _ hz)) with w|w
   .have:=a1 z hz;omega
   .exact w
  .intro hz
   rcases U0u.mp ((h z).mpr (U0o _ hz)) with w|w
   .have:=b1 z hz;omega
   .exact w
def cnt(ps:List St2)(x:Int):Int:=(ps.map fun p=>if inS p x=true then (1:Int) else 0).sum
end VS
end
section
namespace W28
open PySem L2 VS
def Qh:Az :=
 (Dc (M8 (eCB Hl (Aa (Ac 0) (Aa (eC (.ty "int")) Ae))) (Qp (eCB Hl (Aa (Ac 0) (Aa (eC (.ty "bool")) Ae))))))
def Dn:Eh:=GC 1 1 Qh
def Jf:Bd :=
 Fb 1 [] (Dl (Ac 0)) (Pat.sem (.nm 0)) Ir (Ax Dn (Aa (Ac 0) Ae))
def O8:Az :=
 (Dc (M8 (eCB Hl (Aa (Ac 0) (Aa (eC (.ty "tuple")) Ae))) (M8 (eOp (oEq false) (eCB NK (Aa (Ac 0) Ae)) (Ac 1)) (eCB K5 (Aa (BL Jf) Ae)))))
def Ea:Eh:=GC 2 2 O8
def Qi:Az :=
 (Dc (M8 (Ax Ea (Aa (Ac 0) (Aa (eC (.int 3)) Ae))) (M8 (eOp oLt (eOp oIx (Ac 0) (eC (.int 0))) (eOp oIx (Ac 0) (eC (.int 1)))) (eOp oGe (eOp oIx (Ac 0) (eC (.int 2))) (eC (.int 1))))))
def G5:Eh:=GC 1 1 Qi
def Jg:Bd :=
 Fb 1 [] (Dl (Ac 0)) (Pat.sem (.nm 0)) Ir (Ax G5 (Aa (Ac 0) Ae))
def O9:Az :=
 (Dc (M8 (eCB Hl (Aa (Ac 0) (Aa (eC (.ty "list")) Ae))) (eCB K5 (Aa (BL Jg) Ae))))
def Eb:Eh:=GC 1 1 O9
def Ms:Az :=
 (sIf (M4 (Bm (Ax Eb (Aa (Ac 0) Ae))))
  T7
  Fy)
def CG:Eh:=GC 1 1 Ms
def Ja:Bd :=
 Fb 3 [1] (Dl (Ac 0)) (Pat.sem (.tp [(.nm 0),(.nm 1),(.nm 2)])) (Bm (Qa oLe oLt (Ac 0) (Ac 3) (Ac 1))) (Ac 2)
def O4:Az :=
 (Dc (WT 0 (BL Ja)))
def Cq:Eh:=GC 2 2 O4
def PN:Az :=
 (Bq (Hh (Ax CG (Aa (Ac 0) Ae)))
  (Bq (sIf (M4 (Bm (Ax Dn (Aa (Ac 1) Ae))))
  T7
  Fy)
  (Dc (Ax Cq (Aa (Ac 0) (Aa (Ac 1) Ae))))))
def Dg:Eh:=GC 2 2 PN
def GP:Az :=
 (Bq (sIf (Bm (eOp (oEq true) (Ac 4) (Ac 2)))
  (Hh (Gn Ez (Ac 1) (Aa (BW (Aa (Ac 3) (Aa (Ac 4) Ae))) Ae)))
  Fy)
  (Bh 2 (Ac 4)))
def Hu:Az :=
 K3 (Dl (Ac 0)) (Pat.sem (.tp [(.nm 3),(.nm 4)]))
  GP
def Ks:Az :=
 (Bq (Bh 1 (JX Ae))
  (Bq (Bh 2 (eC (.int 0)))
  (Bq Hu
  (Dc (Ac 1)))))
def DQ:Eh:=GC 1 5 Ks
def Jc:Bd :=
 Fb 1 [] (Dl (Ac 0)) (Pat.sem (.nm 0)) Ir (eOp oIx (Ac 0) (eC (.int 0)))
def Jb:Bd :=
 Fb 1 [] (Dl (Ac 0)) (Pat.sem (.nm 0)) Ir (eOp oIx (Ac 0) (eC (.int 1)))
def HW:Bd :=
 Fb 1 [0] (Dl (Ac 1)) (Pat.sem (.nm 0)) Ir (BW (Aa (Ac 0) (Aa (Ax Cq (Aa (Ac 1) (Aa (Ac 0) Ae))) Ae)))
def O5:Az :=
 (Bq (Hh (Ax CG (Aa (Ac 0) Ae)))
  (Bq (Bh 1 (Gk (eOp Bk (BL Jc) (BL Jb))))
  (Dc (Ax DQ (Aa (BL HW) Ae)))))
def Bg:Eh:=GC 1 2 O5
def PK:Az :=
 (Bq (Bh 2 (eOp oMod (eOp Bk (eOp Bk (eOp oMod (Ac 0) (eC (.int 2147483629))) (eOp Ge (eOp Ge (eC (.int 1000003)) (Ac 1)) (Ac 1))) (eOp Ge (eC (.int 7919)) (Ac 1))) (eC (.int 2147483629))))
  (Bq (Bh 2 (eOp oMod (eOp Ge (Ac 2) (Ac 2)) (eC (.int 2147483587))))
  (Dc (eOp oDiv (eOp oMod (eOp Ge (Ac 2) (eOp Bk (Ac 2) (eC (.int 40961)))) (eC (.int 2147483563))) (eC (.int 4))))))
def Fe:Eh:=GC 2 3 PK
def Mj:Az :=
 (Dc (BL (Aa (eOp Ge (Ac 0) (eCB M9 (Aa (eOp oGe (Ac 0) (eOp DN (eC (.int 10)) (eC (.int 18)))) Ae))) (Aa (Ac 0) (Aa (eC (.int 0)) Ae)))))
def Ei:Eh:=GC 1 1 Mj
def Jo:Az :=
 (Bq (sIf (Bm (eOp oGt (eOp oIx (Ac 0) (eC (.int 0))) (eC (.int 0))))
  (Bq (Bh 2 (eOp oMod (eOp oIx (Ac 0) (eC (.int 0))) (Ac 1)))
  (Bq (QM (eOp oDiv (eOp oIx (Ac 0) (eC (.int 0))) (Ac 1)) (Ac 0) (eC (.int 0)))
  (Dc (Ac 2))))
  Fy)
  (Bq (QM (eOp Bk (eOp oIx (Ac 0) (eC (.int 2))) (eC (.int 1))) (Ac 0) (eC (.int 2)))
  (Dc (eOp oMod (eOp Ge (Ax Fe (Aa (eOp oIx (Ac 0) (eC (.int 1))) (Aa (eOp oIx (Ac 0) (eC (.int 2))) Ae))) (eOp oIx (BL (Aa (eC (.int 1)) (Aa (eC (.int 8191)) Ae))) (eCB M9 (Aa (eOp oGt (Ac 1) (eOp DN (eC (.int 10)) (eC (.int 6)))) Ae)))) (Ac 1)))))
def Ag:Ih:=runM 2 3 Jo
def PJ:Az :=
 (Dc (eOp oIx (BL (Aa (BW (Aa (eC (.int 0)) (Aa (eC (.int 6)) Ae))) (Aa (BW (Aa (eUn Ep (eC (.int 3))) (Aa (eC (.int 8)) Ae))) (Aa (BW (Aa (eC (.int 0)) (Aa (eC (.int 13)) Ae))) (Aa (BW (Aa (eUn Ep (eC (.int 20))) (Aa (eC (.int 41)) Ae))) (Aa (BW (Aa (eUn Ep (eOp DN (eC (.int 10)) (eC (.int 9)))) (Aa (eOp Ge (eC (.int 2)) (eOp DN (eC (.int 10)) (eC (.int 9)))) Ae))) Ae)))))) (Am Ag (Aa (Ac 0) (Aa (eC (.int 5)) Ae)))))
def Du:Ih:=runM 1 1 PJ
def Mt:Az :=
 (Bq (Bh 2 (eOp Bk (eOp oIx (Ac 1) (eC (.int 0))) (Am Ag (Aa (Ac 0) (Aa (eOp oIx (Ac 1) (eC (.int 1))) Ae)))))
  (Bq (Bh 3 (eOp Bk (eOp oIx (Ac 1) (eC (.int 0))) (Am Ag (Aa (Ac 0) (Aa (eOp oIx (Ac 1) (eC (.int 1))) Ae)))))
  (Bq (sIf (Bm (eOp (oEq false) (Ac 2) (Ac 3)))
  (Bh 3 (eOp Bk (Ac 2) (eC (.int 1))))
  Fy)
  (Dc (BW (Aa (eCB Kg (Aa (Ac 2) (Aa (Ac 3) Ae))) (Aa (eCB Sh (Aa (Ac 2) (Aa (Ac 3) Ae))) Ae)))))))
def DR:Ih:=runM 2 4 Mt
def PL:Az :=
 (Bq (W2 (Am DR (Aa (Ac 0) (Aa (Ac 1) Ae))) (Pat.sem (.tp [(.nm 3),(.nm 4)])))
  (Bq (Bh 5 (eOp Bk (eC (.int 1)) (eOp oIx (BL (Aa (Am Ag (Aa (Ac 0) (Aa (eC (.int 3)) Ae))) (Aa (Am Ag (Aa (Ac 0) (Aa (eC (.int 9)) Ae))) (Aa (Am Ag (Aa (Ac 0) (Aa (eOp DN (eC (.int 10)) (eC (.int 9))) Ae))) Ae)))) (Am Ag (Aa (Ac 0) (Aa (eC (.int 3)) Ae))))))
  (Bq (Bh 6 (Am Ag (Aa (Ac 0) (Aa (eC (.int 8)) Ae))))
  (Bq (sIf (tOr (Bm (eOp (oEq false) (Ac 2) (BL Ae))) (Bm (eOp oGt (Ac 6) (eC (.int 4)))))
  (Dc (BW (Aa (Ac 3) (Aa (Ac 4) (Aa (Ac 5) Ae)))))
  Fy)
  (Bq (Bh 7 (eOp oIx (Ac 2) (Am Ag (Aa (Ac 0) (Aa (eCB NK (Aa (Ac 2) Ae)) Ae)))))
  (Bq (Bh 8 (eCB Kg (Aa (eOp DN (eC (.int 10)) (eC (.int 9))) (Aa (eOp Bk (eOp Bk (eOp oIx (Ac 7) (eC (.int 1))) (eC (.int 1))) (Am Ag (Aa (Ac 0) (Aa (eC (.int 4)) Ae)))) Ae))))
  (Bq (Bh 9 (eOp Bk (eOp Bk (eOp oIx (Ac 7) (eC (.int 0))) (eC (.int 1))) (Am Ag (Aa (Ac 0) (Aa (eOp Fd (eOp oIx (Ac 7) (eC (.int 1))) (eOp oIx (Ac 7) (eC (.int 0)))) Ae)))))
  (Bq (Bh 10 (JX (Aa (Ac 7) (Aa (BW (Aa (eOp oIx (Ac 7) (eC (.int 0))) (Aa (eOp oIx (Ac 7) (eC (.int 1))) (Aa (Ac 5) Ae)))) (Aa (BW (Aa (Ac 3) (Aa (Ac 4) (Aa (eOp oIx (Ac 7) (eC (.int 2))) Ae)))) (Aa (BW (Aa (eOp oIx (Ac 7) (eC (.int 1))) (Aa (Ac 8) (Aa (Ac 5) Ae)))) Ae))))))
  (Bq (Hh (Gn Ez (Ac 10) (Aa (BW (Aa (eOp oIx (Ac 7) (eC (.int 0))) (Aa (Ac 9) (Aa (Ac 5) Ae)))) Ae)))
  (Bq (sIf (Bm (eOp oGe (eOp oIx (eOp oIx (Ac 10) (Ac 6)) (eC (.int 0))) (eOp oIx (eOp oIx (Ac 10) (Ac 6)) (eC (.int 1)))))
  (Dc (Ac 7))
  Fy)
  (Dc (eOp oIx (Ac 10) (Ac 6)))))))))))))
def Dv:Ih:=runM 3 11 PL
def HY:Az :=
 (Hh (Gn Ez (Ac 4) (Aa (Am Dv (Aa (Ac 0) (Aa (Ac 1) (Aa (Ac 4) Ae)))) Ae)))
def Jd:Az :=
 K3 (J3 (Aa (Ac 3) Ae)) (Pat.sem (.nm 5))
  HY
def O6:Az :=
 (Bq (Bh 3 (eOp oIx (BL (Aa (Am Ag (Aa (Ac 0) (Aa (eC (.int 4)) Ae))) (Aa (Am Ag (Aa (Ac 0) (Aa (eOp Bk (Ac 2) (eC (.int 1))) Ae))) (Aa (Ac 2) Ae)))) (Am Ag (Aa (Ac 0) (Aa (eC (.int 3)) Ae)))))
  (Bq (Bh 4 (JX Ae))
  (Bq Jd
  (Dc (Ac 4)))))
def Bu:Ih:=runM 3 6 O6
def LK:Bd :=
 Fb 1 [] (Dl (Ac 0)) (Pat.sem (.nm 0)) Ir (eOp oIx (Ac 0) (eC (.int 0)))
def LC:Bd :=
 Fb 1 [] (Dl (Ac 0)) (Pat.sem (.nm 0)) Ir (eOp oIx (Ac 0) (eC (.int 1)))
def JF:Az :=
 (sIf (K1 (Bm (eOp oLe (eOp oIx (Ac 5) (eC (.int 0))) (Ac 3))) (K1 (Bm (eOp oLt (Ac 3) (eOp oIx (Ac 5) (eC (.int 1))))) (Bm (eOp oGt (eOp oIx (Ac 5) (eC (.int 2))) (Ac 4)))))
  (Bh 4 (eOp oIx (Ac 5) (eC (.int 2))))
  Fy)
def Kz:Az :=
 K3 (Dl (Ac 0)) (Pat.sem (.nm 5))
  JF
def JD:Az :=
 (Bq (Bh 4 (eC (.int 0)))
  (Bq Kz
  (sIf (Bm (eOp (oEq true) (Ac 4) (eOp oIx (eOp oIx (eOp Bk (BL (Aa (BW (Aa (eC (.int 0)) (Aa (eC (.int 0)) Ae))) Ae)) (Ac 2)) (eUn Ep (eC (.int 1)))) (eC (.int 1)))))
  (Hh (Gn Ez (Ac 2) (Aa (BW (Aa (Ac 3) (Aa (Ac 4) Ae))) Ae)))
  Fy)))
def Kw:Az :=
 K3 (Dl (Ac 1)) (Pat.sem (.nm 3))
  JD
def Qg:Az :=
 (Bq (Bh 1 (Gk (eOp Bk (BL LK) (BL LC))))
  (Bq (Bh 2 (JX Ae))
  (Bq Kw
  (Dc (Ac 2)))))
def Ej:Eh:=GC 1 6 Qg
def Hf:Bd :=
 Fb 3 [1] (Dl (Ac 0)) (Pat.sem (.tp [(.nm 0),(.nm 1),(.nm 2)])) (K1 (Bm (eOp oLe (Ac 0) (Ac 3))) (Bm (eOp oLt (Ac 3) (Ac 1)))) (Ac 2)
def O7:Az :=
 (Dc (eCB QF (Aa (eOp Bk (BL (Aa (eC (.int 0)) Ae)) (BL Hf)) Ae)))
def BP:Eh:=GC 2 2 O7
def HB:Az :=
 (Bh 2 (eOp Bk (Ac 2) (BL (Aa (eOp Fd (Ac 3) (eC (.int 1))) (Aa (Ac 3) (Aa (eOp Fd (Ac 4) (eC (.int 1))) (Aa (Ac 4) (Aa (eOp Bk (Ac 3) (Am Ag (Aa (Ac 0) (Aa (eOp Fd (Ac 4) (Ac 3)) Ae)))) Ae))))))))
def J5:Az :=
 K3 (Dl (eOp Bk (eSl oSl (Ac 1) J8 (J7 (eC (.int 6)))) (eSl oSl (Ac 1) (J7 (eUn Ep (eC (.int 4)))) J8))) (Pat.sem (.tp [(.nm 3),(.nm 4),(.nm 5)]))
  HB
def Mv:Az :=
 (Bq (Bh 2 (BL (Aa (eC (.int 0)) (Aa (eOp DN (eC (.int 10)) (eC (.int 9))) (Aa (eOp Fd (eC (.int 0)) (eOp DN (eC (.int 10)) (eC (.int 9)))) (Aa (eOp DN (eC (.int 10)) (eC (.int 39))) Ae))))))
  (Bq J5
  (Dc (Ac 2))))
def DW:Ih:=runM 2 6 Mv
def Ip:Az :=
 (sIf (Bm (eOp (M5 true) (eCB El (Aa (Ax Dg (Aa (Ac 3) (Aa (Ac 5) Ae))) Ae)) (eCB El (Aa (Ax BP (Aa (Ac 1) (Aa (Ac 5) Ae))) Ae))))
  (Dc (eC (.bl false)))
  Fy)
def KY:Az :=
 K3 (Dl (Am DW (Aa (Ac 0) (Aa (Ac 1) Ae)))) (Pat.sem (.nm 5))
  Ip
def Io:Az :=
 (Bq (Bh 7 (JQ Bg (Aa (Ac 3) Ae)))
  (Bq (sIf (tOr (Bm (eOp (M5 true) (eCB El (Aa (Ac 7) Ae)) (eCB El (Aa (Ac 4) Ae)))) (Bm (eOp (oEq true) (Ac 3) (Ac 1))))
  (Dc (eC (.bl false)))
  Fy)
  (Hh (Gn Ez (Ac 7) (Aa (BW (Aa (eC (.int 0)) (Aa (eC (.int 0)) Ae))) Ae)))))
def KR:Az :=
 K3 (J3 (Aa (eC (.int 2)) Ae)) (Pat.sem (.nm 6))
  Io
def Im:Az :=
 (sIf (K1 (Bm (Ac 2)) (Bm (eOp (oEq true) (Ax BP (Aa (Ac 1) (Aa (Ac 5) Ae))) (Ax BP (Aa (Ac 1) (Aa (eOp Fd (Ac 5) (eC (.int 1))) Ae))))))
  (Hh (Gn Ez (Ac 8) (Aa (BW (Aa (Ac 5) (Aa (Ax BP (Aa (Ac 1) (Aa (Ac 5) Ae))) Ae))) Ae)))
  Fy)
def KQ:Az :=
 K3 (Ls (Aa (eUn Ep (eC (.int 30))) (Aa (eC (.int 230)) Ae))) (Pat.sem (.nm 5))
  Im
def PB:Az :=
 (Bq (Bh 3 (QD nList (Aa (Ac 1) Ae)))
  (Bq (Bh 4 (Ax Ej (Aa (Ac 1) Ae)))
  (Bq KY
  (Bq KR
  (Bq (Bh 8 (JX Ae))
  (Bq KQ
  (Dc (eOr (Qp (Ac 2)) (eOp (oEq false) (Ac 8) (Ac 4))))))))))
def Cy:Ih:=runM 3 9 PB
def QW:Az :=
 (Bq (Bh 2 (JQ Ei (Aa (Ac 1) Ae)))
  (Bq (Bh 3 (Am Du (Aa (Ac 2) Ae)))
  (Bq (sIf (M4 (Bm (Am Cy (Aa (Ac 2) (Aa (Am Bu (Aa (Ac 2) (Aa (Ac 3) (Aa (eC (.int 40)) Ae)))) (Aa (eC (.bl false)) Ae))))))
  (Dc (eC (.bl false)))
  Fy)
  (Bq (Bh 4 (eOp oIx (BL (Aa (BW (Aa (eC (.int 0)) (Aa (eC (.int 6)) Ae))) (Aa (BW (Aa (eUn Ep (eC (.int 3))) (Aa (eC (.int 8)) Ae))) (Aa (BW (Aa (eC (.int 0)) (Aa (eC (.int 13)) Ae))) (Aa (BW (Aa (eUn Ep (eC (.int 20))) (Aa (eC (.int 41)) Ae))) Ae))))) (Am Ag (Aa (Ac 2) (Aa (eC (.int 4)) Ae)))))
  (sIf (M4 (Bm (Am Cy (Aa (Ac 2) (Aa (Am Bu (Aa (Ac 2) (Aa (Ac 4) (Aa (eC (.int 8)) Ae)))) (Aa (eC (.bl true)) Ae))))))
  (Dc (eC (.bl false)))
  Fy)))))
def T8:Az :=
 K3 (Dl (eOp Bk (BL (Aa (eC (.int 0)) Ae)) (eSl oSl (Ac 0) J8 (J7 (eC (.int 15)))))) (Pat.sem (.nm 1))
  QW
def aH:Az :=
 (Bq T8
  (Dc (M8 (eOp (oEq false) (Ax Bg (Aa (BL (Aa (BW (Aa (eC (.int 0)) (Aa (eC (.int 4)) (Aa (eC (.int 2)) Ae)))) (Aa (BW (Aa (eC (.int 2)) (Aa (eC (.int 6)) (Aa (eC (.int 5)) Ae)))) (Aa (BW (Aa (eC (.int 6)) (Aa (eC (.int 9)) (Aa (eC (.int 5)) Ae)))) Ae)))) Ae)) (BL (Aa (BW (Aa (eC (.int 0)) (Aa (eC (.int 2)) Ae))) (Aa (BW (Aa (eC (.int 2)) (Aa (eC (.int 5)) Ae))) (Aa (BW (Aa (eC (.int 9)) (Aa (eC (.int 0)) Ae))) Ae))))) (eOp (oEq false) (Ax Bg (Aa (BL Ae) Ae)) (BL Ae)))))
def Qw:Eh:=GC 1 5 aH
end W28
end
section
namespace W28
open PySem PySem.Spec L2 VS
def top (i : Nat) : Stmt := PySem.Challenge.pw_boxcover_k28_heights_and_skylines.main.body.getD i (.Pass ⟨0, 0, 0, 0⟩)
abbrev Gx:Stmt:=top 5
abbrev FW:Stmt:=top 7
abbrev Gy:Stmt:=top 8
abbrev FZ:Stmt:=top 9
abbrev Fg:Stmt:=top 10
abbrev FQ:Stmt:=top 11
abbrev Gb:Stmt:=top 12
abbrev Eo:Stmt:=top 13
abbrev Dq:Stmt:=top 14
abbrev GZ:Stmt:=top 16
abbrev Gv:Stmt:=top 17
abbrev Gw:Stmt:=top 18
abbrev GX:Stmt:=top 19
abbrev Fi:Stmt:=top 20
abbrev Ga:Stmt:=top 21
abbrev G6:Stmt:=top 22
abbrev Fq:Stmt:=top 23
abbrev FT:Stmt:=top 24
abbrev Fj:Stmt:=top 25
abbrev GR:Stmt:=top 26
abbrev Jh:Stmt:=top 27
theorem Uz:CQ ["thing"] ["thing"] (Al Gx):=⟨rfl,rfl,rfl,by decide +kernel,rfl,by decide +kernel,by decide +kernel⟩
theorem Rv:CQ ["thing","many"] ["thing","many"] (Al FW):=⟨rfl,rfl,rfl,by decide +kernel,rfl,by decide +kernel,by decide +kernel⟩
theorem V0:CQ ["thing"] ["thing"] (Al Gy):=⟨rfl,rfl,rfl,by decide +kernel,rfl,by decide +kernel,by decide +kernel⟩
theorem Rw:CQ ["thing"] ["thing"] (Al FZ):=⟨rfl,rfl,rfl,by decide +kernel,rfl,by decide +kernel,by decide +kernel⟩
theorem RK:CQ ["houses"] ["houses"] (Al Fg):=⟨rfl,rfl,rfl,by decide +kernel,rfl,by decide +kernel,by decide +kernel⟩
theorem Rt:CQ ["houses","number"] ["houses","number"] (Al FQ):=⟨rfl,rfl,rfl,by decide +kernel,rfl,by decide +kernel,by decide +kernel⟩
theorem Ue:CQ ["houses","number"] ["houses","number"] (Al Gb):=⟨rfl,rfl,rfl,by decide +kernel,rfl,by decide +kernel,by decide +kernel⟩
theorem Ec:CQ ["heights","skyline","height_ahead","number","height"] ["heights"] (Al Eo):=⟨rfl,rfl,rfl,by decide +kernel,rfl,by decide +kernel,by decide +kernel⟩
theorem Mr:CQ ["houses","ends"] ["houses"] (Al Dq):=⟨rfl,rfl,rfl,by decide +kernel,rfl,by decide +kernel,by decide +kernel⟩
theorem KN:CQ ["cell","k","number"] ["cell","k"] (Al GZ):=⟨rfl,rfl,rfl,by decide +kernel,rfl,by decide +kernel,by decide +kernel⟩
theorem Uy:CQ ["cell"] ["cell"] (Al Gv):=⟨rfl,rfl,rfl,by decide +kernel,rfl,by decide +kernel,by decide +kernel⟩
theorem Ov:CQ ["well","many","got"] ["well","many"] (Al Gw):=⟨rfl,rfl,rfl,by decide +kernel,rfl,by decide +kernel,by decide +kernel⟩
theorem Ud:CQ ["well"] ["well"] (Al GX):=⟨rfl,rfl,rfl,by decide +kernel,rfl,by decide +kernel,by decide +kernel⟩
theorem Gz:CQ ["well","reach","one","other"] ["well","reach"] (Al Fi):=⟨rfl,rfl,rfl,by decide +kernel,rfl,by decide +kernel,by decide +kernel⟩
theorem Dp:CQ ["well","reach","houses","low","high","height","kind","here","beside","within","some"] ["well","reach","houses"] (Al Ga):=⟨rfl,rfl,rfl,by decide +kernel,rfl,by decide +kernel,by decide +kernel⟩
theorem HX:CQ ["well","reach","most","many","found","k"] ["well","reach","most"] (Al G6):=⟨rfl,rfl,rfl,by decide +kernel,rfl,by decide +kernel,by decide +kernel⟩
theorem Fw:CQ ["houses","marks","found","mark","height","house"] ["houses"] (Al Fq):=⟨rfl,rfl,rfl,by decide +kernel,rfl,by decide +kernel,by decide +kernel⟩
theorem Ru:CQ ["houses","number"] ["houses","number"] (Al FT):=⟨rfl,rfl,rfl,by decide +kernel,rfl,by decide +kernel,by decide +kernel⟩
theorem FJ:CQ ["well","houses","found","low","high","height"] ["well","houses"] (Al Fj):=⟨rfl,rfl,rfl,by decide +kernel,rfl,by decide +kernel,by decide +kernel⟩
theorem Ek:CQ ["well","houses","near","handed","due","number","turn","told","one_by_one"] ["well","houses","near"] (Al GR):=⟨rfl,rfl,rfl,by decide +kernel,rfl,by decide +kernel,by decide +kernel⟩
theorem Nf:CQ ["script","cell","well","reach","near"] ["script"] (Al Jh):=⟨rfl,rfl,rfl,by decide +kernel,rfl,by decide +kernel,by decide +kernel⟩
section
variable{P:Program}{w:World}{K:U0a}{mg:Str->Option Value}{base:Heap}
set_option maxHeartbeats 4000000 in
theorem V5{f:Addr}{fd:FuncData}(F:Fun K "is_whole" "is_whole" Gx f fd)(B:Blt mg):Ci P w K mg base CX0 1 f fd ["thing"] (spP K Dn 1) :=
 fnP F Uz fun cdv A outer s H E hr =>
  (Ay (Ca (K8 (DP Mg Od rfl (B.is "isinstance") Hg (Ad (Af 0) (Ad (Sd (n:="int") rfl (B.is "int") T9) Aj))) (Lg (XR (DP Mg Od rfl (B.is "isinstance") Hg (Ad (Af 0) (Ad (Sd (n:="bool") rfl (B.is "bool") dI) Aj))))))))
set_option maxHeartbeats 4000000 in
theorem S7{f:Addr}{fd:FuncData}(F:Fun K "are_wholes" "are_wholes" FW f fd)(B:Blt mg)(c_is_whole:Dd P w K mg base "is_whole" 1 Dn):Ci P w K mg base CX0 2 f fd ["thing","many"] (spP K Ea 2) :=
 fnP F Rv fun cdv A outer s H E hr =>
  (Ay (Ca (K8 (DP Mg Od rfl (B.is "isinstance") Hg (Ad (Af 0) (Ad (Sd (n:="tuple") rfl (B.is "tuple") Zq) Aj))) (K8 (JN (Le hr) LQ (DP OD Vb rfl (B.is "len") Xh (Ad (Af 0) Aj)) (Af 1) (Cr _)) (Lg (DP (Ub rfl) Ve rfl (B.is "all") Xi (Ad (GJ rfl (Fp.of (sc:=Al FW) (N:=["thing","many"]) (N2:=["part"]) (k:=1) (caps:=[]) (by decide +kernel)) rfl (FN (Af 0)) ⟨fun _ _ _ _ _=>⟨(Bx (i:=0) (show U26 (["part"]:List Str) by decide +kernel)),Iz,(Cj c_is_whole hr (by omega) rfl (Ad (Af 0) Aj))⟩⟩) Aj)))))))
set_option maxHeartbeats 4000000 in
theorem V6{f:Addr}{fd:FuncData}(F:Fun K "is_house" "is_house" Gy f fd)(B:Blt mg)(c_are_wholes:Dd P w K mg base "are_wholes" 2 Ea):Ci P w K mg base CX0 3 f fd ["thing"] (spP K G5 1) :=
 fnP F V0 fun cdv A outer s H E hr =>
  (Ay (Ca (K8 (Cj c_are_wholes hr (by omega) rfl (Ad (Af 0) (Ad Ai Aj))) (K8 (JN SQ QJ (Bo BZ BX (Af 0) Ai (fun _ _=>rfl)) (Bo BZ BX (Af 0) Ai (fun _ _=>rfl)) (Cr _)) (Lg (JN WL T6 (Bo BZ BX (Af 0) Ai (fun _ _=>rfl)) Ai (Cr _)))))))
set_option maxHeartbeats 4000000 in
theorem S8{f:Addr}{fd:FuncData}(F:Fun K "are_houses" "are_houses" FZ f fd)(B:Blt mg)(c_is_house:Dd P w K mg base "is_house" 3 G5):Ci P w K mg base CX0 4 f fd ["thing"] (spP K Eb 1) :=
 fnP F Rw fun cdv A outer s H E hr =>
  (Ay (Ca (K8 (DP Mg Od rfl (B.is "isinstance") Hg (Ad (Af 0) (Ad (Sd (n:="list") rfl (B.is "list") Vy) Aj))) (Lg (DP (Ub rfl) Ve rfl (B.is "all") Xi (Ad (GJ rfl (Fp.of (sc:=Al FZ) (N:=["thing"]) (N2:=["part"]) (k:=1) (caps:=[]) (by decide +kernel)) rfl (FN (Af 0)) ⟨fun _ _ _ _ _=>⟨(Bx (i:=0) (show U26 (["part"]:List Str) by decide +kernel)),Iz,(Cj c_is_house hr (by omega) rfl (Ad (Af 0) Aj))⟩⟩) Aj))))))
set_option maxHeartbeats 4000000 in
theorem RL{f:Addr}{fd:FuncData}(F:Fun K "need_houses" "need_houses" Fg f fd)(B:Blt mg)(c_are_houses:Dd P w K mg base "are_houses" 4 Eb):Ci P w K mg base CX0 5 f fd ["houses"] (spP K CG 1) :=
 fnP F RK fun cdv A outer s H E hr =>
  (Ay (Gf (QZ (Nj (Cj c_are_houses hr (by omega) rfl (Ad (Af 0) Aj))))
   (Ay U7)
   En))
set_option maxHeartbeats 4000000 in
theorem Rx{f:Addr}{fd:FuncData}(F:Fun K "tallest_at" "tallest_at" FQ f fd)(B:Blt mg):Ci P w K mg base CX0 1 f fd ["houses","number"] (spP K Cq 2) :=
 fnP F Rt fun cdv A outer s H E hr =>
  (Ay (Ca (cX rfl rfl (B.is "max") (GJ rfl (Fp.of (sc:=Al FQ) (N:=["houses","number"]) (N2:=["low","high","height","number"]) (k:=3) (caps:=[1]) (by decide +kernel)) rfl (FN (Af 0)) ⟨fun _ _ _ _ _=>⟨(Nk rfl (EY (Bx (i:=0) (show U26 (["low","high","height","number"]:List Str) by decide +kernel)) (EY (Bx (i:=1) (show U26 (["low","high","height","number"]:List Str) by decide +kernel)) (EY (Bx (i:=2) (show U26 (["low","high","height","number"]:List Str) by decide +kernel)) Lq)))),(Vn (Zf WK T5 SQ QJ (Af 0) (Af 3) (Af 1))),(Af 2)⟩⟩))))
set_option maxHeartbeats 4000000 in
theorem Ul{f:Addr}{fd:FuncData}(F:Fun K "height_at" "height_at" Gb f fd)(B:Blt mg)(c_need_houses:Dd P w K mg base "need_houses" 5 CG)(c_is_whole:Dd P w K mg base "is_whole" 1 Dn)(c_tallest_at:Dd P w K mg base "tallest_at" 1 Cq):Ci P w K mg base CX0 6 f fd ["houses","number"] (spP K Dg 2) :=
 fnP F Ue fun cdv A outer s H E hr =>
  (Ao (JM (Cj c_need_houses hr (by omega) rfl (Ad (Af 0) Aj)))
   (Ao (Gf (QZ (Nj (Cj c_is_whole hr (by omega) rfl (Ad (Af 1) Aj))))
   (Ay U7)
   En)
   (Ay (Ca (Cj c_tallest_at hr (by omega) rfl (Ad (Af 0) (Ad (Af 1) Aj)))))))
set_option maxHeartbeats 4000000 in
theorem Q8{f:Addr}{fd:FuncData}(F:Fun K "changes_alone" "changes_alone" Eo f fd)(B:Blt mg):Ci P w K mg base CX0 1 f fd ["heights"] (spP K DQ 1) :=
 fnP F Ec fun cdv A outer s H E hr =>
  (Ao (CJ (i:=1) Ec.nd (Lr Aj Aw))
   (Ao (CJ (i:=2) Ec.nd Ai)
   (Ao (Ik rfl (FN (Af 0)) (Nk rfl (EY (Bx (i:=3) Ec.nd) (EY (Bx (i:=4) Ec.nd) Lq)))
   (Ao (Gf (Et (Lb hr) QH (Af 4) (Af 2) (Cr _))
   (Ay (JM (Jw U21 U2w U2x IV Hz (Af 1) (Ad (Cd (Ad (Af 3) (Ad (Af 4) Aj)) (Ah (Ah Aw))) Aj))))
   En)
   (Ay (CJ (i:=2) Ec.nd (Af 4)))) U23)
   (Ay (Ca (Af 1))))))
set_option maxHeartbeats 4000000 in
theorem Ry{f:Addr}{fd:FuncData}(F:Fun K "skyline_of" "skyline_of" Dq f fd)(B:Blt mg)(c_need_houses:Dd P w K mg base "need_houses" 5 CG)(c_changes_alone:Dd P w K mg base "changes_alone" 1 DQ)(c_tallest_at:Dd P w K mg base "tallest_at" 1 Cq):Ci P w K mg base CX0 6 f fd ["houses"] (spP K Bg 1) :=
 fnP F Mr fun cdv A outer s H E hr =>
  (Ao (JM (Cj c_need_houses hr (by omega) rfl (Ad (Af 0) Aj)))
   (Ao (CJ (i:=1) Mr.nd (Oz rfl (BR Cp Cm (GJ rfl (Fp.of (sc:=Al Dq) (N:=["houses","ends"]) (N2:=["house"]) (k:=1) (caps:=[]) (by decide +kernel)) rfl (FN (Af 0)) ⟨fun _ _ _ _ _=>⟨(Bx (i:=0) (show U26 (["house"]:List Str) by decide +kernel)),Iz,(Bo BZ BX (Af 0) Ai (fun _ _=>rfl))⟩⟩) (GJ rfl (Fp.of (sc:=Al Dq) (N:=["houses","ends"]) (N2:=["house"]) (k:=1) (caps:=[]) (by decide +kernel)) rfl (FN (Af 0)) ⟨fun _ _ _ _ _=>⟨(Bx (i:=0) (show U26 (["house"]:List Str) by decide +kernel)),Iz,(Bo BZ BX (Af 0) Ai (fun _ _=>rfl))⟩⟩)) rfl (B.is "sorted") rfl (B.is "set")))
   (Ay (Ca (Cj c_changes_alone hr (by omega) rfl (Ad (GJ rfl (Fp.of (sc:=Al Dq) (N:=["houses","ends"]) (N2:=["number","houses"]) (k:=1) (caps:=[0]) (by decide +kernel)) rfl (FN (Af 1)) ⟨fun _ _ _ _ _=>⟨(Bx (i:=0) (show U26 (["number","houses"]:List Str) by decide +kernel)),Iz,(Cd (Ad (Af 0) (Ad (Cj c_tallest_at hr (by omega) rfl (Ad (Af 1) (Ad (Af 0) Aj))) Aj)) (Ah (Ah Aw)))⟩⟩) Aj))))))
set_option maxHeartbeats 4000000 in
theorem Uj{f:Addr}{fd:FuncData}(F:Fun K "_law_mixed" "_law_mixed" GZ f fd)(B:Blt mg):Ci P w K mg base CX0 1 f fd ["cell","k"] (spP K Fe 2) :=
 fnP F KN fun cdv A outer s H E hr =>
  (Ao (CJ (i:=2) KN.nd (BR Ld Js (BR Cp Cm (BR Cp Cm (BR Ld Js (Af 0) Ai) (BR Hy Hw (BR Hy Hw Ai (Af 1)) (Af 1))) (BR Hy Hw Ai (Af 1))) Ai))
   (Ao (CJ (i:=2) KN.nd (BR Ld Js (BR Hy Hw (Af 2) (Af 2)) Ai))
   (Ay (Ca (BR Tn Vd (BR Ld Js (BR Hy Hw (Af 2) (BR Cp Cm (Af 2) Ai)) Ai) Ai)))))
set_option maxHeartbeats 4000000 in
theorem V2{f:Addr}{fd:FuncData}(F:Fun K "_law_well" "_law_well" Gv f fd)(B:Blt mg):Ci P w K mg base CX0 1 f fd ["cell"] (spP K Ei 1) :=
 fnP F Uy fun cdv A outer s H E hr =>
  (Ay (Ca (Ds (Ad (BR Hy Hw (Af 0) (Rb Rj Vc rfl (B.is "int") T9 (Ad (JN WL T6 (Af 0) (BR Ij Gp Ai Ai) (Cr _)) Aj))) (Ad (Af 0) (Ad Ai Aj))) (Ah (Ah (Ah Aw))))))
set_option maxHeartbeats 4000000 in
theorem V4{f:Addr}{fd:FuncData}(F:Fun K "_law_draw" "_law_draw" Gw f fd)(B:Blt mg)(c_law_mixed:Dd P w K mg base "_law_mixed" 1 Fe):Ci P w K mg base CX0 2 f fd ["well","many"] (spM K Ag 2) :=
 fnM F Ov fun cdv A outer s H E hr =>
  (Ao (Gf (Et SX QK (Bo BZ BX (Af 0) Ai (fun _ _=>rfl)) Ai (Cr _))
   (Ao (CJ (i:=2) Ov.nd (BR Ld Js (Bo BZ BX (Af 0) Ai (fun _ _=>rfl)) (Af 1)))
   (Ao (Tz (BR Tn Vd (Bo BZ BX (Af 0) Ai (fun _ _=>rfl)) (Af 1)) (Af 0) Ai)
   (Ay (Ca (Af 2)))))
   En)
   (Ao (Tz (BR Cp Cm (Bo BZ BX (Af 0) Ai (fun _ _=>rfl)) Ai) (Af 0) Ai)
   (Ay (Ca (BR Ld Js (BR Hy Hw (Cj c_law_mixed hr (by omega) rfl (Ad (Bo BZ BX (Af 0) Ai (fun _ _=>rfl)) (Ad (Bo BZ BX (Af 0) Ai (fun _ _=>rfl)) Aj))) (Bo BZ BX (Ds (Ad Ai (Ad Ai Aj)) (Ah (Ah Aw))) (Rb Rj Vc rfl (B.is "int") T9 (Ad (JN SX QK (Af 1) (BR Ij Gp Ai Ai) (Cr _)) Aj)) (fun _ _=>rfl))) (Af 1))))))
set_option maxHeartbeats 4000000 in
theorem Ui{f:Addr}{fd:FuncData}(F:Fun K "_law_reach" "_law_reach" GX f fd)(B:Blt mg)(c_law_draw:G3 P w K mg base "_law_draw" 2 Ag):Ci P w K mg base CX0 3 f fd ["well"] (spM K Du 1) :=
 fnM F Ud fun cdv A outer s H E hr =>
  (Ay (Ca (Bo BZ BX (Ds (Ad (Cd (Ad Ai (Ad Ai Aj)) (Ah (Ah Aw))) (Ad (Cd (Ad (Kf JK Hv Ai) (Ad Ai Aj)) (Ah (Ah Aw))) (Ad (Cd (Ad Ai (Ad Ai Aj)) (Ah (Ah Aw))) (Ad (Cd (Ad (Kf JK Hv Ai) (Ad Ai Aj)) (Ah (Ah Aw))) (Ad (Cd (Ad (Kf JK Hv (BR Ij Gp Ai Ai)) (Ad (BR Hy Hw Ai (BR Ij Gp Ai Ai)) Aj)) (Ah (Ah Aw))) Aj))))) (Ah (Ah (Ah (Ah (Ah Aw)))))) (Bv c_law_draw hr (by omega) rfl (Ad (Af 0) (Ad Ai Aj))) (fun _ _=>rfl))))
set_option maxHeartbeats 4000000 in
theorem RM{f:Addr}{fd:FuncData}(F:Fun K "_law_stretch" "_law_stretch" Fi f fd)(B:Blt mg)(c_law_draw:G3 P w K mg base "_law_draw" 2 Ag):Ci P w K mg base CX0 3 f fd ["well","reach"] (spM K DR 2) :=
 fnM F Gz fun cdv A outer s H E hr =>
  (Ao (CJ (i:=2) Gz.nd (BR Cp Cm (Bo BZ BX (Af 1) Ai (fun _ _=>rfl)) (Bv c_law_draw hr (by omega) rfl (Ad (Af 0) (Ad (Bo BZ BX (Af 1) Ai (fun _ _=>rfl)) Aj)))))
   (Ao (CJ (i:=3) Gz.nd (BR Cp Cm (Bo BZ BX (Af 1) Ai (fun _ _=>rfl)) (Bv c_law_draw hr (by omega) rfl (Ad (Af 0) (Ad (Bo BZ BX (Af 1) Ai (fun _ _=>rfl)) Aj)))))
   (Ao (Gf (Et (Le hr) LQ (Af 2) (Af 3) (Cr _))
   (Ay (CJ (i:=3) Gz.nd (BR Cp Cm (Af 2) Ai)))
   En)
   (Ay (Ca (Cd (Ad (DP (Ri rfl) Td rfl (B.is "min") Xf (Ad (Af 2) (Ad (Af 3) Aj))) (Ad (DP (YS rfl) Z5 rfl (B.is "max") Xg (Ad (Af 2) (Ad (Af 3) Aj))) Aj)) (Ah (Ah Aw))))))))
set_option maxHeartbeats 4000000 in
theorem Uk{f:Addr}{fd:FuncData}(F:Fun K "_law_house" "_law_house" Ga f fd)(B:Blt mg)(c_law_stretch:G3 P w K mg base "_law_stretch" 3 DR)(c_law_draw:G3 P w K mg base "_law_draw" 2 Ag):Ci P w K mg base CX0 4 f fd ["well","reach","houses"] (spM K Dv 3) :=
 fnM F Dp fun cdv A outer s H E hr =>
  (Ao (ig (Bv c_law_stretch hr (by omega) rfl (Ad (Af 0) (Ad (Af 1) Aj))) (Nk rfl (EY (Bx (i:=3) Dp.nd) (EY (Bx (i:=4) Dp.nd) Lq))))
   (Ao (CJ (i:=5) Dp.nd (BR Cp Cm Ai (Bo BZ BX (Ds (Ad (Bv c_law_draw hr (by omega) rfl (Ad (Af 0) (Ad Ai Aj))) (Ad (Bv c_law_draw hr (by omega) rfl (Ad (Af 0) (Ad Ai Aj))) (Ad (Bv c_law_draw hr (by omega) rfl (Ad (Af 0) (Ad (BR Ij Gp Ai Ai) Aj))) Aj))) (Ah (Ah (Ah Aw)))) (Bv c_law_draw hr (by omega) rfl (Ad (Af 0) (Ad Ai Aj))) (fun _ _=>rfl))))
   (Ao (CJ (i:=6) Dp.nd (Bv c_law_draw hr (by omega) rfl (Ad (Af 0) (Ad Ai Aj))))
   (Ao (Gf (QC (aC (Et (Le hr) LQ (Af 2) (Ds Aj Aw) (Cr _)) (XQ (Et SX QK (Af 6) Ai (Cr _)))))
   (Ay (Ca (Cd (Ad (Af 3) (Ad (Af 4) (Ad (Af 5) Aj))) (Ah (Ah (Ah Aw))))))
   En)
   (Ao (CJ (i:=7) Dp.nd (Bo BZ BX (Af 2) (Bv c_law_draw hr (by omega) rfl (Ad (Af 0) (Ad (DP OD Vb rfl (B.is "len") Xh (Ad (Af 2) Aj)) Aj))) (fun _ _=>rfl)))
   (Ao (CJ (i:=8) Dp.nd (DP (Ri rfl) Td rfl (B.is "min") Xf (Ad (BR Ij Gp Ai Ai) (Ad (BR Cp Cm (BR Cp Cm (Bo BZ BX (Af 7) Ai (fun _ _=>rfl)) Ai) (Bv c_law_draw hr (by omega) rfl (Ad (Af 0) (Ad Ai Aj)))) Aj))))
   (Ao (CJ (i:=9) Dp.nd (BR Cp Cm (BR Cp Cm (Bo BZ BX (Af 7) Ai (fun _ _=>rfl)) Ai) (Bv c_law_draw hr (by omega) rfl (Ad (Af 0) (Ad (BR La Jr (Bo BZ BX (Af 7) Ai (fun _ _=>rfl)) (Bo BZ BX (Af 7) Ai (fun _ _=>rfl))) Aj)))))
   (Ao (CJ (i:=10) Dp.nd (Lr (Ad (Af 7) (Ad (Cd (Ad (Bo BZ BX (Af 7) Ai (fun _ _=>rfl)) (Ad (Bo BZ BX (Af 7) Ai (fun _ _=>rfl)) (Ad (Af 5) Aj))) (Ah (Ah (Ah Aw)))) (Ad (Cd (Ad (Af 3) (Ad (Af 4) (Ad (Bo BZ BX (Af 7) Ai (fun _ _=>rfl)) Aj))) (Ah (Ah (Ah Aw)))) (Ad (Cd (Ad (Bo BZ BX (Af 7) Ai (fun _ _=>rfl)) (Ad (Af 8) (Ad (Af 5) Aj))) (Ah (Ah (Ah Aw)))) Aj)))) (Ah (Ah (Ah (Ah Aw))))))
   (Ao (JM (Jw U21 U2w U2x IV Hz (Af 10) (Ad (Cd (Ad (Bo BZ BX (Af 7) Ai (fun _ _=>rfl)) (Ad (Af 9) (Ad (Af 5) Aj))) (Ah (Ah (Ah Aw)))) Aj)))
   (Ao (Gf (Et WL T6 (Bo BZ BX (Bo BZ BX (Af 10) (Af 6) (fun _ _=>rfl)) Ai (fun _ _=>rfl)) (Bo BZ BX (Bo BZ BX (Af 10) (Af 6) (fun _ _=>rfl)) Ai (fun _ _=>rfl)) (Cr _))
   (Ay (Ca (Af 7)))
   En)
   (Ay (Ca (Bo BZ BX (Af 10) (Af 6) (fun _ _=>rfl))))))))))))))
set_option maxHeartbeats 4000000 in
theorem Rz{f:Addr}{fd:FuncData}(F:Fun K "_law_houses" "_law_houses" G6 f fd)(B:Blt mg)(c_law_draw:G3 P w K mg base "_law_draw" 2 Ag)(c_law_house:G3 P w K mg base "_law_house" 4 Dv):Ci P w K mg base CX0 5 f fd ["well","reach","most"] (spM K Bu 3) :=
 fnM F HX fun cdv A outer s H E hr =>
  (Ao (CJ (i:=3) HX.nd (Bo BZ BX (Ds (Ad (Bv c_law_draw hr (by omega) rfl (Ad (Af 0) (Ad Ai Aj))) (Ad (Bv c_law_draw hr (by omega) rfl (Ad (Af 0) (Ad (BR Cp Cm (Af 2) Ai) Aj))) (Ad (Af 2) Aj))) (Ah (Ah (Ah Aw)))) (Bv c_law_draw hr (by omega) rfl (Ad (Af 0) (Ad Ai Aj))) (fun _ _=>rfl)))
   (Ao (CJ (i:=4) HX.nd (Lr Aj Aw))
   (Ao (Ik rfl (Ra rfl (B.is "range") (Ad (Af 3) Aj)) (Bx (i:=5) HX.nd)
   (Ay (JM (Jw U21 U2w U2x IV Hz (Af 4) (Ad (Bv c_law_house hr (by omega) rfl (Ad (Af 0) (Ad (Af 1) (Ad (Af 4) Aj)))) Aj)))) U23)
   (Ay (Ca (Af 4))))))
set_option maxHeartbeats 4000000 in
theorem V3{f:Addr}{fd:FuncData}(F:Fun K "_law_line" "_law_line" Fq f fd)(B:Blt mg):Ci P w K mg base CX0 1 f fd ["houses"] (spP K Ej 1) :=
 fnP F Fw fun cdv A outer s H E hr =>
  (Ao (CJ (i:=1) Fw.nd (Oz rfl (BR Cp Cm (GJ rfl (Fp.of (sc:=Al Fq) (N:=["houses","marks","found","mark","height","house"]) (N2:=["house"]) (k:=1) (caps:=[]) (by decide +kernel)) rfl (FN (Af 0)) ⟨fun _ _ _ _ _=>⟨(Bx (i:=0) (show U26 (["house"]:List Str) by decide +kernel)),Iz,(Bo BZ BX (Af 0) Ai (fun _ _=>rfl))⟩⟩) (GJ rfl (Fp.of (sc:=Al Fq) (N:=["houses","marks","found","mark","height","house"]) (N2:=["house"]) (k:=1) (caps:=[]) (by decide +kernel)) rfl (FN (Af 0)) ⟨fun _ _ _ _ _=>⟨(Bx (i:=0) (show U26 (["house"]:List Str) by decide +kernel)),Iz,(Bo BZ BX (Af 0) Ai (fun _ _=>rfl))⟩⟩)) rfl (B.is "sorted") rfl (B.is "set")))
   (Ao (CJ (i:=2) Fw.nd (Lr Aj Aw))
   (Ao (Ik rfl (FN (Af 1)) (Bx (i:=3) Fw.nd)
   (Ao (CJ (i:=4) Fw.nd Ai)
   (Ao (Ik rfl (FN (Af 0)) (Bx (i:=5) Fw.nd)
   (Ay (Gf (QC (QX (Et WK T5 (Bo BZ BX (Af 5) Ai (fun _ _=>rfl)) (Af 3) (Cr _)) (QX (Et SQ QJ (Af 3) (Bo BZ BX (Af 5) Ai (fun _ _=>rfl)) (Cr _)) (R0 (Et SX QK (Bo BZ BX (Af 5) Ai (fun _ _=>rfl)) (Af 4) (Cr _))))))
   (Ay (CJ (i:=4) Fw.nd (Bo BZ BX (Af 5) Ai (fun _ _=>rfl))))
   En)) U23)
   (Ay (Gf (Et (Lb hr) QH (Af 4) (Bo BZ BX (Bo BZ BX (BR Cp Cm (Ds (Ad (Cd (Ad Ai (Ad Ai Aj)) (Ah (Ah Aw))) Aj) (Ah Aw)) (Af 2)) (Kf JK Hv Ai) (fun _ _=>rfl)) Ai (fun _ _=>rfl)) (Cr _))
   (Ay (JM (Jw U21 U2w U2x IV Hz (Af 2) (Ad (Cd (Ad (Af 3) (Ad (Af 4) Aj)) (Ah (Ah Aw))) Aj))))
   En)))) U23)
   (Ay (Ca (Af 2))))))
set_option maxHeartbeats 4000000 in
theorem S6{f:Addr}{fd:FuncData}(F:Fun K "_law_height" "_law_height" FT f fd)(B:Blt mg):Ci P w K mg base CX0 1 f fd ["houses","number"] (spP K BP 2) :=
 fnP F Ru fun cdv A outer s H E hr =>
  (Ay (Ca (DP (YM rfl rfl) Z4 rfl (B.is "max") Xg (Ad (BR Cp Cm (Ds (Ad Ai Aj) (Ah Aw)) (GJ rfl (Fp.of (sc:=Al FT) (N:=["houses","number"]) (N2:=["low","high","height","number"]) (k:=3) (caps:=[1]) (by decide +kernel)) rfl (FN (Af 0)) ⟨fun _ _ _ _ _=>⟨(Nk rfl (EY (Bx (i:=0) (show U26 (["low","high","height","number"]:List Str) by decide +kernel)) (EY (Bx (i:=1) (show U26 (["low","high","height","number"]:List Str) by decide +kernel)) (EY (Bx (i:=2) (show U26 (["low","high","height","number"]:List Str) by decide +kernel)) Lq)))),(Vn (QC (QX (Et WK T5 (Af 0) (Af 3) (Cr _)) (R0 (Et SQ QJ (Af 3) (Af 1) (Cr _)))))),(Af 2)⟩⟩)) Aj))))
set_option maxHeartbeats 4000000 in
theorem RN{f:Addr}{fd:FuncData}(F:Fun K "_law_numbers" "_law_numbers" Fj f fd)(B:Blt mg)(c_law_draw:G3 P w K mg base "_law_draw" 2 Ag):Ci P w K mg base CX0 3 f fd ["well","houses"] (spM K DW 2) :=
 fnM F FJ fun cdv A outer s H E hr =>
  (Ao (CJ (i:=2) FJ.nd (Ds (Ad Ai (Ad (BR Ij Gp Ai Ai) (Ad (BR La Jr Ai (BR Ij Gp Ai Ai)) (Ad (BR Ij Gp Ai Ai) Aj)))) (Ah (Ah (Ah (Ah Aw))))))
   (Ao (Ik rfl (FN (BR Cp Cm (Pr Sx T4 (Af 1) R7 (R6 Ai)) (Pr Sx T4 (Af 1) (R6 (Kf JK Hv Ai)) R7))) (Nk rfl (EY (Bx (i:=3) FJ.nd) (EY (Bx (i:=4) FJ.nd) (EY (Bx (i:=5) FJ.nd) Lq))))
   (Ay (CJ (i:=2) FJ.nd (BR Cp Cm (Af 2) (Ds (Ad (BR La Jr (Af 3) Ai) (Ad (Af 3) (Ad (BR La Jr (Af 4) Ai) (Ad (Af 4) (Ad (BR Cp Cm (Af 3) (Bv c_law_draw hr (by omega) rfl (Ad (Af 0) (Ad (BR La Jr (Af 4) (Af 3)) Aj)))) Aj))))) (Ah (Ah (Ah (Ah (Ah Aw))))))))) U23)
   (Ay (Ca (Af 2)))))
set_option maxHeartbeats 4000000 in
theorem Uh{f:Addr}{fd:FuncData}(F:Fun K "_law_right" "_law_right" GR f fd)(B:Blt mg)(c_law_line:Dd P w K mg base "_law_line" 1 Ej)(c_law_numbers:G3 P w K mg base "_law_numbers" 3 DW)(c_height_at:Dd P w K mg base "height_at" 6 Dg)(c_law_height:Dd P w K mg base "_law_height" 1 BP)(c_skyline_of:Dd P w K mg base "skyline_of" 6 Bg):Ci P w K mg base CX0 7 f fd ["well","houses","near"] (spM K Cy 3) :=
 fnM F Ek fun cdv A outer s H E hr =>
  (Ao (CJ (i:=3) Ek.nd (cW Ur Z6 rfl (B.is "list") Vy (Ad (Af 1) Aj)))
   (Ao (CJ (i:=4) Ek.nd (Cj c_law_line hr (by omega) rfl (Ad (Af 1) Aj)))
   (Ao (Ik rfl (FN (Bv c_law_numbers hr (by omega) rfl (Ad (Af 0) (Ad (Af 1) Aj)))) (Bx (i:=5) Ek.nd)
   (Ay (Gf (Et (Lb hr) Va (DP (Jp hr) MK rfl (B.is "repr") Oq (Ad (Cj c_height_at hr (by omega) rfl (Ad (Af 3) (Ad (Af 5) Aj))) Aj)) (DP (Jp hr) MK rfl (B.is "repr") Oq (Ad (Cj c_law_height hr (by omega) rfl (Ad (Af 1) (Ad (Af 5) Aj))) Aj)) (Cr _))
   (Ay (Ca OJ))
   En)) U23)
   (Ao (Ik rfl (Ra rfl (B.is "range") (Ad Ai Aj)) (Bx (i:=6) Ek.nd)
   (Ao (CJ (i:=7) Ek.nd (U8 c_skyline_of hr (by omega) rfl (Ad (Af 3) Aj)))
   (Ao (Gf (QC (aC (Et (Lb hr) Va (DP (Jp hr) MK rfl (B.is "repr") Oq (Ad (Af 7) Aj)) (DP (Jp hr) MK rfl (B.is "repr") Oq (Ad (Af 4) Aj)) (Cr _)) (XQ (Et (Lb hr) QH (Af 3) (Af 1) (Cr _)))))
   (Ay (Ca OJ))
   En)
   (Ay (JM (Jw U21 U2w U2x IV Hz (Af 7) (Ad (Cd (Ad Ai (Ad Ai Aj)) (Ah (Ah Aw))) Aj)))))) U23)
   (Ao (CJ (i:=8) Ek.nd (Lr Aj Aw))
   (Ao (Ik rfl (Y9 rfl (B.is "range") (Ad (Kf JK Hv Ai) (Ad Ai Aj))) (Bx (i:=5) Ek.nd)
   (Ay (Gf (QC (QX (Nj (Af 2)) (R0 (Et (Lb hr) QH (Cj c_law_height hr (by omega) rfl (Ad (Af 1) (Ad (Af 5) Aj))) (Cj c_law_height hr (by omega) rfl (Ad (Af 1) (Ad (BR La Jr (Af 5) Ai) Aj))) (Cr _)))))
   (Ay (JM (Jw U21 U2w U2x IV Hz (Af 8) (Ad (Cd (Ad (Af 5) (Ad (Cj c_law_height hr (by omega) rfl (Ad (Af 1) (Ad (Af 5) Aj))) Aj)) (Ah (Ah Aw))) Aj))))
   En)) U23)
   (Ay (Ca (kO (XR (Af 2)) (Lg (JN (Le hr) LQ (Af 8) (Af 4) (Cr _))))))))))))
set_option maxHeartbeats 4000000 in
theorem iK{f:Addr}{fd:FuncData}(F:Fun K "law" "law" Jh f fd)(B:Blt mg)(c_law_well:Dd P w K mg base "_law_well" 1 Ei)(c_law_reach:G3 P w K mg base "_law_reach" 3 Du)(c_law_right:G3 P w K mg base "_law_right" 7 Cy)(c_law_houses:G3 P w K mg base "_law_houses" 5 Bu)(c_law_draw:G3 P w K mg base "_law_draw" 2 Ag)(c_skyline_of:Dd P w K mg base "skyline_of" 6 Bg):Ci P w K mg base CX0 8 f fd ["script"] (spP K Qw 1) :=
 fnP F Nf fun cdv A outer s H E hr =>
  (Ao (Ik rfl (FN (BR Cp Cm (Ds (Ad Ai Aj) (Ah Aw)) (Pr Sx T4 (Af 0) R7 (R6 Ai)))) (Bx (i:=1) Nf.nd)
   (Ao (CJ (i:=2) Nf.nd (U8 c_law_well hr (by omega) rfl (Ad (Af 1) Aj)))
   (Ao (CJ (i:=3) Nf.nd (Bv c_law_reach hr (by omega) rfl (Ad (Af 2) Aj)))
   (Ao (Gf (QZ (Nj (Bv c_law_right hr (by omega) rfl (Ad (Af 2) (Ad (Bv c_law_houses hr (by omega) rfl (Ad (Af 2) (Ad (Af 3) (Ad Ai Aj)))) (Ad OJ Aj))))))
   (Ay (Ca OJ))
   En)
   (Ao (CJ (i:=4) Nf.nd (Bo BZ BX (Ds (Ad (Cd (Ad Ai (Ad Ai Aj)) (Ah (Ah Aw))) (Ad (Cd (Ad (Kf JK Hv Ai) (Ad Ai Aj)) (Ah (Ah Aw))) (Ad (Cd (Ad Ai (Ad Ai Aj)) (Ah (Ah Aw))) (Ad (Cd (Ad (Kf JK Hv Ai) (Ad Ai Aj)) (Ah (Ah Aw))) Aj)))) (Ah (Ah (Ah (Ah Aw))))) (Bv c_law_draw hr (by omega) rfl (Ad (Af 2) (Ad Ai Aj))) (fun _ _=>rfl)))
   (Ay (Gf (QZ (Nj (Bv c_law_right hr (by omega) rfl (Ad (Af 2) (Ad (Bv c_law_houses hr (by omega) rfl (Ad (Af 2) (Ad (Af 4) (Ad Ai Aj)))) (Ad OJ Aj))))))
   (Ay (Ca OJ))
   En)))))) U23)
   (Ay (Ca (K8 (JN (Le hr) LQ (Cj c_skyline_of hr (by omega) rfl (Ad (Ds (Ad (Cd (Ad Ai (Ad Ai (Ad Ai Aj))) (Ah (Ah (Ah Aw)))) (Ad (Cd (Ad Ai (Ad Ai (Ad Ai Aj))) (Ah (Ah (Ah Aw)))) (Ad (Cd (Ad Ai (Ad Ai (Ad Ai Aj))) (Ah (Ah (Ah Aw)))) Aj))) (Ah (Ah (Ah Aw)))) Aj)) (Ds (Ad (Cd (Ad Ai (Ad Ai Aj)) (Ah (Ah Aw))) (Ad (Cd (Ad Ai (Ad Ai Aj)) (Ah (Ah Aw))) (Ad (Cd (Ad Ai (Ad Ai Aj)) (Ah (Ah Aw))) Aj))) (Ah (Ah (Ah Aw)))) (Cr _)) (Lg (JN (Le hr) LQ (Cj c_skyline_of hr (by omega) rfl (Ad (Ds Aj Aw) Aj)) (Ds Aj Aw) (Cr _)))))))
end
end W28
end
section
namespace W28
open PySem L2 VS
theorem O2(i:Int):Dn [.int i]=some (.bl true):=by
 simp[Dn,Qh,Cg,DY,GD,Dj,Aq,FP,Jz,dF,Dy,den,-U0s,-U0y]
theorem Wz{α:Type}(l:List α):K5.boolsOf (l.map fun _=>D.bl true)=some (l.map fun _=>true):=by
 have:=VB (l.map fun _=>true)
 rw[U0s] at this
 exact this
theorem Ck{sem:Eh}{a:Bd}{env:VS.Env}{S S':Store}{ds es:List D}{r:D}(h:a env S=some (ds,S'))(hp:BJ ds=true)(ha:CW ds=es)(hr:sem es=some r):Ax sem a env S=some (r,S'):=by
 rw[Ko,h]
 simp only[U0b,Dk 0 S' hp,ha,hr,hp,Bool.true_or,if_true]
end W28
end
section
namespace W28
open PySem L2 VS
theorem ZV(c k:Int)(h0:0<=k)(h1:k<1000000000000):∃v,Fe [.int c,.int k]=some (.int v):=by
 have hk:-18446744073709551616<k/\k<18446744073709551616:=by omega
 have ha:∀t:Int,-18446744073709551616<t%2147483629/\t%2147483629<18446744073709551616:=fun t=>by omega
 have hb:∀t:Int,-18446744073709551616<t%2147483587/\t%2147483587<18446744073709551616:=fun t=>by omega
 simp[Fe,PK,G4,Ce,Cg,DY,GD,Bb,oI,Kv,Qs,Qq,Bk,Ge,oDiv,oMod,VS.listOf,Dy,den,U02,-U0s,-U0y,hk,ha,hb]
theorem Dt(x y z m:Int)(h0:0<m)(h1:m<2^63)(z0:0<=z)(z1:z<100000000000):∃r x' z',Ag [x,y,z] [.int m]=some (.int r,[x',y,z'])/\(0<=r/\r<m)/\z<=z'/\z'<=z+1:=by
 have hm:m<18446744073709551616:=by omega
 by_cases h:0<x
 .refine⟨x%m,x/m,z,?_,⟨U6q _ (by omega),U54 _ h0⟩,by omega,by omega⟩
  simp[Ag,Jo,G4,Ce,Cg,LR,Jt,Nq,DY,GD,Bb,Dj,Aq,FP,DX,Di,Ko,oI,Gh,Kv,Qs,Qq,Iu,Bk,Ge,oDiv,oMod,DN,oGt,oIx,M9,VS.listOf,Fx,Gs,intsOf,den,U02,-U0s,-U0y,h,h0,hm]
 .obtain⟨v,hv⟩:=ZV y (z+1) (by omega) (by omega)
  by_cases h6:1000000<m
  .refine⟨v*8191%m,x,z+1,?_,⟨U6q _ (by omega),U54 _ h0⟩,by omega,by omega⟩
   simp[Ag,Jo,G4,Ce,Cg,LR,Jt,Nq,DY,GD,Bb,Dj,Aq,FP,DX,Di,Ko,oI,Gh,Kv,Qs,Qq,Iu,Bk,Ge,oDiv,oMod,DN,oGt,oIx,M9,VS.listOf,Fx,Gs,intsOf,den,Cz,age,CW,Bf,BJ,U02,-U0s,-U0y,h,h0,hm,hv,h6]
  .refine⟨v*1%m,x,z+1,?_,⟨U6q _ (by omega),U54 _ h0⟩,by omega,by omega⟩
   simp[Ag,Jo,G4,Ce,Cg,LR,Jt,Nq,DY,GD,Bb,Dj,Aq,FP,DX,Di,Ko,oI,Gh,Kv,Qs,Qq,Iu,Bk,Ge,oDiv,oMod,DN,oGt,oIx,M9,VS.listOf,Fx,Gs,intsOf,den,Cz,age,CW,Bf,BJ,U02,-U0s,-U0y,h,h0,hm,hv,h6]
theorem aU(c:Int):∃x,Ei [.int c]=some (.lst true [.int x,.int c,.int 0]):=by
 by_cases h:(1000000000000000000:Int)<=c
 .simp[Ei,Mj,Cg,DY,GD,Bb,Dj,Aq,FP,Di,oI,Gh,Kv,Iu,Ge,DN,oGe,M9,VS.listOf,Dy,den,Cz,-U0s,-U0y,h]
 .simp[Ei,Mj,Cg,DY,GD,Bb,Dj,Aq,FP,Di,oI,Gh,Kv,Iu,Ge,DN,oGe,M9,VS.listOf,Dy,den,Cz,-U0s,-U0y,h]
end W28
end
section
namespace W28
open PySem L2 VS
theorem TX{sem:Eh}{a:Bd}{env:VS.Env}{S S':Store}{d d':D}{cs:List D}(h:Ax sem a env S=some (d,S'))(ht:Mz S'.length d=some (d',cs)):JQ sem a env S=some (d',S'++[some cs]):=by
 rw[YH,h,U0b]
 show(Mz S'.length d).bind _=_
 rw[ht];rfl
theorem GK{sem:Ih}{a:Bd}{env:VS.Env}{S S':Store}{i:Nat}{rest es:List D}{ns ms:List Int}{r:D}(h:a env S=some (.ref i::rest,S'))(hi:S'[i]?=some (some (ns.map D.int)))(hp:BJ rest=true)(ha:CW rest=es)(hr:sem ns es=some (r,ms)):Am sem a env S=some (r,S'.set i (some (ms.map D.int))):=by
 rw[Nv,h]
 simp only[U0b,hi,Jl,Dk 0 _ hp,ha,hr,hp,Bool.true_or,if_true]
theorem Vk{g:Store->D->List D->Option (D×Store)}{o:Av}{a:Bd}{env:VS.Env}{S S1 S2 S3:Store}{d r:D}{cs ds:List D}(h:o env S=some (d,S1))(hl:VS.listOf S1 d=some cs)(h2:a env S1=some (ds,S2))(h3:g S2 d ds=some (r,S3)):Gn g o a env S=some (r,S3):=by
 rw[UW,h,U0b]
 show(if (VS.listOf S1 d).isSome=true then _ else _)=_
 rw[hl]
 show(a env S1).bind _=_
 rw[h2]
 exact h3
theorem M7(S:Store)(a:Option (List D))(l:List (Option (List D))):(S++a::l)[S.length]?=some a:=by simp
theorem N5(S:Store)(a c:Option (List D))(l:List (Option (List D))):(S++a::l).set S.length c=S++c::l:=by
 rw[List.set_append_right _ _ (by omega)]
 simp
end W28
end
section
namespace W28
open PySem L2 VS
theorem Dz{x y z c r x' z':Int}{a:Av}{env:VS.Env}{S:Store}{j:Nat}(h:Ag [x,y,z] [.int c]=some (.int r,[x',y,z']))(h0:env[j]?=some (some (.ref 0)))(ha:a env (some [.int x,.int y,.int z]::S)=some (.int c,some [.int x,.int y,.int z]::S)):Am Ag (Aa (Ac j) (Aa a Ae)) env (some [.int x,.int y,.int z]::S)=some (.int r,some [.int x',.int y,.int z']::S):=by
 have v0:Ac j env (some [.int x,.int y,.int z]::S)=some (.ref 0,some [.int x,.int y,.int z]::S):=by rw[DY,h0];rfl
 exact GK (ns:=[x,y,z]) (rest:=[.int c]) (es:=[.int c]) (i:=0) (S':=some [.int x,.int y,.int z]::S) (by rw[Aq,v0,U0b,Aq,ha];rfl) rfl (by simp[BJ,Bf]) (by simp[CW,age]) h
theorem Wa(x y z r0 r1:Int)(h1:0<r1)(h2:r1<=2000000000)(z0:0<=z)(z1:z<10000000000):∃(p:St2)(x' z':Int),DR [x,y,z] [.tup [.int r0,.int r1]]=some (Ak p,[x',y,z'])/\(r0<=p.1/\p.1<p.2/\p.2<=r0+r1)/\z<=z'/\z'<=z+2:=by
 obtain⟨a,x1,z2,d1,⟨a0,a1⟩,k1,k2⟩:=Dt x y z r1 h1 (by omega) z0 (by omega)
 obtain⟨b,x2,z3,d2,⟨b0,b1⟩,k3,k4⟩:=Dt x1 y z2 r1 h1 (by omega) (by omega) (by omega)
 have v1:∀(e2 e3:Option D)(S:Store),eOp oIx (Ac 1) (eC (.int 0)) [some (.ref 0),some (.tup [.int r0,.int r1]),e2,e3] S=some (.int r0,S):=fun _ _ _=>rfl
 have v2:∀(e2 e3:Option D)(S:Store),eOp oIx (Ac 1) (eC (.int 1)) [some (.ref 0),some (.tup [.int r0,.int r1]),e2,e3] S=some (.int r1,S):=fun _ _ _=>rfl
 have s1:(Bh 2 (eOp Bk (eOp oIx (Ac 1) (eC (.int 0))) (Am Ag (Aa (Ac 0) (Aa (eOp oIx (Ac 1) (eC (.int 1))) Ae))))) [some (.ref 0),some (.tup [.int r0,.int r1]),none,none] [some [.int x,.int y,.int z]]=some (.nx,[some (.ref 0),some (.tup [.int r0,.int r1]),some (.int (r0+a)),none],[some [.int x1,.int y,.int z2]]):=by
  rw[Ce,Bb,v1,U0b,Dz d1 rfl (v2 _ _ _)];rfl
 have s2:(Bh 3 (eOp Bk (eOp oIx (Ac 1) (eC (.int 0))) (Am Ag (Aa (Ac 0) (Aa (eOp oIx (Ac 1) (eC (.int 1))) Ae))))) [some (.ref 0),some (.tup [.int r0,.int r1]),some (.int (r0+a)),none] [some [.int x1,.int y,.int z2]]=some (.nx,[some (.ref 0),some (.tup [.int r0,.int r1]),some (.int (r0+a)),some (.int (r0+b))],[some [.int x2,.int y,.int z3]]):=by
  rw[Ce,Bb,v1,U0b,Dz d2 rfl (v2 _ _ _)];rfl
 have ts:Bm (eOp (oEq false) (Ac 2) (Ac 3)) [some (.ref 0),some (.tup [.int r0,.int r1]),some (.int (r0+a)),some (.int (r0+b))] [some [.int x2,.int y,.int z3]]=some (decide (r0+a=r0+b),[some [.int x2,.int y,.int z3]]):=by
  simp[DY,Bb,DX,oEq,-U0s,-U0y]
 obtain⟨c,s3,c0,c1,c2⟩:∃c:Int,(sIf (Bm (eOp (oEq false) (Ac 2) (Ac 3))) (Bh 3 (eOp Bk (Ac 2) (eC (.int 1)))) Fy) [some (.ref 0),some (.tup [.int r0,.int r1]),some (.int (r0+a)),some (.int (r0+b))] [some [.int x2,.int y,.int z3]]=some (.nx,[some (.ref 0),some (.tup [.int r0,.int r1]),some (.int (r0+a)),some (.int c)],[some [.int x2,.int y,.int z3]])/\c≠r0+a/\r0<=c/\c<=r0+r1:=by
  by_cases h:r0+a=r0+b
  .rw[show decide (r0+a=r0+b)=true from decide_eq_true h] at ts
   exact⟨r0+a+1,by rw[K9 ts];rfl,by omega,by omega,by omega⟩
  .rw[show decide (r0+a=r0+b)=false from decide_eq_false h] at ts
   exact⟨r0+b,by rw[Gg ts];rfl,by omega,by omega,by omega⟩
 refine⟨(if c<r0+a then c else r0+a,if c>r0+a then c else r0+a),x2,z3,?_,?_,by omega,by omega⟩
 .unfold DR
  rw[Gs]
  simp only[U0f,U1b,U0n,U1m,U10,U11,U02,U1d,U15,U1y,if_true]
  unfold Mt
  rw[Ba s1,Ba s2,Ba s3]
  simp[Cg,DY,Dj,Aq,FP,Lw,Sh,Kg,intsOf,den,Cz,-U0s,-U0y,Ak]
 .simp only
  split<;>split<;>omega
end W28
end
section
namespace W28
open PySem L2 VS
theorem ZG(x y z:Int)(z0:0<=z)(z1:z<10000000000):∃r0 r1 x' z':Int,Du [x,y,z] []=some (.tup [.int r0,.int r1],[x',y,z'])/\(-1000000000<=r0/\0<r1/\r0+r1<=1000000000)/\z<=z'/\z'<=z+1:=by
 obtain⟨r,x1,z2,d1,⟨a0,a1⟩,k1,k2⟩:=Dt x y z 5 (by decide) (by decide) z0 (by omega)
 obtain⟨r0,r1,f1,h⟩:∃r0 r1:Int,atI [D.tup [.int 0,.int 6],.tup [.int (-3),.int 8],.tup [.int 0,.int 13],.tup [.int (-20),.int 41],.tup [.int (-1000000000),.int 2000000000]] r=some (.tup [.int r0,.int r1])/\(-1000000000<=r0/\0<r1/\r0+r1<=1000000000):=by
  have:r=0∨r=1∨r=2∨r=3∨r=4:=by omega
  rcases this with rfl|rfl|rfl|rfl|rfl
  .exact⟨0,6,rfl,by decide⟩
  .exact⟨-3,8,rfl,by decide⟩
  .exact⟨0,13,rfl,by decide⟩
  .exact⟨-20,41,rfl,by decide⟩
  .exact⟨-1000000000,2000000000,rfl,by decide⟩
 refine⟨r0,r1,x1,z2,?_,h,k1,k2⟩
 have c1:Am Ag (Aa (Ac 0) (Aa (eC (.int 5)) Ae)) [some (.ref 0)] [some [.int x,.int y,.int z]]=some (.int r,[some [.int x1,.int y,.int z2]]):=Dz d1 rfl rfl
 have q0:BL (Aa (BW (Aa (eC (.int 0)) (Aa (eC (.int 6)) Ae))) (Aa (BW (Aa (eUn Ep (eC (.int 3))) (Aa (eC (.int 8)) Ae))) (Aa (BW (Aa (eC (.int 0)) (Aa (eC (.int 13)) Ae))) (Aa (BW (Aa (eUn Ep (eC (.int 20))) (Aa (eC (.int 41)) Ae))) (Aa (BW (Aa (eUn Ep (eOp DN (eC (.int 10)) (eC (.int 9)))) (Aa (eOp Ge (eC (.int 2)) (eOp DN (eC (.int 10)) (eC (.int 9)))) Ae))) Ae))))) [some (.ref 0)] [some [.int x,.int y,.int z]]=some (.lst true [.tup [.int 0,.int 6],.tup [.int (-3),.int 8],.tup [.int 0,.int 13],.tup [.int (-20),.int 41],.tup [.int (-1000000000),.int 2000000000]],[some [.int x,.int y,.int z]]):=by simp[GD,Bb,j6,Dj,Aq,Di,Lw,oI,Kv,Iu,Ge,DN,Ep,VS.listOf,-U0s,-U0y]
 unfold Du
 rw[Gs]
 simp only[U0f,U1b,U0n,U1m,U10,U11,U02,U1d,U15,U1y,if_true]
 unfold PJ
 rw[Cg,Bb,q0,U0b,c1,U0b]
 show((U2q _ (atI [D.tup [.int 0,.int 6],.tup [.int (-3),.int 8],.tup [.int 0,.int 13],.tup [.int (-20),.int 41],.tup [.int (-1000000000),.int 2000000000]] r)).bind _).bind _=_
 rw[f1]
 simp[intsOf,den,Cz,-U0s,-U0y]
end W28
end
section
namespace W28
open PySem L2 VS
theorem Vr(ws:List Nat)(w:Nat)(xs:List PyData)(hl:xs.length<=w)(h:∀x∈xs,fit ws x=true):fit (w::ws) (.list xs)=true/\fit (w::ws) (.tuple xs)=true:=by
 have a:xs.all (fit ws)=true:=U27.mpr h
 simp[fit,hl,a]
theorem Qx{S:Store}{d:D}{p:PyData}{ws:List Nat}(h:CT S d=some p)(hf:fit ws p=true)(hw:ws.length<=50)(hb:bnd ws<=1000000):El S [d]=some (.str p.shown):=by
 obtain⟨f1,f2,f3⟩:=Xc ws p hf
 show(CT S d).bind _=_
 rw[h,U0b]
 have:(p.showable&&decide (p.depth<=60)&&decide (p.shown.length<=1000000))=true:=by
  rw[U0m,U0m]
  exact⟨⟨f1,decide_eq_true (by omega)⟩,decide_eq_true (by omega)⟩
 rw[if_pos this]
theorem lC{p:St2}(h:-10000000000<=p.1/\p.1<=10000000000/\-10000000000<=p.2/\p.2<=10000000000):fit [2] (pS p)=true:=by
 have lf:∀a:Int,-10000000000<=a->a<=10000000000->fit [] (.int a)=true:=fun a h1 h2=>decide_eq_true (by
  show a.natAbs<10^41
  exact U3r (m:=10000000000) (by omega) (by decide))
 refine(Vr [] 2 [.int p.1,.int p.2] (by simp) fun x hx=>?_).2
 rcases U0u.mp hx with z|z
 .rw[z];exact lf _ h.1 h.2.1
 .rw[U1k.mp z];exact lf _ h.2.2.1 h.2.2.2
def aM(l:List St2):Prop:=∀p∈l,-10000000000<=p.1/\p.1<=10000000000/\-10000000000<=p.2/\p.2<=10000000000
theorem j4{l:List St2}(hl:l.length<=200)(h:aM l):fit [200,2] (.list (l.map pS))=true:=by
 refine(Vr [2] 200 _ (by simpa using hl) fun x hx=>?_).1
 obtain⟨p,hp,rfl⟩:=U3f.mp hx
 exact lC (h p hp)
theorem Nb(S:Store)(m:Bool)(l:List St2):CT S (.lst m (l.map Ak))=some (.list (l.map pS)):=by
 have hp:BJ (l.map Ak)=true:=Bp (G8 _ fun p _=>Eu p)
 have:HD (l.map Ak)=some (l.map pS):=by
  induction l with
  |nil=>rfl
  |cons p r ih=>rw[U0n,HD,Pg,ih (Bp (G8 _ fun p _=>Eu p))];rfl
 rw[CT,den,Dk 0 S hp]
 show toP (.lst m (l.map Ak))=_
 rw[toP,this];rfl
theorem X8{S:Store}{i:Nat}{l:List St2}(h:S[i]?=some (some (l.map Ak))):CT S (.ref i)=some (.list (l.map pS)):=by
 have hp:BJ (l.map Ak)=true:=Bp (G8 _ fun p _=>Eu p)
 have:=Nb S true l
 rw[CT,den,Dk 0 S hp] at this
 rw[CT,den,if_neg (by omega),h]
 show(if BJ (l.map Ak)=true then some (D.lst true (l.map Ak)) else none).bind toP=_
 rw[if_pos hp]
 exact this
theorem XM(l:List St2):lev 2 (.list (l.map pS))=true:=by
 show(l.map pS).all (lev 1)=true
 rw[U27]
 intro x hx
 obtain⟨p,_,rfl⟩:=U3f.mp hx
 exact iT 0 p
theorem Jx(k:List St2):Cu (k.map Ak)=true:=G8 _ fun p _=>Eu p
theorem Ly{env:VS.Env}{S S':Store}{o:Av}{i:Nat}{l:List D}{d:D}{a:Av}(ho:o env S=some (.ref i,S))(hi:S[i]?=some (some l))(ha:a env S=some (d,S))(hl:l.length<1000000)(hS:S.set i (some (l++[d]))=S'):Hh (Gn Ez o (Aa a Ae)) env S=some (.nx,env,S'):=by
 rw[Lk,Vk (d:=.ref i) (cs:=l) (ds:=[d]) (r:=.non) (S1:=S) (S2:=S) (S3:=S') ho (by rw[VS.listOf,hi];rfl) (by rw[Aq,ha];rfl) (by
  unfold Ez
  simp only[hi]
  rw[if_pos hl,hS])]
 rfl
theorem add_lists{a b:Av}{env:VS.Env}{S:Store}{xs ys:List D}(ha:a env S=some (.lst true xs,S))(hb:b env S=some (.lst true ys,S))(hl:xs.length+ys.length<=1000000):eOp Bk a b env S=some (.lst true (xs++ys),S):=by
 rw[Bb,ha,U0b,hb,U0b]
 show(U2q _ (if xs.length+ys.length<=1000000 then some (D.lst true (xs++ys)) else none))=_
 rw[if_pos hl];rfl
end W28
end
section
namespace W28
open PySem L2 VS
abbrev T3:=Int×Int×Int
def Ab(p:T3):D:=.tup [.int p.1,.int p.2.1,.int p.2.2]
theorem RD(p:T3):Bj (Ab p)=true:=by simp[Ab,Bj,Cu]
theorem Fv(k:List T3):Cu (k.map Ab)=true:=G8 _ fun p _=>RD p
def pT3(p:T3):PyData:=.tuple [.int p.1,.int p.2.1,.int p.2.2]
theorem X5(p:T3):toP (Ab p)=some (pT3 p):=by simp[Ab,toP,HD,pT3]
theorem gD(S:Store)(p:T3):CT S (Ab p)=some (pT3 p):=by rw[CT,J4 0 S (G7 (RD p))];exact X5 p
theorem Oe(S:Store)(m:Bool)(k:List T3):CT S (.lst m (k.map Ab))=some (.list (k.map pT3)):=by
 have:HD (k.map Ab)=some (k.map pT3):=by
  induction k with
  |nil=>rfl
  |cons p r ih=>rw[U0n,HD,X5,ih];rfl
 rw[CT,den,Dk 0 S (Bp (Fv k))]
 show toP (.lst m (k.map Ab))=_
 rw[toP,this];rfl
structure Hs(hs:List T3):Prop where
 few:hs.length<=40
 all:∀t∈hs,t.1<t.2.1/\1<=t.2.2/\t.2.2<=1000000000/\-1000000000<=t.1/\t.2.1<=1000000000
theorem Xk(t:T3):Ea [Ab t,.int 3]=some (.bl true):=by
 have c:Jf [some (Ab t),some (.int 3)] []=some ([D.bl true,.bl true,.bl true],[]):=by
  have e:Dl (Ac 0) [some (Ab t),some (.int 3)] []=some (([t.1,t.2.1,t.2.2].map D.int,[]),[]):=rfl
  unfold Jf Fb
  rw[e]
  simp only[U0b]
  rw[Oo (by simp) D.int (fun _=>.bl true) [t.1,t.2.1,t.2.2] (by simp)]
  .rfl
  .intro i _
   exact⟨_,Es _ _ _,Ck (ds:=[.int i]) (es:=[.int i]) rfl (by simp[BJ,Bf]) (by simp[CW,age]) (O2 i)⟩
 unfold Ea
 rw[Dy]
 simp only[U0f,U1b,U0n,U1m,U10,U11,U1d,U1j,if_true]
 unfold O8
 have i1:eCB Hl (Aa (Ac 0) (Aa (eC (.ty "tuple")) Ae)) [some (Ab t),some (.int 3)] []=some (.bl true,[]):=by
  have a:Aa (Ac 0) (Aa (eC (.ty "tuple")) Ae) [some (Ab t),some (.int 3)] []=some ([Ab t,.ty "tuple"],[]):=rfl
  rw[FP,a,U0b]
  simp only[X3,gD];rfl
 have i2:eOp (oEq false) (eCB NK (Aa (Ac 0) Ae)) (Ac 1) [some (Ab t),some (.int 3)] []=some (.bl true,[]):=rfl
 rw[Cg,Jz,i1]
 simp[Jz,i2,Di,FP,Aq,Dj,c]
 rfl
theorem Zh{t:T3}(h1:t.1<t.2.1)(h2:1<=t.2.2):G5 [Ab t]=some (.bl true):=by
 have c:Ax Ea (Aa (Ac 0) (Aa (eC (.int 3)) Ae)) [some (Ab t)] []=some (.bl true,[]) :=
  Ck (ds:=[Ab t,.int 3]) (es:=[Ab t,.int 3]) rfl (by simp[BJ,Bf,Ab]) (by simp[CW,age,Ab]) (Xk t)
 have a1:eOp oLt (eOp oIx (Ac 0) (eC (.int 0))) (eOp oIx (Ac 0) (eC (.int 1))) [some (Ab t)] []=some (.bl (decide (t.1<t.2.1)),[]):=rfl
 have a2:eOp oGe (eOp oIx (Ac 0) (eC (.int 2))) (eC (.int 1)) [some (Ab t)] []=some (.bl (decide (1<=t.2.2)),[]):=rfl
 rw[decide_eq_true h1] at a1
 rw[decide_eq_true h2] at a2
 unfold G5
 rw[Dy]
 simp only[U0f,U1b,U0n,U1m,U10,U11,U1d,U1j,if_true]
 unfold Qi
 simp[Cg,Jz,c,a1,a2,den]
theorem Hx(m:Bool)(hs:List T3):BJ [.lst m (hs.map Ab)]=true:=by rw[BJ,Bf,Bp (Fv hs),BJ];rfl
theorem JR(m:Bool)(hs:List T3):CW [.lst m (hs.map Ab)]=[.lst false (hs.map Ab)]:=by rw[CW,age,Ew (Fv hs),CW]
theorem Ws{hs:List T3}(h:Hs hs):Eb [.lst false (hs.map Ab)]=some (.bl true):=by
 have few:=h.few
 have c:Jg [some (.lst false (hs.map Ab))] []=some (hs.map fun _=>D.bl true,[]):=by
  have e:Dl (Ac 0) [some (.lst false (hs.map Ab))] []=some ((hs.map Ab,[]),[]):=rfl
  unfold Jg Fb
  rw[e]
  simp only[U0b]
  rw[Oo (by simp) Ab (fun _=>.bl true) hs (by omega)]
  intro t ht
  have:=h.all t ht
  exact⟨_,Es _ _ _,Ck (ds:=[Ab t]) (es:=[Ab t]) rfl (by simp[BJ,Bf,Ab]) (by simp[CW,age,Ab]) (Zh this.1 this.2.1)⟩
 have b:K5 [] [.lst true (hs.map fun _=>D.bl true)]=some (.bl true):=by
  show(K5.boolsOf (hs.map fun _=>D.bl true)).map _=_
  rw[Wz]
  simp
 unfold Eb
 rw[Dy]
 simp only[U0f,U1b,U0n,U1m,U10,U11,U1d,U1j,if_true]
 unfold O9
 have i1:eCB Hl (Aa (Ac 0) (Aa (eC (.ty "list")) Ae)) [some (.lst false (hs.map Ab))] []=some (.bl true,[]):=by
  show U2q _ (Hl [] [.lst false (hs.map Ab),.ty "list"])=_
  rw[YX,Oe];rfl
 rw[Cg,Jz,i1]
 simp[Di,FP,Aq,Dj,c,b,den]
theorem Vj{hs:List T3}(h:Hs hs):CG [.lst false (hs.map Ab)]=some .non:=by
 have c:Ax Eb (Aa (Ac 0) Ae) [some (.lst false (hs.map Ab))] []=some (.bl true,[]) :=
  Ck (ds:=[.lst false (hs.map Ab)]) (es:=[.lst false (hs.map Ab)]) rfl (Hx ..) (JR ..) (Ws h)
 unfold CG
 rw[Dy]
 simp only[U0f,U1b,U0n,U1m,U10,U11,U1d,U1j,if_true]
 unfold Ms
 rw[Gg (by rw[Ob,DX,c];rfl)]
 rfl
def inH(t:T3)(x:Int):Bool:=decide (t.1<=x)&&decide (x<t.2.1)
def DG(hs:List T3)(x:Int):List Int:=(hs.filter fun t=>inH t x).map fun t=>t.2.2
def hgt(hs:List T3)(x:Int):Int:=(Hj (DG hs x)).getD 0
theorem aZ{hs:List T3}(h:Hs hs)(x:Int):Ja [some (.lst false (hs.map Ab)),some (.int x)] []=some ((DG hs x).map .int,[]):=by
 have few:=h.few
 have e:Dl (Ac 0) [some (.lst false (hs.map Ab)),some (.int x)] []=some ((hs.map Ab,[]),[]):=rfl
 have ec:N8 3 [1] [some (.lst false (hs.map Ab)),some (.int x)]=[none,none,none,some (.int x)]:=rfl
 unfold Ja Fb
 rw[e,ec]
 simp only[U0b]
 rw[Lx (by simp) Ab (fun t=>inH t x) (fun t=>.int t.2.2) hs [] (by simp;omega)]
 .unfold DG
  rw[U1y,U0s];rfl
 .intro t ht
  refine⟨[some (.int t.1),some (.int t.2.1),some (.int t.2.2),some (.int x)],by simp[Es,Ng,KD,JV,-U0s,-U0y,Ab],?_,fun _=>rfl⟩
  by_cases g:t.1<=x<;>simp[DY,YJ,DX,oI,Gh,oLt,oLe,-U0s,-U0y,inH,g]
theorem VL{hs:List T3}(h:Hs hs)(x:Int):Cq [.lst false (hs.map Ab),.int x]=some (.int (hgt hs x)):=by
 have c:=aZ h x
 unfold Cq
 rw[Dy]
 simp only[U0f,U1b,U0n,U1m,U10,U11,U1d,U1j,if_true]
 unfold O4
 rw[Cg,Zm,Di,c]
 show(((intsOf ((DG hs x).map D.int)).map _).bind _).bind _=_
 rw[Jl]
 simp[den,hgt]
theorem Ju(m:Bool)(hs:List T3)(x:Int):BJ [.lst m (hs.map Ab),.int x]=true:=by simp[BJ,Bf,Bp (Fv hs)]
theorem Lh(m:Bool)(hs:List T3)(x:Int):CW [.lst m (hs.map Ab),.int x]=[.lst false (hs.map Ab),.int x]:=by simp[CW,age,Ew (Fv hs)]
theorem YG{hs:List T3}(h:Hs hs)(x:Int):Dg [.lst false (hs.map Ab),.int x]=some (.int (hgt hs x)):=by
 have c1:Ax CG (Aa (Ac 0) Ae) [some (.lst false (hs.map Ab)),some (.int x)] []=some (.non,[]) :=
  Ck (ds:=[.lst false (hs.map Ab)]) (es:=[.lst false (hs.map Ab)]) rfl (Hx ..) (JR ..) (Vj h)
 have c2:Ax Dn (Aa (Ac 1) Ae) [some (.lst false (hs.map Ab)),some (.int x)] []=some (.bl true,[]) :=
  Ck (ds:=[.int x]) (es:=[.int x]) rfl (by simp[BJ,Bf]) (by simp[CW,age]) (O2 x)
 have c3:Ax Cq (Aa (Ac 0) (Aa (Ac 1) Ae)) [some (.lst false (hs.map Ab)),some (.int x)] []=some (.int (hgt hs x),[]) :=
  Ck (ds:=[.lst false (hs.map Ab),.int x]) (es:=[.lst false (hs.map Ab),.int x]) rfl (Ju ..) (Lh ..) (VL h x)
 have s1:(Hh (Ax CG (Aa (Ac 0) Ae))) [some (.lst false (hs.map Ab)),some (.int x)] []=some (.nx,[some (.lst false (hs.map Ab)),some (.int x)],[]):=by rw[Lk,c1];rfl
 unfold Dg
 rw[Dy]
 simp only[U0f,U1b,U0n,U1m,U10,U11,U1d,U1j,if_true]
 unfold PN
 rw[Ba s1,G4,Gg (by rw[Ob,DX,c2];rfl)]
 simp[Jt,Cg,c3,den]
def Bw(a:List St2×Int)(p:St2):List St2×Int:=(if p.2≠a.2 then a.1++[p] else a.1,p.2)
theorem Nm:∀(l:List St2)(a:List St2×Int),(l.foldl Bw a).1.length<=a.1.length+l.length
 |[],a=>by simp
 |p::l,a=>by
  have:=Nm l (Bw a p)
  have:(Bw a p).1.length<=a.1.length+1:=by
   unfold Bw
   dsimp only
   split
   .simp
   .omega
  rw[U22,U0f]
  omega
theorem lD(p:St2)(acc:List St2)(hh:Int)(hl:acc.length<1000)(e0:Option D):GP [e0,some (.ref 0),some (.int hh),some (.int p.1),some (.int p.2)] [some (acc.map Ak)]=some (.nx,[e0,some (.ref 0),some (.int (Bw (acc,hh) p).2),some (.int p.1),some (.int p.2)],[some ((Bw (acc,hh) p).1.map Ak)]):=by
 have t1:Bm (eOp (oEq true) (Ac 4) (Ac 2)) [e0,some (.ref 0),some (.int hh),some (.int p.1),some (.int p.2)] [some (acc.map Ak)]=some (!decide (p.2=hh),[some (acc.map Ak)]):=by
  show some ((true ^^ decide (p.2=hh)),_)=_
  rw[U61]
 unfold GP Bw
 by_cases z:p.2=hh
 .rw[decide_eq_true z] at t1
  rw[G4,Gg t1,if_neg (by simp[z])]
  rfl
 .rw[decide_eq_false z] at t1
  rw[G4,K9 t1,if_pos z,Ly (i:=0) (l:=acc.map Ak) (d:=Ak p) rfl rfl rfl (by rw[U0g];omega) rfl,U18]
  rfl
theorem Wy(l:List St2)(hl:l.length<=200):DQ [.lst false (l.map Ak)]=some (.lst true ((l.foldl Bw ([],0)).1.map Ak)):=by
 have s1:(Bh 1 (JX Ae)) [some (.lst false (l.map Ak)),none,none,none,none] []=some (.nx,[some (.lst false (l.map Ak)),some (.ref 0),none,none,none],[some []]):=rfl
 have s2:(Bh 2 (eC (.int 0))) [some (.lst false (l.map Ak)),some (.ref 0),none,none,none] [some []]=some (.nx,[some (.lst false (l.map Ak)),some (.ref 0),some (.int 0),none,none],[some []]):=rfl
 have e:Dl (Ac 0) [some (.lst false (l.map Ak)),some (.ref 0),some (.int 0),none,none] [some []]=some ((l.map Ak,[]),[some []]):=rfl
 obtain⟨env',S',e2,z3,z4,he,hS⟩:=GF (w:=[]) (g:=Pat.sem (.tp [(.nm 3),(.nm 4)])) (b:=GP) (ds:=l.map Ak) (env:=[some (.lst false (l.map Ak)),some (.ref 0),some (.int 0),none,none]) (S:=[some []])
  (fun i env S=>∃z3 z4:Option D,env=[some (.lst false (l.map Ak)),some (.ref 0),some (.int ((l.take i).foldl Bw ([],0)).2),z3,z4]/\S=[some (((l.take i).foldl Bw ([],0)).1.map Ak)])
  ⟨none,none,rfl,rfl⟩ (fun i env S _=>by simp) (fun i d env S hd q=>by
   obtain⟨z3,z4,he,hS⟩:=q
   subst he hS
   rw[U0v] at hd
   obtain⟨p,hp,rfl⟩:=U2e.mp hd
   have few:=Nm (l.take i) ([],0)
   rw[U1i] at few
   have b1:=lD p ((l.take i).foldl Bw ([],0)).1 ((l.take i).foldl Bw ([],0)).2 (by simp at few;omega) (some (.lst false (l.map Ak)))
   refine⟨[some (.lst false (l.map Ak)),some (.ref 0),some (.int ((l.take i).foldl Bw ([],0)).2),some (.int p.1),some (.int p.2)],by simp[Es,Ng,KD,JV,-U0s,-U0y,Ak],_,_,b1,some (.int p.1),some (.int p.2),?_,?_⟩
   .rw[U51,hp,U5,U3g];rfl
   .rw[U51,hp,U5,U3g];rfl)
 subst he hS
 have hlm:(l.map Ak).length=l.length:=by simp
 rw[hlm,U5p] at e2
 have l1:Hu [some (.lst false (l.map Ak)),some (.ref 0),some (.int 0),none,none] [some []]=some (.nx,[some (.lst false (l.map Ak)),some (.ref 0),some (.int (l.foldl Bw ([],0)).2),z3,z4],[some ((l.foldl Bw ([],0)).1.map Ak)]):=by
  unfold Hu
  rw[Gq,e]
  exact e2
 unfold DQ
 rw[Dy]
 simp only[U0f,U1b,U0n,U1m,U10,U11,U02,U1d,U15,U1y,if_true]
 unfold Ks
 rw[Ba s1,Ba s2,Ba l1]
 generalize (l.foldl Bw ([],0)).1=k
 show den 0 [some (k.map Ak)] (.ref 0)=_
 rw[den,if_neg (by omega)]
 show(if BJ (k.map Ak)=true then _ else _)=_
 rw[if_pos (Bp (Jx k))]
end W28
end
section
namespace W28
open PySem L2 VS
theorem QS{hs:List T3}(hl:hs.length<=1000){m:Bool}{r:VS.Env}{S:Store}(h:r[0]?=some (some (.lst m (hs.map Ab))))(k:Int)(F:T3->Int)(hF:∀t,atI [D.int t.1,.int t.2.1,.int t.2.2] k=some (.int (F t))):Fb 1 [] (Dl (Ac 0)) (Pat.sem (.nm 0)) Ir (eOp oIx (Ac 0) (eC (.int k))) r S=some ((hs.map F).map .int,S):=by
 have v:Ac 0 r S=some (.lst m (hs.map Ab),S):=by rw[DY,h];rfl
 have e:Dl (Ac 0) r S=some ((hs.map Ab,[]),S):=by rw[Om,v];rfl
 unfold Fb
 rw[e]
 simp only[U0b]
 rw[Oo (by simp) Ab (fun t=>.int (F t)) hs (by omega),U0s]
 .rfl
 .intro t ht
  refine⟨_,Es _ _ _,?_⟩
  show U2q _ (atI [D.int t.1,.int t.2.1,.int t.2.2] k)=_
  rw[hF];rfl
def ends(hs:List T3):List Int:=Gm (hs.map (·.1)++hs.map (·.2.1))
theorem Vs{hs:List T3}(hl:hs.length<=40){a b:Bd}{r:VS.Env}{S:Store}(ha:a r S=some ((hs.map (·.1)).map .int,S))(hb:b r S=some ((hs.map (·.2.1)).map .int,S)):Gk (eOp Bk (BL a) (BL b)) r S=some (.lst true ((ends hs).map .int),S):=by
 have q:=(SetP.KH (hs.map (·.1)++hs.map (·.2.1))).2.1
 have hlen:(hs.map (·.1)++hs.map (·.2.1)).length<=80:=by simp;omega
 have c:eOp Bk (BL a) (BL b) r S=some (.lst true ((hs.map (·.1)++hs.map (·.2.1)).map .int),S):=by
  rw[add_lists (xs:=(hs.map (·.1)).map .int) (ys:=(hs.map (·.2.1)).map .int) (by rw[Di,ha];rfl) (by rw[Di,hb];rfl) (by simp;omega),←U18]
 rw[Uq,c]
 show(intsOf ((hs.map (·.1)++hs.map (·.2.1)).map D.int)).bind _=_
 rw[Jl,U0b,if_pos ⟨by omega,by omega⟩]
 rfl
theorem Pz{hs:List T3}(hl:hs.length<=40):(ends hs).length<=80:=by
 have q:=(SetP.KH (hs.map (·.1)++hs.map (·.2.1))).2.1
 unfold ends Gm
 rw[(U4z _ _).length_eq]
 simp at q
 omega
def sky(hs:List T3):List St2:=(((ends hs).map fun x=>(x,hgt hs x)).foldl Bw ([],0)).1
theorem aq{hs:List T3}(hl:hs.length<=40):(sky hs).length<=80:=by
 have:=Nm ((ends hs).map fun x=>(x,hgt hs x)) ([],0)
 have:=Pz hl
 unfold sky
 simp at *
 omega
theorem Sy{hs:List T3}(h:Hs hs):Bg [.lst false (hs.map Ab)]=some (.lst true ((sky hs).map Ak)):=by
 have few:=h.few
 have el:=Pz few
 have c1:Ax CG (Aa (Ac 0) Ae) [some (.lst false (hs.map Ab)),none] []=some (.non,[]) :=
  Ck (ds:=[.lst false (hs.map Ab)]) (es:=[.lst false (hs.map Ab)]) rfl (Hx ..) (JR ..) (Vj h)
 have s1:(Hh (Ax CG (Aa (Ac 0) Ae))) [some (.lst false (hs.map Ab)),none] []=some (.nx,[some (.lst false (hs.map Ab)),none],[]):=by rw[Lk,c1];rfl
 have s2:(Bh 1 (Gk (eOp Bk (BL Jc) (BL Jb)))) [some (.lst false (hs.map Ab)),none] []=some (.nx,[some (.lst false (hs.map Ab)),some (.lst true ((ends hs).map .int))],[]):=by
  have q1:Jc [some (.lst false (hs.map Ab)),none] []=some ((hs.map (·.1)).map .int,[]):=QS (m:=false) (by omega) rfl 0 (·.1) fun _=>rfl
  have q2:Jb [some (.lst false (hs.map Ab)),none] []=some ((hs.map (·.2.1)).map .int,[]):=QS (m:=false) (by omega) rfl 1 (·.2.1) fun _=>rfl
  rw[Ce,Vs few q1 q2];rfl
 have c3:HW [some (.lst false (hs.map Ab)),some (.lst true ((ends hs).map .int))] []=some (((ends hs).map fun x=>(x,hgt hs x)).map Ak,[]):=by
  have e:Dl (Ac 1) [some (.lst false (hs.map Ab)),some (.lst true ((ends hs).map .int))] []=some (((ends hs).map .int,[]),[]):=rfl
  have ec:N8 1 [0] [some (.lst false (hs.map Ab)),some (.lst true ((ends hs).map .int))]=[none,some (.lst false (hs.map Ab))]:=rfl
  unfold HW Fb
  rw[e,ec]
  simp only[U0b]
  rw[Oo (by simp) D.int (fun x=>Ak (x,hgt hs x)) (ends hs) (by omega),U0s]
  .rfl
  .intro x hx
   refine⟨[some (.int x),some (.lst false (hs.map Ab))],by simp[Es,-U0s,-U0y],?_⟩
   have c:Ax Cq (Aa (Ac 1) (Aa (Ac 0) Ae)) [some (.int x),some (.lst false (hs.map Ab))] []=some (.int (hgt hs x),[]) :=
    Ck (ds:=[.lst false (hs.map Ab),.int x]) (es:=[.lst false (hs.map Ab),.int x]) rfl (Ju ..) (Lh ..) (VL h x)
   have v0:Ac 0 [some (.int x),some (.lst false (hs.map Ab))] []=some (.int x,[]):=rfl
   rw[Lw,Aq,v0,U0b,Aq,c];rfl
 have hch:=Wy ((ends hs).map fun x=>(x,hgt hs x)) (by simp;omega)
 have c4:Ax DQ (Aa (BL HW) Ae) [some (.lst false (hs.map Ab)),some (.lst true ((ends hs).map .int))] []=some (.lst true ((sky hs).map Ak),[]) :=
  Ck (ds:=[.lst true (((ends hs).map fun x=>(x,hgt hs x)).map Ak)]) (es:=[.lst false (((ends hs).map fun x=>(x,hgt hs x)).map Ak)]) (by rw[Aq,Di,c3];rfl) (by rw[BJ,Bf,Bp (Jx _),BJ];rfl) (by rw[CW,age,Ew (Jx _),CW]) hch
 unfold Bg
 rw[Dy]
 simp only[U0f,U1b,U0n,U1m,U10,U11,U02,U1d,U15,U1y,if_true]
 unfold O5
 rw[Ba s1,Ba s2,Cg,c4]
 show den 0 _ (.lst true _)=_
 rw[den,Dk 0 _ (Bp (Jx _))];rfl
theorem Xb{hs:List T3}(h:Hs hs){x F:Int}(h1:F=0∨F∈DG hs x)(h2:0<=F)(h3:∀n∈DG hs x,n<=F):F=hgt hs x:=by
 unfold hgt
 cases e:Hj (DG hs x) with
 |none =>
  have:DG hs x=[]:=by
   cases q:DG hs x with
   |nil=>rfl
   |cons a r=>rw[q] at e;simp[Hj] at e
  rw[this] at h1
  simpa using h1
 |some m =>
  obtain⟨g1,g2⟩:=Ln e
  have:1<=m:=by
   obtain⟨t,ht,rfl⟩:=U3f.mp g1
   exact(h.all t (U3v.mp ht).1).2.1
  have q1:=h3 m g1
  show F=m
  rcases h1 with z|z
  .omega
  .have:=g2 F z;omega
theorem mJ{l:List Int}:∃m,Hj (0::l)=some m/\(m=0∨m∈l)/\0<=m/\∀n∈l,n<=m:=by
 cases e:Hj (0::l) with
 |none=>simp[Hj] at e
 |some m =>
  obtain⟨g1,g2⟩:=Ln e
  exact⟨m,rfl,U0u.mp g1,g2 0 U04,fun n hn=>g2 n (U0o _ hn)⟩
theorem Mi{hs:List T3}(h:Hs hs)(x:Int):BP [.lst false (hs.map Ab),.int x]=some (.int (hgt hs x)):=by
 have few:=h.few
 have c:Hf [some (.lst false (hs.map Ab)),some (.int x)] []=some ((DG hs x).map .int,[]):=by
  have e:Dl (Ac 0) [some (.lst false (hs.map Ab)),some (.int x)] []=some ((hs.map Ab,[]),[]):=rfl
  have ec:N8 3 [1] [some (.lst false (hs.map Ab)),some (.int x)]=[none,none,none,some (.int x)]:=rfl
  unfold Hf Fb
  rw[e,ec]
  simp only[U0b]
  rw[Lx (by simp) Ab (fun t=>inH t x) (fun t=>.int t.2.2) hs [] (by simp;omega)]
  .unfold DG
   rw[U1y,U0s];rfl
  .intro t ht
   refine⟨[some (.int t.1),some (.int t.2.1),some (.int t.2.2),some (.int x)],by simp[Es,Ng,KD,JV,-U0s,-U0y,Ab],?_,fun _=>rfl⟩
   by_cases g:t.1<=x<;>simp[DY,Bb,DX,Lj,oI,Gh,oLt,oLe,-U0s,-U0y,inH,g]
 have tl:(DG hs x).length<=40:=by
  unfold DG
  rw[U0g]
  exact U08 (List.length_filter_le ..) few
 obtain⟨m,hm,m1,m2,m3⟩:=mJ (l:=DG hs x)
 have:=Xb h m1 m2 m3
 subst this
 have a:eOp Bk (BL (Aa (eC (.int 0)) Ae)) (BL Hf) [some (.lst false (hs.map Ab)),some (.int x)] []=some (.lst true ((0::DG hs x).map .int),[]):=by
  rw[add_lists (xs:=[.int 0]) (ys:=(DG hs x).map .int) rfl (by rw[Di,c];rfl) (by simp;omega)];rfl
 unfold BP
 rw[Dy]
 simp only[U0f,U1b,U0n,U1m,U10,U11,U1d,U1j,if_true]
 unfold O7
 have b:QF [] [.lst true ((0::DG hs x).map .int)]=some (.int (hgt hs x)):=by
  unfold QF
  simp only[VS.listOf,U0b,Jl,hm,U5w]
 rw[Cg,FP,Aq,a]
 simp only[U0b,Dj,b,U5w]
 simp[den]
def Fo(x:Int)(hh:Int)(t:T3):Int:=if inH t x=true/\t.2.2>hh then t.2.2 else hh
theorem aG(x:Int):∀(l:List T3)(hh:Int),hh<=l.foldl (Fo x) hh/\(l.foldl (Fo x) hh=hh∨l.foldl (Fo x) hh∈DG l x)/\∀n∈DG l x,n<=l.foldl (Fo x) hh
 |[],hh=>⟨U4j _,.inl rfl,fun n hn=>by simp[DG] at hn⟩
 |t::l,hh=>by
  obtain⟨a1,a2,a3⟩:=aG x l (Fo x hh t)
  have s1:hh<=Fo x hh t:=by unfold Fo;split<;>omega
  rw[U22]
  have tp:DG (t::l) x=if inH t x=true then t.2.2::DG l x else DG l x:=by
   unfold DG
   rw[List.filter_cons]
   split<;>rfl
  rw[tp]
  by_cases z:inH t x=true
  .rw[if_pos z]
   have s2:t.2.2<=Fo x hh t:=by unfold Fo;split<;>(try simp[z] at *)<;>omega
   refine⟨by omega,?_,fun n hn=>?_⟩
   .rcases a2 with w|w
    .rw[w]
     unfold Fo
     split
     .exact .inr U04
     .exact .inl rfl
    .exact .inr (U0o _ w)
   .rcases U0u.mp hn with w|w
    .rw[w];omega
    .exact a3 n w
  .rw[if_neg z]
   have s2:Fo x hh t=hh:=by unfold Fo;rw[if_neg (fun w=>z w.1)]
   rw[s2] at a1 a2 a3 ⊢
   exact⟨a1,a2,a3⟩
theorem Zj{hs:List T3}(h:Hs hs)(x:Int):hs.foldl (Fo x) 0=hgt hs x:=by
 obtain⟨a1,a2,a3⟩:=aG x hs 0
 exact Xb h a2 a1 a3
theorem cP(t:T3)(x hh:Int)(e0 e1 e2:Option D)(S:Store):JF [e0,e1,e2,some (.int x),some (.int hh),some (Ab t)] S=some (.nx,[e0,e1,e2,some (.int x),some (.int (Fo x hh t)),some (Ab t)],S):=by
 have t1:Bm (eOp oLe (eOp oIx (Ac 5) (eC (.int 0))) (Ac 3)) [e0,e1,e2,some (.int x),some (.int hh),some (Ab t)] S=some (decide (t.1<=x),S):=rfl
 have t2:Bm (eOp oLt (Ac 3) (eOp oIx (Ac 5) (eC (.int 1)))) [e0,e1,e2,some (.int x),some (.int hh),some (Ab t)] S=some (decide (x<t.2.1),S):=rfl
 have t3:Bm (eOp oGt (eOp oIx (Ac 5) (eC (.int 2))) (Ac 4)) [e0,e1,e2,some (.int x),some (.int hh),some (Ab t)] S=some (decide (hh<t.2.2),S):=rfl
 unfold JF Fo inH
 have ts:K1 (Bm (eOp oLe (eOp oIx (Ac 5) (eC (.int 0))) (Ac 3))) (K1 (Bm (eOp oLt (Ac 3) (eOp oIx (Ac 5) (eC (.int 1))))) (Bm (eOp oGt (eOp oIx (Ac 5) (eC (.int 2))) (Ac 4)))) [e0,e1,e2,some (.int x),some (.int hh),some (Ab t)] S=some (decide (t.1<=x)&&decide (x<t.2.1)&&decide (hh<t.2.2),S):=by
  rw[Lj,t1]
  cases decide (t.1<=x) with
  |false=>rfl
  |true =>
   simp only[U0b,if_true,U6z]
   rw[Lj,t2]
   cases decide (x<t.2.1) with
   |false=>rfl
   |true =>
    simp only[U0b,if_true,U6z]
    exact t3
 by_cases g:(decide (t.1<=x)&&decide (x<t.2.1))=true/\t.2.2>hh
 .rw[if_pos g]
  rw[g.1,decide_eq_true (show hh<t.2.2 from g.2)] at ts
  rw[K9 ts];rfl
 .rw[if_neg g]
  have:(decide (t.1<=x)&&decide (x<t.2.1)&&decide (hh<t.2.2))=false:=by
   rw[Bool.eq_false_iff]
   intro w
   rw[U0m,decide_eq_true_eq] at w
   exact g w
  rw[this] at ts
  rw[Gg ts];rfl
theorem cM{hs:List T3}(h:Hs hs)(x:Int)(e1 e2 z5:Option D)(S:Store):∃y5:Option D,Kz [some (.lst false (hs.map Ab)),e1,e2,some (.int x),some (.int 0),z5] S=some (.nx,[some (.lst false (hs.map Ab)),e1,e2,some (.int x),some (.int (hgt hs x)),y5],S):=by
 have e:Dl (Ac 0) [some (.lst false (hs.map Ab)),e1,e2,some (.int x),some (.int 0),z5] S=some ((hs.map Ab,[]),S):=rfl
 obtain⟨env',S',e3,y5,he,hS⟩:=GF (w:=[]) (g:=Pat.sem (.nm 5)) (b:=JF) (ds:=hs.map Ab) (env:=[some (.lst false (hs.map Ab)),e1,e2,some (.int x),some (.int 0),z5]) (S:=S)
  (fun i env S'=>∃y5:Option D,env=[some (.lst false (hs.map Ab)),e1,e2,some (.int x),some (.int ((hs.take i).foldl (Fo x) 0)),y5]/\S'=S)
  ⟨z5,rfl,rfl⟩ (fun i env S _=>by simp) (fun i d env S' hd q=>by
   obtain⟨y5,he,hS⟩:=q
   subst he hS
   rw[U0v] at hd
   obtain⟨t,ht,rfl⟩:=U2e.mp hd
   refine⟨_,Es _ _ _,_,_,cP t x ((hs.take i).foldl (Fo x) 0) _ _ _ _,some (Ab t),?_,rfl⟩
   rw[U51,ht,U5,U3g];rfl)
 subst he hS
 have hlm:(hs.map Ab).length=hs.length:=by simp
 rw[hlm,U5p,Zj h] at e3
 refine⟨y5,?_⟩
 unfold Kz
 rw[Gq,e]
 exact e3
def prev(acc:List St2):Int:=(acc.getLast?.map (·.2)).getD 0
theorem dG{acc:List St2}{hh:Int}(p:St2)(h:prev acc=hh):prev (Bw (acc,hh) p).1=(Bw (acc,hh) p).2:=by
 unfold Bw
 dsimp only
 split
 .unfold prev;simp
 .rename_i z
  have:p.2=hh:=by
   by_cases w:p.2=hh
   .exact w
   .exact absurd w z
  rw[this];exact h
theorem Rf:∀(l:List St2)(a:List St2×Int),prev a.1=a.2->prev (l.foldl Bw a).1=(l.foldl Bw a).2
 |[],a,h=>h
 |p::l,a,h=>by rw[U22];exact Rf l _ (dG p h)
theorem cO{hs:List T3}(h:Hs hs)(x:Int)(acc:List St2)(hl:acc.length<1000)(e1 z4 z5:Option D):∃y5:Option D,JD [some (.lst false (hs.map Ab)),e1,some (.ref 0),some (.int x),z4,z5] [some (acc.map Ak)]=some (.nx,[some (.lst false (hs.map Ab)),e1,some (.ref 0),some (.int x),some (.int (hgt hs x)),y5],[some ((Bw (acc,prev acc) (x,hgt hs x)).1.map Ak)]):=by
 obtain⟨y5,l1⟩:=cM h x e1 (some (.ref 0)) z5 [some (acc.map Ak)]
 have s1:(Bh 4 (eC (.int 0))) [some (.lst false (hs.map Ab)),e1,some (.ref 0),some (.int x),z4,z5] [some (acc.map Ak)]=some (.nx,[some (.lst false (hs.map Ab)),e1,some (.ref 0),some (.int x),some (.int 0),z5],[some (acc.map Ak)]):=rfl
 generalize hgt hs x=hx at *
 have a1:eOp Bk (BL (Aa (BW (Aa (eC (.int 0)) (Aa (eC (.int 0)) Ae))) Ae)) (Ac 2) [some (.lst false (hs.map Ab)),e1,some (.ref 0),some (.int x),some (.int hx),y5] [some (acc.map Ak)]=some (.lst true (Ak (0,0)::acc.map Ak),[some (acc.map Ak)]):=by
  show U2q _ (if 1+(acc.map Ak).length<=1000000 then some (D.lst true ([Ak (0,0)]++acc.map Ak)) else none)=_
  rw[if_pos (by rw[U0g];omega)];rfl
 have a2:eOp oIx (eOp Bk (BL (Aa (BW (Aa (eC (.int 0)) (Aa (eC (.int 0)) Ae))) Ae)) (Ac 2)) (eUn Ep (eC (.int 1))) [some (.lst false (hs.map Ab)),e1,some (.ref 0),some (.int x),some (.int hx),y5] [some (acc.map Ak)]=some (Ak ((acc.getLast?).getD (0,0)),[some (acc.map Ak)]):=by
  have n1:eUn Ep (eC (.int 1)) [some (.lst false (hs.map Ab)),e1,some (.ref 0),some (.int x),some (.int hx),y5] [some (acc.map Ak)]=some (.int (-1),[some (acc.map Ak)]):=rfl
  rw[Bb,a1,U0b,n1,U0b]
  show U2q _ (atI (Ak (0,0)::acc.map Ak) (-1))=_
  rcases List.eq_nil_or_concat acc with z|⟨l,q,z⟩
  .rw[z];rfl
  .rw[List.concat_eq_append] at z
   subst z
   rw[U18,←U15]
   show U2q _ (atI (Ak (0,0)::l.map Ak++[Ak q]) (-1))=_
   rw[Zr];simp
 have a3:eOp oIx (eOp oIx (eOp Bk (BL (Aa (BW (Aa (eC (.int 0)) (Aa (eC (.int 0)) Ae))) Ae)) (Ac 2)) (eUn Ep (eC (.int 1)))) (eC (.int 1)) [some (.lst false (hs.map Ab)),e1,some (.ref 0),some (.int x),some (.int hx),y5] [some (acc.map Ak)]=some (.int (prev acc),[some (acc.map Ak)]):=by
  rw[Bb,a2]
  have:prev acc=((acc.getLast?).getD (0,0)).2:=by unfold prev;cases acc.getLast?<;>rfl
  rw[this];rfl
 have t1:Bm (eOp (oEq true) (Ac 4) (eOp oIx (eOp oIx (eOp Bk (BL (Aa (BW (Aa (eC (.int 0)) (Aa (eC (.int 0)) Ae))) Ae)) (Ac 2)) (eUn Ep (eC (.int 1)))) (eC (.int 1)))) [some (.lst false (hs.map Ab)),e1,some (.ref 0),some (.int x),some (.int hx),y5] [some (acc.map Ak)]=some (!decide (hx=prev acc),[some (acc.map Ak)]):=by
  have v4:Ac 4 [some (.lst false (hs.map Ab)),e1,some (.ref 0),some (.int x),some (.int hx),y5] [some (acc.map Ak)]=some (.int hx,[some (acc.map Ak)]):=rfl
  rw[DX,Bb,v4,U0b,a3,U0b]
  show some ((true ^^ decide (hx=prev acc)),_)=_
  rw[U61]
 refine⟨y5,?_⟩
 unfold JD Bw
 rw[Ba s1,Ba l1]
 by_cases z:hx=prev acc
 .rw[decide_eq_true z] at t1
  rw[Gg t1,if_neg (by simp[z])]
  rfl
 .rw[decide_eq_false z] at t1
  rw[K9 t1,if_pos z,U18]
  exact Ly (i:=0) (l:=acc.map Ak) (d:=Ak (x,hx)) rfl rfl rfl (by rw[U0g];omega) rfl
theorem cL{hs:List T3}(h:Hs hs):Ej [.lst false (hs.map Ab)]=some (.lst true ((sky hs).map Ak)):=by
 have few:=h.few
 have el:=Pz few
 have s1:(Bh 1 (Gk (eOp Bk (BL LK) (BL LC)))) [some (.lst false (hs.map Ab)),none,none,none,none,none] []=some (.nx,[some (.lst false (hs.map Ab)),some (.lst true ((ends hs).map .int)),none,none,none,none],[]):=by
  have q1:LK [some (.lst false (hs.map Ab)),none,none,none,none,none] []=some ((hs.map (·.1)).map .int,[]):=QS (m:=false) (by omega) rfl 0 (·.1) fun _=>rfl
  have q2:LC [some (.lst false (hs.map Ab)),none,none,none,none,none] []=some ((hs.map (·.2.1)).map .int,[]):=QS (m:=false) (by omega) rfl 1 (·.2.1) fun _=>rfl
  rw[Ce,Vs few q1 q2];rfl
 have s2:(Bh 2 (JX Ae)) [some (.lst false (hs.map Ab)),some (.lst true ((ends hs).map .int)),none,none,none,none] []=some (.nx,[some (.lst false (hs.map Ab)),some (.lst true ((ends hs).map .int)),some (.ref 0),none,none,none],[some []]):=rfl
 have e:Dl (Ac 1) [some (.lst false (hs.map Ab)),some (.lst true ((ends hs).map .int)),some (.ref 0),none,none,none] [some []]=some (((ends hs).map .int,[]),[some []]):=rfl
 obtain⟨E,hE⟩:∃E:Nat->List St2×Int,∀i,E i=(((ends hs).take i).map fun x=>(x,hgt hs x)).foldl Bw ([],0):=⟨_,fun _=>rfl⟩
 obtain⟨env',S',e2,z3,z4,z5,he,hS⟩:=GF (w:=[]) (g:=Pat.sem (.nm 3)) (b:=JD) (ds:=(ends hs).map .int) (env:=[some (.lst false (hs.map Ab)),some (.lst true ((ends hs).map .int)),some (.ref 0),none,none,none]) (S:=[some []])
  (fun i env S=>∃z3 z4 z5:Option D,env=[some (.lst false (hs.map Ab)),some (.lst true ((ends hs).map .int)),some (.ref 0),z3,z4,z5]/\S=[some ((E i).1.map Ak)])
  ⟨none,none,none,rfl,by rw[hE];rfl⟩ (fun i env S _=>by simp) (fun i d env S hd q=>by
   obtain⟨z3,z4,z5,he,hS⟩:=q
   subst he hS
   rw[U0v] at hd
   obtain⟨x,hx,rfl⟩:=U2e.mp hd
   have fewE:=Nm (((ends hs).take i).map fun x=>(x,hgt hs x)) ([],0)
   rw[←hE,U0g,U1i] at fewE
   have pv:prev (E i).1=(E i).2:=by rw[hE];exact Rf _ _ rfl
   obtain⟨y5,b2⟩:=cO h x (E i).1 (by simp at fewE;omega) (some (.lst true ((ends hs).map .int))) z4 z5
   refine⟨_,Es _ _ _,_,_,b2,_,_,_,rfl,?_⟩
   rw[pv,hE (i+1),U51,hx,U5,U18,U3g,←hE]
   rfl)
 subst he hS
 have hlm:((ends hs).map D.int).length=(ends hs).length:=by simp
 have hsk:(E ((ends hs).map D.int).length).1=sky hs:=by rw[hlm,hE,U5p];rfl
 rw[hsk] at e2
 have l2:Kw [some (.lst false (hs.map Ab)),some (.lst true ((ends hs).map .int)),some (.ref 0),none,none,none] [some []]=some (.nx,[some (.lst false (hs.map Ab)),some (.lst true ((ends hs).map .int)),some (.ref 0),z3,z4,z5],[some ((sky hs).map Ak)]):=by
  unfold Kw
  rw[Gq,e]
  exact e2
 unfold Ej
 rw[Dy]
 simp only[U0f,U1b,U0n,U1m,U10,U11,U02,U1d,U15,U1y,if_true]
 unfold Qg
 rw[Ba s1,Ba s2,Ba l2]
 generalize sky hs=k
 show den 0 [some (k.map Ak)] (.ref 0)=_
 rw[den,if_neg (by omega)]
 show(if BJ (k.map Ak)=true then _ else _)=_
 rw[if_pos (Bp (Jx k))]
end W28
end
section
namespace W28
open PySem L2 VS
def InT(r0 r1:Int)(k:Nat)(t:T3):Prop:=r0<=t.1/\t.1<t.2.1/\t.2.1<=r0+r1+5*k/\t.2.1<=1000000000/\1<=t.2.2/\t.2.2<=1000000000
theorem p9(env:VS.Env)(S:Store):eOp DN (eC (.int 10)) (eC (.int 9)) env S=some (.int 1000000000,S):=by simp[GD,Bb,oI,Iu,DN,-U0s,-U0y]
theorem iM(m:Bool)(hs:List T3)(S:Store):oEq false S (.lst m (hs.map Ab)) (.lst true [])=some (.bl hs.isEmpty):=by
 have lv:lev 2 (.list (hs.map pT3))=true:=by
  show(hs.map pT3).all (lev 1)=true
  rw[U27]
  intro x hx
  obtain⟨t,_,rfl⟩:=U3f.mp hx
  simp[pT3,lev]
 have:=dB (neg:=false) (m:=true) 2 (Oe S m hs) lv (by decide)
 rw[List.isEmpty_map,Bool.false_xor] at this
 exact this
theorem jV{a b c i:Int}(h0:0<=i)(h1:i<3)(ha:0<=a/\a<3)(hb:0<=b/\b<9)(hc:0<=c/\c<1000000000):∃v:Int,atI [D.int a,.int b,.int c] i=some (.int v)/\0<=v/\v<1000000000:=by
 have:i=0∨i=1∨i=2:=by omega
 rcases this with rfl|rfl|rfl
 .exact⟨a,rfl,by omega,by omega⟩
 .exact⟨b,rfl,by omega,by omega⟩
 .exact⟨c,rfl,by omega,by omega⟩
theorem V8(x y z r0 r1:Int)(k:Nat)(q0:-1000000000<=r0)(q1:0<r1)(q2:r0+r1<=1000000000)(hs:List T3)(hl:hs.length<=1000)(hb:∀t∈hs,InT r0 r1 k t)(z0:0<=z)(z1:z<100000000):∃(t:T3)(x' z':Int),
  Dv [x,y,z] [.tup [.int r0,.int r1],.lst false (hs.map Ab)]=some (Ab t,[x',y,z'])/\InT r0 r1 (k+1) t/\z<=z'/\z'<=z+12:=by
 obtain⟨p,x1,z2,d1,⟨p0,p1,p2⟩,k1,k2⟩:=Wa x y z r0 r1 q1 (by omega) z0 (by omega)
 obtain⟨a,x2,z3,d2,a0,k3,k4⟩:=Dt x1 y z2 3 (by decide) (by decide) (by omega) (by omega)
 obtain⟨b,x3,z4,d3,b0,k5,k6⟩:=Dt x2 y z3 9 (by decide) (by decide) (by omega) (by omega)
 obtain⟨c,x4,z5,d4,c0,k7,k8⟩:=Dt x3 y z4 1000000000 (by decide) (by decide) (by omega) (by omega)
 obtain⟨i,x5,z6,d5,i0,k9,k10⟩:=Dt x4 y z5 3 (by decide) (by decide) (by omega) (by omega)
 obtain⟨kd,x6,z7,d6,⟨kd0,kd1⟩,k11,k12⟩:=Dt x5 y z6 8 (by decide) (by decide) (by omega) (by omega)
 obtain⟨v,hv,v0,v1⟩:=jV i0.1 i0.2 a0 b0 c0
 have s1:(W2 (Am DR (Aa (Ac 0) (Aa (Ac 1) Ae))) (Pat.sem (.tp [(.nm 3),(.nm 4)]))) [some (.ref 0),some (.tup [.int r0,.int r1]),some (.lst false (hs.map Ab)),none,none,none,none,none,none,none,none] [some [.int x,.int y,.int z]]=some (.nx,[some (.ref 0),some (.tup [.int r0,.int r1]),some (.lst false (hs.map Ab)),some (.int p.1),some (.int p.2),none,none,none,none,none,none],[some [.int x1,.int y,.int z2]]):=by
  have c1:Am DR (Aa (Ac 0) (Aa (Ac 1) Ae)) [some (.ref 0),some (.tup [.int r0,.int r1]),some (.lst false (hs.map Ab)),none,none,none,none,none,none,none,none] [some [.int x,.int y,.int z]]=some (Ak p,[some [.int x1,.int y,.int z2]]) :=
   GK (ns:=[x,y,z]) (rest:=[.tup [.int r0,.int r1]]) (es:=[.tup [.int r0,.int r1]]) (i:=0) (S':=[some [.int x,.int y,.int z]]) rfl rfl (by simp[BJ,Bf]) (by simp[CW,age]) d1
  rw[bB,c1]
  simp[Es,Ng,KD,JV,-U0s,-U0y,Ak]
 have s2:(Bh 5 (eOp Bk (eC (.int 1)) (eOp oIx (BL (Aa (Am Ag (Aa (Ac 0) (Aa (eC (.int 3)) Ae))) (Aa (Am Ag (Aa (Ac 0) (Aa (eC (.int 9)) Ae))) (Aa (Am Ag (Aa (Ac 0) (Aa (eOp DN (eC (.int 10)) (eC (.int 9))) Ae))) Ae)))) (Am Ag (Aa (Ac 0) (Aa (eC (.int 3)) Ae)))))) [some (.ref 0),some (.tup [.int r0,.int r1]),some (.lst false (hs.map Ab)),some (.int p.1),some (.int p.2),none,none,none,none,none,none] [some [.int x1,.int y,.int z2]]=some (.nx,[some (.ref 0),some (.tup [.int r0,.int r1]),some (.lst false (hs.map Ab)),some (.int p.1),some (.int p.2),some (.int (1+v)),none,none,none,none,none],[some [.int x5,.int y,.int z6]]):=by
  have o1:(Am Ag (Aa (Ac 0) (Aa (eC (.int 3)) Ae))) [some (.ref 0),some (.tup [.int r0,.int r1]),some (.lst false (hs.map Ab)),some (.int p.1),some (.int p.2),none,none,none,none,none,none] [some [.int x1,.int y,.int z2]]=some (.int a,[some [.int x2,.int y,.int z3]]):=Dz d2 rfl rfl
  have o2:(Am Ag (Aa (Ac 0) (Aa (eC (.int 9)) Ae))) [some (.ref 0),some (.tup [.int r0,.int r1]),some (.lst false (hs.map Ab)),some (.int p.1),some (.int p.2),none,none,none,none,none,none] [some [.int x2,.int y,.int z3]]=some (.int b,[some [.int x3,.int y,.int z4]]):=Dz d3 rfl rfl
  have o3:Am Ag (Aa (Ac 0) (Aa (eOp DN (eC (.int 10)) (eC (.int 9))) Ae)) [some (.ref 0),some (.tup [.int r0,.int r1]),some (.lst false (hs.map Ab)),some (.int p.1),some (.int p.2),none,none,none,none,none,none] [some [.int x3,.int y,.int z4]]=some (.int c,[some [.int x4,.int y,.int z5]]):=Dz d4 rfl (p9 _ _)
  have o4:(Am Ag (Aa (Ac 0) (Aa (eC (.int 3)) Ae))) [some (.ref 0),some (.tup [.int r0,.int r1]),some (.lst false (hs.map Ab)),some (.int p.1),some (.int p.2),none,none,none,none,none,none] [some [.int x4,.int y,.int z5]]=some (.int i,[some [.int x5,.int y,.int z6]]):=Dz d5 rfl rfl
  have o5:BL (Aa (Am Ag (Aa (Ac 0) (Aa (eC (.int 3)) Ae))) (Aa (Am Ag (Aa (Ac 0) (Aa (eC (.int 9)) Ae))) (Aa (Am Ag (Aa (Ac 0) (Aa (eOp DN (eC (.int 10)) (eC (.int 9))) Ae))) Ae))) [some (.ref 0),some (.tup [.int r0,.int r1]),some (.lst false (hs.map Ab)),some (.int p.1),some (.int p.2),none,none,none,none,none,none] [some [.int x1,.int y,.int z2]]=some (.lst true [.int a,.int b,.int c],[some [.int x4,.int y,.int z5]]):=by
   rw[Di,Aq,o1,U0b,Aq,o2,U0b,Aq,o3];rfl
  have o6:eOp oIx (BL (Aa (Am Ag (Aa (Ac 0) (Aa (eC (.int 3)) Ae))) (Aa (Am Ag (Aa (Ac 0) (Aa (eC (.int 9)) Ae))) (Aa (Am Ag (Aa (Ac 0) (Aa (eOp DN (eC (.int 10)) (eC (.int 9))) Ae))) Ae)))) (Am Ag (Aa (Ac 0) (Aa (eC (.int 3)) Ae))) [some (.ref 0),some (.tup [.int r0,.int r1]),some (.lst false (hs.map Ab)),some (.int p.1),some (.int p.2),none,none,none,none,none,none] [some [.int x1,.int y,.int z2]]=some (.int v,[some [.int x5,.int y,.int z6]]):=by
   rw[Bb,o5,U0b,o4,U0b]
   show U2q _ (atI [D.int a,.int b,.int c] i)=_
   rw[hv];rfl
  rw[Ce,Bb,GD,U0b,o6];rfl
 have s3:(Bh 6 (Am Ag (Aa (Ac 0) (Aa (eC (.int 8)) Ae)))) [some (.ref 0),some (.tup [.int r0,.int r1]),some (.lst false (hs.map Ab)),some (.int p.1),some (.int p.2),some (.int (1+v)),none,none,none,none,none] [some [.int x5,.int y,.int z6]]=some (.nx,[some (.ref 0),some (.tup [.int r0,.int r1]),some (.lst false (hs.map Ab)),some (.int p.1),some (.int p.2),some (.int (1+v)),some (.int kd),none,none,none,none],[some [.int x6,.int y,.int z7]]):=by
  have o1:(Am Ag (Aa (Ac 0) (Aa (eC (.int 8)) Ae))) [some (.ref 0),some (.tup [.int r0,.int r1]),some (.lst false (hs.map Ab)),some (.int p.1),some (.int p.2),some (.int (1+v)),none,none,none,none,none] [some [.int x5,.int y,.int z6]]=some (.int kd,[some [.int x6,.int y,.int z7]]):=Dz d6 rfl rfl
  rw[Ce,o1];rfl
 have t1:Bm (eOp (oEq false) (Ac 2) (BL Ae)) [some (.ref 0),some (.tup [.int r0,.int r1]),some (.lst false (hs.map Ab)),some (.int p.1),some (.int p.2),some (.int (1+v)),some (.int kd),none,none,none,none] [some [.int x6,.int y,.int z7]]=some (hs.isEmpty,[some [.int x6,.int y,.int z7]]):=by
  have f0:BL Ae [some (.ref 0),some (.tup [.int r0,.int r1]),some (.lst false (hs.map Ab)),some (.int p.1),some (.int p.2),some (.int (1+v)),some (.int kd),none,none,none,none] [some [.int x6,.int y,.int z7]]=some (.lst true [],[some [.int x6,.int y,.int z7]]):=rfl
  have v2:Ac 2 [some (.ref 0),some (.tup [.int r0,.int r1]),some (.lst false (hs.map Ab)),some (.int p.1),some (.int p.2),some (.int (1+v)),some (.int kd),none,none,none,none] [some [.int x6,.int y,.int z7]]=some (.lst false (hs.map Ab),[some [.int x6,.int y,.int z7]]):=rfl
  rw[DX,Bb,v2,U0b,f0,U0b]
  simp only[iM]
  cases hs.isEmpty<;>rfl
 have t2:Bm (eOp oGt (Ac 6) (eC (.int 4))) [some (.ref 0),some (.tup [.int r0,.int r1]),some (.lst false (hs.map Ab)),some (.int p.1),some (.int p.2),some (.int (1+v)),some (.int kd),none,none,none,none] [some [.int x6,.int y,.int z7]]=some (decide (4<kd),[some [.int x6,.int y,.int z7]]):=rfl
 have ts:(VS.tOr (Bm (eOp (oEq false) (Ac 2) (BL Ae))) (Bm (eOp oGt (Ac 6) (eC (.int 4))))) [some (.ref 0),some (.tup [.int r0,.int r1]),some (.lst false (hs.map Ab)),some (.int p.1),some (.int p.2),some (.int (1+v)),some (.int kd),none,none,none,none] [some [.int x6,.int y,.int z7]]=some (hs.isEmpty||decide (4<kd),[some [.int x6,.int y,.int z7]]):=by
  rw[X6,t1]
  cases hs.isEmpty with
  |true=>rfl
  |false =>
   simp only[U0b,U07,if_false,Bool.false_or]
   exact t2
 unfold Dv
 rw[Gs]
 simp only[U0f,U1b,U0n,U1m,U10,U11,U02,U1d,U15,U1y,if_true]
 unfold PL
 rw[Ba s1,Ba s2,Ba s3]
 by_cases g:(hs.isEmpty||decide (4<kd))=true
 .rw[g] at ts
  rw[G4,K9 ts]
  refine⟨(p.1,p.2,1+v),x6,z7,?_,⟨p0,p1,by show p.2<=r0+r1+5*((k+1:Nat):Int);omega,by show p.2<=1000000000;omega,by show 1<=1+v;omega,by show 1+v<=1000000000;omega⟩,by omega,by omega⟩
  simp[G4,Ce,Cg,LR,Lk,Jt,DY,GD,Bb,Dj,Aq,FP,DX,dD,Lw,Nv,UW,oI,Gh,Iu,Bk,Fd,DN,oGe,oIx,NK,Kg,VS.listOf,Fx,Ez,intsOf,den,Cz,-U0s,-U0y,Ab]
 .rw[Bool.eq_false_iff.mpr g] at ts
  have s0:(sIf (VS.tOr (Bm (eOp (oEq false) (Ac 2) (BL Ae))) (Bm (eOp oGt (Ac 6) (eC (.int 4))))) (Dc (BW (Aa (Ac 3) (Aa (Ac 4) (Aa (Ac 5) Ae))))) Fy) [some (.ref 0),some (.tup [.int r0,.int r1]),some (.lst false (hs.map Ab)),some (.int p.1),some (.int p.2),some (.int (1+v)),some (.int kd),none,none,none,none] [some [.int x6,.int y,.int z7]]=some (.nx,[some (.ref 0),some (.tup [.int r0,.int r1]),some (.lst false (hs.map Ab)),some (.int p.1),some (.int p.2),some (.int (1+v)),some (.int kd),none,none,none,none],[some [.int x6,.int y,.int z7]]):=by rw[Gg ts];rfl
  have hne:¬hs.isEmpty=true:=fun w=>g (by rw[w];rfl)
  have hkd:kd<=4:=by
   by_cases w:4<kd
   .exact absurd (by rw[decide_eq_true w,Bool.or_true]) g
   .omega
  have hlp:0<hs.length:=by
   cases hs with
   |nil=>exact absurd rfl hne
   |cons _ _=>simp
  obtain⟨j,x7,z8,d7,⟨j0,j1⟩,k13,k14⟩:=Dt x6 y z7 hs.length (by omega) (by omega) (by omega) (by omega)
  obtain⟨jn,rfl⟩:∃jn:Nat,j=jn:=⟨j.toNat,by omega⟩
  have hjn:jn<hs.length:=by omega
  obtain⟨t,ht⟩:∃t,t=hs[jn]:=⟨_,rfl⟩
  obtain⟨w1,w2,w3,w4,w5,w6⟩:=hb t (by rw[ht];exact U4u hjn)
  obtain⟨e,x8,z9,d8,e0,k15,k16⟩:=Dt x7 y z8 4 (by decide) (by decide) (by omega) (by omega)
  obtain⟨f,x9,z10,d9,f0,k17,k18⟩:=Dt x8 y z9 (t.2.1-t.1) (by omega) (by omega) (by omega) (by omega)
  obtain⟨bs,hbs⟩:∃bs:Int,bs=min 1000000000 (t.2.1+1+e):=⟨_,rfl⟩
  have s4:(Bh 7 (eOp oIx (Ac 2) (Am Ag (Aa (Ac 0) (Aa (eCB NK (Aa (Ac 2) Ae)) Ae))))) [some (.ref 0),some (.tup [.int r0,.int r1]),some (.lst false (hs.map Ab)),some (.int p.1),some (.int p.2),some (.int (1+v)),some (.int kd),none,none,none,none] [some [.int x6,.int y,.int z7]]=some (.nx,[some (.ref 0),some (.tup [.int r0,.int r1]),some (.lst false (hs.map Ab)),some (.int p.1),some (.int p.2),some (.int (1+v)),some (.int kd),some (Ab t),none,none,none],[some [.int x7,.int y,.int z8]]):=by
   have o1:Am Ag (Aa (Ac 0) (Aa (eCB NK (Aa (Ac 2) Ae)) Ae)) [some (.ref 0),some (.tup [.int r0,.int r1]),some (.lst false (hs.map Ab)),some (.int p.1),some (.int p.2),some (.int (1+v)),some (.int kd),none,none,none,none] [some [.int x6,.int y,.int z7]]=some (.int jn,[some [.int x7,.int y,.int z8]]):=Dz d7 rfl (by
    show(some (D.int ((hs.map Ab).length:Nat),_):Option (D×Store))=_
    rw[U0g])
   have v2:Ac 2 [some (.ref 0),some (.tup [.int r0,.int r1]),some (.lst false (hs.map Ab)),some (.int p.1),some (.int p.2),some (.int (1+v)),some (.int kd),none,none,none,none] [some [.int x6,.int y,.int z7]]=some (.lst false (hs.map Ab),[some [.int x6,.int y,.int z7]]):=rfl
   rw[Ce,Bb,v2,U0b,o1,U0b]
   show(U2q _ (atI (hs.map Ab) (jn:Int))).bind _=_
   rw[dN (v:=Ab t) (by rw[U0v,U0q hjn,ht];rfl)]
   rfl
  have s5:(Bh 8 (eCB Kg (Aa (eOp DN (eC (.int 10)) (eC (.int 9))) (Aa (eOp Bk (eOp Bk (eOp oIx (Ac 7) (eC (.int 1))) (eC (.int 1))) (Am Ag (Aa (Ac 0) (Aa (eC (.int 4)) Ae)))) Ae)))) [some (.ref 0),some (.tup [.int r0,.int r1]),some (.lst false (hs.map Ab)),some (.int p.1),some (.int p.2),some (.int (1+v)),some (.int kd),some (Ab t),none,none,none] [some [.int x7,.int y,.int z8]]=some (.nx,[some (.ref 0),some (.tup [.int r0,.int r1]),some (.lst false (hs.map Ab)),some (.int p.1),some (.int p.2),some (.int (1+v)),some (.int kd),some (Ab t),some (.int bs),none,none],[some [.int x8,.int y,.int z9]]):=by
   have o1:(Am Ag (Aa (Ac 0) (Aa (eC (.int 4)) Ae))) [some (.ref 0),some (.tup [.int r0,.int r1]),some (.lst false (hs.map Ab)),some (.int p.1),some (.int p.2),some (.int (1+v)),some (.int kd),some (Ab t),none,none,none] [some [.int x7,.int y,.int z8]]=some (.int e,[some [.int x8,.int y,.int z9]]):=Dz d8 rfl rfl
   have o0:eOp Bk (eOp oIx (Ac 7) (eC (.int 1))) (eC (.int 1)) [some (.ref 0),some (.tup [.int r0,.int r1]),some (.lst false (hs.map Ab)),some (.int p.1),some (.int p.2),some (.int (1+v)),some (.int kd),some (Ab t),none,none,none] [some [.int x7,.int y,.int z8]]=some (.int (t.2.1+1),[some [.int x7,.int y,.int z8]]):=rfl
   have o2:eOp Bk (eOp Bk (eOp oIx (Ac 7) (eC (.int 1))) (eC (.int 1))) (Am Ag (Aa (Ac 0) (Aa (eC (.int 4)) Ae))) [some (.ref 0),some (.tup [.int r0,.int r1]),some (.lst false (hs.map Ab)),some (.int p.1),some (.int p.2),some (.int (1+v)),some (.int kd),some (Ab t),none,none,none] [some [.int x7,.int y,.int z8]]=some (.int (t.2.1+1+e),[some [.int x8,.int y,.int z9]]):=by
    rw[Bb,o0,U0b,o1];rfl
   rw[Ce,FP,Aq,p9,U0b,Aq,o2]
   simp only[U0b,Dj]
   rw[hbs]
   simp[Kg,-U0s,-U0y]
   omega
  have s6:(Bh 9 (eOp Bk (eOp Bk (eOp oIx (Ac 7) (eC (.int 0))) (eC (.int 1))) (Am Ag (Aa (Ac 0) (Aa (eOp Fd (eOp oIx (Ac 7) (eC (.int 1))) (eOp oIx (Ac 7) (eC (.int 0)))) Ae))))) [some (.ref 0),some (.tup [.int r0,.int r1]),some (.lst false (hs.map Ab)),some (.int p.1),some (.int p.2),some (.int (1+v)),some (.int kd),some (Ab t),some (.int bs),none,none] [some [.int x8,.int y,.int z9]]=some (.nx,[some (.ref 0),some (.tup [.int r0,.int r1]),some (.lst false (hs.map Ab)),some (.int p.1),some (.int p.2),some (.int (1+v)),some (.int kd),some (Ab t),some (.int bs),some (.int (t.1+1+f)),none],[some [.int x9,.int y,.int z10]]):=by
   have o1:Am Ag (Aa (Ac 0) (Aa (eOp Fd (eOp oIx (Ac 7) (eC (.int 1))) (eOp oIx (Ac 7) (eC (.int 0)))) Ae)) [some (.ref 0),some (.tup [.int r0,.int r1]),some (.lst false (hs.map Ab)),some (.int p.1),some (.int p.2),some (.int (1+v)),some (.int kd),some (Ab t),some (.int bs),none,none] [some [.int x8,.int y,.int z9]]=some (.int f,[some [.int x9,.int y,.int z10]]):=Dz d9 rfl rfl
   have o0:eOp Bk (eOp oIx (Ac 7) (eC (.int 0))) (eC (.int 1)) [some (.ref 0),some (.tup [.int r0,.int r1]),some (.lst false (hs.map Ab)),some (.int p.1),some (.int p.2),some (.int (1+v)),some (.int kd),some (Ab t),some (.int bs),none,none] [some [.int x8,.int y,.int z9]]=some (.int (t.1+1),[some [.int x8,.int y,.int z9]]):=rfl
   rw[Ce,Bb,o0,U0b,o1];rfl
  have s7:(Bh 10 (JX (Aa (Ac 7) (Aa (BW (Aa (eOp oIx (Ac 7) (eC (.int 0))) (Aa (eOp oIx (Ac 7) (eC (.int 1))) (Aa (Ac 5) Ae)))) (Aa (BW (Aa (Ac 3) (Aa (Ac 4) (Aa (eOp oIx (Ac 7) (eC (.int 2))) Ae)))) (Aa (BW (Aa (eOp oIx (Ac 7) (eC (.int 1))) (Aa (Ac 8) (Aa (Ac 5) Ae)))) Ae)))))) [some (.ref 0),some (.tup [.int r0,.int r1]),some (.lst false (hs.map Ab)),some (.int p.1),some (.int p.2),some (.int (1+v)),some (.int kd),some (Ab t),some (.int bs),some (.int (t.1+1+f)),none] [some [.int x9,.int y,.int z10]]=some (.nx,[some (.ref 0),some (.tup [.int r0,.int r1]),some (.lst false (hs.map Ab)),some (.int p.1),some (.int p.2),some (.int (1+v)),some (.int kd),some (Ab t),some (.int bs),some (.int (t.1+1+f)),some (.ref 1)],[some [.int x9,.int y,.int z10],some ([t,(t.1,t.2.1,1+v),(p.1,p.2,t.2.2),(t.2.1,bs,1+v)].map Ab)]):=rfl
  have s8:(Hh (Gn Ez (Ac 10) (Aa (BW (Aa (eOp oIx (Ac 7) (eC (.int 0))) (Aa (Ac 9) (Aa (Ac 5) Ae)))) Ae))) [some (.ref 0),some (.tup [.int r0,.int r1]),some (.lst false (hs.map Ab)),some (.int p.1),some (.int p.2),some (.int (1+v)),some (.int kd),some (Ab t),some (.int bs),some (.int (t.1+1+f)),some (.ref 1)] [some [.int x9,.int y,.int z10],some ([t,(t.1,t.2.1,1+v),(p.1,p.2,t.2.2),(t.2.1,bs,1+v)].map Ab)]=some (.nx,[some (.ref 0),some (.tup [.int r0,.int r1]),some (.lst false (hs.map Ab)),some (.int p.1),some (.int p.2),some (.int (1+v)),some (.int kd),some (Ab t),some (.int bs),some (.int (t.1+1+f)),some (.ref 1)],[some [.int x9,.int y,.int z10],some ([t,(t.1,t.2.1,1+v),(p.1,p.2,t.2.2),(t.2.1,bs,1+v),(t.1,t.1+1+f,1+v)].map Ab)]):=Ly (i:=1) (d:=Ab (t.1,t.1+1+f,1+v)) rfl rfl rfl (by simp) rfl
  obtain⟨u,hu,hu2⟩:∃u:T3,atI ([t,(t.1,t.2.1,1+v),(p.1,p.2,t.2.2),(t.2.1,bs,1+v),(t.1,t.1+1+f,1+v)].map Ab) kd=some (Ab u)/\(u.1<u.2.1->InT r0 r1 (k+1) u):=by
   have:kd=0∨kd=1∨kd=2∨kd=3∨kd=4:=by omega
   rcases this with rfl|rfl|rfl|rfl|rfl
   .exact⟨t,rfl,fun _=>⟨w1,w2,by omega,w4,w5,w6⟩⟩
   .exact⟨(t.1,t.2.1,1+v),rfl,fun _=>⟨w1,w2,by show t.2.1<=_;omega,w4,by show 1<=1+v;omega,by show 1+v<=_;omega⟩⟩
   .exact⟨(p.1,p.2,t.2.2),rfl,fun _=>⟨p0,p1,by show p.2<=_;omega,by show p.2<=_;omega,w5,w6⟩⟩
   .exact⟨(t.2.1,bs,1+v),rfl,fun q=>⟨by show r0<=t.2.1;omega,q,by show bs<=_;omega,by show bs<=_;omega,by show 1<=1+v;omega,by show 1+v<=_;omega⟩⟩
   .exact⟨(t.1,t.1+1+f,1+v),rfl,fun q=>⟨w1,q,by show t.1+1+f<=_;omega,by show t.1+1+f<=_;omega,by show 1<=1+v;omega,by show 1+v<=_;omega⟩⟩
  obtain⟨us,hus⟩:∃us:List T3,us=[t,(t.1,t.2.1,1+v),(p.1,p.2,t.2.2),(t.2.1,bs,1+v),(t.1,t.1+1+f,1+v)]:=⟨_,rfl⟩
  rw[←hus] at s8 hu
  have at1:eOp oIx (Ac 10) (Ac 6) [some (.ref 0),some (.tup [.int r0,.int r1]),some (.lst false (hs.map Ab)),some (.int p.1),some (.int p.2),some (.int (1+v)),some (.int kd),some (Ab t),some (.int bs),some (.int (t.1+1+f)),some (.ref 1)] [some [.int x9,.int y,.int z10],some (us.map Ab)]=some (Ab u,[some [.int x9,.int y,.int z10],some (us.map Ab)]):=by
   show U2q _ (atI (us.map Ab) kd)=_
   rw[hu];rfl
  have t3:Bm (eOp oGe (eOp oIx (eOp oIx (Ac 10) (Ac 6)) (eC (.int 0))) (eOp oIx (eOp oIx (Ac 10) (Ac 6)) (eC (.int 1)))) [some (.ref 0),some (.tup [.int r0,.int r1]),some (.lst false (hs.map Ab)),some (.int p.1),some (.int p.2),some (.int (1+v)),some (.int kd),some (Ab t),some (.int bs),some (.int (t.1+1+f)),some (.ref 1)] [some [.int x9,.int y,.int z10],some (us.map Ab)]=some (decide (u.2.1<=u.1),[some [.int x9,.int y,.int z10],some (us.map Ab)]):=by
   have b1:eOp oIx (eOp oIx (Ac 10) (Ac 6)) (eC (.int 0)) [some (.ref 0),some (.tup [.int r0,.int r1]),some (.lst false (hs.map Ab)),some (.int p.1),some (.int p.2),some (.int (1+v)),some (.int kd),some (Ab t),some (.int bs),some (.int (t.1+1+f)),some (.ref 1)] [some [.int x9,.int y,.int z10],some (us.map Ab)]=some (.int u.1,[some [.int x9,.int y,.int z10],some (us.map Ab)]):=by rw[Bb,at1];rfl
   have b2:eOp oIx (eOp oIx (Ac 10) (Ac 6)) (eC (.int 1)) [some (.ref 0),some (.tup [.int r0,.int r1]),some (.lst false (hs.map Ab)),some (.int p.1),some (.int p.2),some (.int (1+v)),some (.int kd),some (Ab t),some (.int bs),some (.int (t.1+1+f)),some (.ref 1)] [some [.int x9,.int y,.int z10],some (us.map Ab)]=some (.int u.2.1,[some [.int x9,.int y,.int z10],some (us.map Ab)]):=by rw[Bb,at1];rfl
   rw[DX,Bb,b1,U0b,b2];rfl
  rw[Ba s0,Ba s4,Ba s5,Ba s6,Ba s7,Ba s8,G4]
  by_cases q:u.2.1<=u.1
  .rw[decide_eq_true q] at t3
   rw[K9 t3]
   refine⟨t,x9,z10,?_,⟨w1,w2,by omega,w4,w5,w6⟩,by omega,by omega⟩
   simp[Cg,DY,Bb,oIx,VS.listOf,Fx,intsOf,den,Cz,-U0s,-U0y,Ab]
  .rw[decide_eq_false q] at t3
   rw[Gg t3]
   refine⟨u,x9,z10,?_,hu2 (by omega),by omega,by omega⟩
   simp only[Jt,U0b,Cg,at1]
   simp[intsOf,den,Cz,-U0s,-U0y,Ab]
end W28
end
section
namespace W28
open PySem L2 VS
theorem InT.more{r0 r1:Int}{k j:Nat}{t:T3}(h:InT r0 r1 k t)(hk:k<=j):InT r0 r1 j t:=by
 obtain⟨g1,g2,g3,g4,g5,g6⟩:=h
 exact⟨g1,g2,by omega,g4,g5,g6⟩
theorem YD(x y z r0 r1:Int)(k:Nat)(q0:-1000000000<=r0)(q1:0<r1)(q2:r0+r1<=1000000000)(hs:List T3)(hl:hs.length<=100)(hb:∀t∈hs,InT r0 r1 k t)(z0:0<=z)(z1:z<10000000)(e2 e3 e5:Option D):∃(t:T3)(x' z':Int),InT r0 r1 (k+1) t/\(z<=z'/\z'<=z+12) /\
  HY [some (.ref 0),some (.tup [.int r0,.int r1]),e2,e3,some (.ref 1),e5] [some [.int x,.int y,.int z],some (hs.map Ab)]=some (.nx,[some (.ref 0),some (.tup [.int r0,.int r1]),e2,e3,some (.ref 1),e5],[some [.int x',.int y,.int z'],some ((hs++[t]).map Ab)]):=by
 obtain⟨t,x',z',e,bi,k1,k2⟩:=V8 x y z r0 r1 k q0 q1 q2 hs (by omega) hb z0 (by omega)
 refine⟨t,x',z',bi,⟨k1,k2⟩,?_⟩
 have hd:Cz 0 [none,some (hs.map Ab)] [.tup [.int r0,.int r1],.ref 1]=some [.tup [.int r0,.int r1],.lst true (hs.map Ab)]:=by
  have hp:=Bp (Fv hs)
  simp[Cz,den,hp]
 have ha:CW [.tup [.int r0,.int r1],.lst true (hs.map Ab)]=[.tup [.int r0,.int r1],.lst false (hs.map Ab)]:=by
  have:=Ew (Fv hs)
  simp[CW,age,this]
 have hnew:newD (Ab t)=true:=Ma (RD t)
 have c1:Am Dv (Aa (Ac 0) (Aa (Ac 1) (Aa (Ac 4) Ae))) [some (.ref 0),some (.tup [.int r0,.int r1]),e2,e3,some (.ref 1),e5] [some [.int x,.int y,.int z],some (hs.map Ab)]=some (Ab t,[some [.int x',.int y,.int z'],some (hs.map Ab)]):=by
  have a:Aa (Ac 0) (Aa (Ac 1) (Aa (Ac 4) Ae)) [some (.ref 0),some (.tup [.int r0,.int r1]),e2,e3,some (.ref 1),e5] [some [.int x,.int y,.int z],some (hs.map Ab)]=some ([.ref 0,.tup [.int r0,.int r1],.ref 1],[some [.int x,.int y,.int z],some (hs.map Ab)]):=rfl
  rw[Nv,a]
  show((Cz 0 [none,some (hs.map Ab)] [.tup [.int r0,.int r1],.ref 1]).bind fun ds=>(Dv [x,y,z] (CW ds)).bind fun r=>if (BJ [.tup [.int r0,.int r1],.ref 1]||newD r.1)=true then some (r.1,[some (r.2.map D.int),some (hs.map Ab)]) else none)=_
  rw[hd,U0b,ha,e,U0b,hnew,Bool.or_true]
  rfl
 unfold HY
 rw[Lk,Vk (d:=.ref 1) (cs:=hs.map Ab) (ds:=[Ab t]) (r:=.non) (S1:=[some [.int x,.int y,.int z],some (hs.map Ab)]) (S2:=[some [.int x',.int y,.int z'],some (hs.map Ab)]) (S3:=[some [.int x',.int y,.int z'],some ((hs++[t]).map Ab)]) rfl rfl (by rw[Aq,c1];rfl) (by
  show(if (hs.map Ab).length<1000000 then some (D.non,[some [.int x',.int y,.int z'],some (hs.map Ab++[Ab t])]) else none)=_
  rw[if_pos (by rw[U0g];omega),U18]
  rfl)]
 rfl
theorem Rc(x y z r0 r1:Int)(most:Nat)(hm:most<=40)(h3:3<=most)(q0:-1000000000<=r0)(q1:0<r1)(q2:r0+r1<=1000000000)(z0:0<=z)(z1:z<1000000):∃(hs:List T3)(x' z':Int),
  Bu [x,y,z] [.tup [.int r0,.int r1],.int most]=some (.lst true (hs.map Ab),[x',y,z'])/\hs.length<=most/\(∀t∈hs,InT r0 r1 most t)/\z<=z'/\z'<=z+1000:=by
 obtain⟨a,x1,z2,d1,⟨a0,a1⟩,k1,k2⟩:=Dt x y z 4 (by decide) (by decide) z0 (by omega)
 obtain⟨b,x2,z3,d2,⟨b0,b1⟩,k3,k4⟩:=Dt x1 y z2 ((most:Int)+1) (by omega) (by omega) (by omega) (by omega)
 obtain⟨c,x3,z4,d3,⟨c0,c1⟩,k5,k6⟩:=Dt x2 y z3 3 (by decide) (by decide) (by omega) (by omega)
 obtain⟨m,f1,hmm⟩:∃m:Nat,atI [D.int a,D.int b,D.int most] c=some (.int m)/\m<=most:=by
  have:c=0∨c=1∨c=2:=by omega
  rcases this with rfl|rfl|rfl
  .exact⟨a.toNat,by rw[show((a.toNat:Nat):Int)=a by omega];rfl,by omega⟩
  .exact⟨b.toNat,by rw[show((b.toNat:Nat):Int)=b by omega];rfl,by omega⟩
  .exact⟨most,rfl,U0l _⟩
 have s1:(Bh 3 (eOp oIx (BL (Aa (Am Ag (Aa (Ac 0) (Aa (eC (.int 4)) Ae))) (Aa (Am Ag (Aa (Ac 0) (Aa (eOp Bk (Ac 2) (eC (.int 1))) Ae))) (Aa (Ac 2) Ae)))) (Am Ag (Aa (Ac 0) (Aa (eC (.int 3)) Ae))))) [some (.ref 0),some (.tup [.int r0,.int r1]),some (.int most),none,none,none] [some [.int x,.int y,.int z]]=some (.nx,[some (.ref 0),some (.tup [.int r0,.int r1]),some (.int most),some (.int m),none,none],[some [.int x3,.int y,.int z4]]):=by
  have o1:Am Ag (Aa (Ac 0) (Aa (eC (.int 4)) Ae)) [some (.ref 0),some (.tup [.int r0,.int r1]),some (.int most),none,none,none] [some [.int x,.int y,.int z]]=some (.int a,[some [.int x1,.int y,.int z2]]):=Dz d1 rfl rfl
  have o2:Am Ag (Aa (Ac 0) (Aa (eOp Bk (Ac 2) (eC (.int 1))) Ae)) [some (.ref 0),some (.tup [.int r0,.int r1]),some (.int most),none,none,none] [some [.int x1,.int y,.int z2]]=some (.int b,[some [.int x2,.int y,.int z3]]):=Dz d2 rfl rfl
  have o3:Am Ag (Aa (Ac 0) (Aa (eC (.int 3)) Ae)) [some (.ref 0),some (.tup [.int r0,.int r1]),some (.int most),none,none,none] [some [.int x2,.int y,.int z3]]=some (.int c,[some [.int x3,.int y,.int z4]]):=Dz d3 rfl rfl
  have o4:BL (Aa (Am Ag (Aa (Ac 0) (Aa (eC (.int 4)) Ae))) (Aa (Am Ag (Aa (Ac 0) (Aa (eOp Bk (Ac 2) (eC (.int 1))) Ae))) (Aa (Ac 2) Ae))) [some (.ref 0),some (.tup [.int r0,.int r1]),some (.int most),none,none,none] [some [.int x,.int y,.int z]]=some (.lst true [.int a,.int b,.int most],[some [.int x2,.int y,.int z3]]):=by
   rw[Di,Aq,o1,U0b,Aq,o2];rfl
  rw[Ce,Bb,o4,U0b,o3,U0b]
  show(U2q _ (atI [D.int a,D.int b,D.int most] c)).bind _=_
  rw[f1];rfl
 have s2:(Bh 4 (JX Ae)) [some (.ref 0),some (.tup [.int r0,.int r1]),some (.int most),some (.int m),none,none] [some [.int x3,.int y,.int z4]]=some (.nx,[some (.ref 0),some (.tup [.int r0,.int r1]),some (.int most),some (.int m),some (.ref 1),none],[some [.int x3,.int y,.int z4],some []]):=rfl
 have e:J3 (Aa (Ac 3) Ae) [some (.ref 0),some (.tup [.int r0,.int r1]),some (.int most),some (.int m),some (.ref 1),none] [some [.int x3,.int y,.int z4],some []]=some ((upD 0 m,[]),[some [.int x3,.int y,.int z4],some []]):=XC _ rfl (by simp) (by omega) (by omega)
 obtain⟨env',S',e5,hs,x',z',y6,he,hS,hl,hb,k7,k8⟩:=GF (w:=[]) (g:=Pat.sem (.nm 5)) (b:=HY) (ds:=upD 0 m) (env:=[some (.ref 0),some (.tup [.int r0,.int r1]),some (.int most),some (.int m),some (.ref 1),none]) (S:=[some [.int x3,.int y,.int z4],some []])
  (fun i env S=>∃(hs:List T3)(x' z':Int)(y6:Option D),env=[some (.ref 0),some (.tup [.int r0,.int r1]),some (.int most),some (.int m),some (.ref 1),y6]/\S=[some [.int x',.int y,.int z'],some (hs.map Ab)]/\hs.length=min i m/\(∀t∈hs,InT r0 r1 (min i m) t)/\z4<=z'/\z'<=z4+12*(min i m:Nat))
  ⟨[],x3,z4,none,rfl,rfl,by simp,(fun b h=>by cases h),by omega,by simp⟩ (fun i env S _=>by simp) (fun i d env S hd q=>by
   obtain⟨hs,x',z',y6,he,hS,hl,hb,k7,k8⟩:=q
   obtain⟨hi,rfl⟩:=VJ hd
   have hmi:min i m=i:=by omega
   rw[hmi] at hl hb k8
   subst he hS
   obtain⟨t,x5,z5,hb5,⟨k9,k10⟩,e6⟩:=YD x' y z' r0 r1 i q0 q1 q2 hs (by omega) hb (by omega) (by omega) (some (.int most)) (some (.int m)) (some (.int (0+i)))
   have hmi2:min (i+1) m=i+1:=by omega
   refine⟨_,Es _ _ _,_,_,e6,hs++[t],x5,z5,_,rfl,rfl,by simp;omega,?_,by omega,by rw[hmi2];omega⟩
   rw[hmi2]
   intro c hc
   rcases U1l.mp hc with h|h
   .exact(hb c h).more (by omega)
   .rw[U1k.mp h];exact hb5)
 rw[Qu,Nat.min_self] at hl hb k8
 subst he hS
 have l1:Jd [some (.ref 0),some (.tup [.int r0,.int r1]),some (.int most),some (.int m),some (.ref 1),none] [some [.int x3,.int y,.int z4],some []]=some (.nx,[some (.ref 0),some (.tup [.int r0,.int r1]),some (.int most),some (.int m),some (.ref 1),y6],[some [.int x',.int y,.int z'],some (hs.map Ab)]):=by
  unfold Jd
  rw[Gq,e]
  exact e5
 refine⟨hs,x',z',?_,by omega,fun t h=>(hb t h).more hmm,by omega,by omega⟩
 unfold Bu
 rw[Gs]
 simp only[U0f,U1b,U0n,U1m,U10,U11,U02,U1d,U15,U1y,if_true]
 unfold O6
 rw[Ba s1,Ba s2,Ba l1]
 have hp:=Bp (Fv hs)
 simp[Cg,DY,intsOf,den,-U0s,-U0y,hp]
end W28
end
section
namespace W28
open PySem L2 VS
theorem Km(hs:List T3):(ends hs).Pairwise (·<·):=Wc _
theorem Ht{hs:List T3}{x:Int}:x∈ends hs↔∃t∈hs,x=t.1∨x=t.2.1:=by
 unfold ends Gm
 rw[(U4z _ _).mem_iff,(SetP.KH _).2.2,U1l,U3f,U3f]
 constructor
 .rintro(⟨t,ht,rfl⟩|⟨t,ht,rfl⟩)
  .exact⟨t,ht,.inl rfl⟩
  .exact⟨t,ht,.inr rfl⟩
 .rintro⟨t,ht,rfl|rfl⟩
  .exact .inl ⟨t,ht,rfl⟩
  .exact .inr ⟨t,ht,rfl⟩
theorem UG{hs:List T3}{x y:Int}(hxy:x<=y)(h:∀e∈ends hs,¬(x<e/\e<=y)):hgt hs y=hgt hs x:=by
 unfold hgt DG
 have:(hs.filter fun t=>inH t y)=hs.filter fun t=>inH t x:=List.filter_congr fun t ht=>by
  have h1:=h t.1 (Ht.mpr ⟨t,ht,.inl rfl⟩)
  have h2:=h t.2.1 (Ht.mpr ⟨t,ht,.inr rfl⟩)
  unfold inH
  rw[U4d,U0m,U0m,decide_eq_true_eq,decide_eq_true_eq,decide_eq_true_eq,decide_eq_true_eq]
  omega
 rw[this]
theorem R8{hs:List T3}{x:Int}(h:∀t∈hs,¬(t.1<=x/\x<t.2.1)):hgt hs x=0:=by
 unfold hgt DG
 have:(hs.filter fun t=>inH t x)=[]:=List.filter_eq_nil_iff.mpr fun t ht w=>by
  unfold inH at w
  rw[U0m,decide_eq_true_eq,decide_eq_true_eq] at w
  exact h t ht w
 rw[this];rfl
def Link(f:Int->Int):Int->List Int->Prop
 |_,[]=>True
 |hh,x::E=>f (x-1)=hh/\Link f (f x) E
theorem Kq(f:Int->Int):∀(E:List Int)(acc:List St2)(hh:Int),Link f hh E->((E.map fun x=>(x,f x)).foldl Bw (acc,hh)).1=acc++(E.filter fun x=>decide (f x≠f (x-1))).map fun x=>(x,f x)
 |[],acc,hh,_=>by simp
 |x::E,acc,hh,h=>by
  obtain⟨h1,h2⟩:=h
  subst h1
  rw[U0n,U22]
  show((E.map fun x=>(x,f x)).foldl Bw (if f x≠f (x-1) then acc++[(x,f x)] else acc,f x)).1=_
  rw[Kq f E _ _ h2,List.filter_cons]
  by_cases z:f x=f (x-1)
  .rw[if_neg (by simp[z]),if_neg (by simp[z])]
  .rw[if_pos z,if_pos (by simp[z]),U0n,U0w];rfl
theorem TQ(a:Int)(n:Nat):ups a (n+1)=a::ups (a+1) n:=by
 unfold ups
 rw[List.range_succ_eq_map,U0n,U0s]
 congr 1
 .simp
 .refine List.map_congr_left fun i _=>?_
  simp only[Function.comp]
  omega
theorem Tw(f:Int->Int):∀(n:Nat)(a:Int),Link f (f (a-1)) (ups a n)
 |0,a=>trivial
 |n+1,a=>by
  rw[TQ]
  refine⟨rfl,?_⟩
  have:=Tw f n (a+1)
  rw[show a+1-1=a by omega] at this
  exact this
theorem TJ:∀(n:Nat)(a:Int),(ups a n).Pairwise (·<·)
 |0,a=>.nil
 |n+1,a=>by
  rw[TQ]
  exact U3s.mpr ⟨fun x hx=>by have:=VH.mp hx;omega,TJ n (a+1)⟩
theorem RX{hs:List T3}:∀(E:List Int)(q:Int),E.Pairwise (·<·)->(∀x∈E,q<x)->(∀e∈ends hs,e∈E∨e<=q)->Link (hgt hs) (hgt hs q) E
 |[],q,_,_,_=>trivial
 |x::E,q,hr,hq,hc=>by
  obtain⟨r1,r2⟩:=U3s.mp hr
  have hx:=hq x U04
  refine⟨UG (by omega) fun e he w=>?_,RX E x r2 r1 fun e he=>?_⟩
  .rcases hc e he with z|z
   .rcases U0u.mp z with k|k
    .omega
    .have:=r1 e k;omega
   .omega
  .rcases hc e he with z|z
   .rcases U0u.mp z with k|k
    .exact .inr (by omega)
    .exact .inl k
   .exact .inr (by omega)
theorem RZ(hs:List T3)(hp:∀t∈hs,t.1<t.2.1):Link (hgt hs) 0 (ends hs):=by
 have hr:=Km hs
 cases e:ends hs with
 |nil=>trivial
 |cons x E =>
  rw[e] at hr
  obtain⟨r1,r2⟩:=U3s.mp hr
  have low:∀y∈ends hs,x<=y:=fun y hy=>by
   rw[e] at hy
   rcases U0u.mp hy with k|k
   .omega
   .have:=r1 y k;omega
  refine⟨R8 fun t ht w=>?_,RX E x r2 r1 fun y hy=>?_⟩
  .have:=low t.1 (Ht.mpr ⟨t,ht,.inl rfl⟩)
   omega
  .rw[e] at hy
   rcases U0u.mp hy with k|k
   .exact .inr (by omega)
   .exact .inl k
theorem Y6{hs:List T3}(hp:∀t∈hs,t.1<t.2.1/\-30<=t.1/\t.2.1<230):(((ups (-30) 260).map fun x=>(x,hgt hs x)).foldl Bw ([],0)).1=sky hs:=by
 have z:hgt hs (-30-1)=0:=R8 fun t ht w=>by have:=hp t ht;omega
 have l1:=Tw (hgt hs) 260 (-30)
 rw[z] at l1
 unfold sky
 rw[Kq _ _ _ _ l1,Kq _ _ _ _ (RZ hs fun t ht=>(hp t ht).1)]
 congr 2
 refine Kh ((TJ _ _).sublist List.filter_sublist) ((Km hs).sublist List.filter_sublist) fun x=>?_
 rw[U3v,U3v]
 constructor
 .rintro⟨h1,h2⟩
  refine⟨?_,h2⟩
  by_cases k:x∈ends hs
  .exact k
  .refine absurd (UG (hs:=hs) (x:=x-1) (y:=x) (by omega) fun e he w=>k ?_) (of_decide_eq_true h2)
   rw[show x=e by omega];exact he
 .rintro⟨h1,h2⟩
  refine⟨VH.mpr ?_,h2⟩
  obtain⟨t,ht,k⟩:=Ht.mp h1
  have:=hp t ht
  omega
theorem Vp{hs:List T3}(h:Hs hs)(x:Int):0<=hgt hs x/\hgt hs x<=1000000000:=by
 unfold hgt
 cases e:Hj (DG hs x) with
 |none=>exact⟨by decide,by decide⟩
 |some m =>
  obtain⟨t,ht,rfl⟩:=U3f.mp (Ln e).1
  have:=h.all t (U3v.mp ht).1
  show 0<=t.2.2/\t.2.2<=1000000000
  omega
theorem Z2{hs:List T3}(h:Hs hs):aM (sky hs):=by
 unfold sky
 rw[Kq _ _ _ _ (RZ hs fun t ht=>(h.all t ht).1)]
 intro p hp
 obtain⟨x,hx,rfl⟩:=U3f.mp hp
 obtain⟨t,ht,k⟩:=Ht.mp (U3v.mp hx).1
 have:=h.all t ht
 have:=Vp h x
 show -10000000000<=x/\x<=10000000000/\-10000000000<=hgt hs x/\hgt hs x<=10000000000
 omega
end W28
end
section
namespace W28
open PySem L2 VS
theorem pow10(k:Nat)(hk:k<=1000)(env:VS.Env)(S:Store):eOp DN (eC (.int 10)) (eC (.int k)) env S=some (.int (10^k),S):=by
 have h:Iu 10 (k:Int)=true:=by
  unfold Iu
  simp
  omega
 rw[Bb,GD,U0b,GD,U0b]
 show(if Iu 10 (k:Int)=true then some (D.int (10^(k:Int).toNat)) else none).map _=_
 rw[if_pos h,U4n];rfl
theorem cC(x y z:Int)(t:T3)(ht:0<t.2.1-t.1/\t.2.1-t.1<=2000000000)(L:List Int)(hl:L.length<=1000)(z0:0<=z)(z1:z<10000000)(e1:Option D):∃(L':List Int)(x' z':Int),L'.length=L.length+5/\(z<=z'/\z'<=z+1) /\
  HB [some (.ref 0),e1,some (.lst true (L.map .int)),some (.int t.1),some (.int t.2.1),some (.int t.2.2)] [some [.int x,.int y,.int z]]=some (.nx,[some (.ref 0),e1,some (.lst true (L'.map .int)),some (.int t.1),some (.int t.2.1),some (.int t.2.2)],[some [.int x',.int y,.int z']]):=by
 obtain⟨f,x',z',d1,f0,k1,k2⟩:=Dt x y z (t.2.1-t.1) ht.1 (by omega) z0 (by omega)
 refine⟨L++[t.1-1,t.1,t.2.1-1,t.2.1,t.1+f],x',z',by simp,⟨k1,k2⟩,?_⟩
 have c1:Am Ag (Aa (Ac 0) (Aa (eOp Fd (Ac 4) (Ac 3)) Ae)) [some (.ref 0),e1,some (.lst true (L.map .int)),some (.int t.1),some (.int t.2.1),some (.int t.2.2)] [some [.int x,.int y,.int z]]=some (.int f,[some [.int x',.int y,.int z']]):=Dz d1 rfl rfl
 have v3:Ac 3 [some (.ref 0),e1,some (.lst true (L.map .int)),some (.int t.1),some (.int t.2.1),some (.int t.2.2)] [some [.int x,.int y,.int z]]=some (.int t.1,[some [.int x,.int y,.int z]]):=rfl
 have v4:Ac 4 [some (.ref 0),e1,some (.lst true (L.map .int)),some (.int t.1),some (.int t.2.1),some (.int t.2.2)] [some [.int x,.int y,.int z]]=some (.int t.2.1,[some [.int x,.int y,.int z]]):=rfl
 have w1:eOp Fd (Ac 3) (eC (.int 1)) [some (.ref 0),e1,some (.lst true (L.map .int)),some (.int t.1),some (.int t.2.1),some (.int t.2.2)] [some [.int x,.int y,.int z]]=some (.int (t.1-1),[some [.int x,.int y,.int z]]):=rfl
 have w2:eOp Fd (Ac 4) (eC (.int 1)) [some (.ref 0),e1,some (.lst true (L.map .int)),some (.int t.1),some (.int t.2.1),some (.int t.2.2)] [some [.int x,.int y,.int z]]=some (.int (t.2.1-1),[some [.int x,.int y,.int z]]):=rfl
 have w3:eOp Bk (Ac 3) (Am Ag (Aa (Ac 0) (Aa (eOp Fd (Ac 4) (Ac 3)) Ae))) [some (.ref 0),e1,some (.lst true (L.map .int)),some (.int t.1),some (.int t.2.1),some (.int t.2.2)] [some [.int x,.int y,.int z]]=some (.int (t.1+f),[some [.int x',.int y,.int z']]):=by
  rw[Bb,v3,U0b,c1];rfl
 have w4:BL (Aa (eOp Fd (Ac 3) (eC (.int 1))) (Aa (Ac 3) (Aa (eOp Fd (Ac 4) (eC (.int 1))) (Aa (Ac 4) (Aa (eOp Bk (Ac 3) (Am Ag (Aa (Ac 0) (Aa (eOp Fd (Ac 4) (Ac 3)) Ae)))) Ae))))) [some (.ref 0),e1,some (.lst true (L.map .int)),some (.int t.1),some (.int t.2.1),some (.int t.2.2)] [some [.int x,.int y,.int z]]=some (.lst true ([t.1-1,t.1,t.2.1-1,t.2.1,t.1+f].map .int),[some [.int x',.int y,.int z']]):=by
  rw[Di,Aq,w1,U0b,Aq,v3,U0b,Aq,w2,U0b,Aq,v4,U0b,Aq,w3];rfl
 have v2:Ac 2 [some (.ref 0),e1,some (.lst true (L.map .int)),some (.int t.1),some (.int t.2.1),some (.int t.2.2)] [some [.int x,.int y,.int z]]=some (.lst true (L.map .int),[some [.int x,.int y,.int z]]):=rfl
 unfold HB
 rw[Ce,Bb,v2,U0b,w4,U0b]
 show(U2q _ (if (L.map D.int).length+5<=1000000 then some (D.lst true (L.map D.int++[t.1-1,t.1,t.2.1-1,t.2.1,t.1+f].map D.int)) else none)).bind _=_
 rw[if_pos (by rw[U0g];omega),←U18];rfl
theorem Xe(hs:List T3)(a b:Option Int):∃ks:List T3,cut (hs.map Ab) a b=ks.map Ab/\ks.length<=hs.length/\∀t∈ks,t∈hs:=by
 unfold cut
 rw[←List.map_drop,←List.map_take]
 exact⟨_,rfl,by rw[U1i,U1s];omega,fun t ht=>List.mem_of_mem_drop (List.mem_of_mem_take ht)⟩
theorem bw{hs:List T3}(h:Hs hs)(x y z:Int)(z0:0<=z)(z1:z<1000000):∃(ns:List Int)(x' z':Int),DW [x,y,z] [.lst false (hs.map Ab)]=some (.lst true (ns.map .int),[x',y,z'])/\ns.length<=1000/\z<=z'/\z'<=z+100:=by
 have few:=h.few
 obtain⟨L0,s1,hL0⟩:∃L0:List Int,(Bh 2 (BL (Aa (eC (.int 0)) (Aa (eOp DN (eC (.int 10)) (eC (.int 9))) (Aa (eOp Fd (eC (.int 0)) (eOp DN (eC (.int 10)) (eC (.int 9)))) (Aa (eOp DN (eC (.int 10)) (eC (.int 39))) Ae)))))) [some (.ref 0),some (.lst false (hs.map Ab)),none,none,none,none] [some [.int x,.int y,.int z]]=some (.nx,[some (.ref 0),some (.lst false (hs.map Ab)),some (.lst true (L0.map .int)),none,none,none],[some [.int x,.int y,.int z]])/\L0.length=4:=by
  have a9:=pow10 9 (by decide) [some (.ref 0),some (.lst false (hs.map Ab)),none,none,none,none] [some [.int x,.int y,.int z]]
  have a39:=pow10 39 (by decide) [some (.ref 0),some (.lst false (hs.map Ab)),none,none,none,none] [some [.int x,.int y,.int z]]
  have b9:eOp DN (eC (.int 10)) (eC (.int 9)) [some (.ref 0),some (.lst false (hs.map Ab)),none,none,none,none] [some [.int x,.int y,.int z]]=some (.int (10^9),[some [.int x,.int y,.int z]]):=a9
  have b39:eOp DN (eC (.int 10)) (eC (.int 39)) [some (.ref 0),some (.lst false (hs.map Ab)),none,none,none,none] [some [.int x,.int y,.int z]]=some (.int (10^39),[some [.int x,.int y,.int z]]):=a39
  obtain⟨v,c9⟩:∃v:Int,eOp Fd (eC (.int 0)) (eOp DN (eC (.int 10)) (eC (.int 9))) [some (.ref 0),some (.lst false (hs.map Ab)),none,none,none,none] [some [.int x,.int y,.int z]]=some (.int v,[some [.int x,.int y,.int z]]):=⟨_,by
   rw[Bb,GD,U0b,b9];rfl⟩
  refine⟨[0,10^9,v,10^39],?_,rfl⟩
  rw[Ce,Di,Aq,GD,U0b,Aq,b9,U0b,Aq,c9,U0b,Aq,b39,U0b,Dj]
  simp only[U0b,U0n,U1m,List.set_cons_succ,List.set_cons_zero]
 obtain⟨k1,c1,kl1,km1⟩:=Xe hs none (some 6)
 obtain⟨k2,c2,kl2,km2⟩:=Xe hs (some (-4)) none
 have e:Dl (eOp Bk (eSl oSl (Ac 1) J8 (J7 (eC (.int 6)))) (eSl oSl (Ac 1) (J7 (eUn Ep (eC (.int 4)))) J8)) [some (.ref 0),some (.lst false (hs.map Ab)),some (.lst true (L0.map .int)),none,none,none] [some [.int x,.int y,.int z]]=some (((k1++k2).map Ab,[]),[some [.int x,.int y,.int z]]):=by
  have a1:eSl oSl (Ac 1) J8 (J7 (eC (.int 6))) [some (.ref 0),some (.lst false (hs.map Ab)),some (.lst true (L0.map .int)),none,none,none] [some [.int x,.int y,.int z]]=some (.lst true (k1.map Ab),[some [.int x,.int y,.int z]]):=by
   show(some (D.lst true (cut (hs.map Ab) none (some 6)),_):Option (D×Store))=_
   rw[c1]
  have a2:eSl oSl (Ac 1) (J7 (eUn Ep (eC (.int 4)))) J8 [some (.ref 0),some (.lst false (hs.map Ab)),some (.lst true (L0.map .int)),none,none,none] [some [.int x,.int y,.int z]]=some (.lst true (k2.map Ab),[some [.int x,.int y,.int z]]):=by
   show(some (D.lst true (cut (hs.map Ab) (some (-4)) none),_):Option (D×Store))=_
   rw[c2]
  rw[Om,add_lists a1 a2 (by rw[U0g,U0g];omega),←U18]
  rfl
 have hks:∀t∈k1++k2,t∈hs:=fun t ht=>by
  rcases U1l.mp ht with w|w
  .exact km1 t w
  .exact km2 t w
 have kl:(k1++k2).length<=80:=by rw[U0i];omega
 generalize k1++k2=ks at *
 obtain⟨env',S',e5,L,x',z',y3,y4,y5,he,hS,hl,k7,k8⟩:=GF (w:=[]) (g:=Pat.sem (.tp [(.nm 3),(.nm 4),(.nm 5)])) (b:=HB) (ds:=ks.map Ab) (env:=[some (.ref 0),some (.lst false (hs.map Ab)),some (.lst true (L0.map .int)),none,none,none]) (S:=[some [.int x,.int y,.int z]])
  (fun i env S=>∃(L:List Int)(x' z':Int)(y3 y4 y5:Option D),env=[some (.ref 0),some (.lst false (hs.map Ab)),some (.lst true (L.map .int)),y3,y4,y5]/\S=[some [.int x',.int y,.int z']]/\L.length=4+5*min i ks.length/\z<=z'/\z'<=z+min i ks.length)
  ⟨L0,x,z,none,none,none,rfl,rfl,by simp[hL0],by omega,by simp⟩ (fun i env S _=>by simp) (fun i d env S hd q=>by
   obtain⟨L,x',z',y3,y4,y5,he,hS,hl,k7,k8⟩:=q
   subst he hS
   rw[U0v] at hd
   obtain⟨t,ht,rfl⟩:=U2e.mp hd
   have hi:i<ks.length:=(U0h.mp ht).1
   have hmi:min i ks.length=i:=by omega
   have hmi2:min (i+1) ks.length=i+1:=by omega
   rw[hmi] at hl k8
   have:=h.all t (hks t (U12 ht))
   obtain⟨L',x5,z5,g1,⟨g2,g3⟩,b1⟩:=cC x' y z' t ⟨by omega,by omega⟩ L (by omega) (by omega) (by omega) (some (.lst false (hs.map Ab)))
   refine⟨[some (.ref 0),some (.lst false (hs.map Ab)),some (.lst true (L.map .int)),some (.int t.1),some (.int t.2.1),some (.int t.2.2)],by simp[Es,Ng,KD,JV,-U0s,-U0y,Ab],_,_,b1,L',x5,z5,_,_,_,rfl,rfl,by rw[hmi2];omega,by omega,by rw[hmi2];omega⟩)
 subst he hS
 have l1:J5 [some (.ref 0),some (.lst false (hs.map Ab)),some (.lst true (L0.map .int)),none,none,none] [some [.int x,.int y,.int z]]=some (.nx,[some (.ref 0),some (.lst false (hs.map Ab)),some (.lst true (L.map .int)),y3,y4,y5],[some [.int x',.int y,.int z']]):=by
  unfold J5
  rw[Gq,e]
  exact e5
 refine⟨L,x',z',?_,by omega,by omega,by omega⟩
 unfold DW
 rw[Gs]
 simp only[U0f,U1b,U0n,U1m,U10,U11,U02,U1d,U15,U1y,if_true]
 unfold Mv
 rw[Ba s1,Ba l1]
 simp[Cg,DY,intsOf,den,-U0s,-U0y]
theorem ZF(S:Store){v:Int}(h:0<=v/\v<=1000000000):El S [.int v]=some (.str (U3u (.int v))) :=
 Qx (p:=.int v) (ws:=[]) (by rw[CT,den];rfl) (decide_eq_true (by
  show v.natAbs<10^41
  exact U3r (m:=1000000000) (by omega) (by decide))) (by decide) (by decide)
theorem ZD{hs:List T3}(h:Hs hs)(nr:Bool)(n:Int)(e6 e7 e8:Option D)(S:Store):Ip [some (.ref 0),some (.lst false (hs.map Ab)),some (.bl nr),some (.lst true (hs.map Ab)),some (.lst true ((sky hs).map Ak)),some (.int n),e6,e7,e8] S=some (.nx,[some (.ref 0),some (.lst false (hs.map Ab)),some (.bl nr),some (.lst true (hs.map Ab)),some (.lst true ((sky hs).map Ak)),some (.int n),e6,e7,e8],S):=by
 have c1:Ax Dg (Aa (Ac 3) (Aa (Ac 5) Ae)) [some (.ref 0),some (.lst false (hs.map Ab)),some (.bl nr),some (.lst true (hs.map Ab)),some (.lst true ((sky hs).map Ak)),some (.int n),e6,e7,e8] S=some (.int (hgt hs n),S) :=
  Ck (ds:=[.lst true (hs.map Ab),.int n]) (es:=[.lst false (hs.map Ab),.int n]) rfl (Ju ..) (Lh ..) (YG h n)
 have c2:Ax BP (Aa (Ac 1) (Aa (Ac 5) Ae)) [some (.ref 0),some (.lst false (hs.map Ab)),some (.bl nr),some (.lst true (hs.map Ab)),some (.lst true ((sky hs).map Ak)),some (.int n),e6,e7,e8] S=some (.int (hgt hs n),S) :=
  Ck (ds:=[.lst false (hs.map Ab),.int n]) (es:=[.lst false (hs.map Ab),.int n]) rfl (Ju ..) (Lh ..) (Mi h n)
 have r:=ZF S (Vp h n)
 have k1:Bm (eOp (M5 true) (eCB El (Aa (Ax Dg (Aa (Ac 3) (Aa (Ac 5) Ae))) Ae)) (eCB El (Aa (Ax BP (Aa (Ac 1) (Aa (Ac 5) Ae))) Ae))) [some (.ref 0),some (.lst false (hs.map Ab)),some (.bl nr),some (.lst true (hs.map Ab)),some (.lst true ((sky hs).map Ak)),some (.int n),e6,e7,e8] S=some (false,S):=by
  have d1:eCB El (Aa (Ax Dg (Aa (Ac 3) (Aa (Ac 5) Ae))) Ae) [some (.ref 0),some (.lst false (hs.map Ab)),some (.bl nr),some (.lst true (hs.map Ab)),some (.lst true ((sky hs).map Ak)),some (.int n),e6,e7,e8] S=some (.str (U3u (.int (hgt hs n))),S):=by
   rw[FP,Aq,c1]
   simp only[U0b,Dj,r,U5w]
  have d2:eCB El (Aa (Ax BP (Aa (Ac 1) (Aa (Ac 5) Ae))) Ae) [some (.ref 0),some (.lst false (hs.map Ab)),some (.bl nr),some (.lst true (hs.map Ab)),some (.lst true ((sky hs).map Ak)),some (.int n),e6,e7,e8] S=some (.str (U3u (.int (hgt hs n))),S):=by
   rw[FP,Aq,c2]
   simp only[U0b,Dj,r,U5w]
  rw[DX,Bb,d1,U0b,d2,U0b]
  simp[M5]
 unfold Ip
 rw[Gg k1];rfl
theorem cQ(hs:List T3):lev 2 (.list (hs.map pT3))=true:=by
 show(hs.map pT3).all (lev 1)=true
 rw[U27]
 intro x hx
 obtain⟨t,_,rfl⟩:=U3f.mp hx
 simp[pT3,lev]
theorem ZC{hs:List T3}(h:Hs hs)(nr:Bool)(W:Option (List D))(T:Store)(e5 e6 z7 e8:Option D):∃(y7:Option D)(T':Store),Io [some (.ref 0),some (.lst false (hs.map Ab)),some (.bl nr),some (.lst true (hs.map Ab)),some (.lst true ((sky hs).map Ak)),e5,e6,z7,e8] (W::T)=some (.nx,[some (.ref 0),some (.lst false (hs.map Ab)),some (.bl nr),some (.lst true (hs.map Ab)),some (.lst true ((sky hs).map Ak)),e5,e6,y7,e8],W::T'):=by
 have h1:=Sy h
 have few:=aq h.few
 have nr':=Z2 h
 have c0:Ax Bg (Aa (Ac 3) Ae) [some (.ref 0),some (.lst false (hs.map Ab)),some (.bl nr),some (.lst true (hs.map Ab)),some (.lst true ((sky hs).map Ak)),e5,e6,z7,e8] (W::T)=some (.lst true ((sky hs).map Ak),W::T) :=
  Ck (ds:=[.lst true (hs.map Ab)]) (es:=[.lst false (hs.map Ab)]) rfl (Hx ..) (JR ..) h1
 have a1:JQ Bg (Aa (Ac 3) Ae) [some (.ref 0),some (.lst false (hs.map Ab)),some (.bl nr),some (.lst true (hs.map Ab)),some (.lst true ((sky hs).map Ak)),e5,e6,z7,e8] (W::T)=some (.ref (W::T).length,(W::T)++[some ((sky hs).map Ak)]):=TX c0 (by rw[Mz,if_pos (Jx _)])
 have s1:(Bh 7 (JQ Bg (Aa (Ac 3) Ae))) [some (.ref 0),some (.lst false (hs.map Ab)),some (.bl nr),some (.lst true (hs.map Ab)),some (.lst true ((sky hs).map Ak)),e5,e6,z7,e8] (W::T)=some (.nx,[some (.ref 0),some (.lst false (hs.map Ab)),some (.bl nr),some (.lst true (hs.map Ab)),some (.lst true ((sky hs).map Ak)),e5,e6,some (.ref (W::T).length),e8],(W::T)++[some ((sky hs).map Ak)]):=by rw[Ce,a1];rfl
 have u0:=M7 (W::T) (some ((sky hs).map Ak)) []
 have ft:=j4 (l:=sky hs) (by omega) nr'
 have r1:=Qx (X8 u0) ft (by decide) (by decide)
 have r2:=Qx (Nb ((W::T)++[some ((sky hs).map Ak)]) true (sky hs)) ft (by decide) (by decide)
 have q0:=Py (neg:=true) 2 (Oe ((W::T)++[some ((sky hs).map Ak)]) true hs) (Oe ((W::T)++[some ((sky hs).map Ak)]) false hs) (cQ hs) (by decide)
 generalize sky hs=Q at *
 obtain⟨U,hU⟩:∃U:Store,U=(W::T)++[some (Q.map Ak)]:=⟨_,rfl⟩
 rw[←hU] at r1 r2 q0 u0
 have k1:Bm (eOp (M5 true) (eCB El (Aa (Ac 7) Ae)) (eCB El (Aa (Ac 4) Ae))) [some (.ref 0),some (.lst false (hs.map Ab)),some (.bl nr),some (.lst true (hs.map Ab)),some (.lst true (Q.map Ak)),e5,e6,some (.ref (W::T).length),e8] U=some (false,U):=by
  have d1:eCB El (Aa (Ac 7) Ae) [some (.ref 0),some (.lst false (hs.map Ab)),some (.bl nr),some (.lst true (hs.map Ab)),some (.lst true (Q.map Ak)),e5,e6,some (.ref (W::T).length),e8] U=some (.str (U3u (.list (Q.map pS))),U):=by
   show U2q _ (El U [.ref (W::T).length])=_
   rw[r1];rfl
  have d2:eCB El (Aa (Ac 4) Ae) [some (.ref 0),some (.lst false (hs.map Ab)),some (.bl nr),some (.lst true (hs.map Ab)),some (.lst true (Q.map Ak)),e5,e6,some (.ref (W::T).length),e8] U=some (.str (U3u (.list (Q.map pS))),U):=by
   show U2q _ (El U [.lst true (Q.map Ak)])=_
   rw[r2];rfl
  rw[DX,Bb,d1,U0b,d2,U0b]
  simp[M5]
 have k2:Bm (eOp (oEq true) (Ac 3) (Ac 1)) [some (.ref 0),some (.lst false (hs.map Ab)),some (.bl nr),some (.lst true (hs.map Ab)),some (.lst true (Q.map Ak)),e5,e6,some (.ref (W::T).length),e8] U=some (false,U):=by
  have v3:Ac 3 [some (.ref 0),some (.lst false (hs.map Ab)),some (.bl nr),some (.lst true (hs.map Ab)),some (.lst true (Q.map Ak)),e5,e6,some (.ref (W::T).length),e8] U=some (.lst true (hs.map Ab),U):=rfl
  have v1:Ac 1 [some (.ref 0),some (.lst false (hs.map Ab)),some (.bl nr),some (.lst true (hs.map Ab)),some (.lst true (Q.map Ak)),e5,e6,some (.ref (W::T).length),e8] U=some (.lst false (hs.map Ab),U):=rfl
  have q':oEq true U (.lst true (hs.map Ab)) (.lst false (hs.map Ab))=some (.bl false):=q0
  rw[DX,Bb,v3,U0b,v1,U0b,q'];rfl
 have s2:(sIf (VS.tOr (Bm (eOp (M5 true) (eCB El (Aa (Ac 7) Ae)) (eCB El (Aa (Ac 4) Ae)))) (Bm (eOp (oEq true) (Ac 3) (Ac 1)))) (Dc (eC (.bl false))) Fy) [some (.ref 0),some (.lst false (hs.map Ab)),some (.bl nr),some (.lst true (hs.map Ab)),some (.lst true (Q.map Ak)),e5,e6,some (.ref (W::T).length),e8] U=some (.nx,[some (.ref 0),some (.lst false (hs.map Ab)),some (.bl nr),some (.lst true (hs.map Ab)),some (.lst true (Q.map Ak)),e5,e6,some (.ref (W::T).length),e8],U):=by
  rw[Gg (by
   rw[X6,k1]
   simp only[U0b,U07,if_false]
   exact k2)]
  rfl
 have s3:(Hh (Gn Ez (Ac 7) (Aa (BW (Aa (eC (.int 0)) (Aa (eC (.int 0)) Ae))) Ae))) [some (.ref 0),some (.lst false (hs.map Ab)),some (.bl nr),some (.lst true (hs.map Ab)),some (.lst true (Q.map Ak)),e5,e6,some (.ref (W::T).length),e8] U=some (.nx,[some (.ref 0),some (.lst false (hs.map Ab)),some (.bl nr),some (.lst true (hs.map Ab)),some (.lst true (Q.map Ak)),e5,e6,some (.ref (W::T).length),e8],(W::T)++[some (Q.map Ak++[Ak (0,0)])]):=Ly (i:=(W::T).length) rfl u0 rfl (by rw[U0g];omega) (by rw[hU];exact N5 ..)
 refine⟨some (.ref (W::T).length),T++[some (Q.map Ak++[Ak (0,0)])],?_⟩
 unfold Io
 rw[Ba s1,←hU,Ba s2,s3]
 rfl
end W28
end
section
namespace W28
open PySem L2 VS
theorem Z9{hs:List T3}(h:Hs hs)(nr:Bool)(n:Int)(acc:List St2)(hl:acc.length<1000)(W:Option (List D))(T:Store)(e6 e7:Option D):Im [some (.ref 0),some (.lst false (hs.map Ab)),some (.bl nr),some (.lst true (hs.map Ab)),some (.lst true ((sky hs).map Ak)),some (.int n),e6,e7,some (.ref (W::T).length)] ((W::T)++[some (acc.map Ak)])=some (.nx,[some (.ref 0),some (.lst false (hs.map Ab)),some (.bl nr),some (.lst true (hs.map Ab)),some (.lst true ((sky hs).map Ak)),some (.int n),e6,e7,some (.ref (W::T).length)],(W::T)++[some ((if nr=true then (Bw (acc,hgt hs (n-1)) (n,hgt hs n)).1 else acc).map Ak)]):=by
 obtain⟨S,hS⟩:∃S:Store,S=(W::T)++[some (acc.map Ak)]:=⟨_,rfl⟩
 have u0:S[(W::T).length]?=some (some (acc.map Ak)):=by rw[hS];exact M7 (W::T) _ []
 obtain⟨r,hr⟩:∃r:VS.Env,r=[some (.ref 0),some (.lst false (hs.map Ab)),some (.bl nr),some (.lst true (hs.map Ab)),some (.lst true ((sky hs).map Ak)),some (.int n),e6,e7,some (.ref (W::T).length)]:=⟨_,rfl⟩
 have v2:Bm (Ac 2) r S=some (nr,S):=by rw[hr];cases nr<;>rfl
 have v5:Ac 5 r S=some (.int n,S):=by rw[hr];rfl
 have v8:Ac 8 r S=some (.ref (W::T).length,S):=by rw[hr];rfl
 have c1:Ax BP (Aa (Ac 1) (Aa (Ac 5) Ae)) r S=some (.int (hgt hs n),S) :=
  Ck (ds:=[.lst false (hs.map Ab),.int n]) (es:=[.lst false (hs.map Ab),.int n]) (by rw[hr];rfl) (Ju ..) (Lh ..) (Mi h n)
 have c2:Ax BP (Aa (Ac 1) (Aa (eOp Fd (Ac 5) (eC (.int 1))) Ae)) r S=some (.int (hgt hs (n-1)),S) :=
  Ck (ds:=[.lst false (hs.map Ab),.int (n-1)]) (es:=[.lst false (hs.map Ab),.int (n-1)]) (by rw[hr];rfl) (Ju ..) (Lh ..) (Mi h (n-1))
 have t2:Bm (eOp (oEq true) (Ax BP (Aa (Ac 1) (Aa (Ac 5) Ae))) (Ax BP (Aa (Ac 1) (Aa (eOp Fd (Ac 5) (eC (.int 1))) Ae)))) r S=some (!decide (hgt hs n=hgt hs (n-1)),S):=by
  rw[DX,Bb,c1,U0b,c2,U0b]
  show some ((true ^^ decide (hgt hs n=hgt hs (n-1))),_)=_
  rw[U61]
 rw[←hr,←hS]
 unfold Im
 cases nr with
 |false =>
  rw[Gg (by rw[Lj,v2];rfl),if_neg (by decide),←hS];rfl
 |true =>
  have ts:VS.K1 (Bm (Ac 2)) (Bm (eOp (oEq true) (Ax BP (Aa (Ac 1) (Aa (Ac 5) Ae))) (Ax BP (Aa (Ac 1) (Aa (eOp Fd (Ac 5) (eC (.int 1))) Ae))))) r S=some (!decide (hgt hs n=hgt hs (n-1)),S):=by
   rw[Lj,v2]
   simp only[U0b,if_true]
   exact t2
  rw[if_pos rfl]
  unfold Bw
  by_cases z:hgt hs n=hgt hs (n-1)
  .rw[decide_eq_true z] at ts
   rw[Gg ts,if_neg (by simp[z]),←hS];rfl
  .rw[decide_eq_false z] at ts
   rw[K9 ts,if_pos z,U18]
   refine Ly v8 u0 (d:=Ak (n,hgt hs n)) ?_ (by rw[U0g];omega) (by rw[hS];exact N5 ..)
   rw[Lw,Aq,v5,U0b,Aq,c1];rfl
def obo(hs:List T3)(nr:Bool)(i:Nat):List St2:=if nr=true then (((ups (-30) i).map fun x=>(x,hgt hs x)).foldl Bw ([],0)).1 else []
theorem bh(hs:List T3)(nr:Bool)(i:Nat):(obo hs nr i).length<=i:=by
 unfold obo
 split
 .have:=Nm ((ups (-30) i).map fun x=>(x,hgt hs x)) ([],0)
  have hu:(ups (-30) i).length=i:=by simp[ups]
  rw[U0g,hu] at this
  simpa using this
 .simp
theorem Y4{hs:List T3}(hz:hgt hs (-31)=0):∀i:Nat,(((ups (-30) i).map fun x=>(x,hgt hs x)).foldl Bw ([],0)).2=hgt hs (-30+i-1)
 |0=>hz.symm
 |i+1=>by
  rw[TF,U18,U3g]
  show hgt hs (-30+i)=_
  congr 1
  omega
theorem Z8{hs:List T3}(h:Hs hs)(nr:Bool)(hz:nr=true->hgt hs (-31)=0)(W:Option (List D))(T:Store)(z5 e6 e7:Option D):∃y5:Option D,KQ [some (.ref 0),some (.lst false (hs.map Ab)),some (.bl nr),some (.lst true (hs.map Ab)),some (.lst true ((sky hs).map Ak)),z5,e6,e7,some (.ref (W::T).length)] ((W::T)++[some []])=some (.nx,[some (.ref 0),some (.lst false (hs.map Ab)),some (.bl nr),some (.lst true (hs.map Ab)),some (.lst true ((sky hs).map Ak)),y5,e6,e7,some (.ref (W::T).length)],(W::T)++[some ((obo hs nr 260).map Ak)]):=by
 have e:Ls (Aa (eUn Ep (eC (.int 30))) (Aa (eC (.int 230)) Ae)) [some (.ref 0),some (.lst false (hs.map Ab)),some (.bl nr),some (.lst true (hs.map Ab)),some (.lst true ((sky hs).map Ak)),z5,e6,e7,some (.ref (W::T).length)] ((W::T)++[some []])=some ((upD (-30) 260,[]),(W::T)++[some []]):=gJ (i:=-30) (j:=230) 260 rfl (by decide) (by unfold r62;omega) (by unfold r62;omega)
 obtain⟨env',S',e2,y5,he,hS⟩:=GF (w:=[]) (g:=Pat.sem (.nm 5)) (b:=Im) (ds:=upD (-30) 260) (env:=[some (.ref 0),some (.lst false (hs.map Ab)),some (.bl nr),some (.lst true (hs.map Ab)),some (.lst true ((sky hs).map Ak)),z5,e6,e7,some (.ref (W::T).length)]) (S:=(W::T)++[some []])
  (fun i env S=>∃y5:Option D,env=[some (.ref 0),some (.lst false (hs.map Ab)),some (.bl nr),some (.lst true (hs.map Ab)),some (.lst true ((sky hs).map Ak)),y5,e6,e7,some (.ref (W::T).length)]/\S=(W::T)++[some ((obo hs nr i).map Ak)])
  ⟨z5,rfl,by unfold obo;cases nr<;>rfl⟩ (fun i env S _=>by simp) (fun i d env S hd q=>by
   obtain⟨y5,he,hS⟩:=q
   obtain⟨hi,rfl⟩:=VJ hd
   subst he hS
   have:=bh hs nr i
   refine⟨_,Es _ _ _,_,_,Z9 h nr (-30+i) (obo hs nr i) (by omega) W T e6 e7,_,rfl,?_⟩
   congr 3
   cases nr with
   |false=>rfl
   |true =>
    have q:=Y4 (hz rfl) i
    unfold obo
    rw[if_pos rfl,if_pos rfl,if_pos rfl,TF,U18,U3g,←q]
    rfl)
 subst he hS
 rw[Qu] at e2
 refine⟨y5,?_⟩
 unfold KQ
 rw[Gq,e]
 exact e2
theorem Tf{hs:List T3}(h:Hs hs)(nr:Bool)(hn:nr=true->∀t∈hs,-30<=t.1/\t.2.1<230)(x y z:Int)(z0:0<=z)(z1:z<1000000):∃x' z':Int,Cy [x,y,z] [.lst false (hs.map Ab),.bl nr]=some (.bl true,[x',y,z'])/\z<=z'/\z'<=z+100:=by
 obtain⟨ns,x',z',e0,nl,k1,k2⟩:=bw h x y z z0 z1
 refine⟨x',z',?_,k1,k2⟩
 have s1:(Bh 3 (QD nList (Aa (Ac 1) Ae))) [some (.ref 0),some (.lst false (hs.map Ab)),some (.bl nr),none,none,none,none,none,none] [some [.int x,.int y,.int z]]=some (.nx,[some (.ref 0),some (.lst false (hs.map Ab)),some (.bl nr),some (.lst true (hs.map Ab)),none,none,none,none,none],[some [.int x,.int y,.int z]]):=by
  simp[Ce,DY,Dj,Aq,Zk,nList,VS.listOf,Fx,-U0s,-U0y]
 have c2:Ax Ej (Aa (Ac 1) Ae) [some (.ref 0),some (.lst false (hs.map Ab)),some (.bl nr),some (.lst true (hs.map Ab)),none,none,none,none,none] [some [.int x,.int y,.int z]]=some (.lst true ((sky hs).map Ak),[some [.int x,.int y,.int z]]) :=
  Ck (ds:=[.lst false (hs.map Ab)]) (es:=[.lst false (hs.map Ab)]) rfl (Hx ..) (JR ..) (cL h)
 have s2:(Bh 4 (Ax Ej (Aa (Ac 1) Ae))) [some (.ref 0),some (.lst false (hs.map Ab)),some (.bl nr),some (.lst true (hs.map Ab)),none,none,none,none,none] [some [.int x,.int y,.int z]]=some (.nx,[some (.ref 0),some (.lst false (hs.map Ab)),some (.bl nr),some (.lst true (hs.map Ab)),some (.lst true ((sky hs).map Ak)),none,none,none,none],[some [.int x,.int y,.int z]]):=by rw[Ce,c2];rfl
 have c3:Am DW (Aa (Ac 0) (Aa (Ac 1) Ae)) [some (.ref 0),some (.lst false (hs.map Ab)),some (.bl nr),some (.lst true (hs.map Ab)),some (.lst true ((sky hs).map Ak)),none,none,none,none] [some [.int x,.int y,.int z]]=some (.lst true (ns.map .int),[some [.int x',.int y,.int z']]) :=
  GK (ns:=[x,y,z]) (rest:=[.lst false (hs.map Ab)]) (es:=[.lst false (hs.map Ab)]) (i:=0) (S':=[some [.int x,.int y,.int z]]) rfl rfl (Hx ..) (JR ..) e0
 have ea:Dl (Am DW (Aa (Ac 0) (Aa (Ac 1) Ae))) [some (.ref 0),some (.lst false (hs.map Ab)),some (.bl nr),some (.lst true (hs.map Ab)),some (.lst true ((sky hs).map Ak)),none,none,none,none] [some [.int x,.int y,.int z]]=some ((ns.map .int,[]),[some [.int x',.int y,.int z']]):=by rw[Om,c3];rfl
 obtain⟨env',S',e2,y5,he,hS⟩:=GF (w:=[]) (g:=Pat.sem (.nm 5)) (b:=Ip) (ds:=ns.map .int) (env:=[some (.ref 0),some (.lst false (hs.map Ab)),some (.bl nr),some (.lst true (hs.map Ab)),some (.lst true ((sky hs).map Ak)),none,none,none,none]) (S:=[some [.int x',.int y,.int z']])
  (fun _ env S=>∃y5:Option D,env=[some (.ref 0),some (.lst false (hs.map Ab)),some (.bl nr),some (.lst true (hs.map Ab)),some (.lst true ((sky hs).map Ak)),y5,none,none,none]/\S=[some [.int x',.int y,.int z']]) ⟨none,rfl,rfl⟩ (fun i env S _=>by simp) (fun i d env S hd q=>by
   obtain⟨y5,he,hS⟩:=q
   subst he hS
   rw[U0v] at hd
   obtain⟨n,_,rfl⟩:=U2e.mp hd
   exact⟨_,Es _ _ _,_,_,ZD h nr n none none none _,_,rfl,rfl⟩)
 subst he hS
 have l1:KY [some (.ref 0),some (.lst false (hs.map Ab)),some (.bl nr),some (.lst true (hs.map Ab)),some (.lst true ((sky hs).map Ak)),none,none,none,none] [some [.int x,.int y,.int z]]=some (.nx,[some (.ref 0),some (.lst false (hs.map Ab)),some (.bl nr),some (.lst true (hs.map Ab)),some (.lst true ((sky hs).map Ak)),y5,none,none,none],[some [.int x',.int y,.int z']]):=by
  unfold KY
  rw[Gq,ea]
  exact e2
 have eb:J3 (Aa (eC (.int 2)) Ae) [some (.ref 0),some (.lst false (hs.map Ab)),some (.bl nr),some (.lst true (hs.map Ab)),some (.lst true ((sky hs).map Ak)),y5,none,none,none] [some [.int x',.int y,.int z']]=some ((upD 0 2,[]),[some [.int x',.int y,.int z']]):=XC (j:=2) 2 rfl (by decide) (by decide) (by decide)
 obtain⟨env',S',e3,y6,y7,T,he,hS⟩:=GF (w:=[]) (g:=Pat.sem (.nm 6)) (b:=Io) (ds:=upD 0 2) (env:=[some (.ref 0),some (.lst false (hs.map Ab)),some (.bl nr),some (.lst true (hs.map Ab)),some (.lst true ((sky hs).map Ak)),y5,none,none,none]) (S:=[some [.int x',.int y,.int z']])
  (fun _ env S=>∃(y6 y7:Option D)(T:Store),env=[some (.ref 0),some (.lst false (hs.map Ab)),some (.bl nr),some (.lst true (hs.map Ab)),some (.lst true ((sky hs).map Ak)),y5,y6,y7,none]/\S=some [.int x',.int y,.int z']::T) ⟨none,none,[],rfl,rfl⟩ (fun i env S _=>by simp) (fun i d env S hd q=>by
   obtain⟨y6,y7,T,he,hS⟩:=q
   subst he hS
   obtain⟨w7,T',b⟩:=ZC h nr (some [.int x',.int y,.int z']) T y5 (some d) y7 none
   exact⟨_,Es _ _ _,_,_,b,_,_,_,rfl,rfl⟩)
 subst he hS
 have l2:KR [some (.ref 0),some (.lst false (hs.map Ab)),some (.bl nr),some (.lst true (hs.map Ab)),some (.lst true ((sky hs).map Ak)),y5,none,none,none] [some [.int x',.int y,.int z']]=some (.nx,[some (.ref 0),some (.lst false (hs.map Ab)),some (.bl nr),some (.lst true (hs.map Ab)),some (.lst true ((sky hs).map Ak)),y5,y6,y7,none],some [.int x',.int y,.int z']::T):=by
  unfold KR
  rw[Gq,eb]
  exact e3
 have s3:(Bh 8 (JX Ae)) [some (.ref 0),some (.lst false (hs.map Ab)),some (.bl nr),some (.lst true (hs.map Ab)),some (.lst true ((sky hs).map Ak)),y5,y6,y7,none] (some [.int x',.int y,.int z']::T)=some (.nx,[some (.ref 0),some (.lst false (hs.map Ab)),some (.bl nr),some (.lst true (hs.map Ab)),some (.lst true ((sky hs).map Ak)),y5,y6,y7,some (.ref (some [.int x',.int y,.int z']::T).length)],(some [.int x',.int y,.int z']::T)++[some []]):=rfl
 have hz:nr=true->hgt hs (-31)=0:=fun w=>R8 fun t ht q=>by have:=hn w t ht;omega
 obtain⟨w5,l3⟩:=Z8 h nr hz (some [.int x',.int y,.int z']) T y5 y6 y7
 have fin:eOr (Qp (Ac 2)) (eOp (oEq false) (Ac 8) (Ac 4)) [some (.ref 0),some (.lst false (hs.map Ab)),some (.bl nr),some (.lst true (hs.map Ab)),some (.lst true ((sky hs).map Ak)),w5,y6,y7,some (.ref (some [.int x',.int y,.int z']::T).length)] ((some [.int x',.int y,.int z']::T)++[some ((obo hs nr 260).map Ak)])=some (.bl true,(some [.int x',.int y,.int z']::T)++[some ((obo hs nr 260).map Ak)]):=by
  cases nr with
  |false=>rfl
  |true =>
   have eo:obo hs true 260=sky hs:=Y6 fun t ht=>by
    have:=h.all t ht
    have:=hn rfl t ht
    omega
   rw[eo]
   have u0:=M7 (some [D.int x',.int y,.int z']::T) (some ((sky hs).map Ak)) []
   have q0:=Py (neg:=false) 2 (X8 u0) (Nb ((some [D.int x',.int y,.int z']::T)++[some ((sky hs).map Ak)]) true (sky hs)) (XM (sky hs)) (by decide)
   generalize sky hs=Q at *
   obtain⟨U,hU⟩:∃U:Store,U=(some [D.int x',.int y,.int z']::T)++[some (Q.map Ak)]:=⟨_,rfl⟩
   rw[←hU] at q0 ⊢
   have n2:Qp (Ac 2) [some (.ref 0),some (.lst false (hs.map Ab)),some (.bl true),some (.lst true (hs.map Ab)),some (.lst true (Q.map Ak)),w5,y6,y7,some (.ref (some [D.int x',.int y,.int z']::T).length)] U=some (.bl false,U):=rfl
   have v8:Ac 8 [some (.ref 0),some (.lst false (hs.map Ab)),some (.bl true),some (.lst true (hs.map Ab)),some (.lst true (Q.map Ak)),w5,y6,y7,some (.ref (some [D.int x',.int y,.int z']::T).length)] U=some (.ref (some [D.int x',.int y,.int z']::T).length,U):=rfl
   have v4:Ac 4 [some (.ref 0),some (.lst false (hs.map Ab)),some (.bl true),some (.lst true (hs.map Ab)),some (.lst true (Q.map Ak)),w5,y6,y7,some (.ref (some [D.int x',.int y,.int z']::T).length)] U=some (.lst true (Q.map Ak),U):=rfl
   have q':oEq false U (.ref (some [D.int x',.int y,.int z']::T).length) (.lst true (Q.map Ak))=some (.bl true):=q0
   have o8:eOp (oEq false) (Ac 8) (Ac 4) [some (.ref 0),some (.lst false (hs.map Ab)),some (.bl true),some (.lst true (hs.map Ab)),some (.lst true (Q.map Ak)),w5,y6,y7,some (.ref (some [D.int x',.int y,.int z']::T).length)] U=some (.bl true,U):=by
    rw[Bb,v8,U0b,v4,U0b,q'];rfl
   rw[j7,n2]
   simp only[U0b]
   exact o8
 unfold Cy
 rw[Gs]
 simp only[U0f,U1b,U0n,U1m,U10,U11,U02,U1d,U15,U1y,if_true]
 unfold PB
 rw[Ba s1,Ba s2,Ba l1,Ba l2,Ba s3,Ba l3,Cg,fin]
 simp[intsOf,den,-U0s,-U0y]
end W28
end
section
namespace W28
open PySem L2 VS
theorem gH(r:Int)(h0:0<=r)(h1:r<4):∃r0 r1:Int,atI [D.tup [.int 0,.int 6],.tup [.int (-3),.int 8],.tup [.int 0,.int 13],.tup [.int (-20),.int 41]] r=some (.tup [.int r0,.int r1])/\-20<=r0/\0<r1/\r0+r1<=21:=by
 have:r=0∨r=1∨r=2∨r=3:=by omega
 rcases this with rfl|rfl|rfl|rfl
 .exact⟨0,6,rfl,by decide⟩
 .exact⟨-3,8,rfl,by decide⟩
 .exact⟨0,13,rfl,by decide⟩
 .exact⟨-20,41,rfl,by decide⟩
theorem aF{r0 r1:Int}{k:Nat}{hs:List T3}(q0:-1000000000<=r0)(hl:hs.length<=40)(hb:∀t∈hs,InT r0 r1 k t):Hs hs:=⟨hl,fun t ht=>by
 obtain⟨g1,g2,g3,g4,g5,g6⟩:=hb t ht
 omega⟩
theorem Vg(m:Bool)(hs:List T3)(b:Bool):BJ [.lst m (hs.map Ab),.bl b]=true:=by simp[BJ,Bf,Bp (Fv hs)]
theorem Xj(m:Bool)(hs:List T3)(b:Bool):CW [.lst m (hs.map Ab),.bl b]=[.lst false (hs.map Ab),.bl b]:=by simp[CW,age,Ew (Fv hs)]
theorem aX(ns:List Int)(c:Int)(z2 z3 z4:Option D)(S:Store):∃(S':Store)(y2 y3 y4:Option D),QW [some (.scr ns),some (.int c),z2,z3,z4] S=some (.nx,[some (.scr ns),some (.int c),y2,y3,y4],S'):=by
 obtain⟨x0,p0⟩:=aU c
 have s1:(Bh 2 (JQ Ei (Aa (Ac 1) Ae))) [some (.scr ns),some (.int c),z2,z3,z4] S=some (.nx,[some (.scr ns),some (.int c),some (.ref S.length),z3,z4],S++[some [.int x0,.int c,.int 0]]):=by
  rw[Ce,TX (d':=.ref S.length) (cs:=[.int x0,.int c,.int 0]) (Ck (ds:=[.int c]) (es:=[.int c]) (S':=S) rfl (by simp[BJ,Bf]) (by simp[CW,age]) p0) (by simp[Mz,Cu,Bj])]
  rfl
 obtain⟨r0,r1,x1,z5,d1,⟨h1,h2,h3⟩,k1,k2⟩:=ZG x0 c 0 (by decide) (by decide)
 obtain⟨hs,x2,z6,e1,bl,bb,k3,k4⟩:=Rc x1 c z5 r0 r1 40 (by decide) (by decide) h1 h2 h3 (by omega) (by omega)
 have hH:=aF h1 (by omega) bb
 obtain⟨x3,z7,e2,k5,k6⟩:=Tf hH false (by simp) x2 c z6 (by omega) (by omega)
 obtain⟨r,x4,z8,d2,⟨r0',r1'⟩,k7,k8⟩:=Dt x3 c z7 4 (by decide) (by decide) (by omega) (by omega)
 obtain⟨n0,n1,f1,g1,g2,g3⟩:=gH r r0' r1'
 obtain⟨hs2,x5,z9,e3,bl2,bb2,k9,k10⟩:=Rc x4 c z8 n0 n1 8 (by decide) (by decide) (by omega) g2 (by omega) (by omega) (by omega)
 have hH2:=aF (by omega) (by omega) bb2
 obtain⟨x6,z10,e4,k11,k12⟩:=Tf hH2 true (fun _ t ht=>by
  obtain⟨w1,w2,w3,_⟩:=bb2 t ht
  omega) x5 c z9 (by omega) (by omega)
 have c1:Am Du (Aa (Ac 2) Ae) [some (.scr ns),some (.int c),some (.ref S.length),z3,z4] (S++[some [.int x0,.int c,.int 0]])=some (.tup [.int r0,.int r1],S++[some [.int x1,.int c,.int z5]]):=by
  rw[GK (ns:=[x0,c,0]) (rest:=[]) (es:=[]) (i:=S.length) (S':=S++[some [.int x0,.int c,.int 0]]) rfl (M7 S _ []) (by simp[BJ]) (by simp[CW]) d1,N5];rfl
 have s2:(Bh 3 (Am Du (Aa (Ac 2) Ae))) [some (.scr ns),some (.int c),some (.ref S.length),z3,z4] (S++[some [.int x0,.int c,.int 0]])=some (.nx,[some (.scr ns),some (.int c),some (.ref S.length),some (.tup [.int r0,.int r1]),z4],S++[some [.int x1,.int c,.int z5]]):=by rw[Ce,c1];rfl
 have c2:Am Bu (Aa (Ac 2) (Aa (Ac 3) (Aa (eC (.int 40)) Ae))) [some (.scr ns),some (.int c),some (.ref S.length),some (.tup [.int r0,.int r1]),z4] (S++[some [.int x1,.int c,.int z5]])=some (.lst true (hs.map Ab),S++[some [.int x2,.int c,.int z6]]):=by
  rw[GK (ns:=[x1,c,z5]) (rest:=[.tup [.int r0,.int r1],.int 40]) (es:=[.tup [.int r0,.int r1],.int 40]) (i:=S.length) (S':=S++[some [.int x1,.int c,.int z5]]) rfl (M7 S _ []) (by simp[BJ,Bf]) (by simp[CW,age]) e1,N5];rfl
 have a2:(Aa (Ac 2) (Aa (Am Bu (Aa (Ac 2) (Aa (Ac 3) (Aa (eC (.int 40)) Ae)))) (Aa (eC (.bl false)) Ae))) [some (.scr ns),some (.int c),some (.ref S.length),some (.tup [.int r0,.int r1]),z4] (S++[some [.int x1,.int c,.int z5]])=some ([.ref S.length,.lst true (hs.map Ab),.bl false],S++[some [.int x2,.int c,.int z6]]):=by
  have v2:Ac 2 [some (.scr ns),some (.int c),some (.ref S.length),some (.tup [.int r0,.int r1]),z4] (S++[some [.int x1,.int c,.int z5]])=some (.ref S.length,S++[some [.int x1,.int c,.int z5]]):=rfl
  rw[Aq,v2,U0b,Aq,c2];rfl
 have c3:Am Cy (Aa (Ac 2) (Aa (Am Bu (Aa (Ac 2) (Aa (Ac 3) (Aa (eC (.int 40)) Ae)))) (Aa (eC (.bl false)) Ae))) [some (.scr ns),some (.int c),some (.ref S.length),some (.tup [.int r0,.int r1]),z4] (S++[some [.int x1,.int c,.int z5]])=some (.bl true,S++[some [.int x3,.int c,.int z7]]):=by
  rw[GK (ns:=[x2,c,z6]) (rest:=[.lst true (hs.map Ab),.bl false]) (es:=[.lst false (hs.map Ab),.bl false]) (i:=S.length) (S':=S++[some [.int x2,.int c,.int z6]]) a2 (M7 S _ []) (Vg ..) (Xj ..) e2,N5];rfl
 have s3:(sIf (M4 (Bm (Am Cy (Aa (Ac 2) (Aa (Am Bu (Aa (Ac 2) (Aa (Ac 3) (Aa (eC (.int 40)) Ae)))) (Aa (eC (.bl false)) Ae)))))) (Dc (eC (.bl false))) Fy) [some (.scr ns),some (.int c),some (.ref S.length),some (.tup [.int r0,.int r1]),z4] (S++[some [.int x1,.int c,.int z5]])=some (.nx,[some (.scr ns),some (.int c),some (.ref S.length),some (.tup [.int r0,.int r1]),z4],S++[some [.int x3,.int c,.int z7]]):=by
  rw[Gg (by rw[Ob,DX,c3];rfl)];rfl
 have c4:Am Ag (Aa (Ac 2) (Aa (eC (.int 4)) Ae)) [some (.scr ns),some (.int c),some (.ref S.length),some (.tup [.int r0,.int r1]),z4] (S++[some [.int x3,.int c,.int z7]])=some (.int r,S++[some [.int x4,.int c,.int z8]]):=by
  rw[GK (ns:=[x3,c,z7]) (rest:=[.int 4]) (es:=[.int 4]) (i:=S.length) (S':=S++[some [.int x3,.int c,.int z7]]) rfl (M7 S _ []) (by simp[BJ,Bf]) (by simp[CW,age]) d2,N5];rfl
 have s4:(Bh 4 (eOp oIx (BL (Aa (BW (Aa (eC (.int 0)) (Aa (eC (.int 6)) Ae))) (Aa (BW (Aa (eUn Ep (eC (.int 3))) (Aa (eC (.int 8)) Ae))) (Aa (BW (Aa (eC (.int 0)) (Aa (eC (.int 13)) Ae))) (Aa (BW (Aa (eUn Ep (eC (.int 20))) (Aa (eC (.int 41)) Ae))) Ae))))) (Am Ag (Aa (Ac 2) (Aa (eC (.int 4)) Ae))))) [some (.scr ns),some (.int c),some (.ref S.length),some (.tup [.int r0,.int r1]),z4] (S++[some [.int x3,.int c,.int z7]])=some (.nx,[some (.scr ns),some (.int c),some (.ref S.length),some (.tup [.int r0,.int r1]),some (.tup [.int n0,.int n1])],S++[some [.int x4,.int c,.int z8]]):=by
  have q0:(BL (Aa (BW (Aa (eC (.int 0)) (Aa (eC (.int 6)) Ae))) (Aa (BW (Aa (eUn Ep (eC (.int 3))) (Aa (eC (.int 8)) Ae))) (Aa (BW (Aa (eC (.int 0)) (Aa (eC (.int 13)) Ae))) (Aa (BW (Aa (eUn Ep (eC (.int 20))) (Aa (eC (.int 41)) Ae))) Ae))))) [some (.scr ns),some (.int c),some (.ref S.length),some (.tup [.int r0,.int r1]),z4] (S++[some [.int x3,.int c,.int z7]])=some (.lst true [.tup [.int 0,.int 6],.tup [.int (-3),.int 8],.tup [.int 0,.int 13],.tup [.int (-20),.int 41]],S++[some [.int x3,.int c,.int z7]]):=rfl
  rw[Ce,Bb,q0,U0b,c4,U0b]
  show(U2q _ (atI [D.tup [.int 0,.int 6],.tup [.int (-3),.int 8],.tup [.int 0,.int 13],.tup [.int (-20),.int 41]] r)).bind _=_
  rw[f1];rfl
 have c5:Am Bu (Aa (Ac 2) (Aa (Ac 4) (Aa (eC (.int 8)) Ae))) [some (.scr ns),some (.int c),some (.ref S.length),some (.tup [.int r0,.int r1]),some (.tup [.int n0,.int n1])] (S++[some [.int x4,.int c,.int z8]])=some (.lst true (hs2.map Ab),S++[some [.int x5,.int c,.int z9]]):=by
  rw[GK (ns:=[x4,c,z8]) (rest:=[.tup [.int n0,.int n1],.int 8]) (es:=[.tup [.int n0,.int n1],.int 8]) (i:=S.length) (S':=S++[some [.int x4,.int c,.int z8]]) rfl (M7 S _ []) (by simp[BJ,Bf]) (by simp[CW,age]) e3,N5];rfl
 have a5:(Aa (Ac 2) (Aa (Am Bu (Aa (Ac 2) (Aa (Ac 4) (Aa (eC (.int 8)) Ae)))) (Aa (eC (.bl true)) Ae))) [some (.scr ns),some (.int c),some (.ref S.length),some (.tup [.int r0,.int r1]),some (.tup [.int n0,.int n1])] (S++[some [.int x4,.int c,.int z8]])=some ([.ref S.length,.lst true (hs2.map Ab),.bl true],S++[some [.int x5,.int c,.int z9]]):=by
  have v2:Ac 2 [some (.scr ns),some (.int c),some (.ref S.length),some (.tup [.int r0,.int r1]),some (.tup [.int n0,.int n1])] (S++[some [.int x4,.int c,.int z8]])=some (.ref S.length,S++[some [.int x4,.int c,.int z8]]):=rfl
  rw[Aq,v2,U0b,Aq,c5];rfl
 have c6:Am Cy (Aa (Ac 2) (Aa (Am Bu (Aa (Ac 2) (Aa (Ac 4) (Aa (eC (.int 8)) Ae)))) (Aa (eC (.bl true)) Ae))) [some (.scr ns),some (.int c),some (.ref S.length),some (.tup [.int r0,.int r1]),some (.tup [.int n0,.int n1])] (S++[some [.int x4,.int c,.int z8]])=some (.bl true,S++[some [.int x6,.int c,.int z10]]):=by
  rw[GK (ns:=[x5,c,z9]) (rest:=[.lst true (hs2.map Ab),.bl true]) (es:=[.lst false (hs2.map Ab),.bl true]) (i:=S.length) (S':=S++[some [.int x5,.int c,.int z9]]) a5 (M7 S _ []) (Vg ..) (Xj ..) e4,N5];rfl
 refine⟨S++[some [.int x6,.int c,.int z10]],some (.ref S.length),some (.tup [.int r0,.int r1]),some (.tup [.int n0,.int n1]),?_⟩
 unfold QW
 rw[Ba s1,Ba s2,Ba s3,Ba s4,Gg (by rw[Ob,DX,c6];rfl)]
 rfl
theorem Zb:∀ns:List Int,ns.length<=63->Qw [.scr ns]=some (.bl true):=by
 intro ns hns
 obtain⟨l,e⟩:∃l:List Int,Dl (eOp Bk (BL (Aa (eC (.int 0)) Ae)) (eSl oSl (Ac 0) J8 (J7 (eC (.int 15))))) [some (.scr ns),none,none,none,none] []=some ((l.map .int,[]),[]):=by
  obtain⟨cs,hc,hl⟩:∃cs:List Int,cut (ns.map D.int) none (some 15)=cs.map D.int/\cs.length<=63:=by
   unfold cut
   rw[←List.map_drop,←List.map_take]
   exact⟨_,rfl,by rw[U1i,U1s];omega⟩
  refine⟨0::cs,?_⟩
  have a1:eSl oSl (Ac 0) J8 (J7 (eC (.int 15))) [some (.scr ns),none,none,none,none] []=some (.lst true (cs.map .int),[]):=by
   show(some (D.lst true (cut (ns.map D.int) none (some 15)),([]:Store)):Option (D×Store))=_
   rw[hc]
  have a2:BL (Aa (eC (.int 0)) Ae) [some (.scr ns),none,none,none,none] []=some (.lst true [.int 0],[]):=rfl
  rw[Om,add_lists a2 a1 (by rw[U0g];simp;omega)]
  rfl
 have l1:∃env' S',T8 [some (.scr ns),none,none,none,none] []=some (.nx,env',S')/\∃y1 y2 y3 y4,env'=[some (.scr ns),y1,y2,y3,y4]:=by
  unfold T8
  rw[Gq,e]
  exact GF (w:=[]) (g:=Pat.sem (.nm 1)) (b:=QW) (ds:=l.map .int) (env:=[some (.scr ns),none,none,none,none]) (S:=[])
   (fun _ env S=>∃y1 y2 y3 y4,env=[some (.scr ns),y1,y2,y3,y4]) ⟨_,_,_,_,rfl⟩ (fun i env S _=>by simp) (fun j d env S hd q=>by
    obtain⟨y1,y2,y3,y4,he⟩:=q
    rw[U0v] at hd
    obtain⟨c,hc,rfl⟩:=U2e.mp hd
    subst he
    obtain⟨S',w2,w3,w4,e3⟩:=aX ns c y2 y3 y4 S
    exact⟨_,Es _ _ _,_,_,e3,_,_,_,_,rfl⟩)
 obtain⟨env',S',l1,y1,y2,y3,y4,he⟩:=l1
 subst he
 have hA:Hs [(0,4,2),(2,6,5),(6,9,5)]:=⟨by decide,by decide⟩
 have hB:Hs []:=⟨by decide,by decide⟩
 have eA:ends [((0:Int),(4:Int),(2:Int)),(2,6,5),(6,9,5)]=[0,2,4,6,9]:=Kh (Km _) (by decide) fun x=>by
  rw[Ht]
  constructor
  .rintro⟨t,ht,h⟩
   simp only[U0u,U4v,or_false] at ht
   rcases ht with rfl|rfl|rfl<;>rcases h with rfl|rfl<;>decide
  .intro h
   simp only[U0u,U4v,or_false] at h
   rcases h with rfl|rfl|rfl|rfl|rfl
   .exact⟨(0,4,2),by decide,.inl rfl⟩
   .exact⟨(2,6,5),by decide,.inl rfl⟩
   .exact⟨(0,4,2),by decide,.inr rfl⟩
   .exact⟨(2,6,5),by decide,.inr rfl⟩
   .exact⟨(6,9,5),by decide,.inr rfl⟩
 have vA:sky [((0:Int),(4:Int),(2:Int)),(2,6,5),(6,9,5)]=[(0,2),(2,5),(9,0)]:=by
  unfold sky
  rw[eA]
  decide +kernel
 have eB:ends []=[]:=Kh (Km _) .nil fun x=>by rw[Ht];simp
 have vB:sky []=[]:=by
  unfold sky
  rw[eB];rfl
 have sA:=Sy hA
 have sB:=Sy hB
 rw[vA] at sA
 rw[vB] at sB
 have cA:Ax Bg (Aa (BL (Aa (BW (Aa (eC (.int 0)) (Aa (eC (.int 4)) (Aa (eC (.int 2)) Ae)))) (Aa (BW (Aa (eC (.int 2)) (Aa (eC (.int 6)) (Aa (eC (.int 5)) Ae)))) (Aa (BW (Aa (eC (.int 6)) (Aa (eC (.int 9)) (Aa (eC (.int 5)) Ae)))) Ae)))) Ae) [some (.scr ns),y1,y2,y3,y4] S'=some (.lst true ([((0:Int),(2:Int)),(2,5),(9,0)].map Ak),S') :=
  Ck (ds:=[.lst true ([((0:Int),(4:Int),(2:Int)),(2,6,5),(6,9,5)].map Ab)]) (es:=[.lst false ([((0:Int),(4:Int),(2:Int)),(2,6,5),(6,9,5)].map Ab)]) (S':=S') rfl (Hx ..) (JR ..) sA
 have cB:Ax Bg (Aa (BL Ae) Ae) [some (.scr ns),y1,y2,y3,y4] S'=some (.lst true (([]:List St2).map Ak),S') :=
  Ck (ds:=[.lst true (([]:List T3).map Ab)]) (es:=[.lst false (([]:List T3).map Ab)]) (S':=S') rfl (Hx ..) (JR ..) sB
 have fA:(BL (Aa (BW (Aa (eC (.int 0)) (Aa (eC (.int 2)) Ae))) (Aa (BW (Aa (eC (.int 2)) (Aa (eC (.int 5)) Ae))) (Aa (BW (Aa (eC (.int 9)) (Aa (eC (.int 0)) Ae))) Ae)))) [some (.scr ns),y1,y2,y3,y4] S'=some (.lst true ([((0:Int),(2:Int)),(2,5),(9,0)].map Ak),S'):=rfl
 have fB:(BL Ae) [some (.scr ns),y1,y2,y3,y4] S'=some (.lst true (([]:List St2).map Ak),S'):=rfl
 have eqS:∀l:List St2,oEq false S' (.lst true (l.map Ak)) (.lst true (l.map Ak))=some (.bl (false ^^ true)):=fun l=>Py 2 (Nb S' true l) (Nb S' true l) (XM l) (by decide)
 have oA:eOp (oEq false) (Ax Bg (Aa (BL (Aa (BW (Aa (eC (.int 0)) (Aa (eC (.int 4)) (Aa (eC (.int 2)) Ae)))) (Aa (BW (Aa (eC (.int 2)) (Aa (eC (.int 6)) (Aa (eC (.int 5)) Ae)))) (Aa (BW (Aa (eC (.int 6)) (Aa (eC (.int 9)) (Aa (eC (.int 5)) Ae)))) Ae)))) Ae)) (BL (Aa (BW (Aa (eC (.int 0)) (Aa (eC (.int 2)) Ae))) (Aa (BW (Aa (eC (.int 2)) (Aa (eC (.int 5)) Ae))) (Aa (BW (Aa (eC (.int 9)) (Aa (eC (.int 0)) Ae))) Ae)))) [some (.scr ns),y1,y2,y3,y4] S'=some (.bl true,S'):=by
  rw[Bb,cA,U0b,fA,U0b,eqS];rfl
 have oB:eOp (oEq false) (Ax Bg (Aa (BL Ae) Ae)) (BL Ae) [some (.scr ns),y1,y2,y3,y4] S'=some (.bl true,S'):=by
  rw[Bb,cB,U0b,fB,U0b,eqS];rfl
 unfold Qw
 rw[Dy]
 simp only[U0f,U1b,U0n,U1m,U10,U11,U02,U1d,U15,U1y,if_true]
 unfold aH
 rw[Ba l1,Cg,Jz,oA]
 simp only[U0b,oB]
 simp[den]
end W28
end
section
namespace W28
open PySem PySem.Spec L2 VS
theorem Lz:∀{us:List Value},us.length=1->∃a0,us=[a0]
 |[a0],_=>⟨a0,rfl⟩
theorem Mx:∀{us:List Value},us.length=2->∃a0 a1,us=[a0,a1]
 |[a0,a1],_=>⟨a0,a1,rfl⟩
theorem Yd:∀{us:List Value},us.length=3->∃a0 a1 a2,us=[a0,a1,a2]
 |[a0,a1,a2],_=>⟨a0,a1,a2,rfl⟩
theorem tops{l:U5u}{w:World}{K:U0a}{h:Heap}{mg:Str->Option Value}{fa:Addr}{f1 f2 f3 f4 f5 f6 f7 f8 f9 f10 f11 f12 f13 f14 f15 f16 f17 f18 f19 f20 f21:Addr}(X:K.In h)(G:h.Ns mainGlobals mg)(hfa:mg "law"=some (.ref fa))
  {od1 an1 od2 an2 od3 an3 od4 an4 od5 an5 od6 an6 od7 an7 od8 an8 od9 an9 od10 an10 od11 an11 od12 an12 od13 an13 od14 an14 od15 an15 od16 an16 od17 an17 od18 an18 od19 an19 od20 an20 od21 an21:Option Addr} {sl1 sl2 sl3 sl4 sl5 sl6 sl7 sl8 sl9 sl10 sl11 sl12 sl13 sl14 sl15 sl16 sl17 sl18 sl19 sl20 sl21:Array (Option Value)} {oc1 kV1 dc1 pm1 cd1 ct1 oc2 kV2 dc2 pm2 cd2 ct2 oc3 kV3 dc3 pm3 cd3 ct3 oc4 kV4 dc4 pm4 cd4 ct4 oc5 kV5 dc5 pm5 cd5 ct5 oc6 kV6 dc6 pm6 cd6 ct6 oc7 kV7 dc7 pm7 cd7 ct7 oc8 kV8 dc8 pm8 cd8 ct8 oc9 kV9 dc9 pm9 cd9 ct9 oc10 kV10 dc10 pm10 cd10 ct10 oc11 kV11 dc11 pm11 cd11 ct11 oc12 kV12 dc12 pm12 cd12 ct12 oc13 kV13 dc13 pm13 cd13 ct13 oc14 kV14 dc14 pm14 cd14 ct14 oc15 kV15 dc15 pm15 cd15 ct15 oc16 kV16 dc16 pm16 cd16 ct16 oc17 kV17 dc17 pm17 cd17 ct17 oc18 kV18 dc18 pm18 cd18 ct18 oc19 kV19 dc19 pm19 cd19 ct19 oc20 kV20 dc20 pm20 cd20 ct20 oc21 kV21 dc21 pm21 cd21 ct21:Value}
  (a1:U0t K mainGlobals "is_whole"=some (some (.ref f1))) (l1:K.lookup f1=some ⟨oc1,od1,.func (U09 "is_whole" "is_whole" (CP Gx) (Bt Gx) (Al Gx) .none kV1 dc1 pm1 an1 cd1 ct1),sl1⟩) (c1:U1a K cd1 "is_whole"=true) (k1:U05 K (.ref f1)=true)
  (a2:U0t K mainGlobals "are_wholes"=some (some (.ref f2))) (l2:K.lookup f2=some ⟨oc2,od2,.func (U09 "are_wholes" "are_wholes" (CP FW) (Bt FW) (Al FW) .none kV2 dc2 pm2 an2 cd2 ct2),sl2⟩) (c2:U1a K cd2 "are_wholes"=true) (k2:U05 K (.ref f2)=true)
  (a3:U0t K mainGlobals "is_house"=some (some (.ref f3))) (l3:K.lookup f3=some ⟨oc3,od3,.func (U09 "is_house" "is_house" (CP Gy) (Bt Gy) (Al Gy) .none kV3 dc3 pm3 an3 cd3 ct3),sl3⟩) (c3:U1a K cd3 "is_house"=true) (k3:U05 K (.ref f3)=true)
  (a4:U0t K mainGlobals "are_houses"=some (some (.ref f4))) (l4:K.lookup f4=some ⟨oc4,od4,.func (U09 "are_houses" "are_houses" (CP FZ) (Bt FZ) (Al FZ) .none kV4 dc4 pm4 an4 cd4 ct4),sl4⟩) (c4:U1a K cd4 "are_houses"=true) (k4:U05 K (.ref f4)=true)
  (a5:U0t K mainGlobals "need_houses"=some (some (.ref f5))) (l5:K.lookup f5=some ⟨oc5,od5,.func (U09 "need_houses" "need_houses" (CP Fg) (Bt Fg) (Al Fg) .none kV5 dc5 pm5 an5 cd5 ct5),sl5⟩) (c5:U1a K cd5 "need_houses"=true) (k5:U05 K (.ref f5)=true)
  (a6:U0t K mainGlobals "tallest_at"=some (some (.ref f6))) (l6:K.lookup f6=some ⟨oc6,od6,.func (U09 "tallest_at" "tallest_at" (CP FQ) (Bt FQ) (Al FQ) .none kV6 dc6 pm6 an6 cd6 ct6),sl6⟩) (c6:U1a K cd6 "tallest_at"=true) (k6:U05 K (.ref f6)=true)
  (a7:U0t K mainGlobals "height_at"=some (some (.ref f7))) (l7:K.lookup f7=some ⟨oc7,od7,.func (U09 "height_at" "height_at" (CP Gb) (Bt Gb) (Al Gb) .none kV7 dc7 pm7 an7 cd7 ct7),sl7⟩) (c7:U1a K cd7 "height_at"=true) (k7:U05 K (.ref f7)=true)
  (a8:U0t K mainGlobals "changes_alone"=some (some (.ref f8))) (l8:K.lookup f8=some ⟨oc8,od8,.func (U09 "changes_alone" "changes_alone" (CP Eo) (Bt Eo) (Al Eo) .none kV8 dc8 pm8 an8 cd8 ct8),sl8⟩) (c8:U1a K cd8 "changes_alone"=true) (k8:U05 K (.ref f8)=true)
  (a9:U0t K mainGlobals "skyline_of"=some (some (.ref f9))) (l9:K.lookup f9=some ⟨oc9,od9,.func (U09 "skyline_of" "skyline_of" (CP Dq) (Bt Dq) (Al Dq) .none kV9 dc9 pm9 an9 cd9 ct9),sl9⟩) (c9:U1a K cd9 "skyline_of"=true) (k9:U05 K (.ref f9)=true)
  (a10:U0t K mainGlobals "_law_mixed"=some (some (.ref f10))) (l10:K.lookup f10=some ⟨oc10,od10,.func (U09 "_law_mixed" "_law_mixed" (CP GZ) (Bt GZ) (Al GZ) .none kV10 dc10 pm10 an10 cd10 ct10),sl10⟩) (c10:U1a K cd10 "_law_mixed"=true) (k10:U05 K (.ref f10)=true)
  (a11:U0t K mainGlobals "_law_well"=some (some (.ref f11))) (l11:K.lookup f11=some ⟨oc11,od11,.func (U09 "_law_well" "_law_well" (CP Gv) (Bt Gv) (Al Gv) .none kV11 dc11 pm11 an11 cd11 ct11),sl11⟩) (c11:U1a K cd11 "_law_well"=true) (k11:U05 K (.ref f11)=true)
  (a12:U0t K mainGlobals "_law_draw"=some (some (.ref f12))) (l12:K.lookup f12=some ⟨oc12,od12,.func (U09 "_law_draw" "_law_draw" (CP Gw) (Bt Gw) (Al Gw) .none kV12 dc12 pm12 an12 cd12 ct12),sl12⟩) (c12:U1a K cd12 "_law_draw"=true) (k12:U05 K (.ref f12)=true)
  (a13:U0t K mainGlobals "_law_reach"=some (some (.ref f13))) (l13:K.lookup f13=some ⟨oc13,od13,.func (U09 "_law_reach" "_law_reach" (CP GX) (Bt GX) (Al GX) .none kV13 dc13 pm13 an13 cd13 ct13),sl13⟩) (c13:U1a K cd13 "_law_reach"=true) (k13:U05 K (.ref f13)=true)
  (a14:U0t K mainGlobals "_law_stretch"=some (some (.ref f14))) (l14:K.lookup f14=some ⟨oc14,od14,.func (U09 "_law_stretch" "_law_stretch" (CP Fi) (Bt Fi) (Al Fi) .none kV14 dc14 pm14 an14 cd14 ct14),sl14⟩) (c14:U1a K cd14 "_law_stretch"=true) (k14:U05 K (.ref f14)=true)
  (a15:U0t K mainGlobals "_law_house"=some (some (.ref f15))) (l15:K.lookup f15=some ⟨oc15,od15,.func (U09 "_law_house" "_law_house" (CP Ga) (Bt Ga) (Al Ga) .none kV15 dc15 pm15 an15 cd15 ct15),sl15⟩) (c15:U1a K cd15 "_law_house"=true) (k15:U05 K (.ref f15)=true)
  (a16:U0t K mainGlobals "_law_houses"=some (some (.ref f16))) (l16:K.lookup f16=some ⟨oc16,od16,.func (U09 "_law_houses" "_law_houses" (CP G6) (Bt G6) (Al G6) .none kV16 dc16 pm16 an16 cd16 ct16),sl16⟩) (c16:U1a K cd16 "_law_houses"=true) (k16:U05 K (.ref f16)=true)
  (a17:U0t K mainGlobals "_law_line"=some (some (.ref f17))) (l17:K.lookup f17=some ⟨oc17,od17,.func (U09 "_law_line" "_law_line" (CP Fq) (Bt Fq) (Al Fq) .none kV17 dc17 pm17 an17 cd17 ct17),sl17⟩) (c17:U1a K cd17 "_law_line"=true) (k17:U05 K (.ref f17)=true)
  (a18:U0t K mainGlobals "_law_height"=some (some (.ref f18))) (l18:K.lookup f18=some ⟨oc18,od18,.func (U09 "_law_height" "_law_height" (CP FT) (Bt FT) (Al FT) .none kV18 dc18 pm18 an18 cd18 ct18),sl18⟩) (c18:U1a K cd18 "_law_height"=true) (k18:U05 K (.ref f18)=true)
  (a19:U0t K mainGlobals "_law_numbers"=some (some (.ref f19))) (l19:K.lookup f19=some ⟨oc19,od19,.func (U09 "_law_numbers" "_law_numbers" (CP Fj) (Bt Fj) (Al Fj) .none kV19 dc19 pm19 an19 cd19 ct19),sl19⟩) (c19:U1a K cd19 "_law_numbers"=true) (k19:U05 K (.ref f19)=true)
  (a20:U0t K mainGlobals "_law_right"=some (some (.ref f20))) (l20:K.lookup f20=some ⟨oc20,od20,.func (U09 "_law_right" "_law_right" (CP GR) (Bt GR) (Al GR) .none kV20 dc20 pm20 an20 cd20 ct20),sl20⟩) (c20:U1a K cd20 "_law_right"=true) (k20:U05 K (.ref f20)=true)
  (a21:U0t K mainGlobals "law"=some (some (.ref f21))) (l21:K.lookup f21=some ⟨oc21,od21,.func (U09 "law" "law" (CP Jh) (Bt Jh) (Al Jh) .none kV21 dc21 pm21 an21 cd21 ct21),sl21⟩) (c21:U1a K cd21 "law"=true) (k21:U05 K (.ref f21)=true)
  (z1:U0t K mainGlobals "len"=some none)
  (z2:U0t K mainGlobals "isinstance"=some none)
  (z3:U0t K mainGlobals "all"=some none)
  (z4:U0t K mainGlobals "sorted"=some none)
  (z5:U0t K mainGlobals "min"=some none)
  (z6:U0t K mainGlobals "max"=some none)
  (z7:U0t K mainGlobals "abs"=some none)
  (z8:U0t K mainGlobals "repr"=some none)
  (z9:U0t K mainGlobals "set"=some none)
  (z10:U0t K mainGlobals "list"=some none)
  (z11:U0t K mainGlobals "tuple"=some none)
  (z12:U0t K mainGlobals "range"=some none)
  (z13:U0t K mainGlobals "int"=some none)
  (z14:U0t K mainGlobals "bool"=some none)
  (z15:U0t K mainGlobals "str"=some none)
  : ∃fd:FuncData,(∀(s:Shared)(v:Value),BindsTo s fd ⟨[v],[]⟩ [("script",v)])/\∀base:Heap,K.In base->base.Ns mainGlobals mg->Ci l.prog w K mg base CX0 8 fa fd ["script"] (QG K):=by
 have e:=hfa.symm.trans (U1o X G a21)
 cases e
 have F1:=Df (st:=Gx) l1 c1 k1
 have b1:=F1.binds (ps:=["thing"]) fun _ _ _ _ _ _ us hl=>by obtain⟨_,rfl⟩:=Lz hl;rfl
 have F2:=Df (st:=FW) l2 c2 k2
 have b2:=F2.binds (ps:=["thing","many"]) fun _ _ _ _ _ _ us hl=>by obtain⟨_,_,rfl⟩:=Mx hl;rfl
 have F3:=Df (st:=Gy) l3 c3 k3
 have b3:=F3.binds (ps:=["thing"]) fun _ _ _ _ _ _ us hl=>by obtain⟨_,rfl⟩:=Lz hl;rfl
 have F4:=Df (st:=FZ) l4 c4 k4
 have b4:=F4.binds (ps:=["thing"]) fun _ _ _ _ _ _ us hl=>by obtain⟨_,rfl⟩:=Lz hl;rfl
 have F5:=Df (st:=Fg) l5 c5 k5
 have b5:=F5.binds (ps:=["houses"]) fun _ _ _ _ _ _ us hl=>by obtain⟨_,rfl⟩:=Lz hl;rfl
 have F6:=Df (st:=FQ) l6 c6 k6
 have b6:=F6.binds (ps:=["houses","number"]) fun _ _ _ _ _ _ us hl=>by obtain⟨_,_,rfl⟩:=Mx hl;rfl
 have F7:=Df (st:=Gb) l7 c7 k7
 have b7:=F7.binds (ps:=["houses","number"]) fun _ _ _ _ _ _ us hl=>by obtain⟨_,_,rfl⟩:=Mx hl;rfl
 have F8:=Df (st:=Eo) l8 c8 k8
 have b8:=F8.binds (ps:=["heights"]) fun _ _ _ _ _ _ us hl=>by obtain⟨_,rfl⟩:=Lz hl;rfl
 have F9:=Df (st:=Dq) l9 c9 k9
 have b9:=F9.binds (ps:=["houses"]) fun _ _ _ _ _ _ us hl=>by obtain⟨_,rfl⟩:=Lz hl;rfl
 have F10:=Df (st:=GZ) l10 c10 k10
 have b10:=F10.binds (ps:=["cell","k"]) fun _ _ _ _ _ _ us hl=>by obtain⟨_,_,rfl⟩:=Mx hl;rfl
 have F11:=Df (st:=Gv) l11 c11 k11
 have b11:=F11.binds (ps:=["cell"]) fun _ _ _ _ _ _ us hl=>by obtain⟨_,rfl⟩:=Lz hl;rfl
 have F12:=Df (st:=Gw) l12 c12 k12
 have b12:=F12.binds (ps:=["well","many"]) fun _ _ _ _ _ _ us hl=>by obtain⟨_,_,rfl⟩:=Mx hl;rfl
 have F13:=Df (st:=GX) l13 c13 k13
 have b13:=F13.binds (ps:=["well"]) fun _ _ _ _ _ _ us hl=>by obtain⟨_,rfl⟩:=Lz hl;rfl
 have F14:=Df (st:=Fi) l14 c14 k14
 have b14:=F14.binds (ps:=["well","reach"]) fun _ _ _ _ _ _ us hl=>by obtain⟨_,_,rfl⟩:=Mx hl;rfl
 have F15:=Df (st:=Ga) l15 c15 k15
 have b15:=F15.binds (ps:=["well","reach","houses"]) fun _ _ _ _ _ _ us hl=>by obtain⟨_,_,_,rfl⟩:=Yd hl;rfl
 have F16:=Df (st:=G6) l16 c16 k16
 have b16:=F16.binds (ps:=["well","reach","most"]) fun _ _ _ _ _ _ us hl=>by obtain⟨_,_,_,rfl⟩:=Yd hl;rfl
 have F17:=Df (st:=Fq) l17 c17 k17
 have b17:=F17.binds (ps:=["houses"]) fun _ _ _ _ _ _ us hl=>by obtain⟨_,rfl⟩:=Lz hl;rfl
 have F18:=Df (st:=FT) l18 c18 k18
 have b18:=F18.binds (ps:=["houses","number"]) fun _ _ _ _ _ _ us hl=>by obtain⟨_,_,rfl⟩:=Mx hl;rfl
 have F19:=Df (st:=Fj) l19 c19 k19
 have b19:=F19.binds (ps:=["well","houses"]) fun _ _ _ _ _ _ us hl=>by obtain⟨_,_,rfl⟩:=Mx hl;rfl
 have F20:=Df (st:=GR) l20 c20 k20
 have b20:=F20.binds (ps:=["well","houses","near"]) fun _ _ _ _ _ _ us hl=>by obtain⟨_,_,_,rfl⟩:=Yd hl;rfl
 have F21:=Df (st:=Jh) l21 c21 k21
 have B:Blt mg:=fun x hx=>by
  simp only[Q5,U0u,U4v,or_false] at hx
  rcases hx with rfl|rfl|rfl|rfl|rfl|rfl|rfl|rfl|rfl|rfl|rfl|rfl|rfl|rfl|rfl
  .exact U1q X G z1
  .exact U1q X G z2
  .exact U1q X G z3
  .exact U1q X G z4
  .exact U1q X G z5
  .exact U1q X G z6
  .exact U1q X G z7
  .exact U1q X G z8
  .exact U1q X G z9
  .exact U1q X G z10
  .exact U1q X G z11
  .exact U1q X G z12
  .exact U1q X G z13
  .exact U1q X G z14
  .exact U1q X G z15
 refine⟨U09 "law" "law" (CP Jh) (Bt Jh) (Al Jh) .none kV21 dc21 pm21 an21 cd21 ct21,fun s v=>.of_eq rfl,fun base _ _=>?_⟩
 have C_is_whole:Dd l.prog w K mg base "is_whole" 1 Dn:=⟨⟨["thing"],⟨_,_,V5 F1 B,b1,k1,U1o X G a1⟩,fun ds r h=>Ey h⟩⟩
 have C_are_wholes:Dd l.prog w K mg base "are_wholes" 2 Ea:=⟨⟨["thing","many"],⟨_,_,S7 F2 B C_is_whole,b2,k2,U1o X G a2⟩,fun ds r h=>Ey h⟩⟩
 have C_is_house:Dd l.prog w K mg base "is_house" 3 G5:=⟨⟨["thing"],⟨_,_,V6 F3 B C_are_wholes,b3,k3,U1o X G a3⟩,fun ds r h=>Ey h⟩⟩
 have C_are_houses:Dd l.prog w K mg base "are_houses" 4 Eb:=⟨⟨["thing"],⟨_,_,S8 F4 B C_is_house,b4,k4,U1o X G a4⟩,fun ds r h=>Ey h⟩⟩
 have C_need_houses:Dd l.prog w K mg base "need_houses" 5 CG:=⟨⟨["houses"],⟨_,_,RL F5 B C_are_houses,b5,k5,U1o X G a5⟩,fun ds r h=>Ey h⟩⟩
 have C_tallest_at:Dd l.prog w K mg base "tallest_at" 1 Cq:=⟨⟨["houses","number"],⟨_,_,Rx F6 B,b6,k6,U1o X G a6⟩,fun ds r h=>Ey h⟩⟩
 have C_height_at:Dd l.prog w K mg base "height_at" 6 Dg:=⟨⟨["houses","number"],⟨_,_,Ul F7 B C_need_houses C_is_whole C_tallest_at,b7,k7,U1o X G a7⟩,fun ds r h=>Ey h⟩⟩
 have C_changes_alone:Dd l.prog w K mg base "changes_alone" 1 DQ:=⟨⟨["heights"],⟨_,_,Q8 F8 B,b8,k8,U1o X G a8⟩,fun ds r h=>Ey h⟩⟩
 have C_skyline_of:Dd l.prog w K mg base "skyline_of" 6 Bg:=⟨⟨["houses"],⟨_,_,Ry F9 B C_need_houses C_changes_alone C_tallest_at,b9,k9,U1o X G a9⟩,fun ds r h=>Ey h⟩⟩
 have C_law_mixed:Dd l.prog w K mg base "_law_mixed" 1 Fe:=⟨⟨["cell","k"],⟨_,_,Uj F10 B,b10,k10,U1o X G a10⟩,fun ds r h=>Ey h⟩⟩
 have C_law_well:Dd l.prog w K mg base "_law_well" 1 Ei:=⟨⟨["cell"],⟨_,_,V2 F11 B,b11,k11,U1o X G a11⟩,fun ds r h=>Ey h⟩⟩
 have C_law_draw:G3 l.prog w K mg base "_law_draw" 2 Ag:=⟨⟨["well","many"],⟨_,_,V4 F12 B C_law_mixed,b12,k12,U1o X G a12⟩,fun ns ds r h=>Iv h⟩⟩
 have C_law_reach:G3 l.prog w K mg base "_law_reach" 3 Du:=⟨⟨["well"],⟨_,_,Ui F13 B C_law_draw,b13,k13,U1o X G a13⟩,fun ns ds r h=>Iv h⟩⟩
 have C_law_stretch:G3 l.prog w K mg base "_law_stretch" 3 DR:=⟨⟨["well","reach"],⟨_,_,RM F14 B C_law_draw,b14,k14,U1o X G a14⟩,fun ns ds r h=>Iv h⟩⟩
 have C_law_house:G3 l.prog w K mg base "_law_house" 4 Dv:=⟨⟨["well","reach","houses"],⟨_,_,Uk F15 B C_law_stretch C_law_draw,b15,k15,U1o X G a15⟩,fun ns ds r h=>Iv h⟩⟩
 have C_law_houses:G3 l.prog w K mg base "_law_houses" 5 Bu:=⟨⟨["well","reach","most"],⟨_,_,Rz F16 B C_law_draw C_law_house,b16,k16,U1o X G a16⟩,fun ns ds r h=>Iv h⟩⟩
 have C_law_line:Dd l.prog w K mg base "_law_line" 1 Ej:=⟨⟨["houses"],⟨_,_,V3 F17 B,b17,k17,U1o X G a17⟩,fun ds r h=>Ey h⟩⟩
 have C_law_height:Dd l.prog w K mg base "_law_height" 1 BP:=⟨⟨["houses","number"],⟨_,_,S6 F18 B,b18,k18,U1o X G a18⟩,fun ds r h=>Ey h⟩⟩
 have C_law_numbers:G3 l.prog w K mg base "_law_numbers" 3 DW:=⟨⟨["well","houses"],⟨_,_,RN F19 B C_law_draw,b19,k19,U1o X G a19⟩,fun ns ds r h=>Iv h⟩⟩
 have C_law_right:G3 l.prog w K mg base "_law_right" 7 Cy:=⟨⟨["well","houses","near"],⟨_,_,Uh F20 B C_law_line C_law_numbers C_height_at C_law_height C_skyline_of,b20,k20,U1o X G a20⟩,fun ns ds r h=>Iv h⟩⟩
 exact(iK F21 B C_law_well C_law_reach C_law_right C_law_houses C_law_draw C_skyline_of).imp (iU Zb)
theorem walk{l:U5u}{q:Program}{loose:List Str}{XP:(Str->Option Value)->Heap->Prop}{YP:World->Heap->Prop}{d:DefRec}{K:Params->U0a}(hn:l.most=some 63)(hdf:d.params.defaults=[])
  (hY:∀(w:World)(h:Heap),YP w h->(K w.params).In h)
  (F:∀(w:World)(mg:Str->Option Value)(fa:Addr)(h:Heap),(K w.params).In h->h.Ns mainGlobals mg->mg d.name=some (.ref fa) ->
   ∃fd:FuncData,(∀(s:Shared)(u:Value),BindsTo s fd ⟨[u],[]⟩ [("script",u)])/\∀base:Heap,(K w.params).In base->base.Ns mainGlobals mg->Ci l.prog w (K w.params) mg base CX0 8 fa fd ["script"] (QG (K w.params))) :
  U6y q loose XP YP l.row.toRowW d [] (fun f vs=>U6v f vs) :=
 L2.Yw (n:=63) (k:=8) (x:="script") (CX:=CX0) (sp:=QG) hn (by decide) hdf ⟨rfl,by decide,by decide,rfl⟩ hY F (fun _ _ a ns hl hO hS=>⟨a,ns,rfl,hO,hl,hS,fun _=>rfl⟩) fun _ _ _ _ z=>z
end W28
open PySem PySem.W PyProof.Rows
set_option maxRecDepth 100000 in
set_option maxHeartbeats 0 in
theorem PySem.Challenge.cw_boxcover_k28_heights_and_skylines_holds : PySem.Challenge.rw_boxcover_k28_heights_and_skylines.Holds := by
 w_on;o_law;k_head;(case hw=>w_witness2)
 k_fill
 refine W28.walk (l := PySem.Challenge.rw_boxcover_k28_heights_and_skylines) rfl rfl (fun w h Y => PySem.W.kIn_of Y) ?F
 case F =>
  intro w mg fa h KX G hmg
  refine' W28.tops KX G hmg ?a1 ?l1 ?c1 ?k1 ?a2 ?l2 ?c2 ?k2 ?a3 ?l3 ?c3 ?k3 ?a4 ?l4 ?c4 ?k4 ?a5 ?l5 ?c5 ?k5 ?a6 ?l6 ?c6 ?k6 ?a7 ?l7 ?c7 ?k7 ?a8 ?l8 ?c8 ?k8 ?a9 ?l9 ?c9 ?k9 ?a10 ?l10 ?c10 ?k10 ?a11 ?l11 ?c11 ?k11 ?a12 ?l12 ?c12 ?k12 ?a13 ?l13 ?c13 ?k13 ?a14 ?l14 ?c14 ?k14 ?a15 ?l15 ?c15 ?k15 ?a16 ?l16 ?c16 ?k16 ?a17 ?l17 ?c17 ?k17 ?a18 ?l18 ?c18 ?k18 ?a19 ?l19 ?c19 ?k19 ?a20 ?l20 ?c20 ?k20 ?a21 ?l21 ?c21 ?k21 ?z1 ?z2 ?z3 ?z4 ?z5 ?z6 ?z7 ?z8 ?z9 ?z10 ?z11 ?z12 ?z13 ?z14 ?z15
  (case a1=>k_is);(case l1=>k_is);(case c1=>k_is);(case k1=>k_is)
  (case a2=>k_is);(case l2=>k_is);(case c2=>k_is);(case k2=>k_is)
  (case a3=>k_is);(case l3=>k_is);(case c3=>k_is);(case k3=>k_is)
  (case a4=>k_is);(case l4=>k_is);(case c4=>k_is);(case k4=>k_is)
  (case a5=>k_is);(case l5=>k_is);(case c5=>k_is);(case k5=>k_is)
  (case a6=>k_is);(case l6=>k_is);(case c6=>k_is);(case k6=>k_is)
  (case a7=>k_is);(case l7=>k_is);(case c7=>k_is);(case k7=>k_is)
  (case a8=>k_is);(case l8=>k_is);(case c8=>k_is);(case k8=>k_is)
  (case a9=>k_is);(case l9=>k_is);(case c9=>k_is);(case k9=>k_is)
  (case a10=>k_is);(case l10=>k_is);(case c10=>k_is);(case k10=>k_is)
  (case a11=>k_is);(case l11=>k_is);(case c11=>k_is);(case k11=>k_is)
  (case a12=>k_is);(case l12=>k_is);(case c12=>k_is);(case k12=>k_is)
  (case a13=>k_is);(case l13=>k_is);(case c13=>k_is);(case k13=>k_is)
  (case a14=>k_is);(case l14=>k_is);(case c14=>k_is);(case k14=>k_is)
  (case a15=>k_is);(case l15=>k_is);(case c15=>k_is);(case k15=>k_is)
  (case a16=>k_is);(case l16=>k_is);(case c16=>k_is);(case k16=>k_is)
  (case a17=>k_is);(case l17=>k_is);(case c17=>k_is);(case k17=>k_is)
  (case a18=>k_is);(case l18=>k_is);(case c18=>k_is);(case k18=>k_is)
  (case a19=>k_is);(case l19=>k_is);(case c19=>k_is);(case k19=>k_is)
  (case a20=>k_is);(case l20=>k_is);(case c20=>k_is);(case k20=>k_is)
  (case a21=>k_is);(case l21=>k_is);(case c21=>k_is);(case k21=>k_is)
  (case z1=>k_is);(case z2=>k_is);(case z3=>k_is);(case z4=>k_is);(case z5=>k_is);(case z6=>k_is);(case z7=>k_is);(case z8=>k_is);(case z9=>k_is);(case z10=>k_is);(case z11=>k_is);(case z12=>k_is);(case z13=>k_is);(case z14=>k_is);(case z15=>k_is)
end
