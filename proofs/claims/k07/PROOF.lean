import PyProof.Rows.All
import Wide.All
import OpenK.AllK
import Wide.FinOn
import Lean
import PyProof.EqAt
import PyProof.EqKinds
import PyProof.TupleCall
import PyProof.SetKind
import PyProof.SetNew
import PyProof.SetRoads
import PyProof.Walks
import PyProof.Rows.SetListFold
import PyProof.Seq
import PyProof.Rows.SortShell
import PyProof.TupleIter
import PyProof.CollectWalk
import PyProof.ReprRoads
import PyProof.EqLayable
import PyProof.ReprLen
import PyProof.WalkInts
import PyProof.SeqI3
import PyProof.ListMulRoad
import PyProof.ZipIter
import PyProof.EnumFor
import PyProof.EnumMake
import PyProof.Draws
import PyProof.Rows.ZipGen
import PyProof.LayNew
import PyProof.WalksMore
import PyProof.IsiTupleAll
import PyProof.Rows.Range3
import PyProof.Rows.SumAny
import PyProof.Rows.CallKwBuiltin
import PyProof.MinMaxWalk
import PySem.Challenge.RW_boxcover_k07_pieces_and_gaps_one_by_one
open PySem renaming wpAny_bind → U0, wpAny_pure → U0d, wpAny_field → U13, wpAny_call_entry → U17, wpAny_newObj_type → U19, wpAny_holding → U2f, wpAny_seqItems → U2o, mem_of_lookup → U2s, wpAny_setField → U2z, wpAny_truthy_bool → U3a, wpAny_setField_rec → U3n, wpAny_setState_of → U34, wpAny_askSetting → U4c, wpAny_updateSeq → U4q, wpAny_rule → U41, wpAny_isInstance → U42, wpAny_attempt → U45, wpAny_passesOwn → U5d, wpAny_Call_Name_kw → U5g, wpAny_typeOf → U5i, wpAny_pyIter_tuple → U5l, wpAny_mono → U5m, wpAny_pyIter_list → U5t, wpAny_onRaise → U52, wpAny_updateSeq_pair → U6a, wpAny_setEntries_of → U6c, wpAny_pyIter_slot → U6s, wpAny_execs_nil → U61, wpAny_specialOf → U63, wpAny_ite_false → U64, wpAny_letGo → U69, call → U7c
open PySem.W renaming Frag → U0a, nsIn → U0x, keepIn → U04, codeIn → U07, mg_of → U08, fnOf → U09, mg_none_of → U1k, kia_one → U2t, kitOne → U29, findIn → U5n, cellsFrom_some → U5w, OpenLaw → U58, methodObj → U6o, instObj → U60, lookIn → U7, WalkO → U7e
open PySem.Heap renaming get?_push_of_some → U0b, lt_size → U0j, get?_push_size → U0s, SameBut → U02, get?_update_other → U1d, get?_update_self → U14, size_push → U18, ExtBut → U48, IsTuple → U5k
open Option renaming bind_some → U0c, map_bind → U0h, some → U1c, map → U2e, map_eq_some_iff → U3r, isSome_iff_exists → U4a, isSome_map → U6t
open List renaming length_cons → U0e, map_map → U0f, mem_cons_self → U0g, length_map → U0i, getElem?_eq_some_iff → U0l, length_append → U0n, size_toArray → U0o, range → U0p, getElem?_eq_getElem → U0q, mem_cons → U0r, map_cons → U0t, replicate_succ → U0u, mem_singleton → U0w, mem_cons_of_mem → U0z, mem_append_right → U01, replicate → U03, getElem?_map → U05, getElem?_append_left → U1b, getD_eq_getElem?_getD → U1f, length_nil → U1h, pairwise_cons → U1i, mem_of_getElem? → U1l, replicate_zero → U1o, lookup_cons → U1r, map_append → U1s, map_nil → U1u, getElem?_append_right → U1v, mem_append → U1w, length_replicate → U1y, nil_append → U11, not_mem_nil → U12, mem_map → U16, mem_filter → U2c, cons_append → U2k, mem_range → U2n, foldl_cons → U2q, length_take → U2r, getElem?_set_self → U2x, drop_eq_getElem_cons → U21, mem_append_left → U27, getElem?_set_ne → U28, append_nil → U3c, length_pos_iff → U3e, Nodup → U3h, getElem_mem → U3i, all_eq_true → U3j, take_length → U3k, length_singleton → U3m, pairwise_append → U3o, mem_iff_getElem? → U3x, forIn_cons → U3y, eq_nil_or_concat → U30, concat_eq_append → U31, flatten_cons → U33, foldl_append → U35, getElem?_replicate → U4f, length_eq_zero_iff → U4g, sum_cons → U4j, nodup_cons → U4m, length_set → U4n, Perm → U4p, lookup_append → U4r, find?_cons → U4t, append_assoc → U4w, length_range → U4y, length_filter_le → U4z, length → U46, filterMap_cons → U5, mergeSort_perm → U5b, filter_eq_self → U5c, of_mem_zip → U5e, forIn_nil → U5o, take_succ → U5p, pairwise_singleton → U5r, flatMap_cons → U5v, take_of_length_le → U5y, length_eq_one_iff → U5z, getElem?_toArray → U54, getElem?_eq_none → U55, set_append_right → U56, foldl → U57, length_zip → U6b, map_congr_left → U6e, Pairwise → U6l, all_cons → U6m, nodup_append → U6r, length_drop → U6v, isEmpty_nil → U6x, any_eq_true → U6y, range_succ → U66, lookup → U68, drop_zero → U7b, any_cons → U7f, cons → U7i, range' → U7m
open Nat renaming le_refl → U0k, lt_of_lt_of_le → U0m, ne_of_lt → U0v, le_trans → U06, le_add_right → U1g, ne_of_gt → U1q, le_of_lt → U2b, reduceAdd → U2h, reduceSub → U2i, lt_trans → U2p, zero_le → U2y, lt_succ_of_lt → U20, lt_irrefl → U3p, lt_of_le_of_lt → U3t, mul_le_mul_right → U43, le_succ → U47, lt_succ_self → U53, add_lt_add_left → U6d, mul_comm → U6w, not_lt_zero → U62, le_of_eq → U7g
open Bool renaming and_eq_true → U0y, false_ne_true → U1a, false_eq_true → U1z, eq_iff_iff → U2d, or_eq_true → U4o, or_false → U44, not_true → U50, false_xor → U6i, eq_false_iff → U6u, true_or → U7j
open Option.some renaming inj → U00
open PySem.Builtin.SmallTypes renaming nextOf → U1e, ownedTupleIsFree → U1p
open PySem.SetTable renaming below → U1j, grown → U39, probe → U6g
open Ne renaming symm → U1m
open PySem.Heap.SameBut renaming update → U1n
open Array renaming length_toList → U1t, getElem?_eq_getElem → U10, getD_eq_getD_getElem? → U2v, getElem?_toList → U3w
open PySem.Value renaming ref → U1x, none → U2g, type → U3f, int → U3s, bool → U4k, str → U6z
open PySem.Obj renaming mapSeq → U15, mapFields → U3q
open PySem.NameKind renaming free → U2a, cell → U3g
open PySem.SeqAt renaming shaped → U2j
open PySem.F renaming slot_zip_next → U2l, plainAttrs_list → U2w, slot_list_append → U25, type_list_append → U26, slot_tuple_iterator_next → U3l, plain_extend_loop → U38, called_set → U4d, args_zip_next_1 → U4h, slot_tuple_mul → U4u, entry_zip_next → U4v, args_tuple_add_2 → U5h, entry_tuple_add → U5q, slot_tuple_add → U5x
open PyProof.Rows renaming slot_tuple_getitem → U2m, callWith_type1 → U2u, IntTab → U5a
open PySem.PassesOwn renaming never → U22
open PySem.Str renaming ofString → U23
open PySem.PyData renaming depth → U24, shown → U3v, depthAll → U3z, canLay0 → U4, shownAll → U4s, canLayAll0 → U5u, showable → U6, eqv → U7d
open PySem.Around renaming under_plainId → U3
open Int renaming toNat_natCast → U3b, le_refl → U49, emod_lt_of_pos → U6k, le_antisymm → U65, emod_nonneg → U67, le_of_lt → U7h, mul_one → U7l
open PySem.Builtin.List renaming listExtendWith → U3d, listSameRef → U4e, listLengthHint → U40, listTooLong → U5j
open PySem.Manifest renaming ParamKind → U3u, Receiver → U5s
open PySem.Manifest.ParamKind renaming posOnly → U32
open False renaming elim → U36
open PySem.Builtin.Slice renaming slicePlaces → U37, sliceAdjust → U5f
open PySem.Builtin.Tuple renaming tupleExact → U4b
open Sum renaming inl → U4i, inr → U6f
open True renaming intro → U4l
open PySem.SetTable.below renaming go → U4x
open PySem.Shared renaming TypeIs → U51, heap → U6j
open ForInStep renaming yield → U59
open List.Perm renaming refl → U6h, cons → U7a
open List.cons renaming inj → U6n
open List.Pairwise renaming nil → U6p
open PySem.SetTable.probe renaming go → U6q
open Sum.inl renaming inj → U7k
noncomputable section
set_option Elab.async false
set_option maxRecDepth 10000
set_option linter.all false
set_option maxHeartbeats 4000000
namespace PySem.W.Fast
def tw6316382305735559852:=0
def tw2256184211252087554:=0
def tw4998861770774022610:=0
def tw13080943236010193745:=0
def tw12555889244179165187:=0
def tw16873257351418511997:=0
def tw17892147939303009803:=0
def tw15063415656461989595:=0
def tw2981752536716247747:=0
def tw10834460887923969244:=0
def tw2863683066523229633:=0
def tw9987905458564784078:=0
def tw4108081287017896322:=0
def tw4609351847516523085:=0
def tw3410301141081155300:=0
def tw5910828090081008695:=0
def tw2050423575060583090:=0
def tw15121563059962459311:=0
def tw12547587532145046170:=0
def tw17248783966379356098:=0
def tw11527812140071340889:=0
def tw18322382097560163654:=0
def tw3324963504655269920:=0
def tw8275774529115645251:=0
def tw9427422867419804656:=0
def tw8543068939084964999:=0
def tw10730051029735049156:=0
def tw17420665387845314395:=0
def tw8066881960702010445:=0
def tw3732553679999651223:=0
def tw14172735704767772220:=0
def tw16577584501053282139:=0
def tw9330628351195388738:=0
def tw2686302586978469984:=0
def tw13759541761586325165:=0
def tw1080659877424863626:=0
def tw3972560196457845922:=0
def tw14177187560971133914:=0
def tw3527926177261705207:=0
def tw4950339650931404644:=0
def tw9575421615543076463:=0
def tw14784298926226014268:=0
def tw18067873507222342775:=0
def tw12406737712997379050:=0
def tw11184889128601359623:=0
def tw13330718065280172987:=0
def tw4162491071755693836:=0
def tw13719457459623840258:=0
def tw14360965258783887752:=0
def tw4336763148989410863:=0
def tw1281125022842999384:=0
def tw16729537768285378699:=0
def tw3064640213794842907:=0
def tw1884625219577596845:=0
def tw5981486199428778713:=0
def tw14933200541039431654:=0
def tw6926684285576118170:=0
def tw5794652993423344481:=0
def tw7636980989283017289:=0
def tw2583956751079375137:=0
def tw10029774341358707061:=0
def tw7772676734324564758:=0
def tw14657065202831759275:=0
def tw664280758576862200:=0
def tw12150438982594766460:=0
def tw12645297399696624545:=0
def tw15451094080853590553:=0
def tw3879283766159345628:=0
def tw16179308443687572845:=0
def tw7251725154543721177:=0
def tw8286978739429149912:=0
def tw10361615940678720842:=0
def tw12250391288071478084:=0
def tw5596647229337990073:=0
def tw7839493937520034608:=0
def tw5896252590098217280:=0
def tw13890189286187987847:=0
def tw5025894363844788661:=0
def tw9093172691426840477:=0
def tw16389264060908513776:=0
def tw4171680469416372977:=0
def tw6596558018908317399:=0
def tw16238602611871180525:=0
def tw16723818847552261290:=0
def tw4285707739818518011:=0
def tw17768978293585698616:=0
def tw15602172706842228616:=0
def tw1979760506307725038:=0
def tw4280255855131868420:=0
def tw6667134301528859830:=0
def tw6227727552897218113:=0
def tw2483006883219485069:=0
def tw14302187587518899853:=0
def tw10424561961697941096:=0
def tw9403779285792959936:=0
def tw17758198311689241532:=0
def tw8111937235800921408:=0
def tw13840373222352911168:=0
def tw7791694027362926996:=0
def tw7729026723576447377:=0
def tw9372102980874485905:=0
def tw13134728533754412831:=0
def tw7198115976168305897:=0
def tw7040016420600534028:=0
def tw2404079036129168383:=0
def tw12878368820068416157:=0
def tw2684580194474692459:=0
def tw9264847804020731385:=0
def tw9486688382752201294:=0
def tw16115239273876034366:=0
end PySem.W.Fast
section
set_option maxRecDepth 100000
namespace L2
open PySem PySem.Spec PyProof.Rows
abbrev Key:=Sum Int Str
def Pk:Key->Value->Bool
 |.inl k,v=>Value.isInt k v
 |.inr x,v=>Value.isStrOf x v
def uw(w:World):Key->Int
 |.inl k=>hashInt k
 |.inr x=>hashStr w x
theorem FT:∀{k:Key} {v:Value},Pk k v=true->(∃i t,k=U4i i/\v=U3s i t)∨(∃x t,k=U6f x/\v=U6z x t)
 |.inl i,v,h=>by
  obtain⟨t,e⟩:=Value.isInt_shape (k:=i) (v:=v) h
  exact .inl ⟨i,t,rfl,e⟩
 |.inr x,v,h=>by
  obtain⟨t,e⟩:=Value.isStrOf_shape (x:=x) (v:=v) h
  exact .inr ⟨x,t,rfl,e⟩
theorem bM(i:Int)(t:Tok):Pk (.inl i) (.int i t)=true:=by simp[Pk,Value.isInt]
theorem bL(x:Str)(t:Tok):Pk (.inr x) (.str x t)=true:=by simp[Pk,Value.isStrOf]
theorem qP(a b:Int):decide ((U4i a:Key)=U4i b)=(a==b):=by
 by_cases e:a=b
 .subst e;simp
 .have h:¬(U4i a:Key)=U4i b:=fun q=>e (U7k q)
  rw[decide_eq_false h]
  exact(beq_eq_false_iff_ne.mpr e).symm
theorem qM(a b:Str):decide ((U6f a:Key)=U6f b)=decide (a=b):=by
 by_cases e:a=b
 .subst e;simp
 .have h:¬(U6f a:Key)=U6f b:=fun q=>e (U6f.inj q)
  rw[decide_eq_false h,decide_eq_false e]
theorem qO(a:Int)(b:Str):decide ((U4i a:Key)=U6f b)=false:=decide_eq_false (fun q=>nomatch q)
theorem qN(a:Str)(b:Int):decide ((U6f a:Key)=U4i b)=false:=decide_eq_false (fun q=>nomatch q)
def Fq(prog:Program)(w:World):PySem.KeyKind prog w Key where
 is:=Pk
 hash:=uw w
 inj:=fun v a b ha hb=>by
  rcases FT ha with ⟨i,t,rfl,rfl⟩|⟨x,t,rfl,rfl⟩
  .rcases FT hb with ⟨j,u,rfl,e⟩|⟨y,u,rfl,e⟩
   .injection e with e1 _;rw[e1]
   .exact nomatch e
  .rcases FT hb with ⟨j,u,rfl,e⟩|⟨y,u,rfl,e⟩
   .exact nomatch e
   .injection e with e1 _;rw[e1]
 byValue:=fun k v h=>by
  rcases FT h with ⟨i,t,rfl,rfl⟩|⟨x,t,rfl,rfl⟩<;>rfl
 pyHash:=fun hv h=>by
  rcases FT hv with ⟨i,t,rfl,rfl⟩|⟨x,t,rfl,rfl⟩
  .exact wpAny_pyHash_int h
  .exact wpAny_pyHash_str h
 eqBool:=fun hu hv h=>by
  rcases FT hu with ⟨i,t,rfl,rfl⟩|⟨x,t,rfl,rfl⟩
  .rcases FT hv with ⟨j,u,rfl,rfl⟩|⟨y,u,rfl,rfl⟩
   .rw[qP] at h;exact wpAny_eqBool_int h
   .rw[qO] at h;exact SeqAt.EqAt.int_str i t y u _ _ _ _ h
  .rcases FT hv with ⟨j,u,rfl,rfl⟩|⟨y,u,rfl,rfl⟩
   .rw[qN] at h;exact SeqAt.EqAt.str_int x t j u _ _ _ _ h
   .rw[qM] at h;exact wpAny_eqBool_str h
 «strs»:=fun k x t v h=>by
  rcases FT h with ⟨i,u,rfl,e⟩|⟨y,u,rfl,e⟩
  .exact nomatch e
  .injection e with e1 _
   subst e1
   cases v<;>rfl
theorem Xh(prog:Program)(w:World)(i:Int)(t:Tok):(Fq prog w).is (.inl i) (.int i t)=true:=bM i t
theorem Xg(prog:Program)(w:World)(x:Str)(t:Tok):(Fq prog w).is (.inr x) (.str x t)=true:=bL x t
end L2
namespace L2
open PySem PySem.Spec PyProof.Rows
inductive V where
 |non|bl (b:Bool)|int (i:Int)|str (x:Str)|byt (b:Array UInt8)|flt (b:UInt64)|ref (a:Addr)|ty (n:String)
 deriving DecidableEq
def RelV:V->Value->Prop
 |.non,u=>u=U2g
 |.bl b,u=>u=U4k b
 |.int i,u=>∃t,u=U3s i t
 |.str x,u=>∃t,u=U6z x t
 |.byt b,u=>∃t,u=Value.bytes b t
 |.flt b,u=>∃t,u=Value.float b t
 |.ref a,u=>u=U1x a
 |.ty n,u=>u=U3f n
abbrev Vals:List V->List Value->Prop:=Paired RelV
theorem Vals.length{xs:List V}{us:List Value}(r:Vals xs us):xs.length=us.length:=Paired.length r
theorem Vals.get:∀{xs:List V} {us:List Value} {i:Nat} {x:V},Vals xs us->xs[i]?=some x->∃u,us[i]?=some u/\RelV x u
 |_,_,_,_,.nil,e=>by simp at e
 |_,_,0,_,.cons r _,e=>by simp at e;subst e;exact⟨_,rfl,r⟩
 |_,_,i+1,x,.cons _ t,e=>by
  obtain⟨u,h1,h2⟩:=Vals.get (i:=i) (x:=x) t (by simpa using e)
  exact⟨u,by simpa using h1,h2⟩
theorem Vals.set{x:V}{u:Value}(r:RelV x u):∀{xs:List V} {us:List Value} (i:Nat),Vals xs us->Vals (xs.set i x) (us.set i u)
 |_,_,_,.nil=>.nil
 |_,_,0,.cons _ t=>.cons r t
 |_,_,i+1,.cons q t=>.cons q (Vals.set r i t)
theorem Vals.append:∀{xs ys:List V} {us ws:List Value},Vals xs us->Vals ys ws->Vals (xs++ys) (us++ws)
 |_,_,_,_,.nil,s=>s
 |_,_,_,_,.cons r t,s=>.cons r (Vals.append t s)
theorem Vals.take:∀{xs:List V} {us:List Value} (n:Nat),Vals xs us->Vals (xs.take n) (us.take n)
 |_,_,0,_=>.nil
 |_,_,_+1,.nil=>.nil
 |_,_,n+1,.cons r t=>.cons r (Vals.take n t)
theorem Vals.drop:∀{xs:List V} {us:List Value} (n:Nat),Vals xs us->Vals (xs.drop n) (us.drop n)
 |_,_,0,r=>r
 |_,_,_+1,.nil=>.nil
 |_,_,n+1,.cons _ t=>Vals.drop n t
def Qj:Option V->Option Value->Prop
 |some v,some u=>RelV v u
 |none,none=>True
 |_,_=>False
def KV{κ:Type}:List (κ×V)->List (κ×Value)->Prop:=Paired fun(p:κ×V) (q:κ×Value)=>p.1=q.1/\RelV p.2 q.2
def kV:Key->V
 |.inl i=>.int i
 |.inr x=>.str x
inductive HO where
  /-- a list -/
 |lst (xs:List V)
  /-- a tuple (never changes) -/
 |tup (xs:List V)
  /-- a dict whose keys are ints and texts; one whose keys are tuples of ints and texts (the empty one is both) -/
 |dK (kvs:List (Key×V))|dT (kvs:List (List Key×V))
  /-- a set of ints: its members, its size -/
 |set (S:Int->Bool) (n:Nat)
  /-- an instance of the class at C, its dict at dx, its attributes -/
 |ins (C dx:Addr) (fs:List (Str×V))
  /-- the dict of the instance at x -/
 |own (x:Addr)
  /-- the dict of an exception -/
 |xd (fs:List (Str×V))
  /-- a bound method, f of x -/
 |met (f x:Addr)
  /-- a range object lo, lo + 1, .. below hi -/
 |rng (lo hi:Int)
  /-- a thing that is known to the object (the script; a dict while a loop walks it): read, never written while it is so -/
 |frz (o:Obj) (u:HO)
  /-- a code object's table -/
 |tbl (ps:Array Value)
  /-- any other thing, by what is true of its one object (a def of one's own: SetO a S n := HO.ext fun h => ..) -/
 |ext (φ:Heap->Prop)
abbrev Hp:=Addr->Option HO
def upd(H:Hp)(a:Addr)(o:HO):Hp:=fun b=>if b=a then some o else H b
theorem Bk{H:Hp}{a:Addr}{o:HO}:upd H a o a=some o:=by unfold upd;rw[if_pos rfl]
theorem BZ{H:Hp}{a b:Addr}{o:HO}(h:b≠a):upd H a o b=H b:=by unfold upd;rw[if_neg h]
theorem tQ{H:Hp}{a b:Addr}{o u:HO}(h:H a=some o)(h':H b=some u)(d:o≠u):a≠b:=by
 intro e;subst e;rw[h] at h';exact d (U00 h')
theorem DR{H:Hp}{a b:Addr}{o:HO}(h:H a=some o)(h':H b=none):a≠b:=by
 intro e;subst e;rw[h] at h';cases h'
section
variable(P:Program)(w:World)
def Cr(H:Hp)(h:Heap)(a:Addr):HO->Prop
 |.lst xs=>xs.length<=sizeLine/\∃(its:List Value)(n:Nat),Vals xs its/\h.get? a=some { cls:=.type "list",data:=.seq its.toArray n }
 |.tup xs=>xs.length<=sizeLine/\∃its:List Value,Vals xs its/\IsTup h a its.toArray
 |.dK kvs=>kvs.length<=sizeLine/\(a==sysModules)=false/\∃vs,KV kvs vs/\h.DictOf (Fq P w) a vs
 |.dT kvs=>kvs.length<=sizeLine/\(a==sysModules)=false/\∃xs:List (List Key×Addr×Value),
   Paired (fun(p:List Key×V) (q:List Key×Addr×Value)=>p.1=q.1/\H q.2.1=some (.tup (p.1.map kV))/\RelV p.2 q.2.2) kvs xs /\
   ∃o es ep,h.get? a=some o/\o.ExactDict/\o.data=.dict es ep/\es.toList=xs.map (entryOfKey (tupleKind (Fq P w)))/\(xs.map (·.1)).Nodup
 |.set S n=>h.SetOf (intKind P w) a S n
 |.ins C dx fs=>H dx=some (.own a)/\fs.length<=1000/\dx≠a/\h.get? a=some (U60 C dx) /\
   ∃mA,h.Ns1 dx mA/\(∀f,Qj (fs.lookup f) (mA f))/\PySem.Within mA (fs.map (·.1))
 |.own _=>∃o,h.get? a=some o
 |.xd fs=>∃mA,h.Ns1 a mA/\∀f,Qj (fs.lookup f) (mA f)
 |.rng lo hi=>∃t u v,h.get? a=some { cls:=.type "range",data:=.fields #[.int lo t,.int hi u,.int 1 v] }
 |.frz o u=>h.get? a=some o/\Cr H h a u
 |.tbl ps=>h.get? a=some { cls:=.none,data:=.fields ps }
 |.met f x=>h.get? a=some (U6o (.ref f) (.ref x))
 |.ext φ=>φ h/\(∃o,h.get? a=some o)/\∀h1 h2:Heap,φ h1->(∀o,h1.get? a=some o->h2.get? a=some o)->φ h2
def HOk(H:Hp)(h:Heap):Prop:=∀a o,H a=some o->Cr P w H h a o
end
section
variable{P:Program}{w:World}{H H':Hp}{h h':Heap}{a:Addr}{o:HO}
theorem Cr.lt(x:Cr P w H h a o):a<h.objs.size:=by
 cases o with
 |lst xs=>obtain⟨_,_,_,_,e⟩:=x;exact U0j e
 |tup xs=>obtain⟨_,_,_,p⟩:=x;exact p.lt
 |dK kvs=>obtain⟨_,_,_,_,o,_,_,e,_⟩:=x;exact U0j e
 |dT kvs=>obtain⟨_,_,_,_,o,_,_,e,_⟩:=x;exact U0j e
 |set S n=>obtain⟨o,_,_,_,e,_⟩:=x;exact U0j e
 |ins C dx fs=>obtain⟨_,_,_,e,_⟩:=x;exact U0j e
 |own y=>obtain⟨_,e⟩:=x;exact U0j e
 |xd fs=>obtain⟨_,⟨_,_,_,e,_⟩,_⟩:=x;exact U0j e
 |rng lo hi=>obtain⟨_,_,_,e⟩:=x;exact U0j e
 |frz ob u=>obtain⟨e,_⟩:=x;exact U0j e
 |tbl ps=>exact U0j (show h.get? a=some _ from x)
 |met f y=>exact U0j (show h.get? a=some _ from x)
 |ext φ=>obtain⟨_,⟨_,e⟩,_⟩:=x;exact U0j e
theorem Paired.cV{α β:Type}{F G:α->β->Prop}:∀{l₁:List α} {l₂:List β},Paired F l₁ l₂->(∀a b,F a b->G a b)->Paired G l₁ l₂
 |_,_,.nil,_=>.nil
 |_,_,.cons r t,f=>.cons (f _ _ r) (Paired.cV t f)
theorem Cr.stay(x:Cr P w H h a o)(k:∀b u,(b=a∨H b=some (.own a))->h.get? b=some u->h'.get? b=some u)
  (ho:∀b,H b=some (.own a)->H' b=some (.own a)) (ht:∀b xs,H b=some (.tup xs)->H' b=some (.tup xs)):Cr P w H' h' a o:=by
 induction o with
 |lst xs=>obtain⟨z,its,n,r,e⟩:=x;exact⟨z,its,n,r,k _ _ (.inl rfl) e⟩
 |tup xs=>obtain⟨z,its,r,ob,e,c⟩:=x;exact⟨z,its,r,ob,k _ _ (.inl rfl) e,c⟩
 |dK kvs=>obtain⟨z,y,vs,r,ob,es,ep,e,c⟩:=x;exact⟨z,y,vs,r,ob,es,ep,k _ _ (.inl rfl) e,c⟩
 |dT kvs =>
  obtain⟨z,y,xs,r,ob,es,ep,e,c⟩:=x
  exact⟨z,y,xs,Paired.cV r fun p q z=>⟨z.1,ht _ _ z.2.1,z.2.2⟩,ob,es,ep,k _ _ (.inl rfl) e,c⟩
 |set S n=>obtain⟨ob,es,ep,t,e,c⟩:=x;exact⟨ob,es,ep,t,k _ _ (.inl rfl) e,c⟩
 |ins C dx fs =>
  obtain⟨d,z,ne,e,mA,⟨od,es,ep,e2,c⟩,r⟩:=x
  exact⟨ho _ d,z,ne,k _ _ (.inl rfl) e,mA,⟨od,es,ep,k _ _ (.inr d) e2,c⟩,r⟩
 |own y=>obtain⟨ob,e⟩:=x;exact⟨ob,k _ _ (.inl rfl) e⟩
 |xd fs=>obtain⟨mA,⟨od,es,ep,e,c⟩,r⟩:=x;exact⟨mA,⟨od,es,ep,k _ _ (.inl rfl) e,c⟩,r⟩
 |rng lo hi=>obtain⟨t,u,v,e⟩:=x;exact⟨t,u,v,k _ _ (.inl rfl) e⟩
 |frz ob u ih=>obtain⟨e,q⟩:=x;exact⟨k _ _ (.inl rfl) e,ih q⟩
 |tbl ps =>
  have e:h.get? a=some { cls:=.none,data:=.fields ps }:=x
  show h'.get? a=some { cls:=.none,data:=.fields ps }
  exact k a _ (.inl rfl) e
 |met f y =>
  have e:h.get? a=some (U6o (.ref f) (.ref y)):=x
  show h'.get? a=some (U6o (.ref f) (.ref y))
  exact k a _ (.inl rfl) e
 |ext φ=>obtain⟨p,⟨o,e⟩,st⟩:=x;exact⟨st _ _ p fun o q=>k _ _ (.inl rfl) q,⟨o,k _ _ (.inl rfl) e⟩,st⟩
theorem HOk.lt(x:HOk P w H h)(e:H a=some o):a<h.objs.size:=(x a o e).lt
theorem HOk.fresh(x:HOk P w H h)(e:h.objs.size<=a):H a=none:=by
 cases q:H a with
 |none=>rfl
 |some u=>exact absurd (U0m (x.lt q) e) (U3p _)
theorem HOk.kept(x:HOk P w H h)(k:∀b u,h.get? b=some u->h'.get? b=some u):HOk P w H h':=fun a o e =>
 (x a o e).stay (fun b u _ q=>k b u q) (fun _ q=>q) fun _ _ q=>q
theorem HOk.laid(x:HOk P w H h)(k:∀b u,h.get? b=some u->h'.get? b=some u)(hp:h.objs.size<=a)(new:Cr P w (upd H a o) h' a o):HOk P w (upd H a o) h':=fun b u e=>by
 have hn:=x.fresh hp
 by_cases hb:b=a
 .subst hb;rw[Bk] at e;cases e;exact new
 .rw[BZ hb] at e
  exact(x b u e).stay (fun c v _ q=>k c v q) (fun c q=>by rw[BZ (DR q hn)];exact q) fun c xs q=>by rw[BZ (DR q hn)];exact q
end
def Rd(H:Hp)(a:Addr)(u:HO):Prop:=H a=some u∨∃o,H a=some (.frz o u)
theorem Rd.ok{P:Program}{w:World}{H:Hp}{h:Heap}{a:Addr}{u:HO}(r:Rd H a u)(x:HOk P w H h):Cr P w H h a u:=by
 rcases r with r|⟨o,r⟩
 .exact x a u r
 .obtain⟨_,q⟩:=x a _ r
  exact q
def Mut:Option HO->Prop
 |some (.lst _)=>True
 |some (.dK _)=>True
 |some (.dT _)=>True
 |some (.set _ _)=>True
 |some (.ins _ _ _)=>True
 |some (.ext _)=>True
 |_=>False
section
variable{P:Program}{w:World}{H:Hp}{h h':Heap}{x e:Addr}{o':HO}
theorem HOk.write(ok:HOk P w H h)(mu:Mut (H x))(he:e=x∨H e=some (.own x))(k:∀b u,b≠e->h.get? b=some u->h'.get? b=some u)(heo:∃u,h'.get? e=some u)
  (new:Cr P w (upd H x o') h' x o'):HOk P w (upd H x o') h':=fun b u q=>by
 have nown:∀c y,H c=some (.own y)->c≠x:=fun c y r z=>by subst z;rw[r] at mu;exact mu
 have ntup:∀c xs,H c=some (.tup xs)->c≠x:=fun c xs r z=>by subst z;rw[r] at mu;exact mu
 by_cases hb:b=x
 .subst hb;rw[Bk] at q;cases q;exact new
 .rw[BZ hb] at q
  by_cases hbe:b=e
  .have q':H b=some (.own x):=by
    rcases he with z|z
    .exact absurd (hbe.trans z) hb
    .rw[hbe];exact z
   rw[q] at q';cases q'
   obtain⟨v,hv⟩:=heo
   exact⟨v,by rw[hbe];exact hv⟩
  .refine(ok b u q).stay (fun c v hc r=>k c v ?_ r) (fun c r=>by rw[BZ (nown c b r)];exact r) fun c xs r=>by rw[BZ (ntup c xs r)];exact r
   rcases hc with rfl|hc
   .exact hbe
   .rintro rfl
    rcases he with z|z
    .exact nown c b hc z
    .rw[hc] at z;cases z;exact hb rfl
end
structure Un(fs ex:List Addr)(H H':Hp)(h h':Heap):Prop where
 keep:∀b o,h.get? b=some o->H b=none->b ∉ fs->b ∉ ex->h'.get? b=some o
 slot:∀b o,h.get? b=some o->H b=none->b∈fs->b ∉ ex->∃sl,h'.get? b=some { o with slots:=sl }
 free:∀b o,h.get? b=some o->H b=none->b ∉ ex->H' b=none
 there:∀b o,h.get? b=some o->b ∉ ex->∃o',h'.get? b=some o'
 tups:∀b xs,H b=some (.tup xs)->H' b=some (.tup xs)
 frzs:∀b o u,H b=some (.frz o u)->H' b=some (.frz o u)
 tbls:∀b ps,H b=some (.tbl ps)->∃more,H' b=some (.tbl (ps++more))
 sy:H sysModules=none->H' sysModules=none
section
variable{fs fs' ex ex':List Addr}{H H1 H2:Hp}{h h1 h2 h':Heap}{a x e:Addr}{o:HO}
theorem Un.any(u:Un fs ex H H1 h h1){b:Addr}{ob:Obj}(q:h.get? b=some ob)(n:H b=none)(hx:b ∉ ex):∃sl,h1.get? b=some { ob with slots:=sl }:=by
 by_cases hb:b∈fs
 .exact u.slot b ob q n hb hx
 .exact⟨ob.slots,u.keep b ob q n hb hx⟩
theorem Un.kept(k:∀b u,h.get? b=some u->h'.get? b=some u):Un fs ex H H h h' :=
 ⟨fun b ob q _ _ _=>k b ob q,fun b ob q _ _ _=>⟨ob.slots,k b ob q⟩,fun _ _ _ n _=>n,fun b ob q _=>⟨ob,k b ob q⟩,fun _ _ q=>q,fun _ _ _ q=>q,fun _ ps q=>⟨#[],by rw[q];simp⟩,id⟩
theorem Un.refl:Un fs ex H H h h:=Un.kept fun _ _ q=>q
theorem Un.laid(k:∀b u,h.get? b=some u->h'.get? b=some u)(hp:h.objs.size<=a)(hn:H a=none)(hsy:sysModules≠a):Un fs ex H (upd H a o) h h' where
 sy:=fun n=>by rw[BZ hsy];exact n
 keep:=fun b u q _ _ _=>k b u q
 slot:=fun b u q _ _ _=>⟨u.slots,k b u q⟩
 free:=fun b u q n _=>by rw[BZ (U0v (U0m (U0j q) hp))];exact n
 there:=fun b u q _=>⟨u,k b u q⟩
 tups:=fun b xs q=>by rw[BZ (DR q hn)];exact q
 frzs:=fun b u xs q=>by rw[BZ (DR q hn)];exact q
 tbls:=fun b ps q=>⟨#[],by rw[BZ (DR q hn),q];simp⟩
theorem Un.write(mu:Mut (H x))(he:e=x∨H e=some (.own x))(k:∀b u,b≠e->h.get? b=some u->h'.get? b=some u)(heo:∃u,h'.get? e=some u):Un fs ex H (upd H x o) h h':=by
 have hx:∀b,H b=none->b≠x:=fun b n z=>by subst z;rw[n] at mu;exact mu
 have hb:∀b,H b=none->b≠e:=fun b n z=>by
  subst z
  rcases he with r|r
  .exact hx b n r
  .rw[n] at r;cases r
 have hm:∀b u,H b=some u->¬Mut (some u)->b≠x:=fun b u q nm z=>by subst z;rw[q] at mu;exact nm mu
 refine⟨fun b u q n _ _=>k b u (hb b n) q,fun b u q n _ _=>⟨u.slots,k b u (hb b n) q⟩,fun b u q n _=>by rw[BZ (hx b n)];exact n,fun b u q _=>?_,
  fun b xs q=>by rw[BZ (hm b _ q fun z=>z)];exact q,fun b u xs q=>by rw[BZ (hm b _ q fun z=>z)];exact q,fun b ps q=>⟨#[],by rw[BZ (hm b _ q fun z=>z),q];simp⟩,fun n=>by rw[BZ (hx _ n)];exact n⟩
 by_cases hbe:b=e
 .subst hbe;exact heo
 .exact⟨u,k b u hbe q⟩
end
def trk(h:Heap)(H:Hp):List Addr:=(U0p h.objs.size).filter fun a=>(H a).isSome
def N6(h:Heap)(H:Hp):Heap:=PySem.W.hideAll h (trk h H)
theorem bU(h:Heap)(H:Hp):(N6 h H).objs.size=h.objs.size:=PySem.W.hideAll_size _ _
theorem gR{h:Heap}{H:Hp}{b:Addr}{o:Obj}(e:h.get? b=some o)(n:H b=none):(N6 h H).get? b=some o :=
 PySem.W.hideAll_get _ e fun hm=>by
  have q:(H b).isSome=true:=(U2c.mp hm).2
  rw[n] at q;simp at q
theorem jt{h:Heap}{H:Hp}{b:Addr}{o:Obj}(e:(N6 h H).get? b=some o):h.get? b=some o/\H b=none:=by
 have e':h.get? b=some o:=PySem.W.of_hideAll (trk h H) e
 refine⟨e',?_⟩
 cases q:H b with
 |none=>rfl
 |some x =>
  have hm:b∈trk h H:=U2c.mpr ⟨U2n.mpr (U0j e'),by simp[q]⟩
  have z:(N6 h H).get? b=none:=PySem.W.hideAll_none (trk h H) hm
  rw[z] at e;cases e
def m6(g h:Heap)(L:Addr):List (Addr×Obj):=(U0p h.objs.size).filterMap fun a=>if a=L∨(g.get? a).isSome=true then none else (h.get? a).map fun o=>(a,o)
def rest(g h:Heap)(L d:Addr):List (Addr×Obj):=(m6 g h L).filter fun p=>decide (p.1≠d)
end L2
namespace L2
open PySem PySem.Spec PyProof.Rows
structure Mod(K:U0a)(mg:Str->Option Value)(base:Heap):Prop where
 kin:K.In base
 glob:base.Ns mainGlobals mg
 blt:∃mb,base.Ns builtinsNs mb/\∀x:Str,x≠"__name__"->mb x=bootBuiltins x
 nolimit:base.NoLimit
/-- the context: a def's body (or a comprehension's block) running. base: fixed through the whole law; s₀, H₀: the entry; outer: the frames whose slots others may change (a def's callers); stack: all frames that run;
   ex: iterators that were made ahead of the entry and are walked here (a comprehension's); fn: the names whose cells were made at the entry (a def: all; a comprehension's block: its own); calm: not within an except suite; pn: pins that every state bears; xe: what is wanted of an exception that leaves the code -/
structure Cx where
 prog:Program
 w:World
 K:U0a
 mg:Str->Option Value
 base:Heap
 A:Around
 N:List Str
 s₀:Shared
 H₀:Hp
 env:Env
 outer:List Env
 stack:List Env
 ex:List Addr
 fn:Str->Bool
 calm:Bool
 pn:List (Addr×Obj)
 xe:Value->Shared->Prop
def frs(l:List Env):List Addr:=l.filterMap (·.frame)
abbrev Cx.fs(X:Cx):List Addr:=frs X.outer
def Vis(sc:Scope)(x:Str):Prop:=sc.names.lookup x=some .local∨sc.names.lookup x=some .cell∨sc.names.lookup x=some .free
def Loc(sc:Scope)(x:Str):Prop:=sc.names.lookup x=some .local∨sc.names.lookup x=some .cell
def Look(env:Env)(h:Heap)(m:Str->Option Value)(x:Str)(u:Value):Prop :=
 (env.kindOf x=some .local/\m x=some u)∨((env.kindOf x=some .cell∨env.kindOf x=some .free)/\∃c,env.cells.lookup x=some c/\h.IsCell c (some u))
structure Cx.Ok(X:Cx):Prop where
 mod:Mod X.K X.mg X.base
 kind:X.env.scope.kind=.function
 glob:X.env.globals=mainGlobals
 blt:X.env.builtins=builtinsNs
 above:X.s₀.heap.objs.size<=X.env.locals
 inj:∀x y c,X.env.cells.lookup x=some c->X.env.cells.lookup y=some c->x=y
 has:∀x,(X.env.kindOf x=some .cell∨X.env.kindOf x=some .free)->∃c,X.env.cells.lookup x=some c
 cab:∀x c,X.fn x=true->X.env.cells.lookup x=some c->X.s₀.heap.objs.size<=c
 hd:X.calm=true->X.A.handled=none
 frames:X.A.frames=some X.stack
 stk:X.stack=X.outer∨(X.stack=X.env::X.outer/\X.env.frame=some X.env.locals)
 exf:∀b∈X.ex,b≠X.env.locals/\∀x c,X.env.cells.lookup x=some c->c≠b
 bs:∀b o,X.base.get? b=some o->X.s₀.heap.get? b=some o/\X.H₀ b=none
 bsz:X.base.objs.size<=X.s₀.heap.objs.size
 noex:∀b o,X.base.get? b=some o->b ∉ X.ex
 exfs:∀b∈X.ex,b ∉ X.fs
 Ku:X.s₀.heap.FunFrames X.base X.outer
 frf:∀b∈X.fs,X.H₀ b=none
 sy:X.H₀ sysModules=none
structure Inv(X:Cx)(pins:List (Addr×Obj))(σ:List (Option V))(H:Hp)(s:Shared):Prop where
 ok:X.Ok
 os:s.os=X.s₀.os
 bare:AllBare s.gens
 base:Un X.fs X.ex X.H₀ H X.s₀.heap s.heap
 loc:∃m,s.heap.Ns X.env.locals m/\∀(i:Nat)(x:Str)(v:V),X.N[i]?=some x->σ[i]?=some (some v)->Vis X.env.scope x->∃u,RelV v u/\Look X.env s.heap m x u
 cell:∀x c,X.env.cells.lookup x=some c->∃v,s.heap.IsCell c v
 free:H X.env.locals=none
 freeC:∀x c,X.env.cells.lookup x=some c->H c=none
 pin:∀p∈X.pn++pins,s.heap.get? p.1=some p.2/\H p.1=none/\p.1≠X.env.locals/\p.1 ∉ X.fs/\∀v,p.2.data≠.cell v
 hok:HOk X.prog X.w H s.heap
 len:σ.length=X.N.length
section
variable{X:Cx}{pins:List (Addr×Obj)}{σ:List (Option V)}{H H':Hp}{s:Shared}{h':Heap}
theorem Cx.Ok.ur(ok:X.Ok){b:Addr}{o:Obj}(e:X.base.get? b=some o):b ∉ X.fs:=fun hb=>by
 have:=(ok.Ku.mem hb).1
 rw[e] at this;cases this
theorem Inv.bs(I:Inv X pins σ H s):∀b o,X.base.get? b=some o->s.heap.get? b=some o/\H b=none:=fun b o e =>
 ⟨I.base.keep b o (I.ok.bs b o e).1 (I.ok.bs b o e).2 (I.ok.ur e) (I.ok.noex b o e),I.base.free b o (I.ok.bs b o e).1 (I.ok.bs b o e).2 (I.ok.noex b o e)⟩
theorem Inv.bk(I:Inv X pins σ H s):∀b o,X.base.get? b=some o->s.heap.get? b=some o:=fun b o e=>(I.bs b o e).1
theorem Inv.mod(I:Inv X pins σ H s):Mod X.K X.mg X.base:=I.ok.mod
theorem Inv.kIn(I:Inv X pins σ H s):X.K.In s.heap:=I.ok.mod.kin.keeps I.bk
theorem Inv.fr(I:Inv X pins σ H s):∃m,Fr X.base X.env.locals s.heap m :=
 let ⟨m,hn,_⟩:=I.loc
 ⟨m,hn,I.bk,U06 I.ok.bsz I.ok.above⟩
theorem Inv.lt(I:Inv X pins σ H s):X.env.locals<s.heap.objs.size:=let ⟨_,hn,_⟩:=I.loc;hn.lt
theorem Inv.sz(I:Inv X pins σ H s):X.s₀.heap.objs.size<=s.heap.objs.size:=U06 I.ok.above (U2b I.lt)
theorem Inv.cU(I:Inv X pins σ H s){a:Addr}(h:s.heap.objs.size<=a):a ∉ X.fs:=fun hb=>by
 obtain⟨_,o,ho,_⟩:=I.ok.Ku.mem hb
 exact absurd (U0m (U0j ho) (U06 I.sz h)) (U3p _)
theorem Inv.cne(I:Inv X pins σ H s):∀x c,X.env.cells.lookup x=some c->c≠X.env.locals:=fun x c e z=>by
 obtain⟨v,o,ho,hd⟩:=I.cell x c e
 obtain⟨m,⟨o',es,ep,ho',hd',_⟩,_⟩:=I.loc
 rw[z,ho'] at ho;cases ho;rw[hd'] at hd;cases hd
theorem Inv.Ku(I:Inv X pins σ H s):s.heap.FunFrames X.base X.outer:=by
 have all:∀(l:List Env),(∀b∈frs l,b∈X.fs)->X.s₀.heap.FunFrames X.base l->s.heap.FunFrames X.base l:=by
  intro l
  induction l with
  |nil=>intro _ _;trivial
  |cons env r ih =>
   intro hs hl
   obtain⟨hk,⟨L,o,hf,hn,ho,hd⟩,hr⟩:=hl
   have hL:L∈X.fs:=hs L (by unfold frs;rw[U5,hf];exact U0g)
   obtain⟨sl,e⟩:=I.base.slot L o ho (I.ok.frf L hL) hL fun z=>I.ok.exfs L z hL
   exact⟨hk,⟨L,_,hf,hn,e,hd⟩,ih (fun b hb=>hs b (by unfold frs;rw[U5,hf];exact U0z _ hb)) hr⟩
 exact all X.outer (fun _ hb=>hb) I.ok.Ku
theorem Inv.stack(I:Inv X pins σ H s):s.heap.FunFrames X.base X.stack:=by
 rcases I.ok.stk with e|⟨e,hf⟩
 .rw[e];exact I.Ku
 .rw[e]
  obtain⟨m,hn,_⟩:=I.loc
  refine .cons (by rw[I.ok.kind];decide) hf hn ?_ I.Ku
  exact Heap.get?_none_of_le (U06 I.ok.bsz I.ok.above)
theorem Inv.O9(I:Inv X pins σ H s):∀b∈frs X.stack,b∈X.env.locals::X.fs:=fun b hb=>by
 rcases I.ok.stk with e|⟨e,hf⟩
 .rw[e] at hb;exact U0z _ hb
 .rw[e] at hb
  unfold frs at hb
  rw[U5,hf] at hb
  exact hb
theorem Inv.Y5(I:Inv X pins σ H s):∀b∈frs X.stack,H b=none:=fun b hb=>by
 rcases U0r.mp (I.O9 b hb) with e|hb
 .rw[e];exact I.free
 .obtain⟨_,o,ho,_⟩:=I.ok.Ku.mem hb
  exact I.base.free b o ho (I.ok.frf b hb) fun z=>I.ok.exfs b z hb
theorem Inv.Yl(I:Inv X pins σ H s):sysModules<s.heap.objs.size:=by
 obtain⟨o,_,_,e,_⟩:=I.ok.mod.glob
 exact U2p (by decide:(1:Nat)<3) (U0j (I.bk _ _ e))
theorem Inv.Qf(I:Inv X pins σ H s):H sysModules=none:=I.base.sy I.ok.sy
theorem Inv.step{g':Array GenState}{t':Nat}{d':Drawn}{ch:List Addr}(I:Inv X pins σ H s)
  (hch:∀b∈ch,(b∈X.ex∨X.s₀.heap.objs.size<=b)/\b≠X.env.locals/\(∀x c,X.env.cells.lookup x=some c->c≠b)/\∀p∈X.pn++pins,p.1≠b)
  (keep:∀b o,b≠X.env.locals->b ∉ X.fs->b ∉ ch->s.heap.get? b=some o->H b=none->h'.get? b=some o)
  (slot:∀b o,b≠X.env.locals->b∈X.fs->b ∉ ch->s.heap.get? b=some o->H b=none->∃sl,h'.get? b=some { o with slots:=sl }) (free:∀b o,b ∉ ch->s.heap.get? b=some o->H b=none->H' b=none)
  (there:∀b o,b ∉ ch->s.heap.get? b=some o->∃o',h'.get? b=some o')
  (tups:∀b xs,H b=some (.tup xs)->H' b=some (.tup xs)) (frzs:∀b o u,H b=some (.frz o u)->H' b=some (.frz o u)) (tbls:∀b ps,H b=some (.tbl ps)->∃more,H' b=some (.tbl (ps++more)))
  (ns:∀m,s.heap.Ns X.env.locals m->h'.Ns X.env.locals m) (hok:HOk X.prog X.w H' h') (hg:AllBare g') (sy:H sysModules=none->H' sysModules=none) :
  Inv X pins σ H' { s with heap:=h',gens:=g',drawn:=d',toks:=t' }:=by
 have neL:∀b o,X.s₀.heap.get? b=some o->b≠X.env.locals:=fun b o e=>U0v (U0m (U0j e) I.ok.above)
 have neC:∀b o,X.s₀.heap.get? b=some o->b ∉ X.ex->b ∉ ch:=fun b o e hx hb=>by
  rcases(hch b hb).1 with z|z
  .exact hx z
  .exact absurd (U0m (U0j e) z) (U3p _)
 have cellK:∀x c,X.env.cells.lookup x=some c->∀v,s.heap.IsCell c v->h'.IsCell c v:=fun x c e v ⟨o,ho,hd⟩=>by
  have nch:c ∉ ch:=fun z=>(hch c z).2.2.1 x c e rfl
  by_cases hc:c∈X.fs
  .obtain⟨sl,q⟩:=slot c o (I.cne x c e) hc nch ho (I.freeC x c e)
   exact⟨_,q,hd⟩
  .exact⟨o,keep c o (I.cne x c e) hc nch ho (I.freeC x c e),hd⟩
 refine⟨I.ok,I.os,hg,⟨fun b o e n hb hx=>?_,fun b o e n hb hx=>?_,fun b o e n hx=>?_,fun b o e hx=>?_,fun b xs e=>tups b xs (I.base.tups b xs e),fun b o xs e=>frzs b o xs (I.base.frzs b o xs e),fun b ps e=>?_,fun n=>sy (I.base.sy n)⟩,?_,fun x c e=>?_,?_,fun x c e=>?_,fun p hp=>?_,hok,I.len⟩
 .exact keep b o (neL b o e) hb (neC b o e hx) (I.base.keep b o e n hb hx) (I.base.free b o e n hx)
 .obtain⟨sl,e1⟩:=I.base.slot b o e n hb hx
  obtain⟨sl',e2⟩:=slot b _ (neL b o e) hb (neC b o e hx) e1 (I.base.free b o e n hx)
  exact⟨sl',e2⟩
 .obtain⟨o',e1⟩:=I.base.there b o e hx
  exact free b o' (neC b o e hx) e1 (I.base.free b o e n hx)
 .obtain⟨o',e1⟩:=I.base.there b o e hx
  exact there b o' (neC b o e hx) e1
 .obtain⟨m1,e1⟩:=I.base.tbls b ps e
  obtain⟨m2,e2⟩:=tbls b _ e1
  exact⟨m1++m2,by rw[e2,Array.append_assoc]⟩
 .obtain⟨m,hn,hl⟩:=I.loc
  refine⟨m,ns m hn,fun i x v e1 e2 e3=>?_⟩
  obtain⟨u,r,l⟩:=hl i x v e1 e2 e3
  refine⟨u,r,?_⟩
  rcases l with l|⟨k,c,e,z⟩
  .exact .inl l
  .exact .inr ⟨k,c,e,cellK x c e _ z⟩
 .obtain⟨v,z⟩:=I.cell x c e
  exact⟨v,cellK x c e v z⟩
 .obtain⟨m,⟨o,_,_,ho,_⟩,_⟩:=I.loc
  exact free _ o (fun z=>(hch _ z).2.1 rfl) ho I.free
 .obtain⟨v,o,ho,hd⟩:=I.cell x c e
  exact free c o (fun z=>(hch c z).2.2.1 x c e rfl) ho (I.freeC x c e)
 .obtain⟨e,n,ne,nf,d⟩:=I.pin p hp
  have nch:p.1 ∉ ch:=fun z=>(hch p.1 z).2.2.2 p hp rfl
  exact⟨keep p.1 p.2 ne nf nch e n,free p.1 p.2 nch e n,ne,nf,d⟩
theorem Inv.un{t':Nat}(I:Inv X pins σ H s)(u:Un X.fs [] H H' s.heap h')(hok:HOk X.prog X.w H' h'):Inv X pins σ H' { s with heap:=h',toks:=t' }:=by
 obtain⟨m,⟨o,es,ep,ho,r⟩,_⟩:=id I.loc
 obtain⟨sl,hL⟩:=u.any ho I.free (by simp)
 exact I.step (g':=s.gens) (d':=s.drawn) (ch:=[]) (fun _ z=>nomatch z) (fun b o _ hb _ e n=>u.keep b o e n hb (by simp)) (fun b o _ hb _ e n=>u.slot b o e n hb (by simp)) (fun b o _ e n=>u.free b o e n (by simp)) (fun b o _ e=>u.there b o e (by simp)) u.tups u.frzs u.tbls (fun m' hm=>by
  obtain⟨o',es',ep',ho',r'⟩:=hm
  rw[ho] at ho';cases ho'
  exact⟨_,es',ep',hL,r'⟩) hok I.bare u.sy
theorem Inv.call{g':Array GenState}{t':Nat}{d':Drawn}{ch:List Addr}(I:Inv X pins σ H s)(u:Un (frs X.stack) ch H H' s.heap h')(hok:HOk X.prog X.w H' h')(hg:AllBare g')
  (hch:∀b∈ch,(b∈X.ex∨X.s₀.heap.objs.size<=b)/\b≠X.env.locals/\(∀x c,X.env.cells.lookup x=some c->c≠b)/\∀p∈X.pn++pins,p.1≠b) :
  Inv X pins σ H' { s with heap:=h',gens:=g',drawn:=d',toks:=t' }:=by
 obtain⟨m,⟨o,es,ep,ho,r⟩,_⟩:=id I.loc
 obtain⟨sl,hL⟩:=u.any ho I.free fun z=>(hch _ z).2.1 rfl
 exact I.step (ch:=ch) hch (fun b o hL hb hc e n=>u.keep b o e n (fun z=>(U0r.mp (I.O9 b z)).elim hL hb) hc) (fun b o _ _ hc e n=>u.any e n hc) (fun b o hc e n=>u.free b o e n hc) (fun b o hc e=>u.there b o e hc) u.tups u.frzs u.tbls (fun m' hm=>by
  obtain⟨o',es',ep',ho',r'⟩:=hm
  rw[ho] at ho';cases ho'
  exact⟨_,es',ep',hL,r'⟩) hok hg u.sy
theorem Inv.turned{t':Nat}{it:Addr}(I:Inv X pins σ H s)(k:∀b o,b≠it->s.heap.get? b=some o->h'.get? b=some o)(hn:H it=none)(hL:it≠X.env.locals)
  (h1:it∈X.ex∨X.s₀.heap.objs.size<=it) (h2:∀x c,X.env.cells.lookup x=some c->c≠it) (h3:∀p∈X.pn++pins,p.1≠it):Inv X pins σ H { s with heap:=h',toks:=t' }:=by
 have nit:∀b u,H b=some u->b≠it:=fun b u e z=>by rw[z,hn] at e;cases e
 refine I.step (g':=s.gens) (d':=s.drawn) (ch:=[it]) (fun b hb=>?_) (fun b o _ _ hc e _=>k b o (fun z=>hc (by simp[z])) e) (fun b o _ _ hc e _=>⟨o.slots,k b o (fun z=>hc (by simp[z])) e⟩) (fun _ _ _ _ n=>n)
  (fun b o hc e=>⟨o,k b o (fun z=>hc (by simp[z])) e⟩) (fun _ _ e=>e) (fun _ _ _ e=>e) (fun b ps e=>⟨#[],by rw[e];simp⟩) (fun m hm=>?_) (fun b u e=>?_) I.bare id
 .have e:b=it:=by simpa using hb
  subst e
  exact⟨h1,hL,h2,h3⟩
 .obtain⟨o,es,ep,ho,r⟩:=hm
  exact⟨o,es,ep,k _ o (U1m hL) ho,r⟩
 .refine(I.hok b u e).stay (fun c v hc q=>k c v ?_ q) (fun _ q=>q) fun _ _ q=>q
  rcases hc with z|z
  .rw[z];exact nit b u e
  .exact nit c _ z
theorem Inv.tok(I:Inv X pins σ H s)(t:Nat):Inv X pins σ H { s with toks:=t }:=I.un (h':=s.heap) (t':=t) Un.refl I.hok
theorem Inv.kept{t':Nat}(I:Inv X pins σ H s)(k:∀b u,s.heap.get? b=some u->h'.get? b=some u):Inv X pins σ H { s with heap:=h',toks:=t' }:=I.un (Un.kept k) (I.hok.kept k)
theorem Inv.laid{a:Addr}{o:HO}{t':Nat}(I:Inv X pins σ H s)(k:∀b u,s.heap.get? b=some u->h'.get? b=some u)(hp:s.heap.objs.size<=a)(new:Cr X.prog X.w (upd H a o) h' a o) :
  Inv X pins σ (upd H a o) { s with heap:=h',toks:=t' }:=I.un (Un.laid k hp (I.hok.fresh hp) (U0v (U0m I.Yl hp))) (I.hok.laid k hp new)
theorem Inv.write{x e:Addr}{o:HO}{t':Nat}(I:Inv X pins σ H s)(mu:Mut (H x))(he:e=x∨H e=some (.own x))(k:∀b u,b≠e->s.heap.get? b=some u->h'.get? b=some u)(heo:∃u,h'.get? e=some u)
  (new:Cr X.prog X.w (upd H x o) h' x o):Inv X pins σ (upd H x o) { s with heap:=h',toks:=t' }:=I.un (Un.write mu he k heo) (I.hok.write mu he k heo new)
theorem Inv.weak{σ':List (Option V)}(I:Inv X pins σ H s)(hl:σ'.length=σ.length)(w:∀(i:Nat) v,σ'[i]?=some (some v)->σ[i]?=some (some v)):Inv X pins σ' H s :=
 ⟨I.ok,I.os,I.bare,I.base,let ⟨m,hn,hl'⟩:=I.loc;⟨m,hn,fun i x v e1 e2 e3=>hl' i x v e1 (w i v e2) e3⟩,I.cell,I.free,I.freeC,I.pin,I.hok,hl.trans I.len⟩
theorem Inv.Py{pins':List (Addr×Obj)}(I:Inv X pins σ H s)(h:∀p∈pins',s.heap.get? p.1=some p.2/\H p.1=none/\p.1≠X.env.locals/\p.1 ∉ X.fs/\∀v,p.2.data≠.cell v):Inv X pins' σ H s :=
 ⟨I.ok,I.os,I.bare,I.base,I.loc,I.cell,I.free,I.freeC,fun p hp=>(U1w.mp hp).elim (fun z=>I.pin p (U27 _ z)) (h p),I.hok,I.len⟩
theorem W5{N:List Str}(hN:N.Nodup){i j:Nat}{x:Str}(a:N[i]?=some x)(b:N[j]?=some x):i=j:=by
 obtain⟨h1,e1⟩:=U0l.mp a
 obtain⟨h2,e2⟩:=U0l.mp b
 exact(List.getElem_inj hN).mp (e1.trans e2.symm)
theorem Tv{M:Model}{A:Around}{E:Value->Shared->Prop}{i:Nat}{x:Str}{v:V}{u:Value}{Q:Unit->Shared->Prop}(I:Inv X pins σ H s)(hN:X.N.Nodup)(hi:X.N[i]?=some x)(hx:Loc X.env.scope x)(r:RelV v u)
  (h:∀s',Inv X pins (σ.set i (some v)) H s'->(∃a,U02 a s.heap s'.heap/\(a=X.env.locals∨X.env.cells.lookup x=some a))->Q () s') (hf:X.fn x=true∨X.env.scope.names.lookup x=some .local:=by first|exact .inl rfl|exact .inr rfl|assumption):wpAny M A (storeName X.env x u) Q E s:=by
 obtain⟨m,hn,hl⟩:=id I.loc
 have hcls:(X.env.scope.kind==.class||(X.env.scope.kind==.module&&X.env.locals != X.env.globals))=false:=by rw[I.ok.kind];rfl
 have hiσ:i<σ.length:=by rw[I.len];exact(U0l.mp hi).1
 have cne:=I.cne
 have tracked:∀{a:Addr} {h':Heap},(∃o,s.heap.get? a=some o/\H a=none)->U02 a s.heap h'->HOk X.prog X.w H h':=fun {a h'} ha hs b ob e=>by
  obtain⟨_,_,hfree⟩:=ha
  refine(I.hok b ob e).stay (fun c w' hc q=>(hs.2 c ?_).trans q) (fun _ q=>q) fun _ _ q=>q
  rintro rfl
  rcases hc with rfl|hc
  .rw[hfree] at e;cases e
  .rw[hfree] at hc;cases hc
 rcases hx with hk|hk
 .refine wpAny_storeName_local hk hn (fun h' hn' hs=>?_) hcls
  obtain⟨oL,_,_,hoL,_⟩:=id hn
  refine h _ ⟨I.ok,I.os,I.bare,⟨fun b o e n hb hx=>?_,fun b o e n hb hx=>?_,I.base.free,fun b o e hx=>?_,I.base.tups,I.base.frzs,I.base.tbls,I.base.sy⟩,⟨_,hn',fun j y v' e1 e2 e3=>?_⟩,fun y c e=>?_,I.free,I.freeC,fun p hp=>?_,tracked ⟨oL,hoL,I.free⟩ hs,by simpa using I.len⟩ ⟨_,hs,.inl rfl⟩
  .exact(hs.2 b (U0v (U0m (U0j e) I.ok.above))).trans (I.base.keep b o e n hb hx)
  .obtain⟨sl,e1⟩:=I.base.slot b o e n hb hx
   exact⟨sl,(hs.2 b (U0v (U0m (U0j e) I.ok.above))).trans e1⟩
  .obtain⟨o',e1⟩:=I.base.there b o e hx
   exact⟨o',(hs.2 b (U0v (U0m (U0j e) I.ok.above))).trans e1⟩
  .by_cases hj:j=i
   .subst hj
    rw[hi] at e1;cases e1
    rw[U2x hiσ] at e2
    cases e2
    exact⟨u,r,.inl ⟨hk,by simp⟩⟩
   .rw[U28 (U1m hj)] at e2
    obtain⟨u',r',q⟩:=hl j y v' e1 e2 e3
    refine⟨u',r',?_⟩
    rcases q with ⟨k,e⟩|⟨k,c,e,z⟩
    .refine .inl ⟨k,?_⟩
     have:y≠x:=fun e=>hj (W5 hN e1 (e ▸ hi))
     simp[this,e]
    .exact .inr ⟨k,c,e,z.sameBut hs (cne y c e)⟩
  .obtain⟨w',z⟩:=I.cell y c e
   exact⟨w',z.sameBut hs (cne y c e)⟩
  .obtain⟨e,n,ne,nf,d⟩:=I.pin p hp
   exact⟨(hs.2 p.1 ne).trans e,n,ne,nf,d⟩
 .have hfn:X.fn x=true:=by
   rcases hf with z|z
   .exact z
   .rw[z] at hk;cases hk
  obtain⟨c,hc⟩:=I.ok.has x (.inl hk)
  obtain⟨w',z⟩:=I.cell x c hc
  refine wpAny_storeName_cell I.ok.kind hk hc z (fun h' hc' hs=>?_)
  obtain⟨oc,hoc,hocd⟩:=id z
  refine h { s with heap:=h' } ⟨I.ok,I.os,I.bare,⟨fun b o e n hb hx=>?_,fun b o e n hb hx=>?_,I.base.free,fun b o e hx=>?_,I.base.tups,I.base.frzs,I.base.tbls,I.base.sy⟩,⟨m,hn.sameBut hs (U1m (cne x c hc)),fun j y v' e1 e2 e3=>?_⟩,fun y c' e=>?_,I.free,I.freeC,fun p hp=>?_,tracked ⟨oc,hoc,I.freeC x c hc⟩ hs,by simpa using I.len⟩ ⟨c,hs,.inr hc⟩
  .exact(hs.2 b (U0v (U0m (U0j e) (I.ok.cab x c hfn hc)))).trans (I.base.keep b o e n hb hx)
  .obtain⟨sl,e1⟩:=I.base.slot b o e n hb hx
   exact⟨sl,(hs.2 b (U0v (U0m (U0j e) (I.ok.cab x c hfn hc)))).trans e1⟩
  .obtain⟨o',e1⟩:=I.base.there b o e hx
   exact⟨o',(hs.2 b (U0v (U0m (U0j e) (I.ok.cab x c hfn hc)))).trans e1⟩
  .by_cases hj:j=i
   .subst hj
    rw[hi] at e1;cases e1
    rw[U2x hiσ] at e2
    cases e2
    exact⟨u,r,.inr ⟨.inl hk,c,hc,hc'⟩⟩
   .rw[U28 (U1m hj)] at e2
    obtain⟨u',r',q⟩:=hl j y v' e1 e2 e3
    refine⟨u',r',?_⟩
    rcases q with q|⟨k,c',e,z'⟩
    .exact .inl q
    .refine .inr ⟨k,c',e,z'.sameBut hs ?_⟩
     rintro rfl
     exact hj (W5 hN e1 (I.ok.inj _ _ _ e hc ▸ hi))
  .by_cases hcc:c'=c
   .subst hcc;exact⟨_,hc'⟩
   .obtain⟨w2,z2⟩:=I.cell y c' e
    exact⟨w2,z2.sameBut hs hcc⟩
  .obtain⟨e,n,ne,nf,d⟩:=I.pin p hp
   refine⟨(hs.2 p.1 ?_).trans e,n,ne,nf,d⟩
   intro q
   rw[q,hoc] at e
   have q':oc=p.2:=U00 e
   exact d w' (by rw[←q'];exact hocd)
theorem Vw{M:Model}{A:Around}{E:Value->Shared->Prop}{i:Nat}{x:Str}{v:V}{u:Value}{Q:Unit->Shared->Prop}(I:Inv X pins σ H s)(hN:X.N.Nodup)(hi:X.N[i]?=some x)(hx:Loc X.env.scope x)(r:RelV v u)
  (h:∀s',Inv X pins (σ.set i (some v)) H s'->Q () s') (hf:X.fn x=true∨X.env.scope.names.lookup x=some .local:=by first|exact .inl rfl|exact .inr rfl|assumption):wpAny M A (storeName X.env x u) Q E s :=
 Tv I hN hi hx r (fun s' I' _=>h s' I') hf
theorem Inv.call'{s':Shared}{ch:List Addr}(I:Inv X pins σ H s)(ho:s'.os=s.os)(u:Un (frs X.stack) ch H H' s.heap s'.heap)(hok:HOk X.prog X.w H' s'.heap)(hg:AllBare s'.gens)
  (hch:∀b∈ch,(b∈X.ex∨X.s₀.heap.objs.size<=b)/\b≠X.env.locals/\(∀x c,X.env.cells.lookup x=some c->c≠b)/\∀p∈X.pn++pins,p.1≠b):Inv X pins σ H' s':=by
 obtain⟨h',g',d',t',o'⟩:=s'
 have e:o'=s.os:=ho
 subst e
 exact I.call (g':=g') (t':=t') (d':=d') u hok hg hch
end
abbrev XK:=Value->Option Addr->Hp->Prop
abbrev St:=List (Option V)
abbrev VK:=V->Hp->Prop
abbrev TE:=St->Hp->VK->Prop
abbrev TT:=St->Hp->(Bool->Hp->Prop)->Prop
abbrev TA:=St->Hp->(List V->Hp->Prop)->Prop
structure Ends where
 nx:St->Hp->Prop
 rt:VK
 bk:St->Hp->Prop:=fun _ _=>False
 ct:St->Hp->Prop:=fun _ _=>False
abbrev TS:=Ends->St->Hp->Prop
def EP(X:Cx)(pins:List (Addr×Obj))(σ:St)(Q:VK)(u:Value)(s':Shared):Prop:=∃v H',Inv X pins σ H' s'/\RelV v u/\Q v H'
def TP(X:Cx)(pins:List (Addr×Obj))(σ:St)(Q:Bool->Hp->Prop)(b:Bool)(s':Shared):Prop:=∃H',Inv X pins σ H' s'/\Q b H'
def AP(X:Cx)(pins:List (Addr×Obj))(σ:St)(Q:List V->Hp->Prop)(us:List Value)(s':Shared):Prop:=∃vs H',Inv X pins σ H' s'/\Vals vs us/\Q vs H'
def SP(X:Cx)(pins:List (Addr×Obj))(D:Ends)(f:Flow)(s':Shared):Prop :=
 match f with
 |.next=>∃σ' H',Inv X pins σ' H' s'/\D.nx σ' H'
 |.brk=>∃σ' H',Inv X pins σ' H' s'/\D.bk σ' H'
 |.cont=>∃σ' H',Inv X pins σ' H' s'/\D.ct σ' H'
 |.ret u=>∃v σ' H',Inv X pins σ' H' s'/\RelV v u/\D.rt v H'
def PE(X:Cx)(e:Expr)(t:TE):Prop :=
 ∀(pins:List (Addr×Obj))(s:Shared)(σ:St)(H:Hp)(Q:VK),Inv X pins σ H s->t σ H Q->wpAny (model X.prog X.w) X.A (eval e X.env) (EP X pins σ Q) X.xe s
def PT(X:Cx)(e:Expr)(t:TT):Prop :=
 ∀(pins:List (Addr×Obj))(s:Shared)(σ:St)(H:Hp)(Q:Bool->Hp->Prop),Inv X pins σ H s->t σ H Q->wpAny (model X.prog X.w) X.A (isTrue e X.env (eval e X.env)) (TP X pins σ Q) X.xe s
def PW(X:Cx)(e:Expr)(t:TT):Prop :=
 ∀(whole:Sem Value)(pins:List (Addr×Obj))(s:Shared)(σ:St)(H:Hp)(Q:Bool->Hp->Prop),Inv X pins σ H s->t σ H Q->wpAny (model X.prog X.w) X.A (isTrue e X.env whole) (TP X pins σ Q) X.xe s
theorem PW.pt{X:Cx}{e:Expr}{t:TT}(h:PW X e t):PT X e t:=h _
def PA(X:Cx)(es:List Expr)(t:TA):Prop :=
 ∀(pos:Pos)(pins:List (Addr×Obj))(s:Shared)(σ:St)(H:Hp)(Q:List V->Hp->Prop),Inv X pins σ H s->t σ H Q->wpAny (model X.prog X.w) X.A (spliced (backTo pos (starEach es X.env))) (AP X pins σ Q) X.xe s
def PS(X:Cx)(st:Stmt)(t:TS):Prop :=
 ∀(pins:List (Addr×Obj))(s:Shared)(σ:St)(H:Hp)(D:Ends),Inv X pins σ H s->t D σ H->wpAny (model X.prog X.w) X.A (exec st X.env) (SP X pins D) X.xe s
def PSs(X:Cx)(st:List Stmt)(t:TS):Prop :=
 ∀(pins:List (Addr×Obj))(s:Shared)(σ:St)(H:Hp)(D:Ends),Inv X pins σ H s->t D σ H->wpAny (model X.prog X.w) X.A (execs st X.env) (SP X pins D) X.xe s
theorem thn{α:Type}{t:Sem α}{Q Q':α->Shared->Prop}{M:Model}{A:Around}{E:Value->Shared->Prop}{s:Shared}(h:wpAny M A t Q E s)(hQ:∀a s,Q a s->Q' a s):wpAny M A t Q' E s:=U5m h hQ fun _ _ x=>x
end L2
namespace L2
open PySem PySem.Spec PyProof.Rows
section
variable{X:Cx}
theorem bin{a b:Expr}{ta tb:TE}(ha:PE X a ta)(hb:PE X b tb){pins:List (Addr×Obj)}{s:Shared}{σ:St}{H:Hp}{R:V->V->Hp->Prop}(I:Inv X pins σ H s)(h:ta σ H fun x H1=>tb σ H1 fun y H2=>R x y H2)
  {α:Type} {Q:α->Shared->Prop} {f:Value->Value->Sem α}
  (hf:∀v u s2 x y H2,Inv X pins σ H2 s2->RelV x v->RelV y u->R x y H2->wpAny (model X.prog X.w) X.A (f v u) Q X.xe s2) :
  wpAny (model X.prog X.w) X.A (eval a X.env) (fun v s₁=>wpAny (model X.prog X.w) X.A (eval b X.env) (fun u s₂=>wpAny (model X.prog X.w) X.A (f v u) Q X.xe s₂) X.xe s₁) X.xe s:=by
 refine thn (ha pins s σ H _ I h) fun v s1 ⟨x,H1,I1,r1,q1⟩=>?_
 refine thn (hb pins s1 σ H1 _ I1 q1) fun u s2 ⟨y,H2,I2,r2,q2⟩=>?_
 exact hf v u s2 x y H2 I2 r1 r2 q2
def uV(i:Nat):TE:=fun σ H Q=>∃v,σ[i]?=some (some v)/\Q v H
def tC(v:V):TE:=fun _ H Q=>Q v H
theorem pG{i:Nat}{x:Str}{pos:Pos}(hN:X.N[i]?=some x)(hv:Vis X.env.scope x)(hd:(x==("__debug__":Str))=false:=by decide)(hcd:(x==("__classdict__":Str))=false:=by decide):PE X (.Name x pos) (uV i):=by
 intro pins s σ H Q I h
 obtain⟨v,e,h⟩:=h
 obtain⟨m,hn,hl⟩:=I.loc
 obtain⟨u,r,l⟩:=hl i x v hN e hv
 have fin:EP X pins σ Q u s:=⟨v,H,I,r,h⟩
 rcases l with ⟨hk,hm⟩|⟨hk,c,hc,hcell⟩
 .exact wpAny_Name (wpAny_loadName_local I.ok.kind hk hn hm fin) hd
 .rcases hk with hk|hk
  .exact wpAny_Name (wpAny_loadName_cell I.ok.kind hk hc hcell fin) hd
  .exact wpAny_Name (wpAny_loadName_free I.ok.kind hk hc hcell fin hcd) hd
theorem pL{i j pos}:PE X (.Constant (.int i) j pos) (tC (.int i)):=fun _ _ _ H _ I h=>wpAny_Constant_int ⟨.int i,H,I.tok _,⟨_,rfl⟩,h⟩
theorem tE{b j pos}:PE X (.Constant (.bool b) j pos) (tC (.bl b)):=fun _ _ _ H _ I h=>Constant_bool ⟨.bl b,H,I,rfl,h⟩
def Gl(X:Cx)(x:Str):Prop:=X.env.kindOf x=some .globalImplicit
theorem YL{E:Value->Shared->Prop}{pins:List (Addr×Obj)}{s:Shared}{σ:St}{H:Hp}{x:Str}{u:Value}{pos:Pos}{Q:Value->Shared->Prop}(I:Inv X pins σ H s)(hg:Gl X x)(hm:X.mg x=some u)(h:Q u s)
  (hd:(x==("__debug__":Str))=false:=by decide):wpAny (model X.prog X.w) X.A (eval (.Name x pos) X.env) Q E s :=
 Calls.Name_function_global I.ok.kind hg (Calls.loadGlobal_global (by rw[I.ok.glob];exact I.mod.glob.keeps I.bk) hm h) hd
theorem K1{E:Value->Shared->Prop}{pins:List (Addr×Obj)}{s:Shared}{σ:St}{H:Hp}{x:Str}{u:Value}{pos:Pos}{Q:Value->Shared->Prop}(I:Inv X pins σ H s)(hg:Gl X x)(hm:X.mg x=none)(hv:bootBuiltins x=some u)(h:Q u s)
  (hn:x≠"__name__":=by decide) (hd:(x==("__debug__":Str))=false:=by decide):wpAny (model X.prog X.w) X.A (eval (.Name x pos) X.env) Q E s:=by
 obtain⟨mb,h1,h2⟩:=I.mod.blt
 exact Calls.Name_function_global I.ok.kind hg (Calls.loadGlobal_builtin (by rw[I.ok.glob];exact I.mod.glob.keeps I.bk) hm (by rw[I.ok.blt];exact h1.keeps I.bk) ((h2 x hn).trans hv) h) hd
theorem YG{x:Str}{v:V}{u:Value}{pos:Pos}(hg:Gl X x)(hm:X.mg x=some u)(r:RelV v u)(hd:(x==("__debug__":Str))=false:=by decide):PE X (.Name x pos) (tC v) :=
 fun _ _ _ H _ I h=>YL I hg hm ⟨v,H,I,r,h⟩ hd
theorem jm{x:Str}{v:V}{u:Value}{pos:Pos}(hg:Gl X x)(hm:X.mg x=none)(hv:bootBuiltins x=some u)(r:RelV v u)(hn:x≠"__name__":=by decide)(hd:(x==("__debug__":Str))=false:=by decide):PE X (.Name x pos) (tC v) :=
 fun _ _ _ H _ I h=>K1 I hg hm hv ⟨v,H,I,r,h⟩ hn hd
variable{a b:Expr}{ta tb:TE}{pos:Pos}
def PC(X:Cx)(op:CmpOp)(a b:Expr)(t:TE):Prop :=
 ∀(pins:List (Addr×Obj))(s:Shared)(σ:St)(H:Hp)(Q:VK),Inv X pins σ H s->t σ H Q ->
  wpAny (model X.prog X.w) X.A (eval a X.env) (fun v s₁=>wpAny (model X.prog X.w) X.A (eval b X.env) (fun u s₂=>wpAny (model X.prog X.w) X.A (compareOp op v u) (EP X pins σ Q) X.xe s₂) X.xe s₁) X.xe s
theorem fP(b:Expr){op:CmpOp}(h:op≠.In)(h2:op≠.NotIn):behindInMarks op b=false:=by
 have e1:(op==CmpOp.In)=false:=by cases op<;>first|rfl|exact absurd rfl h
 have e2:(op==CmpOp.NotIn)=false:=by cases op<;>first|rfl|exact absurd rfl h2
 cases b<;>simp[behindInMarks,e1,e2]
def tB(t:TE):TT:=fun σ H Q=>t σ H fun x H1=>∃c,x=.bl c/\Q c H1
theorem vZ{op:CmpOp}{t:TE}(h:PC X op a b t)(h1:behindInMarks op b=false:=by first|exact fP _ (by decide) (by decide)|rfl):PT X (.Compare a [op] [b] pos) (tB t):=by
 intro pins s σ H Q I hw
 refine wpAny_isTrue_Compare1 (thn (h pins s σ H _ I hw) fun v s1 h1=>thn h1 fun u s2 h2=>thn h2 fun c s3 ⟨x,H1,I1,r1,q1⟩=>?_) h1
 obtain⟨d,rfl,q⟩:=q1
 cases r1
 exact U3a ⟨H1,I1,q⟩
theorem oY{e:Expr}{t:TE}(h:PE X e t)(he:∀whole,isTrue e X.env whole=(do let v ←whole;standAt e.pos;holding [v] (truthy v)):=by intro _;rfl):PT X e (tB t):=by
 intro pins s σ H Q I hw
 refine isTrue_plain (thn (h pins s σ H _ I hw) fun v s1 ⟨x,H1,I1,r1,q1⟩=>?_) (he _)
 obtain⟨d,rfl,q⟩:=q1
 cases r1
 exact U3a ⟨H1,I1,q⟩
variable{tA tB':TT}{rest:List Expr}
def Sh(t u:TT):TT:=fun σ H Q=>t σ H fun c H1=>if c=true then u σ H1 Q else Q false H1
def tOr(t u:TT):TT:=fun σ H Q=>t σ H fun c H1=>if c=true then Q true H1 else u σ H1 Q
def JK(t:TT):TT:=fun σ H Q=>t σ H fun c H1=>Q (!c) H1
theorem jT(ha:PT X a tA):PW X (.BoolOp .And [a] pos) tA:=by
 intro wh pins s σ H Q I h
 refine isTrue_and (thn (ha pins s σ H Q I h) fun c s1 e=>?_)
 cases c with
 |true=>exact isTrue_and_nil e
 |false=>exact e
theorem oR(ha:PT X a tA):PW X (.BoolOp .Or [a] pos) tA:=by
 intro wh pins s σ H Q I h
 refine isTrue_or (thn (ha pins s σ H Q I h) fun c s1 e=>?_)
 cases c with
 |false=>exact isTrue_or_nil e
 |true=>exact e
theorem oU(ha:PT X a tA)(hb:PW X (.BoolOp .And (b::rest) pos) tB'):PW X (.BoolOp .And (a::b::rest) pos) (Sh tA tB'):=by
 intro wh pins s σ H Q I h
 refine isTrue_and (thn (ha pins s σ H _ I h) fun c s1 ⟨H1,I1,q1⟩=>?_)
 cases c with
 |true=>exact hb wh pins s1 σ H1 Q I1 q1
 |false=>exact⟨H1,I1,q1⟩
theorem sW(ha:PT X a tA)(hb:PW X (.BoolOp .Or (b::rest) pos) tB'):PW X (.BoolOp .Or (a::b::rest) pos) (tOr tA tB'):=by
 intro wh pins s σ H Q I h
 refine isTrue_or (thn (ha pins s σ H _ I h) fun c s1 ⟨H1,I1,q1⟩=>?_)
 cases c with
 |true=>exact⟨H1,I1,q1⟩
 |false=>exact hb wh pins s1 σ H1 Q I1 q1
theorem oZ(ha:PT X a tA):PT X (.UnaryOp .Not a pos) (JK tA):=by
 intro pins s σ H Q I h
 exact isTrue_not (ha pins s σ H (fun c H1=>Q (!c) H1) I h)
def sI(ta tb:TE):TE:=fun σ H Q=>ta σ H fun x H1=>∃c,x=.bl c/\if c=true then tb σ H1 Q else Q (.bl false) H1
def sE(ta:TE):TE:=fun σ H Q=>ta σ H fun x H1=>∃c,x=.bl c/\Q (.bl (!c)) H1
theorem pJ{op}{t:TE}(h:PE X a t):PE X (.BoolOp op [a] pos) t:=fun pins s σ H Q I hw=>BoolOp_one (h pins s σ H Q I hw)
theorem pO(ha:PE X a ta)(hb:PE X (.BoolOp .And (b::rest) pos) tb):PE X (.BoolOp .And (a::b::rest) pos) (sI ta tb):=by
 intro pins s σ H Q I h
 refine BoolOp_and (thn (ha pins s σ H _ I h) fun v s1 ⟨x,H1,I1,r1,q1⟩=>?_)
 obtain⟨c,rfl,q1⟩:=q1
 cases r1
 refine U3a ?_
 cases c with
 |true=>exact hb pins s1 σ H1 Q I1 q1
 |false=>exact⟨.bl false,H1,I1,rfl,q1⟩
theorem pK(ha:PE X a ta):PE X (.UnaryOp .Not a pos) (sE ta):=by
 intro pins s σ H Q I h
 refine UnaryOp_ (thn (ha pins s σ H _ I h) fun v s1 ⟨x,H1,I1,r1,q1⟩=>?_)
 obtain⟨c,rfl,q1⟩:=q1
 cases r1
 exact not_of (U3a ⟨.bl (!c),H1,I1,rfl,q1⟩)
end
end L2
namespace L2
open PySem PySem.Spec PyProof.Rows
def SqL(K:U0a)(H:Hp)(a:Addr)(xs:List V):Prop :=
 Rd H a (.lst xs) ∨
  ∃(o:Obj)(its:Array Value)(n:Nat),K.lookup a=some o/\o.cls=.type "list"/\o.dict=none/\o.data=.seq its n/\its.size<=sizeLine/\Vals xs its.toList
def SqT(K:U0a)(H:Hp)(a:Addr)(xs:List V):Prop :=
 Rd H a (.tup xs) ∨
  ∃(o:Obj)(its:Array Value)(n:Nat),K.lookup a=some o/\o.cls=.type "tuple"/\o.data=.seq its n/\its.size<=sizeLine/\Vals xs its.toList
def v9:Value->Option V
 |.none=>some .non
 |.bool b=>some (.bl b)
 |.int i _=>some (.int i)
 |.str x _=>some (.str x)
 |.bytes b _=>some (.byt b)
 |.float b _=>some (.flt b)
 |.ref a=>some (.ref a)
 |.type n=>some (.ty n)
 |_=>none
theorem RelV.abs{x:V}{u:Value}(r:RelV x u):v9 u=some x:=by
 cases x with
 |non=>cases r;rfl
 |bl _=>cases r;rfl
 |int _=>obtain⟨t,rfl⟩:=r;rfl
 |str _=>obtain⟨t,rfl⟩:=r;rfl
 |byt _=>obtain⟨t,rfl⟩:=r;rfl
 |flt _=>obtain⟨t,rfl⟩:=r;rfl
 |ref _=>cases r;rfl
 |ty _=>cases r;rfl
theorem RelV.inj{x y:V}{u:Value}(r:RelV x u)(q:RelV y u):x=y:=U00 (r.abs.symm.trans q.abs)
theorem Vals.inj:∀{xs ys:List V} {us:List Value},Vals xs us->Vals ys us->xs=ys
 |_,_,_,.nil,.nil=>rfl
 |_,_,_,.cons r t,.cons r' t'=>by rw[r.inj r',Vals.inj t t']
section
variable{X:Cx}{pins:List (Addr×Obj)}{σ:St}{H:Hp}{s:Shared}{a:Addr}{xs ys:List V}
theorem SqL.of{K:U0a}(h:H a=some (.lst xs)):SqL K H a xs:=.inl (.inl h)
theorem SqT.of{K:U0a}(h:H a=some (.tup xs)):SqT K H a xs:=.inl (.inl h)
theorem Inv.list(I:Inv X pins σ H s)(h:SqL X.K H a xs):∃its:List Value,Vals xs its/\PlainL s.heap a its.toArray/\xs.length<=sizeLine:=by
 rcases h with h|⟨o,its,n,hk,hc,hd,hs,hz,r⟩
 .obtain⟨z,its,n,r,e⟩:=h.ok I.hok
  exact⟨its,r,⟨_,n,e,rfl,rfl,rfl⟩,z⟩
 .refine⟨its.toList,r,⟨o,n,I.kIn a o hk,hc,hd,by simpa using hs⟩,?_⟩
  have e:=r.length
  simp only[U1t] at e
  omega
theorem Inv.tuple(I:Inv X pins σ H s)(h:SqT X.K H a xs):∃its:List Value,Vals xs its/\IsTup s.heap a its.toArray/\xs.length<=sizeLine:=by
 rcases h with h|⟨o,its,n,hk,hc,hs,hz,r⟩
 .obtain⟨z,its,r,p⟩:=h.ok I.hok
  exact⟨its,r,p,z⟩
 .refine⟨its.toList,r,⟨o,I.kIn a o hk,hc,n,by simpa using hs⟩,?_⟩
  have e:=r.length
  simp only[U1t] at e
  omega
theorem Inv.fY(I:Inv X pins σ H s)(h:SqL X.K H a xs)(h':SqL X.K H a ys):xs=ys:=by
 obtain⟨its,r,⟨o,n,e,_,_,d⟩,_⟩:=I.list h
 obtain⟨its',r',⟨o',n',e',_,_,d'⟩,_⟩:=I.list h'
 rw[e] at e';cases e'
 rw[d] at d'
 injection d' with d1 _
 have:its=its':=by simpa using congrArg Array.toList d1
 subst this
 exact r.inj r'
theorem Inv.aN(I:Inv X pins σ H s)(h:SqT X.K H a xs)(h':SqT X.K H a ys):xs=ys:=by
 obtain⟨its,r,⟨o,e,_,n,d⟩,_⟩:=I.tuple h
 obtain⟨its',r',⟨o',e',_,n',d'⟩,_⟩:=I.tuple h'
 rw[e] at e';cases e'
 rw[d] at d'
 injection d' with d1 _
 have:its=its':=by simpa using congrArg Array.toList d1
 subst this
 exact r.inj r'
end
abbrev Cx.wish(X:Cx)(E:Value->Shared->Prop):Cx:={ X with xe:=E }
abbrev Cx.nox(X:Cx):Cx:=X.wish fun _ _=>False
theorem Cx.Ok.wish{X:Cx}(ok:X.Ok)(E:Value->Shared->Prop):(X.wish E).Ok :=
 ⟨ok.mod,ok.kind,ok.glob,ok.blt,ok.above,ok.inj,ok.has,ok.cab,ok.hd,ok.frames,ok.stk,ok.exf,ok.bs,ok.bsz,ok.noex,ok.exfs,ok.Ku,ok.frf,ok.sy⟩
theorem Cx.Ok.Jv{X:Cx}{E:Value->Shared->Prop}(ok:(X.wish E).Ok):X.Ok :=
 ⟨ok.mod,ok.kind,ok.glob,ok.blt,ok.above,ok.inj,ok.has,ok.cab,ok.hd,ok.frames,ok.stk,ok.exf,ok.bs,ok.bsz,ok.noex,ok.exfs,ok.Ku,ok.frf,ok.sy⟩
section
variable{X:Cx}{pins:List (Addr×Obj)}{σ:St}{H:Hp}{s:Shared}{E:Value->Shared->Prop}
theorem Inv.wish(I:Inv X pins σ H s)(E:Value->Shared->Prop):Inv (X.wish E) pins σ H s:=⟨I.ok.wish E,I.os,I.bare,I.base,I.loc,I.cell,I.free,I.freeC,I.pin,I.hok,I.len⟩
theorem Inv.Jv(I:Inv (X.wish E) pins σ H s):Inv X pins σ H s:=⟨I.ok.Jv,I.os,I.bare,I.base,I.loc,I.cell,I.free,I.freeC,I.pin,I.hok,I.len⟩
theorem SP.Jv{D:Ends}{f:Flow}{s':Shared}(h:SP (X.wish E) pins D f s'):SP X pins D f s':=by
 cases f with
 |next=>obtain⟨σ',H',I,q⟩:=h;exact⟨σ',H',I.Jv,q⟩
 |brk=>obtain⟨σ',H',I,q⟩:=h;exact⟨σ',H',I.Jv,q⟩
 |cont=>obtain⟨σ',H',I,q⟩:=h;exact⟨σ',H',I.Jv,q⟩
 |ret u=>obtain⟨v,σ',H',I,r,q⟩:=h;exact⟨v,σ',H',I.Jv,r,q⟩
theorem PSs.nox{st:List Stmt}{t:TS}(h:PSs X.nox st t):PSs X st t:=fun pins s σ H D I hw =>
 U5m (h pins s σ H D (I.wish _) hw) (fun _ _ q=>q.Jv) fun _ _ z=>U36 z
end
section
variable{X:Cx}{st:Stmt}{rest:List Stmt}{t u:TS}{e:Expr}{te:TE}{pos:Pos}
def sG:TS:=fun D σ H=>D.nx σ H
def uW(t u:TS):TS:=fun D σ H=>t { D with nx:=u D } σ H
theorem jY:PSs X [] sG:=fun _ _ σ H _ I h=>U61 ⟨σ,H,I,h⟩
theorem eV(h1:PS X st t)(h2:PSs X rest u):PSs X (st::rest) (uW t u):=by
 intro pins s σ H D I h
 refine wpAny_execs_cons (thn (h1 pins s σ H { D with nx:=u D } I h) fun f s1 q=>?_)
 cases f with
 |next =>
  obtain⟨σ',H',I',q⟩:=q
  exact h2 pins s1 σ' H' D I' q
 |ret v=>exact q
 |brk=>exact q
 |cont=>exact q
theorem jX(h1:PS X st t):PSs X [st] t:=by
 intro pins s σ H D I h
 refine wpAny_execs_cons (thn (h1 pins s σ H D I h) fun f s1 q=>?_)
 cases f with
 |next=>exact U61 q
 |ret v=>exact q
 |brk=>exact q
 |cont=>exact q
theorem Inv.quiet{pins:List (Addr×Obj)}{σ:St}{H:Hp}{s:Shared}(I:Inv X pins σ H s):interactive X.env=false:=by simp[interactive,I.ok.kind]
def sH(te:TE):TS:=fun D σ H=>te σ H fun _ H1=>D.nx σ H1
theorem jc(he:PE X e te)(hs:swapsWith e none pos.line X.env=pure false:=by rfl):PS X (.Expr e pos) (sH te):=by
 intro pins s σ H D I h
 exact wpAny_Expr_any (thn (he pins s σ H _ I h) fun v s1 ⟨x,H1,I1,r1,q1⟩=>⟨σ,H1,I1,q1⟩) I.quiet hs
def uX(te:TE):TS:=fun D σ H=>te σ H D.rt
theorem p7(he:PE X e te):PS X (.Return (some e) pos) (uX te):=by
 intro pins s σ H D I h
 exact wpAny_Return_some (thn (he pins s σ H _ I h) fun v s1 ⟨x,H1,I1,r1,q1⟩=>⟨x,σ,H1,I1,r1,q1⟩)
def uZ(c:TT)(t u:TS):TS:=fun D σ H=>c σ H fun b H1=>if b=true then t D σ H1 else u D σ H1
theorem sX{c:Expr}{a b:List Stmt}{tc:TT}(hc:PT X c tc)(ha:PSs X a t)(hb:PSs X b u):PS X (.If c a b pos) (uZ tc t u):=by
 intro pins s σ H D I h
 refine wpAny_If (thn (hc pins s σ H _ I h) fun d s1 ⟨H1,I1,q1⟩=>?_)
 cases d with
 |true=>exact ha pins s1 σ H1 D I1 q1
 |false=>exact hb pins s1 σ H1 D I1 q1
def oF:TS:=fun _ _ _=>False
theorem eX:PS X st oF:=fun _ _ _ _ _ _ h=>h.elim
end
abbrev TG:=V->St->Hp->(St->Hp->Prop)->Prop
abbrev TGs:=List V->St->Hp->(St->Hp->Prop)->Prop
def PG(X:Cx)(target:Expr)(t:TG):Prop :=
 ∀(pins:List (Addr×Obj))(s:Shared)(σ:St)(H:Hp)(v:V)(u:Value)(Q:St->Hp->Prop),Inv X pins σ H s->RelV v u->t v σ H Q ->
  wpAny (model X.prog X.w) X.A (assign target X.env u) (fun _ s'=>∃σ' H',Inv X pins σ' H' s'/\Q σ' H') X.xe s
def PGs(X:Cx)(ts:List Expr)(t:TGs):Prop :=
 ∀(pins:List (Addr×Obj))(s:Shared)(σ:St)(H:Hp)(vs:List V)(us:List Value)(Q:St->Hp->Prop),Inv X pins σ H s->Vals vs us->t vs σ H Q ->
  wpAny (model X.prog X.w) X.A (assignInOrder ((assignEach ts X.env).map (·.2)) us) (fun _ s'=>∃σ' H',Inv X pins σ' H' s'/\Q σ' H') X.xe s
abbrev cZ:=V->V->V->Hp->(Hp->Prop)->Prop
def o8(X:Cx)(t:cZ):Prop :=
 ∀(pins:List (Addr×Obj))(s:Shared)(σ:St)(H:Hp)(o i v:V)(ov iv u:Value)(Q:Hp->Prop),Inv X pins σ H s->RelV o ov->RelV i iv->RelV v u->t o i v H Q ->
  wpAny (model X.prog X.w) X.A (setItem ov iv u) (fun _ s'=>∃H',Inv X pins σ H' s'/\Q H') X.xe s
section
variable{X:Cx}{pos:Pos}
def V6(i:Nat):TG:=fun v σ H Q=>Q (σ.set i (some v)) H
theorem ji{i:Nat}{x:Str}(hN:X.N.Nodup)(hi:X.N[i]?=some x)(hx:Loc X.env.scope x)(hf:X.fn x=true∨X.env.scope.names.lookup x=some .local:=by first|exact .inl rfl|exact .inr rfl|assumption):PG X (.Name x pos) (V6 i):=by
 intro pins s σ H v u Q I r h
 exact wpAny_assign_Name (Vw I hN hi hx r (fun s' I'=>⟨_,H,I',h⟩) hf)
def cX:TGs:=fun vs σ H Q=>vs=[]/\Q σ H
def Yz(t:TG)(u:TGs):TGs:=fun vs σ H Q=>∃v r,vs=v::r/\t v σ H fun σ' H'=>u r σ' H' Q
theorem jh:PGs X [] cX:=by
 intro pins s σ H vs us Q I r h
 obtain⟨e,h⟩:=h
 subst e
 cases r
 exact assignInOrder_nil ⟨σ,H,I,h⟩
theorem eZ{e:Expr}{es:List Expr}{t:TG}{u:TGs}(h1:PG X e t)(h2:PGs X es u)
  (hs:(assignEach (e::es) X.env).map (·.2)=assign e X.env::(assignEach es X.env).map (·.2):=by rfl):PGs X (e::es) (Yz t u):=by
 intro pins s σ H vs us Q I r h
 obtain⟨v,vr,e1,h⟩:=h
 subst e1
 cases r with
 |cons r rr =>
  rw[hs]
  refine assignInOrder_cons (thn (h1 pins s σ H _ _ _ I r h) fun _ s1 ⟨σ1,H1,I1,q1⟩=>?_)
  exact h2 pins s1 σ1 H1 _ _ Q I1 rr q1
def cW(K:U0a)(n:Nat)(t:TGs):TG:=fun v σ H Q=>∃a xs,v=.ref a/\SqT K H a xs/\xs.length=n/\t xs σ H Q
theorem pD{es:List Expr}{k:Nat}{t:TGs}{n:Nat}(hc:X.calm=true)(h:PGs X es t)
  (hn:(assignEach es X.env).length=n:=by rfl) (hst:(assignEach es X.env).findIdx? (·.1)=none:=by rfl):PG X (.Tuple es k pos) (cW X.K n t):=by
 intro pins s σ H v u Q I r hw
 obtain⟨a,xs,e1,hq,hl,hw⟩:=hw
 subst e1
 cases r
 obtain⟨its,rv,ht,hz⟩:=I.tuple hq
 refine assign_Tuple_tuple (I.ok.hd hc) ht (by simp[hn,←hl,rv.length]) hst fun h' hx=>?_
 have I1:Inv X pins σ H { s with heap:=h' }:=I.kept (t':=s.toks) fun b o e=>hx b o (U0v (U0j e)) e
 exact h pins _ σ H xs _ Q I1 (by simpa using rv) hw
def uy(to ti:TE)(t:cZ):TG:=fun v σ H Q=>to σ H fun o H1=>ti σ H1 fun i H2=>t o i v H2 fun H3=>Q σ H3
theorem pF{o i:Expr}{to ti:TE}{t:cZ}(ho:PE X o to)(hi:PE X i ti)(hs:o8 X t)
  (ha:∀v,assign (.Subscript o i pos) X.env v=(do
   let ov ←holding [v] (eval o X.env)
   let iv ←holding [v,ov] (eval i X.env)
   standAt pos
   holding [v,ov,iv] (setItem ov iv v)
   release [v,ov,iv] []):=by intro _;rfl):PG X (.Subscript o i pos) (uy to ti t):=by
 intro pins s σ H v u Q I r h
 rw[ha]
 refine U0 (U2f (thn (ho pins s σ H _ I h) fun ov s1 ⟨x,H1,I1,r1,q1⟩=>?_))
 refine U0 (U2f (thn (hi pins s1 σ H1 _ I1 q1) fun iv s2 ⟨y,H2,I2,r2,q2⟩=>?_))
 refine U0 (wpAny_standAt (U0 (U2f (thn (hs pins s2 σ H2 x y v ov iv u _ I2 r1 r2 r q2) fun _ s3 ⟨H3,I3,q3⟩=>?_))))
 exact wpAny_release ⟨σ,H3,I3,q3⟩
def n8(te:TE)(g:TG):TS:=fun D σ H=>te σ H fun x H1=>g x σ H1 D.nx
theorem Zr{tg e:Expr}{te:TE}{g:TG}(he:PE X e te)(hg:PG X tg g)(hs:swapsWithSole [tg] e pos.line X.env=pure false:=by rfl)(hw:swappedStores [tg] e X.env=pure none:=by rfl)
  (h1:(assignEach [tg] X.env).map (·.2)=[assign tg X.env]:=by rfl):PS X (.Assign [tg] e pos) (n8 te g):=by
 intro pins s σ H D I h
 refine wpAny_Assign_stores (thn (he pins s σ H _ I h) fun v s1 ⟨x,H1,I1,r1,q1⟩=>?_) hs hw
 rw[h1]
 exact thn (hg pins s1 σ H1 x v _ I1 r1 q1) fun _ s2 q=>q
theorem ou{i:Nat}{x:Str}{e:Expr}{te:TE}{pos':Pos}(hN:X.N.Nodup)(hi:X.N[i]?=some x)(hx:Loc X.env.scope x)(he:PE X e te)(hs:swapsWith e (some (.Name x pos')) pos.line X.env=pure false:=by rfl)(hf:X.fn x=true∨X.env.scope.names.lookup x=some .local:=by first|exact .inl rfl|exact .inr rfl|assumption) :
  PS X (.Assign [.Name x pos'] e pos) (n8 te (V6 i)):=by
 intro pins s σ H D I h
 refine wpAny_Assign_Name (thn (he pins s σ H _ I h) fun v s1 ⟨y,H1,I1,r1,q1⟩=>?_) hs
 exact Vw I1 hN hi hx r1 (fun s2 I2=>⟨_,H1,I2,q1⟩) hf
end
section
variable{X:Cx}{pos:Pos}
end
structure It where
 go:Nat->Hp->Prop
 yld:Nat->Hp->V->Hp->Prop
 stop:Nat->Hp->Prop
def MJ(X:Cx)(pins:List (Addr×Obj))(H:Hp)(b:Addr):Prop :=
 H b=none/\b≠X.env.locals/\b ∉ X.fs/\(b∈X.ex∨X.s₀.heap.objs.size<=b)/\(∀x c,X.env.cells.lookup x=some c->c≠b)/\∀p∈X.pn++pins,p.1≠b
theorem Inv.Yj{X:Cx}{pins:List (Addr×Obj)}{σ:St}{H H':Hp}{s:Shared}{b:Addr}(I:Inv X pins σ H s)(hb:s.heap.objs.size<=b)(hn:H' b=none):MJ X pins H' b:=by
 refine⟨hn,U1q (U0m I.lt hb),I.cU hb,.inr (U06 I.sz hb),fun x c e z=>?_,fun p hp z=>?_⟩
 .obtain⟨v,q⟩:=I.cell x c e
  exact absurd (U0m q.lt (by rw[z];exact hb)) (U3p _)
 .exact absurd (U0m (U0j (I.pin p hp).1) (by rw[z];exact hb)) (U3p _)
structure Turn(P:Program)(w:World)(K:U0a)(tg:Expr)(J:It)(fp:List Addr)(it:Addr)(tn:Nat->Heap->Prop):Prop where
 mem:it∈fp
 obj:∀i h,tn i h->∀b∈fp,∃o,h.get? b=some o/\∀v,o.data≠.cell v
 keep:∀i h h',tn i h->(∀b∈fp,∀o,h.get? b=some o->h'.get? b=some o)->tn i h'
 item:∀(X:Cx),X.prog=P->X.w=w->X.K=K->X.calm=true->∀(i:Nat)(pins:List (Addr×Obj))(s:Shared)(σ:St)(H:Hp)(E:Value->Shared->Prop),Inv X pins σ H s->(∀b∈fp,MJ X pins H b)->tn i s.heap->J.go i H ->
  wpAny (model P w) X.A (pyNext (.ref it)) (fun r s1=>∃u,r=some u /\
   wpAny (model P w) X.A (letOwnedTupleGo tg (.ref it) u) (fun _ s2=>∃x H',Inv X pins σ H' s2/\RelV x u/\J.yld i H x H'/\tn (i+1) s2.heap/\∀b∈fp,H' b=none) E s1) E s
 done:∀(X:Cx),X.prog=P->X.w=w->X.K=K->X.calm=true->∀(i:Nat)(pins:List (Addr×Obj))(s:Shared)(σ:St)(H:Hp)(E:Value->Shared->Prop),Inv X pins σ H s->(∀b∈fp,MJ X pins H b)->tn i s.heap->J.stop i H ->
  wpAny (model P w) X.A (pyNext (.ref it)) (fun r s1=>r=none/\Inv X pins σ H s1) E s
 self:∀(A:Around)(i:Nat)(s:Shared)(Q:Value->Shared->Prop)(E:Value->Shared->Prop),tn i s.heap->Q (.ref it) s->wpAny (model P w) A (pyIter (.ref it)) Q E s
abbrev TI:=St->Hp->(It->Hp->Prop)->Prop
def PIE(X:Cx)(pins:List (Addr×Obj))(σ:St)(tg:Expr)(R:It->Hp->Prop)(itv:Value)(s2:Shared):Prop :=
 ∃(it:Addr)(fp:List Addr)(tn:Nat->Heap->Prop)(J:It)(H':Hp),itv=.ref it/\Inv X pins σ H' s2/\Turn X.prog X.w X.K tg J fp it tn/\tn 0 s2.heap/\(∀b∈fp,MJ X pins H' b)/\R J H'
def PI(X:Cx)(tg iter:Expr)(wi:TI):Prop :=
 ∀(pins:List (Addr×Obj))(s:Shared)(σ:St)(H:Hp)(R:It->Hp->Prop),Inv X pins σ H s->wi σ H R ->
  wpAny (model X.prog X.w) X.A (eval iter X.env) (fun v s1=>wpAny (model X.prog X.w) X.A (pyIter v) (PIE X pins σ tg R) X.xe s1) X.xe s
theorem Yy{M:Model}{A:Around}{E:Value->Shared->Prop}{s:Shared}{tg:Expr}{it:Addr}{u:Value}{o:Obj}{n:String}{vs:Array Value}{Q:Unit->Shared->Prop}(ho:s.heap.get? it=some o)(hc:o.cls=.type n)(hd:o.data=.fields vs)
  (hn:["enumerate","zip","dict_itemiterator","dict_reverseitemiterator","odict_iterator","itertools.zip_longest","itertools.pairwise"].contains n=false) (hQ:Q () s):wpAny M A (letOwnedTupleGo tg (.ref it) u) Q E s:=by
 unfold letOwnedTupleGo
 cases tg<;>first
  |exact U0d hQ
  |(cases u<;>first
    |exact U0d hQ
    |(refine U0 (wpAny_load ho ?_)
      rw[hc,hd]
      show wpAny M A (if (["enumerate","zip","dict_itemiterator","dict_reverseitemiterator","odict_iterator","itertools.zip_longest","itertools.pairwise"].contains n&&vs[0]?==some (rawInt _))=true then _ else _) Q E s
      rw[if_neg (by intro h;rw[hn,Bool.false_and] at h;cases h)]
      exact U0d hQ))
def Itl(K:U0a)(a:Addr):It :=
 ⟨fun i H=>∃xs x,SqL K H a xs/\xs[i]?=some x,fun i H x H'=>H'=H/\∀xs,SqL K H a xs->xs[i]?=some x,fun i H=>∃xs,SqL K H a xs/\xs.length<=i⟩
def Itt(K:U0a)(a:Addr):It :=
 ⟨fun i H=>∃xs x,SqT K H a xs/\xs[i]?=some x,fun i H x H'=>H'=H/\∀xs,SqT K H a xs->xs[i]?=some x,fun i H=>∃xs,SqT K H a xs/\xs.length<=i⟩
def Itr(lo:Int)(n:Nat):It:=⟨fun i _=>i<n,fun i H x H'=>H'=H/\x=.int (lo+i),fun i _=>n<=i⟩
theorem aL{P:Program}{w:World}{K:U0a}{tg:Expr}(a it:Addr):Turn P w K tg (Itl K a) [it] it (fun i h=>h.IsListIter it a i) where
 mem:=by simp
 obj:=fun i h st b hb=>by
  have e:b=it:=by simpa using hb
  subst e
  obtain⟨o,e,c,d⟩:=st
  exact⟨o,e,fun v z=>by rw[d] at z;cases z⟩
 keep:=fun i h h' st k=>st.at fun o e=>k it (by simp) o e
 item:=by
  intro X hP hw hK hc i pins s σ H E I hf st hg
  subst hP hw hK
  obtain⟨xs,x,hq,hx⟩:=hg
  obtain⟨its,rv,p,hz⟩:=I.list hq
  obtain⟨u,hu,ru⟩:=rv.get hx
  obtain⟨f0,f1,f2,f3,f4,f5⟩:=hf it (by simp)
  refine wpAny_pyNext_list_item st p.isList (x:=u) (by simpa using hu) fun h' st' sb=>?_
  have I1:Inv X pins σ H { s with heap:=h' }:=I.turned (t':=s.toks) (fun b o hb e=>(sb.2 b hb).trans e) f0 f1 f3 f4 f5
  obtain⟨o,e,c,d⟩:=id st'
  exact⟨u,rfl,Yy (s:={ s with heap:=h' }) e c d (by decide) ⟨x,H,I1,ru,⟨rfl,fun ys hy=>by rw[I.fY hy hq];exact hx⟩,st',fun b hb=>(hf b hb).1⟩⟩
 done:=by
  intro X hP hw hK hc i pins s σ H E I hf st hg
  subst hP hw hK
  obtain⟨xs,hq,hx⟩:=hg
  obtain⟨its,rv,p,hz⟩:=I.list hq
  obtain⟨f0,f1,f2,f3,f4,f5⟩:=hf it (by simp)
  have hl:=rv.length
  exact wpAny_pyNext_list_end (I.ok.hd hc) st p.isList (by simp;omega) fun h' eb=>⟨rfl,I.turned (t':=s.toks) (fun b o hb e=>eb b o hb e) f0 f1 f3 f4 f5⟩
 self:=fun _ _ _ _ _ st h=>wpAny_pyIter_listiter st h
theorem Z2{P:Program}{w:World}{K:U0a}{tg:Expr}(a it:Addr):Turn P w K tg (Itt K a) [it] it (fun i h=>h.IsTupleIter it a i) where
 mem:=by simp
 obj:=fun i h st b hb=>by
  have e:b=it:=by simpa using hb
  subst e
  obtain⟨o,e,c,d⟩:=st
  exact⟨o,e,fun v z=>by rw[d] at z;cases z⟩
 keep:=fun i h h' st k=>st.at fun o e=>k it (by simp) o e
 item:=by
  intro X hP hw hK hc i pins s σ H E I hf st hg
  subst hP hw hK
  obtain⟨xs,x,hq,hx⟩:=hg
  obtain⟨its,rv,p,hz⟩:=I.tuple hq
  obtain⟨u,hu,ru⟩:=rv.get hx
  obtain⟨f0,f1,f2,f3,f4,f5⟩:=hf it (by simp)
  refine wpAny_pyNext_tuple_item st (show s.heap.IsTuple a its.toArray from p) (x:=u) (by simpa using hu) fun h' st' sb=>?_
  have I1:Inv X pins σ H { s with heap:=h' }:=I.turned (t':=s.toks) (fun b o hb e=>(sb.2 b hb).trans e) f0 f1 f3 f4 f5
  obtain⟨o,e,c,d⟩:=id st'
  exact⟨u,rfl,Yy (s:={ s with heap:=h' }) e c d (by decide) ⟨x,H,I1,ru,⟨rfl,fun ys hy=>by rw[I.aN hy hq];exact hx⟩,st',fun b hb=>(hf b hb).1⟩⟩
 done:=by
  intro X hP hw hK hc i pins s σ H E I hf st hg
  subst hP hw hK
  obtain⟨xs,hq,hx⟩:=hg
  obtain⟨its,rv,p,hz⟩:=I.tuple hq
  obtain⟨f0,f1,f2,f3,f4,f5⟩:=hf it (by simp)
  have hl:=rv.length
  exact wpAny_pyNext_tuple_end (I.ok.hd hc) st (show s.heap.IsTuple a its.toArray from p) (by simp;omega) fun h' eb=>⟨rfl,I.turned (t':=s.toks) (fun b o hb e=>eb b o hb e) f0 f1 f3 f4 f5⟩
 self:=fun _ _ _ _ _ st h=>wpAny_pyIter_tupleiter st h
theorem Z4{P:Program}{w:World}{K:U0a}{tg:Expr}(it:Addr)(lo:Int)(n:Nat):Turn P w K tg (Itr lo n) [it] it (fun i h=>IsRangeIter h it (lo+(i:Nat)*1) ((n:Int)-(i:Nat)) 1) where
 mem:=by simp
 obj:=fun i h st b hb=>by
  have e:b=it:=by simpa using hb
  subst e
  exact⟨_,st,fun v z=>by
   have z':Data.fields _=Data.cell v:=z
   cases z'⟩
 keep:=fun i h h' st k=>k it (by simp) _ st
 item:=by
  intro X hP hw hK hc i pins s σ H E I hf st hg
  subst hP hw hK
  obtain⟨f0,f1,f2,f3,f4,f5⟩:=hf it (by simp)
  have W:=Walks.range (prog:=X.prog) (w:=X.w) (I.ok.hd hc) it lo 1 n
  refine W.item i s _ _ hg st fun v h' tk hv st' kk=>?_
  obtain⟨t,rfl⟩:=hv
  have I1:Inv X pins σ H { s with heap:=h',toks:=tk }:=I.turned (fun b o hb e=>kk b o (by simpa using hb) e) f0 f1 f3 f4 f5
  refine⟨_,rfl,Yy (s:={ s with heap:=h',toks:=tk }) (n:="range_iterator") st' rfl rfl (by decide) ⟨.int (lo+i),H,I1,⟨t,?_⟩,⟨rfl,rfl⟩,st',fun b hb=>(hf b hb).1⟩⟩
  rw[U7l]
 done:=by
  intro X hP hw hK hc i pins s σ H E I hf st hg
  subst hP hw hK
  obtain⟨f0,f1,f2,f3,f4,f5⟩:=hf it (by simp)
  exact wpAny_pyNext_range_end (I.ok.hd hc) st (by have:n<=i:=hg;omega) fun h' eb=>⟨rfl,I.turned (t':=s.toks) (fun b o hb e=>eb b o hb e) f0 f1 f3 f4 f5⟩
 self:=fun _ _ _ _ _ st h=>wpAny_pyIter_rangeiter st h
end L2
namespace L2
open PySem PySem.Spec PyProof.Rows
section
variable{X:Cx}{tg:Expr}
theorem Vz{pins:List (Addr×Obj)}{σ:St}{H:Hp}{s:Shared}{R:It->Hp->Prop}{E:Value->Shared->Prop}{lo hi:Int}{t u v:Tok}{tk:Nat}(I:Inv X pins σ H s)(h1:-(2^62)<=lo)(h2:lo<2^62)(h3:-(2^62)<=hi)(h4:hi<2^62)
  (q:R (Itr lo (hi-lo).toNat) H):wpAny (model X.prog X.w) X.A (pyIter (.ref s.heap.objs.size)) (PIE X pins σ tg R) E { s with heap:=s.heap.push { cls:=.type "range",data:=.fields #[.int lo t,.int hi u,.int 1 v] },toks:=tk }:=by
 refine wpAny_pyIter_range (IsRange.new ..) (small_one h1 h2 h3 h4) ?_
 have I1:Inv X pins σ H { s with heap:=s.heap.push { cls:=.type "range",data:=.fields #[.int lo t,.int hi u,.int 1 v] },toks:=tk }:=I.kept fun b o e=>U0b _ e
 refine⟨(s.heap.push { cls:=.type "range",data:=.fields #[.int lo t,.int hi u,.int 1 v] }).objs.size,[(s.heap.push { cls:=.type "range",data:=.fields #[.int lo t,.int hi u,.int 1 v] }).objs.size],_,_,H,rfl,
  I1.kept (t':=tk) fun b o e=>U0b _ e,Z4 _ lo (hi-lo).toNat,?_,fun b hb=>?_,q⟩
 .have e1:lo+((0:Nat):Int)*1=lo:=by simp
  have e2:(((hi-lo).toNat:Nat):Int)-((0:Nat):Int)=Builtin.Range.rangeSize lo hi 1:=by rw[rangeSize_one];split<;>omega
  show IsRangeIter _ _ (lo+((0:Nat):Int)*1) ((((hi-lo).toNat:Nat):Int)-((0:Nat):Int)) 1
  rw[e1,e2]
  exact U0s _ rfl
 .have e:b=(s.heap.push { cls:=.type "range",data:=.fields #[.int lo t,.int hi u,.int 1 v] }).objs.size:=by simpa using hb
  subst e
  exact I1.Yj (U0k _) (I1.hok.fresh (U0k _))
def tu(ta:TA):TI:=fun σ H R=>ta σ H fun vs H1=>∃j:Int,vs=[.int j]/\-(2^62)<=j/\j<2^62/\R (Itr 0 j.toNat) H1
def tZ(ta:TA):TI:=fun σ H R=>ta σ H fun vs H1=>∃i j:Int,vs=[.int i,.int j]/\(-(2^62)<=i/\i<2^62/\-(2^62)<=j/\j<2^62)/\R (Itr i (j-i).toNat) H1
theorem bC{a:Expr}{ta:TA}{p pos:Pos}(hg:Gl X "range")(hm:X.mg "range"=none)(ha:PA X [a] ta)(hs:starEach [a] X.env=[(false,eval a X.env)]:=by rfl):PI X tg (.Call (.Name "range" p) [a] [] pos) (tu ta):=by
 intro pins s σ H R I h
 refine Call_ (K1 I hg hm boot_range (U2u (thn (ha pos pins s σ H _ I h) fun us s1 ⟨vs,H1,I1,r1,q1⟩=>?_) hs rfl))
 obtain⟨j,e,q1,q2,q⟩:=q1
 subst e
 cases r1 with
 |cons r rr =>
  cases rr
  obtain⟨t,rfl⟩:=r
  exact call_range_1 (Vz I1 (by omega) (by omega) q1 q2 (by simpa using q))
theorem bB{a b:Expr}{ta:TA}{p pos:Pos}(hg:Gl X "range")(hm:X.mg "range"=none)(ha:PA X [a,b] ta)(hs:starEach [a,b] X.env=[(false,eval a X.env),(false,eval b X.env)]:=by rfl)(hs2:starEach [b] X.env=[(false,eval b X.env)]:=by rfl) :
  PI X tg (.Call (.Name "range" p) [a,b] [] pos) (tZ ta):=by
 intro pins s σ H R I h
 refine Call_ (K1 I hg hm boot_range (U2u (thn (ha pos pins s σ H _ I h) fun us s1 ⟨vs,H1,I1,r1,q1⟩=>?_) (by rw[hs,hs2]) (by rw[hs2];rfl)))
 obtain⟨i,j,e,⟨q1,q2,q3,q4⟩,q⟩:=q1
 subst e
 cases r1 with
 |cons r rr =>
  cases rr with
  |cons r' rr =>
   cases rr
   obtain⟨t,rfl⟩:=r
   obtain⟨t',rfl⟩:=r'
   exact call_range_2 (Vz I1 q1 q2 q3 q4 q)
def uc(wi:TI)(g:TG)(tb:TS):TS:=fun D σ H=>wi σ H fun J H1=>∃W:Nat->Nat->St->Hp->Prop,(∃m,W 0 m σ H1)/\∀i m σ H,W i m σ H ->
 (J.stop i H/\D.nx σ H)∨(J.go i H/\∃N:St->Hp->Prop,(∀σ' H',N σ' H'->∃m',m'<m/\W (i+1) m' σ' H')/\∀x H',J.yld i H x H'->g x σ H' fun σ2 H2=>tb { D with nx:=N,ct:=N,bk:=D.nx } σ2 H2)
def Jx(fp:List Addr)(h:Heap):List (Addr×Obj):=fp.filterMap fun b=>(h.get? b).map fun o=>(b,o)
theorem Ke{fp:List Addr}{h:Heap}{b:Addr}{o:Obj}(hb:b∈fp)(e:h.get? b=some o):(b,o)∈Jx fp h:=List.mem_filterMap.mpr ⟨b,hb,by rw[e];rfl⟩
theorem UW{fp:List Addr}{h:Heap}{p:Addr×Obj}(hp:p∈Jx fp h):p.1∈fp/\h.get? p.1=some p.2:=by
 obtain⟨b,hb,e⟩:=List.mem_filterMap.mp hp
 cases q:h.get? b with
 |none=>rw[q] at e;cases e
 |some o =>
  rw[q] at e
  have e':(b,o)=p:=U00 e
  subst e'
  exact⟨hb,q⟩
theorem Inv.pinned{pins:List (Addr×Obj)}{σ:St}{H:Hp}{s:Shared}{fp:List Addr}(I:Inv X pins σ H s)(hf:∀b∈fp,MJ X pins H b)(ho:∀b∈fp,∃o,s.heap.get? b=some o/\∀v,o.data≠.cell v):Inv X (pins++Jx fp s.heap) σ H s :=
 I.Py fun p hp=>(U1w.mp hp).elim (fun z=>I.pin p (U01 _ z)) fun z=>by
  obtain⟨hb,e⟩:=UW z
  obtain⟨f0,f1,f2,_⟩:=hf p.1 hb
  obtain⟨o,e',d⟩:=ho p.1 hb
  rw[e] at e';cases e'
  exact⟨e,f0,f1,f2,d⟩
theorem Inv.NP{pins pl:List (Addr×Obj)}{σ:St}{H:Hp}{s:Shared}(I:Inv X (pins++pl) σ H s):Inv X pins σ H s:=I.Py fun p hp=>I.pin p (U01 _ (U27 _ hp))
theorem pA{iter:Expr}{body:List Stmt}{wi:TI}{g:TG}{tb:TS}{pos:Pos}(hp:PassesOwn (model X.prog X.w) X.A X.env X.xe)(hc:X.calm=true)(hi:PI X tg iter wi)(hg:PG X tg g)(hb:PSs X body tb)
  (hs:∀x,foldedSetIterable iter X.env x=pure x:=by intro _;rfl):PS X (.For tg iter body [] pos) (uc wi g tb):=by
 intro pins s σ H D I h
 refine wpAny_For (thn (hi pins s σ H _ I h) fun v s1 h1=>thn h1 fun itv s2 h2=>?_) hs
 obtain⟨it,fp,tn,J,H2,e,I2,T,st2,f2,W,⟨m0,w0⟩,turn⟩:=h2
 subst e
 -- what stays true of the iterator's objects through the loop
 have stat:∀{H':Hp},(∀b∈fp,H' b=none)->∀b∈fp,MJ X pins H' b:=fun hn b hb=>⟨hn b hb,(f2 b hb).2⟩
 refine codeAny_forLoop_any (fun n s'=>∃i σ' H',Inv X pins σ' H' s'/\tn i s'.heap/\(∀b∈fp,H' b=none)/\W i n σ' H') ?_ m0 ⟨0,σ,H2,I2,st2,fun b hb=>(f2 b hb).1,w0⟩
 rintro n s3 ⟨i,σ3,H3,I3,st3,fr3,w3⟩
 rcases turn i n σ3 H3 w3 with ⟨stop,qn⟩|⟨go,N,hN,step⟩
 .refine U5d hp (thn (T.done X rfl rfl rfl hc i pins s3 σ3 H3 X.xe I3 (stat fr3) st3 stop) fun r s4 ⟨hr,I4⟩=>?_)
  subst hr
  exact U61 ⟨σ3,H3,I4,qn⟩
 .refine U5d hp (thn (T.item X rfl rfl rfl hc i pins s3 σ3 H3 X.xe I3 (stat fr3) st3 go) fun r s4 ⟨u,hr,h4⟩=>?_)
  subst hr
  refine U5d hp (thn h4 fun _ s5 ⟨x,H5,I5,r5,y5,st5,fr5⟩=>?_)
  have I5':=I5.pinned (stat fr5) (T.obj _ _ st5)
  refine U5d hp (thn (hg _ s5 σ3 H5 x u _ I5' r5 (step x H5 y5)) fun _ s6 ⟨σ6,H6,I6,q6⟩=>?_)
  refine U5d hp (thn (hb _ s6 σ6 H6 _ I6 q6) fun f s7 q7=>?_)
  have again:∀{σ7:St} {H7:Hp},Inv X (pins++Jx fp s5.heap) σ7 H7 s7->N σ7 H7->∃m,m<n/\∃i σ' H',Inv X pins σ' H' s7/\tn i s7.heap/\(∀b∈fp,H' b=none)/\W i m σ' H':=fun {σ7 H7} I7 n7=>by
   obtain⟨m',hm,w7⟩:=hN σ7 H7 n7
   refine⟨m',hm,i+1,σ7,H7,I7.NP,T.keep _ _ _ st5 fun b hb o e=>(I7.pin (b,o) (U01 _ (U01 _ (Ke hb e)))).1,fun b hb=>?_,w7⟩
   obtain⟨o,e,d⟩:=T.obj _ _ st5 b hb
   exact(I7.pin (b,o) (U01 _ (U01 _ (Ke hb e)))).2.1
  cases f with
  |next=>obtain⟨σ7,H7,I7,n7⟩:=q7;exact again I7 n7
  |cont=>obtain⟨σ7,H7,I7,n7⟩:=q7;exact again I7 n7
  |brk=>obtain⟨σ7,H7,I7,q7⟩:=q7;exact⟨σ7,H7,I7.NP,q7⟩
  |ret v=>obtain⟨x7,σ7,H7,I7,r7,q7⟩:=q7;exact⟨x7,σ7,H7,I7.NP,r7,q7⟩
end
end L2
namespace L2
open PySem PySem.Spec PyProof.Rows
abbrev R2:=V->V->Hp->VK->Prop
def OpR(X:Cx)(f:Value->Value->Sem Value)(r:R2):Prop :=
 ∀(pins:List (Addr×Obj))(s:Shared)(σ:St)(H:Hp)(x y:V)(v u:Value)(Q:VK),Inv X pins σ H s->RelV x v->RelV y u->r x y H Q ->
  wpAny (model X.prog X.w) X.A (f v u) (EP X pins σ Q) X.xe s
def UnR(X:Cx)(f:Value->Sem Value)(r:V->Hp->VK->Prop):Prop :=
 ∀(pins:List (Addr×Obj))(s:Shared)(σ:St)(H:Hp)(x:V)(v:Value)(Q:VK),Inv X pins σ H s->RelV x v->r x H Q ->
  wpAny (model X.prog X.w) X.A (f v) (EP X pins σ Q) X.xe s
def DK(X:Cx)(f:Value)(r:List V->Hp->VK->Prop):Prop :=
 ∀(pins:List (Addr×Obj))(s:Shared)(σ:St)(H:Hp)(xs:List V)(us:List Value)(Q:VK),Inv X pins σ H s->Vals xs us->r xs H Q ->
  wpAny (model X.prog X.w) X.A (call f us) (EP X pins σ Q) X.xe s
def tOp(r:R2)(ta tb:TE):TE:=fun σ H Q=>ta σ H fun x H1=>tb σ H1 fun y H2=>r x y H2 Q
def tUn(r:V->Hp->VK->Prop)(ta:TE):TE:=fun σ H Q=>ta σ H fun x H1=>r x H1 Q
def rI(C:Int->Int->Prop)(g:Int->Int->V):R2:=fun x y H Q=>∃i j,x=.int i/\y=.int j/\C i j/\Q (g i j) H
def rI0(g:Int->Int->V):R2:=fun x y H Q=>∃i j,x=.int i/\y=.int j/\Q (g i j) H
def rU(g:Int->V):V->Hp->VK->Prop:=fun x H Q=>∃i,x=.int i/\Q (g i) H
section
variable{X:Cx}{a b c:Expr}{ta tb tc:TE}{pos:Pos}
theorem Yk(ha:PE X a ta)(hb:PE X b tb){pins:List (Addr×Obj)}{s:Shared}{σ:St}{H:Hp}{R:V->V->Hp->Prop}(I:Inv X pins σ H s)
  (h:ta σ H fun x H1=>tb σ H1 fun y H2=>R x y H2) {Q:Value->Shared->Prop} {f:Value->Value->Sem Value}
  (hf:∀v u s2 x y H2,Inv X pins σ H2 s2->RelV x v->RelV y u->R x y H2->wpAny (model X.prog X.w) X.A (f v u) Q X.xe s2) :
  wpAny (model X.prog X.w) X.A (eval a X.env) (fun v s₁=>wpAny (model X.prog X.w) X.A (eval b X.env) (fun u s₂=>wpAny (model X.prog X.w) X.A (f v u) Q X.xe s₂) X.xe s₁) X.xe s:=by
 refine thn (ha pins s σ H _ I h) fun v s1 ⟨x,H1,I1,r1,q1⟩=>?_
 refine thn (hb pins s1 σ H1 _ I1 q1) fun u s2 ⟨y,H2,I2,r2,q2⟩=>?_
 exact hf v u s2 x y H2 I2 r1 r2 q2
theorem sZ{op:Operator}{r:R2}(ho:OpR X (binaryOp op) r)(ha:PE X a ta)(hb:PE X b tb):PE X (.BinOp a op b pos) (tOp r ta tb):=by
 intro pins s σ H Q I h
 exact wpAny_BinOp (Yk ha hb I h fun v u s2 x y H2 I2 rx ry q=>ho pins s2 σ H2 x y v u Q I2 rx ry q)
theorem sY{op:UnaryOp}{r:V->Hp->VK->Prop}(ho:UnR X (unaryOp op) r)(ha:PE X a ta):PE X (.UnaryOp op a pos) (tUn r ta):=by
 intro pins s σ H Q I h
 exact UnaryOp_ (thn (ha pins s σ H _ I h) fun v s1 ⟨x,H1,I1,r1,q1⟩=>ho pins s1 σ H1 x v Q I1 r1 q1)
theorem opI{f:Value->Value->Sem Value}{C:Int->Int->Prop}{g:Int->Int->Int}
  (rule:∀(i j:Int)(t u:Tok)(s:Shared)(Q:Value->Shared->Prop)(E:Value->Shared->Prop),C i j->Q (.int (g i j) s.toks) { s with toks:=s.toks+1 }->wpAny (model X.prog X.w) X.A (f (.int i t) (.int j u)) Q E s) :
  OpR X f (rI C fun i j=>.int (g i j)):=by
 intro pins s σ H x y v u Q I rx ry h
 obtain⟨i,j,rfl,rfl,hc,q⟩:=h
 obtain⟨t,rfl⟩:=rx
 obtain⟨t',rfl⟩:=ry
 exact rule i j t t' s _ _ hc ⟨.int (g i j),H,I.tok _,⟨_,rfl⟩,q⟩
theorem nZ{f:Value->Value->Sem Value}{g:Int->Int->Int}
  (rule:∀(i j:Int)(t u:Tok)(s:Shared)(Q:Value->Shared->Prop)(E:Value->Shared->Prop),Q (.int (g i j) s.toks) { s with toks:=s.toks+1 }->wpAny (model X.prog X.w) X.A (f (.int i t) (.int j u)) Q E s) :
  OpR X f (rI0 fun i j=>.int (g i j)):=by
 intro pins s σ H x y v u Q I rx ry h
 obtain⟨i,j,rfl,rfl,q⟩:=h
 obtain⟨t,rfl⟩:=rx
 obtain⟨t',rfl⟩:=ry
 exact rule i j t t' s _ _ ⟨.int (g i j),H,I.tok _,⟨_,rfl⟩,q⟩
theorem Yh{f:Value->Value->Sem Value}{g:Int->Int->Bool}
  (rule:∀(i j:Int)(t u:Tok)(s:Shared)(Q:Value->Shared->Prop)(E:Value->Shared->Prop),Q (.bool (g i j)) s->wpAny (model X.prog X.w) X.A (f (.int i t) (.int j u)) Q E s) :
  OpR X f (rI0 fun i j=>.bl (g i j)):=by
 intro pins s σ H x y v u Q I rx ry h
 obtain⟨i,j,rfl,rfl,q⟩:=h
 obtain⟨t,rfl⟩:=rx
 obtain⟨t',rfl⟩:=ry
 exact rule i j t t' s _ _ ⟨.bl (g i j),H,I,rfl,q⟩
def cu(i j:Int):Prop:=0<=j/\j<=1000000/\i.natAbs<2^64
def VP(i j:Int):Prop:=(-(2^64)<i/\i<2^64)∨(-(2^64)<j/\j<2^64)
theorem VP.ok{i j:Int}(h:VP i j):IntMulOk i j:=by
 rcases h with ⟨h1,h2⟩|⟨h1,h2⟩
 .exact .of_left (intBits_le_64 h1 h2)
 .exact .of_right (intBits_le_64 h1 h2)
theorem pY:OpR X (binaryOp .Add) (rI0 fun i j=>.int (i+j)):=nZ fun _ _ _ _ _ _ _ q=>add_int q
theorem Rb:OpR X (binaryOp .Sub) (rI0 fun i j=>.int (i-j)):=nZ fun _ _ _ _ _ _ _ q=>sub_int q
theorem pU:OpR X (binaryOp .Mult) (rI VP fun i j=>.int (i*j)):=opI fun _ _ _ _ _ _ _ hc q=>mul_int q hc.ok
theorem Mg:OpR X (binaryOp .Mod) (rI (fun _ j=>0<j) fun i j=>.int (i%j)):=opI fun i j _ _ _ _ _ hc q=>by
 have h1:(0:Int)<j:=hc
 exact mod_int' (by omega) (by rw[Int.fmod_eq_emod_of_nonneg i (by omega)];exact q)
theorem Ve:OpR X (binaryOp .Pow) (rI cu fun i j=>.int (i^j.toNat)):=opI fun _ _ _ _ _ _ _ hc q=>pow_int_small hc.1 hc.2.1 hc.2.2 q
theorem unI{f:Value->Sem Value}{g:Int->Int}
  (rule:∀(i:Int)(t:Tok)(s:Shared)(Q:Value->Shared->Prop)(E:Value->Shared->Prop),Q (.int (g i) s.toks) { s with toks:=s.toks+1 }->wpAny (model X.prog X.w) X.A (f (.int i t)) Q E s) :
  UnR X f (rU fun i=>.int (g i)):=by
 intro pins s σ H x v Q I rx h
 obtain⟨i,rfl,q⟩:=h
 obtain⟨t,rfl⟩:=rx
 exact rule i t s _ _ ⟨.int (g i),H,I.tok _,⟨_,rfl⟩,q⟩
theorem Gf:UnR X (unaryOp .USub) (rU fun i=>.int (-i)):=unI fun _ _ _ _ _ q=>neg_int q
end
def nA:V->V->Bool
 |.non,.non=>true|.non,.int _=>true|.int _,.non=>true|.non,.bl _=>true|.bl _,.non=>true|.non,.str _=>true|.str _,.non=>true
 |.int _,.int _=>true|.bl _,.bl _=>true|.str _,.str _=>true|.byt _,.byt _=>true
 |.int _,.str _=>true|.str _,.int _=>true|.bl _,.str _=>true|.str _,.bl _=>true
 |_,_=>false
def rEq:R2:=fun x y H Q=>nA x y=true/\Q (.bl (decide (x=y))) H
def rNe:R2:=fun x y H Q=>nA x y=true/\Q (.bl (!decide (x=y))) H
theorem YW{i j:Int}:decide (V.int i=V.int j)=(i==j):=by
 rw[U2d]
 simp
theorem aC{i j:Bool}:decide (V.bl i=V.bl j)=(i==j):=by
 rw[U2d]
 simp
theorem YT{i j:Str}:decide (V.str i=V.str j)=(i==j):=by
 rw[U2d]
 simp
theorem YX{i j:Array UInt8}:decide (V.byt i=V.byt j)=(i.toList==j.toList):=by
 rw[U2d]
 cases i
 cases j
 simp
section
variable{X:Cx}{a b c:Expr}{ta tb tc:TE}{pos:Pos}
theorem Cv{pins:List (Addr×Obj)}{σ:St}{H:Hp}{s:Shared}{Q:VK}{k k':Bool}(I:Inv X pins σ H s)(q:Q (.bl k) H)(e:k=k'):EP X pins σ Q (.bool k') s:=by
 subst e
 exact⟨.bl k,H,I,rfl,q⟩
theorem tM:OpR X (compareOp .Eq) rEq:=by
 intro pins s σ H x y v u Q I rx ry h
 obtain⟨hs,q⟩:=h
 cases x with
 |non =>
  cases rx
  cases y with
  |non=>cases ry;exact PySem.EqNone.eq_none_none (Cv I q (by simp))
  |bl j=>cases ry;exact PySem.EqNone.eq_none_bool (Cv I q (by simp))
  |int j=>obtain⟨t',rfl⟩:=ry;exact PySem.EqNone.eq_none_int (Cv I q (by simp))
  |str j=>obtain⟨t',rfl⟩:=ry;exact PySem.EqNone.eq_none_str (Cv I q (by simp))
  |_=>exact absurd (show false=true from hs) U1a
 |bl i =>
  cases rx
  cases y with
  |non=>cases ry;exact PySem.EqNone.eq_bool_none (Cv I q (by simp))
  |bl j=>cases ry;exact eq_bool (Cv I q aC)
  |str j=>obtain⟨t',rfl⟩:=ry;exact PySem.EqMixed.eq_bool_str (Cv I q (by simp))
  |_=>exact absurd (show false=true from hs) U1a
 |int i =>
  obtain⟨t,rfl⟩:=rx
  cases y with
  |non=>cases ry;exact PySem.EqNone.eq_int_none (Cv I q (by simp))
  |int j=>obtain⟨t',rfl⟩:=ry;exact eq_int (Cv I q YW)
  |str j=>obtain⟨t',rfl⟩:=ry;exact PySem.EqMixed.eq_int_str (Cv I q (by simp))
  |_=>exact absurd (show false=true from hs) U1a
 |str i =>
  obtain⟨t,rfl⟩:=rx
  cases y with
  |non=>cases ry;exact PySem.EqNone.eq_str_none (Cv I q (by simp))
  |bl j=>cases ry;exact PySem.EqMixed.eq_str_bool (Cv I q (by simp))
  |int j=>obtain⟨t',rfl⟩:=ry;exact PySem.EqMixed.eq_str_int (Cv I q (by simp))
  |str j=>obtain⟨t',rfl⟩:=ry;exact eq_str (Cv I q YT)
  |_=>exact absurd (show false=true from hs) U1a
 |byt i =>
  obtain⟨t,rfl⟩:=rx
  cases y with
  |byt j=>obtain⟨t',rfl⟩:=ry;exact PySem.W.eq_bytes (Cv I q YX)
  |_=>exact absurd (show false=true from hs) U1a
 |_=>cases y<;>exact absurd (show false=true from hs) U1a
theorem tK:OpR X (compareOp .NotEq) rNe:=by
 intro pins s σ H x y v u Q I rx ry h
 obtain⟨hs,q⟩:=h
 cases x with
 |non =>
  cases rx
  cases y with
  |non=>cases ry;exact PySem.EqNone.ne_none_none (Cv I q (by simp))
  |bl j=>cases ry;exact PySem.EqNone.ne_none_bool (Cv I q (by simp))
  |int j=>obtain⟨t',rfl⟩:=ry;exact PySem.EqNone.ne_none_int (Cv I q (by simp))
  |str j=>obtain⟨t',rfl⟩:=ry;exact PySem.EqNone.ne_none_str (Cv I q (by simp))
  |_=>exact absurd (show false=true from hs) U1a
 |bl i =>
  cases rx
  cases y with
  |non=>cases ry;exact PySem.EqNone.ne_bool_none (Cv I q (by simp))
  |bl j=>cases ry;exact ne_bool (Cv I q (congrArg not aC))
  |str j=>obtain⟨t',rfl⟩:=ry;exact PySem.EqMixed.ne_bool_str (Cv I q (by simp))
  |_=>exact absurd (show false=true from hs) U1a
 |int i =>
  obtain⟨t,rfl⟩:=rx
  cases y with
  |non=>cases ry;exact PySem.EqNone.ne_int_none (Cv I q (by simp))
  |int j=>obtain⟨t',rfl⟩:=ry;exact ne_int (Cv I q (congrArg not YW))
  |str j=>obtain⟨t',rfl⟩:=ry;exact PySem.EqMixed.ne_int_str (Cv I q (by simp))
  |_=>exact absurd (show false=true from hs) U1a
 |str i =>
  obtain⟨t,rfl⟩:=rx
  cases y with
  |non=>cases ry;exact PySem.EqNone.ne_str_none (Cv I q (by simp))
  |bl j=>cases ry;exact PySem.EqMixed.ne_str_bool (Cv I q (by simp))
  |int j=>obtain⟨t',rfl⟩:=ry;exact PySem.EqMixed.ne_str_int (Cv I q (by simp))
  |str j=>obtain⟨t',rfl⟩:=ry;exact ne_str (Cv I q (congrArg not YT))
  |_=>exact absurd (show false=true from hs) U1a
 |byt i =>
  obtain⟨t,rfl⟩:=rx
  cases y with
  |byt j=>obtain⟨t',rfl⟩:=ry;exact PySem.W.ne_bytes (Cv I q (congrArg not YX))
  |_=>exact absurd (show false=true from hs) U1a
 |_=>cases y<;>exact absurd (show false=true from hs) U1a
theorem iW:OpR X (compareOp .Lt) (rI0 fun i j=>.bl (decide (i<j))):=Yh fun _ _ _ _ _ _ _ q=>lt_int q
theorem tL:OpR X (compareOp .LtE) (rI0 fun i j=>.bl (decide (i<=j))):=Yh fun _ _ _ _ _ _ _ q=>le_int q
theorem Pj:OpR X (compareOp .Gt) (rI0 fun i j=>.bl (decide (j<i))):=Yh fun _ _ _ _ _ _ _ q=>gt_int q
theorem iY:OpR X (compareOp .GtE) (rI0 fun i j=>.bl (decide (j<=i))):=Yh fun _ _ _ _ _ _ _ q=>ge_int q
theorem OpR.or{f:Value->Value->Sem Value}{r r':R2}(h:OpR X f r)(h':OpR X f r'):OpR X f (fun x y H Q=>r x y H Q∨r' x y H Q):=by
 intro pins s σ H x y v u Q I rx ry q
 rcases q with q|q
 .exact h pins s σ H x y v u Q I rx ry q
 .exact h' pins s σ H x y v u Q I rx ry q
theorem Di(b:Expr){op:CmpOp}(h:op≠.In:=by decide)(h2:op≠.NotIn:=by decide):behindInMarks op b=false:=by
 have e1:(op==CmpOp.In)=false:=by cases op<;>first|rfl|exact absurd rfl h
 have e2:(op==CmpOp.NotIn)=false:=by cases op<;>first|rfl|exact absurd rfl h2
 cases b<;>simp[behindInMarks,e1,e2]
theorem YH{op:CmpOp}{r:R2}(ho:OpR X (compareOp op) r)(ha:PE X a ta)(hb:PE X b tb)(hm:behindInMarks op b=false):PE X (.Compare a [op] [b] pos) (tOp r ta tb):=by
 intro pins s σ H Q I h
 exact wpAny_Compare1 (Yk ha hb I h fun v u s2 x y H2 I2 rx ry q=>ho pins s2 σ H2 x y v u Q I2 rx ry q) hm
def Yq(t:TE):TT:=fun σ H Q=>t σ H fun x H'=>∃k,x=.bl k/\Q k H'
theorem jW{op:CmpOp}{r:R2}(ho:OpR X (compareOp op) r)(ha:PE X a ta)(hb:PE X b tb)(hm:behindInMarks op b=false):PT X (.Compare a [op] [b] pos) (Yq (tOp r ta tb)):=by
 intro pins s σ H Q I h
 refine wpAny_isTrue_Compare1 (thn (ha pins s σ H _ I h) fun v s1 ⟨x,H1,I1,r1,q1⟩=>thn (hb pins s1 σ H1 _ I1 q1) fun u s2 ⟨y,H2,I2,r2,q2⟩ =>
  thn (ho pins s2 σ H2 x y v u _ I2 r1 r2 q2) fun c s3 ⟨z,H3,I3,r3,k,e,q3⟩=>?_) hm
 subst e
 cases r3
 exact U3a ⟨H3,I3,q3⟩
def Zm(r r':R2)(ta tb tc:TE):TE:=fun σ H Q=>ta σ H fun x H1=>tb σ H1 fun y H2=>r x y H2 fun z H3=>∃k,z=.bl k /\
 (if k=true then tc σ H3 fun w' H4=>r' y w' H4 Q else Q (.bl false) H3)
theorem eU{op op':CmpOp}{r r':R2}(ho:OpR X (compareOp op) r)(ho':OpR X (compareOp op') r')(ha:PE X a ta)(hb:PE X b tb)(hc:PE X c tc)
  (hm:lastMarks [op,op'] [b,c]=false:=by with_unfolding_all rfl):PT X (.Compare a [op,op'] [b,c] pos) (Yq (Zm r r' ta tb tc)):=by
 intro pins s σ H Q I h
 refine isTrue_chain (thn (ha pins s σ H _ I h) fun v s1 ⟨x,H1,I1,r1,q1⟩=>test_link (thn (hb pins s1 σ H1 _ I1 q1) fun u s2 ⟨y,H2,I2,r2,q2⟩ =>
  thn (ho pins s2 σ H2 x y v u _ I2 r1 r2 q2) fun d s3 ⟨z,H3,I3,r3,k,e,q3⟩=>?_)) hm
 subst e
 cases r3
 refine U3a ?_
 cases k with
 |false =>
  obtain⟨k',e',q'⟩:=q3
  cases e'
  exact ite_ff ⟨H3,I3,q'⟩
 |true =>
  refine ite_tt (test_last (thn (hc pins s3 σ H3 _ I3 q3) fun w' s4 ⟨z',H4,I4,r4,q4⟩=>thn (ho' pins s4 σ H4 y z' u w' _ I4 r2 r4 q4) fun d' s5 ⟨z2,H5,I5,r5,k2,e2,q5⟩=>?_))
  subst e2
  cases r5
  exact U3a ⟨H5,I5,q5⟩
theorem Oc:(sizeLine:Nat)<2^63:=by rw[sizeLine_eq];decide
theorem ZC:OpR X (binaryOp .Add) (fun x y H Q=>∃i j,x=.str i/\y=.str j/\i.length+j.length<=sizeLine/\Q (.str (i++j)) H):=by
 intro pins s σ H x y v u Q I rx ry h
 obtain⟨i,j,rfl,rfl,hz,q⟩:=h
 obtain⟨t,rfl⟩:=rx
 obtain⟨t',rfl⟩:=ry
 exact add_str (fun t' tk=>⟨.str (i++j),H,I.tok _,⟨_,rfl⟩,q⟩) hz
theorem vals1{x:V}{us:List Value}(r:Vals [x] us):∃u,us=[u]/\RelV x u:=by
 cases r with
 |cons r1 r2=>cases r2;exact⟨_,rfl,r1⟩
theorem vals2{x y:V}{us:List Value}(r:Vals [x,y] us):∃u w',us=[u,w']/\RelV x u/\RelV y w':=by
 cases r with
 |cons r1 r2 =>
  cases r2 with
  |cons r3 r4=>cases r4;exact⟨_,_,rfl,r1,r3⟩
theorem cG(hc:X.calm=true):DK X (.builtin "max") (fun xs H Q=>∃i j,xs=[.int i,.int j]/\Q (.int (if j>i then j else i)) H):=by
 intro pins s σ H xs us Q I r h
 obtain⟨i,j,rfl,q⟩:=h
 obtain⟨u,w',rfl,⟨t,rfl⟩,⟨t',rfl⟩⟩:=vals2 r
 refine max_two_ints (I.ok.hd hc) fun h' tk k=>⟨_,H,I.kept k,?_,q⟩
 by_cases hj:j>i
 .rw[if_pos hj,if_pos hj];exact⟨_,rfl⟩
 .rw[if_neg hj,if_neg hj];exact⟨_,rfl⟩
theorem cF(hc:X.calm=true):DK X (.builtin "min") (fun xs H Q=>∃i j,xs=[.int i,.int j]/\Q (.int (if j<i then j else i)) H):=by
 intro pins s σ H xs us Q I r h
 obtain⟨i,j,rfl,q⟩:=h
 obtain⟨u,w',rfl,⟨t,rfl⟩,⟨t',rfl⟩⟩:=vals2 r
 refine min_two_ints (I.ok.hd hc) fun h' tk k=>⟨_,H,I.kept k,?_,q⟩
 by_cases hj:j<i
 .rw[if_pos hj,if_pos hj];exact⟨_,rfl⟩
 .rw[if_neg hj,if_neg hj];exact⟨_,rfl⟩
theorem Um:DK X (.type "int") (fun xs H Q=>(∃i,xs=[.int i]/\Q (.int i) H)∨∃k,xs=[.bl k]/\Q (.int (if k then 1 else 0)) H):=by
 intro pins s σ H xs us Q I r h
 rcases h with ⟨i,rfl,q⟩|⟨k,rfl,q⟩
 .obtain⟨u,rfl,t,rfl⟩:=vals1 r
  exact call_int_int ⟨.int i,H,I,⟨_,rfl⟩,q⟩
 .obtain⟨u,rfl,r1⟩:=vals1 r
  cases r1
  exact call_int_bool ⟨.int (if k then 1 else 0),H,I.tok _,⟨_,rfl⟩,q⟩
end
end L2
namespace L2
open PySem PySem.Spec PyProof.Rows
structure cj(h:Heap)(x dx C:Addr)(mA:Str->Option Value):Prop where
 obj:h.get? x=some (U60 C dx)
 ns:h.Ns1 dx mA
 ne:dx≠x
theorem bJ{h:Heap}{dx:Addr}{mA:Str->Option Value}(n:h.Ns1 dx mA):∃od,h.get? dx=some od/\∀name,U7 name od=some (mA name):=by
 obtain⟨o,es,ep,ho,hd,hk,_,hm⟩:=n
 refine⟨o,ho,fun name=>?_⟩
 have e:=hm name
 unfold nsFind findBy at e
 rw[←Array.find?_toList] at e
 unfold U7
 rw[hd]
 dsimp only
 split
 .rename_i y q
  rw[q] at e
  exact congrArg some e
 .rename_i q
  rw[q] at e
  have a:es.toList.any (·.refKey)=false:=by
   rw[List.any_eq_false]
   intro y hy
   obtain⟨z,t,hkey⟩:=hk y (Array.mem_toList_iff.mp hy)
   simp[DictEntry.refKey,hkey]
  have a':¬es.toList.any (·.refKey)=true:=by rw[a];exact U1a
  rw[if_neg a']
  exact congrArg some e
theorem cj.look{h:Heap}{x dx C:Addr}{mA:Str->Option Value}(I:cj h x dx C mA):∃od,PySem.W.InstAt h x (U60 C dx) C (some od)/\∀name,U7 name od=some (mA name) :=
 let ⟨od,ho,hl⟩:=bJ I.ns
 ⟨od,⟨I.obj,rfl,rfl,ho⟩,hl⟩
section
variable{prog:Program}{w:World}{A:Around}{E:Value->Shared->Prop}{s:Shared}{K:U0a}{x dx C f:Addr}{mA:Str->Option Value}{name:Str}{v:Value}
end
section
variable{P:Program}{w:World}{H H':Hp}{h h':Heap}{a C dx:Addr}{fs fs':List (Str×V)}
theorem lE(hok:HOk P w H h)(e:H a=some (.ins C dx fs)):∃mA,cj h a dx C mA/\(∀f,Qj (fs.lookup f) (mA f))/\PySem.Within mA (fs.map (·.1))/\fs.length<=1000/\H dx=some (.own a):=by
 obtain⟨d,z,ne,ob,mA,n,r,q⟩:=(show Cr P w H h a (.ins C dx fs) from hok a _ e)
 exact⟨mA,⟨ob,n,ne⟩,r,q,z,d⟩
end
structure Cls(K:U0a)(C:Addr):Prop where
 pg:PySem.W.plainGet K C Str.empty=true
 hd:PySem.W.hasDictIn K C=true
 po:PySem.W.plainOver K C=true
 sa:U5n K (.ref C) "__setattr__"=some (some (.builtin "object.__setattr__"))
theorem Cls.get{K:U0a}{C:Addr}(c:Cls K C)(f:Str):PySem.W.plainGet K C f=true:=c.pg
structure Con(K:U0a)(C:Addr)(f:Str)(v:V)(u:Value):Prop where
 at_:U5n K (.ref C) f=some (some u)
 rel:RelV v u
 get:PySem.W.specialIn K u "__get__"=some none
 cp:PySem.W.copiedNames.contains f=false
structure Meth(K:U0a)(C:Addr)(m:Str)(f:Addr):Prop where
 at_:U5n K (.ref C) m=some (some (.ref f))
 fn:PySem.W.isFn K (.ref f)=true
 kp:U04 K (.ref f)=true
section
variable{X:Cx}{pins:List (Addr×Obj)}{σ:St}{H:Hp}{s:Shared}{a C dx:Addr}{fs:List (Str×V)}{f:Str}{v:V}{A:Around}{E:Value->Shared->Prop}
end
section
variable{X:Cx}{o e value:Expr}{f:Str}{pos pos' tpos:Pos}{ta tv:TE}
end
section
variable{X:Cx}{pins:List (Addr×Obj)}{σ:St}{H:Hp}{s:Shared}{A:Around}{E:Value->Shared->Prop}{Q:Value->Shared->Prop}{c:Value}{b:Bool}
inductive J5 (K:U0a) (H:Hp):V->Value->Prop where
 |non:J5 K H .non (.type "NoneType")
 |bl (x:Bool):J5 K H (.bl x) (.type "bool")
 |int (i:Int):J5 K H (.int i) (.type "int")
 |str (x:Str):J5 K H (.str x) (.type "str")
 |flt (x:UInt64):J5 K H (.flt x) (.type "float")
 |lst {a:Addr} {xs:List V} (e:H a=some (.lst xs)):J5 K H (.ref a) (.type "list")
 |frz {a:Addr} {o:Obj} {xs:List V} (e:H a=some (.frz o (.lst xs))):J5 K H (.ref a) (.type "list")
 |tup {a:Addr} {xs:List V} (e:H a=some (.tup xs)):J5 K H (.ref a) (.type "tuple")
 |dK {a:Addr} {kvs:List (Key×V)} (e:H a=some (.dK kvs)):J5 K H (.ref a) (.type "dict")
 |dT {a:Addr} {kvs:List (List Key×V)} (e:H a=some (.dT kvs)):J5 K H (.ref a) (.type "dict")
 |ins {a C dx:Addr} {fs:List (Str×V)} (e:H a=some (.ins C dx fs)) (cl:Cls K C) (ha:U5n K (.ref C) "__class__"=some (some (.builtin "object.__class__")))
   (hn:PySem.W.specialIn K (.builtin "object.__class__") "__get__"=some (some (.builtin "getset_descriptor.__get__"))) (htk:PySem.W.takesIn K (.builtin "object.__class__")=some true)
   (hm:PySem.W.mroIn K C (.type "object")=some true):J5 K H (.ref a) (.ref C)
theorem bO{x:V}{u t:Value}(I:Inv X pins σ H s)(rx:RelV x u)(ty:J5 X.K H x t)(e:U29 X.K t c=some b)(h:∀tk,Q (.bool b) { s with toks:=tk }) :
  wpAny (model X.prog X.w) A (call (.builtin "isinstance") [u,c]) Q E s:=by
 cases ty with
 |non=>cases (show u=U2g from rx);exact U2t PySem.W.kitx_none I.kIn U4l e (fun z=>nomatch z) h
 |bl y=>cases (show u=U4k y from rx);exact U2t PySem.W.kitx_bool I.kIn U4l e (fun z=>nomatch z) h
 |int i=>obtain⟨t,q⟩:=(show ∃t,u=U3s i t from rx);cases q;exact U2t PySem.W.kitx_int I.kIn U4l e (fun z=>nomatch z) h
 |str y=>obtain⟨t,q⟩:=(show ∃t,u=U6z y t from rx);cases q;exact U2t PySem.W.kitx_str I.kIn U4l e (fun z=>nomatch z) h
 |flt y=>obtain⟨t,q⟩:=(show ∃t,u=Value.float y t from rx);cases q;exact U2t PySem.W.kitx_float I.kIn U4l e (fun z=>nomatch z) h
 |@lst a xs ea =>
  cases (show u=U1x a from rx)
  obtain⟨_,_,n,_,h1⟩:=(show Cr X.prog X.w H s.heap a (.lst xs) from I.hok a _ ea)
  exact U2t PySem.W.kitx_list I.kIn ⟨_,h1,rfl⟩ e (fun z=>nomatch z) h
 |@frz a ob xs ea =>
  cases (show u=U1x a from rx)
  obtain⟨_,_,_,n,_,h1⟩:=(show Cr X.prog X.w H s.heap a (.frz ob (.lst xs)) from I.hok a _ ea)
  exact U2t PySem.W.kitx_list I.kIn ⟨_,h1,rfl⟩ e (fun z=>nomatch z) h
 |@tup a xs ea =>
  cases (show u=U1x a from rx)
  obtain⟨_,_,_,p⟩:=(show Cr X.prog X.w H s.heap a (.tup xs) from I.hok a _ ea)
  obtain⟨o,h1,h2,_⟩:=p
  exact U2t PySem.W.kitx_tuple I.kIn ⟨o,h1,h2⟩ e (fun z=>nomatch z) h
 |@dK a kvs ea =>
  cases (show u=U1x a from rx)
  obtain⟨_,_,vs,_,p⟩:=(show Cr X.prog X.w H s.heap a (.dK kvs) from I.hok a _ ea)
  obtain⟨o,es,ep,h1,h2,_⟩:=p
  exact U2t PySem.W.kitx_dict I.kIn ⟨o,h1,h2.1⟩ e (fun z=>nomatch z) h
 |@dT a kvs ea =>
  cases (show u=U1x a from rx)
  obtain⟨_,_,xs,_,o,es,ep,h1,h2,_⟩:=(show Cr X.prog X.w H s.heap a (.dT kvs) from I.hok a _ ea)
  exact U2t PySem.W.kitx_dict I.kIn ⟨o,h1,h2.1⟩ e (fun z=>nomatch z) h
 |@ins a C dx fs ea cl ha hn htk hm =>
  cases (show u=U1x a from rx)
  obtain⟨mA,O,_⟩:=lE I.hok ea
  obtain⟨od,J,_⟩:=O.look
  exact U2t (PySem.W.kitx_own (cl.get _) cl.hd ha hn htk hm) I.kIn J e (fun z=>nomatch z) h
end
end L2
namespace L2
open PySem PySem.Spec PyProof.Rows
structure Dz(k:Nat)(A:Around):Prop where
 hd:A.handled=none
 dp:A.depth+3*k+5<recursionLimit
 un:A.units+16*k+200<cLine
 gd:A.guards=some []
theorem Dz.mono{j k:Nat}{A:Around}(r:Dz k A)(h:j<=k):Dz j A:=⟨r.hd,by have:=r.dp;omega,by have:=r.un;omega,r.gd⟩
theorem Dz.deeper{k:Nat}{A:Around}(r:Dz (k+1) A)(env:Env):Dz k (A.deeper env) :=
 ⟨r.hd,by have:=r.dp;show A.depth+1+3*k+5<_;omega,by have:=r.un;show A.units+3+16*k+200<_;omega,r.gd⟩
theorem Dz.depth{k:Nat}{A:Around}(r:Dz k A):A.depth<recursionLimit:=by have:=r.dp;omega
theorem Dz.units{k:Nat}{A:Around}(r:Dz k A):A.units+64<cLine:=by have:=r.un;omega
def mz:TA:=fun _ H Q=>Q [] H
def iK(ta:TE)(tr:TA):TA:=fun σ H Q=>ta σ H fun x H1=>tr σ H1 fun xs H2=>Q (x::xs) H2
section
variable{X:Cx}{e:Expr}{es:List Expr}{te:TE}{t:TA}{pos:Pos}
theorem Ra:PA X [] mz:=fun _ _ _ _ H Q I h=>Calls.spliced_nil ⟨[],H,I,.nil,h⟩
theorem Pz(ha:PE X e te)(hr:PA X es t)(hs:starEach (e::es) X.env=(false,eval e X.env)::starEach es X.env:=by rfl):PA X (e::es) (iK te t):=by
 intro pos pins s σ H Q I h
 rw[hs]
 show wpAny _ _ (spliced ((false,eval e X.env)::backTo pos (starEach es X.env))) _ _ s
 refine Calls.spliced_cons (thn (ha pins s σ H _ I h) fun u s1 ⟨x,H1,I1,r1,q1⟩=>?_)
 exact thn (hr pos pins s1 σ H1 _ I1 q1) fun us s2 ⟨xs,H2,I2,r2,q2⟩=>⟨x::xs,H2,I2,.cons r1 r2,q2⟩
def mq(t:TA):TE:=fun σ H Q=>t σ H fun xs H1=>xs.length<=sizeLine/\∀p,H1 p=none->Q (.ref p) (upd H1 p (.tup xs))
def uY(t:TA):TE:=fun σ H Q=>t σ H fun xs H1=>xs.length<=sizeLine/\∀p,H1 p=none->Q (.ref p) (upd H1 p (.lst xs))
theorem pI{x1}(h:PA X es t):PE X (.Tuple es x1 pos) (mq t):=by
 intro pins s σ H Q I hq
 refine wpAny_Tuple_spliced (thn (h pos pins s σ H _ I hq) fun us s1 ⟨xs,H1,I1,r,z,q⟩=>⟨by rw[←r.length];exact z,?_⟩)
 have hf:H1 s1.heap.objs.size=none:=I1.hok.fresh (U0k _)
 refine⟨.ref s1.heap.objs.size,upd H1 s1.heap.objs.size (.tup xs),I1.laid (t':=s1.toks) (fun b u e=>U0b _ e) (U0k _) ?_,rfl,q _ hf⟩
 exact⟨z,us,r,⟨_,U0s _ rfl,rfl,_,rfl⟩⟩
theorem Zt(h:PA X es t):PE X (.List es pos) (uY t):=by
 intro pins s σ H Q I hq
 refine wpAny_List_spliced (thn (h pos pins s σ H _ I hq) fun us s1 ⟨xs,H1,I1,r,z,q⟩=>⟨by rw[←r.length];exact z,?_⟩)
 have hf:H1 s1.heap.objs.size=none:=I1.hok.fresh (U0k _)
 refine⟨.ref s1.heap.objs.size,upd H1 s1.heap.objs.size (.lst xs),I1.laid (t':=s1.toks) (fun b u e=>U0b _ e) (U0k _) ?_,rfl,q _ hf⟩
 exact⟨z,us,0,r,U0s _ rfl⟩
end
abbrev Sp:=List V->Hp->VK->XK->Prop
abbrev CXT:=List Env->Hp->Shared->XK->Value->Shared->Prop
structure Yp(P:Program)(w:World)(K:U0a)(mg:Str->Option Value)(base:Heap)(A:Around)(outer:List Env)(s:Shared)(H:Hp):Prop where
 frames:A.frames=some outer
 mod:Mod K mg base
 bs:∀b o,base.get? b=some o->s.heap.get? b=some o/\H b=none
 bsz:base.objs.size<=s.heap.objs.size
 Ku:s.heap.FunFrames base outer
 frf:∀b∈frs outer,H b=none
 hok:HOk P w H s.heap
 bare:AllBare s.gens
 sy:H sysModules=none
def CE(outer:List Env)(P:Program)(w:World)(H:Hp)(s:Shared)(Q:VK)(u:Value)(s':Shared):Prop :=
 ∃v H',s'.os=s.os/\AllBare s'.gens/\Un (frs outer) [] H H' s.heap s'.heap/\HOk P w H' s'.heap/\RelV v u/\Q v H'
def CR(CX:CXT)(outer:List Env)(P:Program)(w:World)(H:Hp)(s:Shared)(Q:VK)(E:XK)(r:Result)(s':Shared):Prop :=
 match r with
 |.ok (.ret u)=>CE outer P w H s Q u s'
 |.ok _=>False
 |.error e=>CX outer H s E e s'
structure DG(P:Program)(w:World)(K:U0a)(mg:Str->Option Value)(base:Heap)(CX:CXT)(k:Nat)(f:Addr)(fd:FuncData)(ps:List Str)(sp:Sp):Prop where
 len:∀vs H Q E,sp vs H Q E->vs.length=ps.length
 run:∀(A:Around)(outer:List Env)(s:Shared)(H:Hp)(args:Args)(us:List Value)(vs:List V)(Q:VK)(E:XK),Dz k A->Yp P w K mg base A outer s H->BindsTo s fd args (ps.zip us)->Vals vs us->sp vs H Q E ->
  codeAny (model P w) A (.call (.ref f) args) (CR CX outer P w H s Q E) s
theorem DG.mono{P:Program}{w:World}{K:U0a}{mg:Str->Option Value}{base:Heap}{CX:CXT}{j k:Nat}{f:Addr}{fd:FuncData}{ps:List Str}{sp:Sp}(F:DG P w K mg base CX j f fd ps sp)(h:j<=k) :
  DG P w K mg base CX k f fd ps sp:=⟨F.len,fun A outer s H args us vs Q E hr=>F.run A outer s H args us vs Q E (hr.mono h)⟩
theorem DG.imp{P:Program}{w:World}{K:U0a}{mg:Str->Option Value}{base:Heap}{CX:CXT}{k:Nat}{f:Addr}{fd:FuncData}{ps:List Str}{sp sp':Sp}(F:DG P w K mg base CX k f fd ps sp)
  (h:∀vs H Q E,sp' vs H Q E->sp vs H Q E):DG P w K mg base CX k f fd ps sp' :=
 ⟨fun vs H Q E q=>F.len vs H Q E (h _ _ _ _ q),fun A outer s H args us vs Q E hr he hb hv hs=>F.run A outer s H args us vs Q E hr he hb hv (h _ _ _ _ hs)⟩
section
variable{X:Cx}{pins:List (Addr×Obj)}{σ:St}{H:Hp}{s s':Shared}
theorem Inv.env0(I:Inv X pins σ H s):Yp X.prog X.w X.K X.mg X.base X.A X.stack s H :=
 ⟨I.ok.frames,I.ok.mod,I.bs,U06 I.ok.bsz I.sz,I.stack,I.Y5,I.hok,I.bare,I.Qf⟩
theorem Inv.after{Q:VK}{u:Value}(I:Inv X pins σ H s)(h:CE X.stack X.prog X.w H s Q u s'):EP X pins σ Q u s':=by
 obtain⟨v,H',os,bare,un,hok,r,q⟩:=h
 obtain⟨hh,g,d,t,os'⟩:=s'
 obtain rfl:os'=s.os:=os
 exact⟨v,H',I.call (h':=hh) (g':=g) (d':=d) (t':=t) (ch:=[]) un hok bare (fun b z=>absurd z (by simp)),r,q⟩
end
def iM(sp:Sp)(dvs:List V)(E:XK)(t:TA):TE:=fun σ H Q=>t σ H fun vs H1=>sp (vs++dvs) H1 Q E
def Binds(K:U0a)(fd:FuncData)(ps:List Str)(ds:List Value):Prop :=
 ∀(s:Shared)(us:List Value),K.In s.heap->(us++ds).length=ps.length->BindsTo s fd ⟨us,[]⟩ (ps.zip (us++ds))
theorem Binds.all{K:U0a}{fd:FuncData}{ps:List Str}(h:∀us:List Value,us.length=ps.length->bindArgs fd ⟨us,[]⟩=pure (ps.zip us)):Binds K fd ps []:=fun s us _ hl=>by
 rw[U3c] at hl ⊢
 exact .of_eq (h us hl)
def Passes(CX:CXT)(X:Cx)(E:XK):Prop:=∀(pins:List (Addr×Obj))(σ:St)(H:Hp)(s:Shared)(e:Value)(s':Shared),Inv X pins σ H s->CX X.stack H s E e s'->X.xe e s'
section
variable{X:Cx}{CX:CXT}{k:Nat}{f C:Addr}{fd:FuncData}{ps:List Str}{sp:Sp}{dvs:List V}{ds:List Value}{E:XK}{x m:Str}{p pos apos:Pos}{e o:Expr}{es:List Expr}{ta:TE}{t:TA}
theorem oN{pins:List (Addr×Obj)}{σ:St}{H:Hp}{s:Shared}{Q:VK}{us:List Value}{vs:List V}(F:DG X.prog X.w X.K X.mg X.base CX k f fd ps sp)(hr:Dz k X.A)(hb:Binds X.K fd ps ds)(hd:Vals dvs ds)(hx:Passes CX X E)
  (I:Inv X pins σ H s) (r:Vals vs us) (h:sp (vs++dvs) H Q E):wpAny (model X.prog X.w) X.A (call (.ref f) us) (EP X pins σ Q) X.xe s:=by
 have r2:Vals (vs++dvs) (us++ds):=r.append hd
 have hl:(us++ds).length=ps.length:=by rw[←r2.length];exact F.len _ _ _ _ h
 refine wpAny_call (codeAny_mono (F.run X.A X.stack s H ⟨us,[]⟩ (us++ds) (vs++dvs) Q E hr I.env0 (hb s us I.kIn hl) r2 h) fun r s' hq=>?_)
 cases r with
 |error e=>exact hx pins σ H s e s' I hq
 |ok fl =>
  cases fl with
  |ret u=>exact I.after hq
  |next=>exact U36 hq
  |brk=>exact U36 hq
  |cont=>exact U36 hq
theorem jk(F:DG X.prog X.w X.K X.mg X.base CX k f fd ps sp)(hr:Dz k X.A)(hg:Gl X x)(hm:X.mg x=some (.ref f))(hk:U04 X.K (.ref f)=true)(hb:Binds X.K fd ps ds)(hd:Vals dvs ds)(hx:Passes CX X E)
  (ha:PA X (e::es) t) (hdb:(x==("__debug__":Str))=false:=by decide) (he:starEach (e::es) X.env=(false,eval e X.env)::starEach es X.env:=by rfl) (hpl:(backTo pos (starEach es X.env)).any (·.1)=false:=by rfl) :
  PE X (.Call (.Name x p) (e::es) [] pos) (iM sp dvs E t):=by
 intro pins s σ H Q I h
 refine U5g (YL I hg hm ?_ hdb)
 refine PySem.W.callWith_K (h₀:=X.base) I.ok.mod.kin hk (thn (ha pos pins s σ H _ I h) fun us s1 ⟨vs,H1,I1,r,q⟩=>⟨I1.kIn,?_⟩) he hpl
 exact oN F hr hb hd hx I1 r q
structure Mk(K:U0a)(C f:Addr):Prop where
 makes:PySem.W.makesIn K C=true
 init:U5n K (.ref C) "__init__"=some (some (.ref f))
 fn:PySem.W.isFn K (.ref f)=true
 kp:U04 K (.ref C)=true
end
section
variable{X:Cx}{CX:CXT}{k:Nat}{f C:Addr}{fd:FuncData}{ps ks:List Str}{sp:Sp}{E:XK}{x m:Str}{p pos apos kpos:Pos}{e o:Expr}{es:List Expr}{kws:List Keyword}{te ta:TE}{t tk:TA}{nm:Option Str}
structure vg(K:U0a)(fd:FuncData)(ps ks:List Str)(g:List Value->List Value->List Value)(gV:List V->List V->List V):Prop where
 to:∀(s:Shared)(us ws:List Value),K.In s.heap->(g us ws).length=ps.length->BindsTo s fd ⟨us,ks.zip ws⟩ (ps.zip (g us ws))
 rel:∀{vs:List V} {us:List Value} {zs:List V} {ws:List Value},Vals vs us->Vals zs ws->Vals (gV vs zs) (g us ws)
variable{g:List Value->List Value->List Value}{gV:List V->List V->List V}
end
structure CT(N P:List Str)(sc:Scope):Prop where
 kind:sc.kind=.function
 co:sc.isCoroutine=false
 gen:sc.isGenerator=false
 nd:N.Nodup
 pre:N.take P.length=P
 par:∀x∈P,sc.names.lookup x=some .local∨sc.names.lookup x=some .cell
 nofree:∀y∈sc.names,y.2≠.free
theorem Uo{kindOf:Str->Option NameKind}{x:Str}:∀{binds:List (Str×Value)} {m:Str->Option Value},(∀v,(x,v) ∉ binds)->bindL kindOf binds m x=m x
 |[],_,_=>rfl
 |(n,v)::r,m,h=>by
  unfold bindL
  rw[Uo fun w hw=>h w (U0z _ hw)]
  split
  .have:x≠n:=by rintro rfl;exact h v U0g
   simp[this]
  .rfl
theorem Ur{kindOf:Str->Option NameKind}{x:Str}:∀{binds:List (Str×Value)} {m:Str->Option Value},(∀v,(x,v) ∉ binds)->bindC kindOf binds m x=m x
 |[],_,_=>rfl
 |(n,v)::r,m,h=>by
  unfold bindC
  rw[Ur fun w hw=>h w (U0z _ hw)]
  split
  .rfl
  .have:x≠n:=by rintro rfl;exact h v U0g
   simp[this]
theorem Uq{kindOf:Str->Option NameKind}{x:Str}{v:Value}:∀{P:List Str} {vs:List Value} {i:Nat} {m:Str->Option Value},P.Nodup->P[i]?=some x->vs[i]?=some v->kindOf x=some .local ->
  bindL kindOf (P.zip vs) m x=some v
 |[],_,_,_,_,h,_,_=>by simp at h
 |_::_,[],_,_,_,_,h,_=>by simp at h
 |p::P,w::vs,0,m,nd,h1,h2,hk=>by
  simp at h1 h2;subst h1;subst h2
  show bindL kindOf ((p,w)::P.zip vs) m p=_
  unfold bindL
  rw[Uo fun v hv=>(U4m.mp nd).1 (U5e hv).1,if_pos hk]
  simp
 |p::P,w::vs,i+1,m,nd,h1,h2,hk=>by
  show bindL kindOf ((p,w)::P.zip vs) m x=_
  unfold bindL
  exact Uq (i:=i) (U4m.mp nd).2 (by simpa using h1) (by simpa using h2) hk
theorem Us{kindOf:Str->Option NameKind}{x:Str}{v:Value}:∀{P:List Str} {vs:List Value} {i:Nat} {m:Str->Option Value},P.Nodup->P[i]?=some x->vs[i]?=some v->kindOf x≠some .local ->
  bindC kindOf (P.zip vs) m x=some v
 |[],_,_,_,_,h,_,_=>by simp at h
 |_::_,[],_,_,_,_,h,_=>by simp at h
 |p::P,w::vs,0,m,nd,h1,h2,hk=>by
  simp at h1 h2;subst h1;subst h2
  show bindC kindOf ((p,w)::P.zip vs) m p=_
  unfold bindC
  rw[Ur fun v hv=>(U4m.mp nd).1 (U5e hv).1,if_neg hk]
  simp
 |p::P,w::vs,i+1,m,nd,h1,h2,hk=>by
  show bindC kindOf ((p,w)::P.zip vs) m x=_
  unfold bindC
  exact Us (i:=i) (U4m.mp nd).2 (by simpa using h1) (by simpa using h2) hk
def start(N:List Str)(vs:List V):St:=vs.map some++U03 (N.length-vs.length) none
def O8(CX:CXT)(P:Program)(w:World)(K:U0a)(mg:Str->Option Value)(base:Heap)(N:List Str)(qual:Str)(scope:Scope)(f:Addr)(cd:Value)(A:Around)(outer:List Env)(s:Shared)(H:Hp)(E:XK):Cx where
 prog:=P
 w:=w
 K:=K
 mg:=mg
 base:=base
 A:=A.deeper (envOfC qual scope s.heap.objs.size f cd)
 N:=N
 s₀:=s
 H₀:=H
 env:=envOfC qual scope s.heap.objs.size f cd
 outer:=outer
 stack:=envOfC qual scope s.heap.objs.size f cd::outer
 ex:=[]
 calm:=true
 fn:=fun _=>true
 pn:=[]
 xe:=fun e s'=>wpAny (model P w) (A.deeper (envOfC qual scope s.heap.objs.size f cd)) (leaving (envOfC qual scope s.heap.objs.size f cd) e) (fun _ s''=>CX outer H s E e s'') (fun e' s''=>CX outer H s E e' s'') s'
theorem Wb{sc:Scope}{n:Nat}{x:Str}(h:sc.names.lookup x=some .cell):∃c,(cellsFrom n sc.names []).lookup x=some c:=by
 have q:=U5w sc.names n [] (.inl h)
 exact U4a.mp q
theorem bT{CX:CXT}{P:Program}{w:World}{K:U0a}{mg:Str->Option Value}{base:Heap}{N ps:List Str}{qual:Str}{scope:Scope}{f:Addr}{cd:Value}{A:Around}{outer:List Env}{s s1:Shared}{H:Hp}{E:XK}{us:List Value}{vs:List V}
  (S:CT N ps scope) (hd:A.handled=none) (e0:Yp P w K mg base A outer s H) (hl:vs.length=ps.length) (r:Vals vs us)
  (x:InCallC s s.heap.objs.size (bindL (envOfC qual scope s.heap.objs.size f cd).kindOf (ps.zip us) fun _=>none) (cellsFrom (s.heap.objs.size+1) scope.names []) (bindC (envOfC qual scope s.heap.objs.size f cd).kindOf (ps.zip us) fun _=>none) s1) :
  Inv (O8 CX P w K mg base N qual scope f cd A outer s H E) [] (start N vs) H s1:=by
 have hpl:ps.length<=N.length:=by have:=congrArg U46 S.pre;rw[U2r] at this;omega
 obtain⟨h1,tk,rfl,hk⟩:=x.done
 have noA:∀b:Addr,b ∉ (O8 CX P w K mg base N qual scope f cd A outer s H E).ex:=fun b z=>absurd (show b∈([]:List Addr) from z) (by simp)
 refine⟨⟨e0.mod,S.kind,rfl,rfl,U0k _,fun y z c h1 h2=>?_,fun y hy=>?_,fun y c _ h=>?_,fun _=>hd,Around.frames_deeper e0.frames,.inr ⟨rfl,rfl⟩,fun b z=>absurd z (noA b),e0.bs,e0.bsz,fun b _ _=>noA b,fun b z=>absurd z (noA b),e0.Ku,e0.frf,e0.sy⟩,
  rfl,e0.bare,Un.kept hk,⟨_,x.toInCall.ns,fun i y v h1 h2 h3=>?_⟩,fun y c h=>⟨_,x.cell y c h⟩,e0.hok.fresh (U0k _),fun y c h=>?_,fun p hp=>absurd (show p∈([]:List (Addr×Obj)) from hp) (by simp),e0.hok.kept hk,?_⟩
 .exact name_of_addr x.apart (U2s h1) (U2s h2)
 .have hy:scope.names.lookup y=some .cell∨scope.names.lookup y=some .free:=hy
  rcases hy with hy|hy
  .exact Wb hy
  .exact absurd rfl (S.nofree _ (U2s hy))
 .exact U2b (x.above y c (U2s h))
 .have hi:i<vs.length:=by
   unfold start at h2
   by_cases hi:i<vs.length
   .exact hi
   .rw[U1v (by simpa using hi)] at h2
    rw[U4f] at h2
    split at h2<;>cases h2
  have ha:vs[i]?=some v:=by
   unfold start at h2
   rw[U1b (by simpa using hi),U05] at h2
   cases e:vs[i]? with
   |none=>rw[e] at h2;cases h2
   |some a=>rw[e] at h2;cases h2;rfl
  obtain⟨u,hu,rv⟩:=r.get ha
  have hp:ps[i]?=some y:=by
   rw[←S.pre,List.getElem?_take_of_lt (by omega)];exact h1
  have ndP:ps.Nodup:=by rw[←S.pre];exact S.nd.sublist (List.take_sublist _ _)
  refine⟨u,rv,?_⟩
  rcases S.par y (U1l hp) with k|k
  .exact .inl ⟨k,Uq ndP hp hu k⟩
  .obtain⟨c,e⟩:=Wb (n:=s.heap.objs.size+1) k
   refine .inr ⟨.inl k,c,e,?_⟩
   have q:=x.cell y c e
   rw[Us ndP hp hu (by show scope.names.lookup y≠_;rw[k];decide)] at q
   exact q
 .exact e0.hok.fresh (U2b (x.above y c (U2s h)))
 .unfold start
  show _=N.length
  rw[U0n,U0i,U1y]
  omega
theorem u5{CX:CXT}{P:Program}{w:World}{K:U0a}{mg:Str->Option Value}{base:Heap}{k:Nat}{f:Addr}{name qual:Str}{params:Arguments}{body:List Stmt}{scope:Scope}{dV kV doc pm cdv ct oc:Value}{an od:Option Addr}
  {osl:Array (Option Value)} {N ps:List Str} {sp:Sp} (lk:K.lookup f=some ⟨oc,od,.func (U09 name qual params body scope dV kV doc pm an cdv ct),osl⟩) (hcd:U07 K cdv qual=true) (S:CT N ps scope)
  (len:∀vs H Q E,sp vs H Q E->vs.length=ps.length)
  (hbody:∀(A:Around)(outer:List Env)(s:Shared)(H:Hp)(vs:List V)(Q:VK)(E:XK),Dz k (A.deeper (envOfC qual scope s.heap.objs.size f cdv))->sp vs H Q E ->
   ∃t,PSs (O8 CX P w K mg base N qual scope f cdv A outer s H E) body t/\t { nx:=fun _ H'=>Q .non H',rt:=Q } (start N vs) H) :
  DG P w K mg base CX (k+1) f (U09 name qual params body scope dV kV doc pm an cdv ct) ps sp:=by
 refine⟨len,fun A outer s H args us vs Q E hr e0 hb r hsp=>?_⟩
 have hl:=len _ _ _ _ hsp
 have KX:K.In s.heap:=e0.mod.kin.keeps fun b o e=>(e0.bs b o e).1
 have lim:s.heap.NoLimit:=e0.mod.nolimit.keeps fun b o e=>(e0.bs b o e).1
 have hkind:∀y∈ps.zip us,scope.names.lookup y.1=some .local∨(scope.names.lookup y.1=some .cell/\((cellsFrom (s.heap.objs.size+1) scope.names []).lookup y.1).isSome=true):=fun⟨n,v⟩ hy=>by
  rcases S.par n (U5e hy).1 with q|q
  .exact .inl q
  .exact .inr ⟨q,U5w _ _ _ (.inl q)⟩
 refine codeAny_call_function hr.depth (KX _ _ lk) rfl S.co S.gen rfl (PySem.W.codeRec_of KX hcd) (hb _ _ _ _ ?_)
 refine wpAny_newFunctionEnv_cells S.kind hkind fun env he s1 x=>?_
 subst he
 refine⟨lim.keeps x.toInCall.keep,codeAny_func ?_⟩
 obtain⟨t,ht,hq⟩:=hbody A outer s H vs Q E (hr.deeper _) hsp
 have I:Inv (O8 CX P w K mg base N qual scope f cdv A outer s H E) [] (start N vs) H s1:=bT S hr.hd e0 hl r x
 refine U5m (ht [] s1 (start N vs) H _ I hq) (fun fl s' hs=>?_) fun e s' hs=>hs
 have fin:∀{σ':St} {H':Hp} {v:V} {u:Value},Inv (O8 CX P w K mg base N qual scope f cdv A outer s H E) [] σ' H' s'->RelV v u->Q v H'->CE outer P w H s Q u s' :=
  fun {σ' H' v u} J rv q=>⟨v,H',J.os,J.bare,J.base,J.hok,rv,q⟩
 cases fl with
 |ret u =>
  obtain⟨v,σ',H',J,rv,q⟩:=hs
  exact fin J rv q
 |next =>
  obtain⟨σ',H',J,q⟩:=hs
  exact fin (v:=V.non) (u:=U2g) J rfl q
 |brk =>
  obtain⟨_,_,_,q⟩:=hs
  exact U36 q
 |cont =>
  obtain⟨_,_,_,q⟩:=hs
  exact U36 q
end L2
namespace L2
open PySem PySem.Spec PyProof.Rows
section
variable{X:Cx}{x:Str}{p pos:Pos}{e:Expr}{es:List Expr}{t:TA}{id T:String}{r:List V->Hp->VK->Prop}
def tCB(r:List V->Hp->VK->Prop)(t:TA):TE:=fun σ H Q=>t σ H fun vs H1=>r vs H1 Q
theorem W2(hc:DK X (.builtin id) r)(hg:Gl X x)(hm:X.mg x=none)(hv:bootBuiltins x=some (.builtin id))(ha:PA X (e::es) t)(hn:x≠"__name__":=by decide)(hdb:(x==("__debug__":Str))=false:=by decide)
  (he:starEach (e::es) X.env=(false,eval e X.env)::starEach es X.env:=by rfl) (hpl:(backTo pos (starEach es X.env)).any (·.1)=false:=by rfl):PE X (.Call (.Name x p) (e::es) [] pos) (tCB r t):=by
 intro pins s σ H Q I h
 refine U5g (K1 I hg hm hv ?_ hn hdb)
 exact PyProof.Rows.callWith_builtin1 (thn (ha pos pins s σ H _ I h) fun us s1 ⟨vs,H1,I1,r1,q1⟩=>hc pins s1 σ H1 vs us Q I1 r1 q1) he hpl
theorem K5(hc:DK X (.type T) r)(hg:Gl X x)(hm:X.mg x=none)(hv:bootBuiltins x=some (.type T))(ha:PA X (e::es) t)(hn:x≠"__name__":=by decide)(hdb:(x==("__debug__":Str))=false:=by decide)
  (he:starEach (e::es) X.env=(false,eval e X.env)::starEach es X.env:=by rfl) (hpl:(backTo pos (starEach es X.env)).any (·.1)=false:=by rfl):PE X (.Call (.Name x p) (e::es) [] pos) (tCB r t):=by
 intro pins s σ H Q I h
 refine U5g (K1 I hg hm hv ?_ hn hdb)
 exact U2u (thn (ha pos pins s σ H _ I h) fun us s1 ⟨vs,H1,I1,r1,q1⟩=>hc pins s1 σ H1 vs us Q I1 r1 q1) he hpl
end
end L2
namespace HT
open PySem PyProof.Rows
section
open PySem.SeqAt
open PySem.AutoSeq1 (wpAny_loadPart')
open PySem.MeetsSeq PySem.MeetsSeq2 PySem.MeetsSeq3
end
section
variable{prog:Program}{w:World}{A:Around}{E:Value->Shared->Prop}{s:Shared}
theorem lY{t b:Addr}{vs ws:List Value}{Q:Value->Shared->Prop}(ht:IsTup s.heap t vs.toArray)(hb:IsTup s.heap b ws.toArray)(hv:vs≠[])
  (h1:ws=[]->Q (.ref t) s) (h2:ws≠[]->Q (.ref s.heap.objs.size) { s with heap:=s.heap.push { cls:=.type "tuple",data:=.seq (vs++ws).toArray } })
  (hsz:vs.length+ws.length<=sizeLine):wpAny (model prog w) A (binaryOp .Add (.ref t) (.ref b)) Q E s:=by
 obtain⟨⟨cls,dd,data,sl⟩,ho,hc,n,hd⟩:=id ht
 obtain⟨⟨cls2,dd2,data2,sl2⟩,ho2,hc2,n2,hd2⟩:=id hb
 simp only at hc hd hc2 hd2
 subst hc hd hc2 hd2
 have e:vs.toArray++ws.toArray=(vs++ws).toArray:=by simp
 by_cases hw:ws=[]
 .exact concat_meets ⟨_,ho,rfl⟩ ⟨_,ho2,rfl⟩ noFill_tuple_add seq_tuple_add U5x U5q (U5h _ _)
   (tuple_addW1 t b vs.toArray ws.toArray n n2 dd dd2 sl sl2 (by simpa using hv) (by simp[hw])) ⟨ho,ho2,h1 hw⟩
 .refine concat_meets ⟨_,ho,rfl⟩ ⟨_,ho2,rfl⟩ noFill_tuple_add seq_tuple_add U5x U5q (U5h _ _)
   (tuple_addW2 t b vs.toArray ws.toArray n n2 dd dd2 sl sl2 (by simpa using hv) (by simpa using hw) (by rw[U0o,U0o];exact hsz)) ⟨ho,ho2,?_⟩
  rw[e]
  exact h2 hw
def sIx(n d:Nat):Option Int->Nat
 |none=>d
 |some v=>if v<0 then (v+(n:Int)).toNat else min v.toNat n
theorem oM(n d:Nat)(hd:d<=n)(o:Option Int):sIx n d o<=n:=by
 cases o with
 |none=>exact hd
 |some v =>
  show(if v<0 then (v+(n:Int)).toNat else min v.toNat n)<=n
  by_cases hv:v<0
  .rw[if_pos hv];omega
  .rw[if_neg hv];exact Nat.min_le_right _ _
theorem Yb(v:Int)(n d:Nat):(if v<0 then max (v+(n:Int)) 0 else min v (n:Int))=((sIx n d (some v):Nat):Int):=by
 show(if v<0 then max (v+(n:Int)) 0 else min v (n:Int))=(((if v<0 then (v+(n:Int)).toNat else min v.toNat n):Nat):Int)
 by_cases hv:v<0
 .simp only[if_pos hv];omega
 .simp only[if_neg hv];omega
theorem Zj(lo hi:Option Int)(n:Nat):U5f lo hi 1 (n:Int)=(((sIx n 0 lo:Nat):Int),((sIx n n hi:Nat):Int)):=by
 have h1:¬((1:Int)<0):=by omega
 unfold U5f
 simp only[h1,if_false]
 refine Prod.ext ?_ ?_
 .cases lo with
  |none=>rfl
  |some v=>exact Yb v n 0
 .cases hi with
  |none=>rfl
  |some v=>exact Yb v n n
theorem Z8(i j:Nat):U37 (i:Int) (j:Int) 1=j-i:=by
 unfold U37
 have h1:(1:Int)>0:=by omega
 simp only[h1,if_true,Int.ediv_one]
 split<;>omega
theorem Rm{v:Value}{o:Option Int}{Q:Option Int->Shared->Prop}(p:IsPart v o)(h:Q o s):wpAny (model prog w) A (Builtin.Slice.slicePartIndex v) Q E s:=by
 cases p with
 |none=>exact slicePart_none h
 |int i t=>exact slicePart_int h
theorem Li{sl:Addr}{vl vu:Value}{lo hi:Option Int}{n:Nat}{Q:Int×Int×Nat->Shared->Prop}(hs:s.heap.IsSliceOf sl vl vu .none)(pl:IsPart vl lo)(pu:IsPart vu hi)
  (h:Q (((sIx n 0 lo:Nat):Int),1,sIx n n hi-sIx n 0 lo) s):wpAny (model prog w) A (Builtin.Slice.sliceApplied (.ref sl) (pure (n:Int))) Q E s:=by
 obtain⟨os,hos,hcs,hds⟩:=id hs
 unfold Builtin.Slice.sliceApplied Builtin.Slice.sliceFields
 refine U0 (U0 (U13 hos hds (x:=vl) rfl (U0 (U13 hos hds (x:=vu) rfl (U0 (U13 hos hds (x:=.none) rfl (U0d ?_)))))))
 refine U0 (slicePart_none ?_)
 show wpAny _ _ (if ((1:Int)==0)=true then _ else _) _ _ s
 rw[if_neg (by decide)]
 refine U0 (Rm pl (U0 (Rm pu (U0 (U0d ?_)))))
 show wpAny _ _ (match U5f lo hi 1 (n:Int) with|(lo,hi)=>pure (lo,(1:Int),U37 lo hi 1)) _ _ s
 rw[Zj lo hi n]
 show wpAny _ _ (pure (((sIx n 0 lo:Nat):Int),(1:Int),U37 ((sIx n 0 lo:Nat):Int) ((sIx n n hi:Nat):Int) 1)) _ _ s
 rw[Z8]
 exact U0d h
theorem eY(xs:Array Value)(i k:Nat):((U0p k).filterMap fun(m:Nat)=>xs[((i:Int)+(m:Int)*1).toNat]?).toArray=((xs.toList.drop i).take k).toArray:=by
 have e:(fun(m:Nat)=>xs[((i:Int)+(m:Int)*1).toNat]?)=fun m=>xs[i+m]?:=by
  funext m
  have:((i:Int)+(m:Int)*1).toNat=i+m:=by omega
  rw[this]
 rw[e]
 have:=pick_run xs i k
 rw[List.filterMap_map] at this
 have e2:((fun x=>xs[x]?)∘fun x=>i+x)=fun m=>xs[i+m]?:=rfl
 rw[e2] at this
 rw[this]
theorem QF{t sl:Addr}{items:Array Value}{vl vu:Value}{lo hi:Option Int}{Q:Value->Shared->Prop}(ht:IsTup s.heap t items)(hs:s.heap.IsSliceOf sl vl vu .none)(pl:IsPart vl lo)(pu:IsPart vu hi)
  (hw:¬(sIx items.size 0 lo=0/\sIx items.size items.size hi=items.size))
  (h:Q (.ref s.heap.objs.size) { s with heap:=s.heap.push { cls:=.type "tuple",data:=.seq ((items.toList.drop (sIx items.size 0 lo)).take (sIx items.size items.size hi-sIx items.size 0 lo)).toArray } })
  (hsz:items.size<=sizeLine):wpAny (model prog w) A (getItem (.ref t) (.ref sl)) Q E s:=by
 have htake:sizeOk (.seq ((items.toList.drop (sIx items.size 0 lo)).take (sIx items.size items.size hi-sIx items.size 0 lo)).toArray):=by
  show((items.toList.drop (sIx items.size 0 lo)).take (sIx items.size items.size hi-sIx items.size 0 lo)).toArray.size<=sizeLine
  rw[U0o,U2r,U6v,U1t]
  omega
 have hj:sIx items.size items.size hi<=items.size:=oM _ _ (U0k _) hi
 obtain⟨os,hos,hcs,hds⟩:=id hs
 have hTs:s.TypeIs (.ref sl) "slice":=⟨os,hos,hcs⟩
 unfold getItem
 try with_reducible refine U2f ?_
 first|refine U0 (U0d ?_)|skip
 refine U0 (wpAny_sequenceKey ht.typeIs (by decide) ?_)
 refine U0 (wpAny_callSpecial?_slot (name:=U23 "__getitem__") ht.typeIs U2m
  (U17 U2m ht.typeIs entry_tuple_getitem ?_ (args_tuple_getitem _ _)))
 show wpAny _ _ (Builtin.Tuple.tupleItemsOf (.ref t) >>= _) _ _ s
 refine U0 (tupleItemsOf_ ht ?_)
 refine U0 (U5i hTs ?_)
 rw[if_pos (by decide)]
 refine U0 (Li hs pl pu ?_)
 have hno:¬((((sIx items.size 0 lo:Nat):Int)==0&&(1:Int)==1&&(sIx items.size items.size hi-sIx items.size 0 lo)==items.size)=true):=by
  intro q
  rw[U0y,U0y] at q
  have q1:((sIx items.size 0 lo:Nat):Int)=0:=eq_of_beq q.1.1
  have q2:sIx items.size items.size hi-sIx items.size 0 lo=items.size:=eq_of_beq q.2
  exact hw ⟨by omega,by omega⟩
 show wpAny _ _ (if (((sIx items.size 0 lo:Nat):Int)==0&&(1:Int)==1&&(sIx items.size items.size hi-sIx items.size 0 lo)==items.size)=true then _ else _) _ _ s
 rw[if_neg hno,eY]
 first
  |exact U0 (m:=U4b _) (U19 (U0d ⟨_,rfl,U0d h⟩) htake)
  |exact U0 (m:=U4b _) (U19 (U0 (U0d (U0d ⟨_,rfl,U0d h⟩))) htake)
  |exact U0 (U0 (m:=U4b _) (U19 (U0d (U0d ⟨_,rfl,U0d h⟩)) htake))
  |exact U0 (U0 (m:=U4b _) (U19 (U0d ⟨_,rfl,U0d h⟩) htake))
end
end HT
namespace L2
open PySem PySem.Spec PyProof.Rows
abbrev TO:=St->Hp->(Option Int->Hp->Prop)->Prop
def PO(X:Cx)(e:Option Expr)(t:TO):Prop :=
 ∀(pins:List (Addr×Obj))(s:Shared)(σ:St)(H:Hp)(Q:Option Int->Hp->Prop),Inv X pins σ H s->t σ H Q ->
  wpAny (model X.prog X.w) X.A (evalPart e X.env) (fun u s'=>∃o H',Inv X pins σ H' s'/\IsPart u o/\Q o H') X.xe s
def jH:TO:=fun _ H Q=>Q none H
def rm(t:TE):TO:=fun σ H Q=>t σ H fun x H1=>∃i,x=.int i/\Q (some i) H1
theorem intsAre_of{ns:List Int}:∀{us:List Value},Vals (ns.map V.int) us->IntsAre us ns:=by
 induction ns with
 |nil=>intro us r;rw[U1u] at r;cases r;exact .nil
 |cons n ns ih =>
  intro us r
  rw[U0t] at r
  cases r with
  |cons r1 r2 =>
   obtain⟨t,e⟩:=r1
   subst e
   exact .cons n t (ih r2)
section
variable{X:Cx}{e:Expr}{te:TE}{lo hi:Option Expr}{tl th:TO}{pos p2:Pos}
theorem jg:PO X none jH:=by
 intro pins s σ H Q I h
 rw[evalPart_none]
 exact U0d ⟨none,H,I,.none,h⟩
theorem je(h:PE X e te):PO X (some e) (rm te):=by
 intro pins s σ H Q I hw
 rw[evalPart_some]
 refine thn (h pins s σ H _ I hw) fun u s1 ⟨x,H1,I1,r1,q1⟩=>?_
 obtain⟨i,rfl,q⟩:=q1
 obtain⟨t,rfl⟩:=r1
 exact⟨some i,H1,I1,.int i t,q⟩
def SlR(X:Cx)(r:V->Option Int->Option Int->Hp->VK->Prop):Prop :=
 ∀(pins:List (Addr×Obj))(s:Shared)(σ:St)(H:Hp)(x:V)(v vl vu:Value)(lo hi:Option Int)(sl:Addr)(Q:VK),Inv X pins σ H s->RelV x v->s.heap.IsSliceOf sl vl vu .none->IsPart vl lo->IsPart vu hi->r x lo hi H Q ->
  ∃T id,typeLookup (.type T) "__getitem__"=pure (some (.builtin id))/\s.TypeIs v T/\wpAny (model X.prog X.w) X.A (getItem v (.ref sl)) (EP X pins σ Q) X.xe s
theorem SlR.or{r r':V->Option Int->Option Int->Hp->VK->Prop}(h:SlR X r)(h':SlR X r'):SlR X (fun x lo hi H Q=>r x lo hi H Q∨r' x lo hi H Q):=by
 intro pins s σ H x v vl vu lo hi sl Q I rx hs pl pu q
 rcases q with q|q
 .exact h pins s σ H x v vl vu lo hi sl Q I rx hs pl pu q
 .exact h' pins s σ H x v vl vu lo hi sl Q I rx hs pl pu q
def tSl(r:V->Option Int->Option Int->Hp->VK->Prop)(te:TE)(tl th:TO):TE:=fun σ H Q=>te σ H fun x H1=>tl σ H1 fun l H2=>th σ H2 fun u H3=>r x l u H3 Q
theorem fB{r:V->Option Int->Option Int->Hp->VK->Prop}(hr:SlR X r)(he:PE X e te)(hl:PO X lo tl)(hu:PO X hi th):PE X (.Subscript e (.Slice lo hi none p2) pos) (tSl r te tl th):=by
 intro pins s σ H Q I h
 refine Subscript_ (thn (he pins s σ H _ I h) fun v s1 ⟨x,H1,I1,r1,q1⟩=>?_)
 refine wpAny_Slice (thn (hl pins s1 σ H1 _ I1 q1) fun vl s2 ⟨l,H2,I2,pl,q2⟩=>thn (hu pins s2 σ H2 _ I2 q2) fun vu s3 ⟨u,H3,I3,pu,q3⟩=>?_)
 rw[evalPart_none]
 refine U0d ?_
 have I4:Inv X pins σ H3 { s3 with heap:=s3.heap.push { cls:=.type "slice",data:=.fields #[vl,vu,.none] } }:=I3.kept (t':=s3.toks) fun b ob q=>U0b _ q
 obtain⟨T,id,hT,ht,hg⟩:=hr pins { s3 with heap:=s3.heap.push { cls:=.type "slice",data:=.fields #[vl,vu,.none] } } σ H3 x v vl vu l u s3.heap.objs.size Q I4 r1 (Heap.IsSliceOf.new ..) pl pu q3
 show wpAny (model X.prog X.w) X.A (subscriptTail e (.Slice lo hi none p2) v (.ref s3.heap.objs.size)) (EP X pins σ Q) X.xe { s3 with heap:=s3.heap.push { cls:=.type "slice",data:=.fields #[vl,vu,.none] } }
 exact tail_any (ops:=[.ref s3.heap.objs.size,v]) ht hT hg (by with_unfolding_all rfl)
def JL(xs:List V)(lo hi:Option Int):List V:=(xs.drop (HT.sIx xs.length 0 lo)).take (HT.sIx xs.length xs.length hi-HT.sIx xs.length 0 lo)
theorem Qa(xs:List V)(lo hi:Option Int):(JL xs lo hi).length<=xs.length:=by
 unfold JL
 rw[U2r,U6v]
 omega
def uf(K:U0a):V->Option Int->Option Int->Hp->VK->Prop:=fun x lo hi H Q=>∃a xs,x=.ref a/\SqT K H a xs /\
 ¬(HT.sIx xs.length 0 lo=0/\HT.sIx xs.length xs.length hi=xs.length)/\∀p,H p=none->Q (.ref p) (upd H p (.tup (JL xs lo hi)))
theorem oH:SlR X (uf X.K):=by
 intro pins s σ H x v vl vu lo hi sl Q I rx hs pl pu h
 obtain⟨a,xs,rfl,hx,hw,q⟩:=h
 cases rx
 obtain⟨its,r,ht,hz⟩:=I.tuple hx
 have hlen:its.toArray.size=xs.length:=by rw[U0o];exact r.length.symm
 refine⟨"tuple",_,U2m.lookup,ht.typeIs,?_⟩
 refine HT.QF ht hs pl pu (by rw[hlen];exact hw) ?_ (by rw[hlen];exact hz)
 rw[hlen]
 refine⟨.ref s.heap.objs.size,_,I.laid (t':=s.toks) (o:=.tup (JL xs lo hi)) (fun b ob q=>U0b _ q) (U0k _) ?_,rfl,q _ (I.hok.fresh (U0k _))⟩
 exact⟨U06 (Qa xs lo hi) hz,_,(r.drop (HT.sIx xs.length 0 lo)).take (HT.sIx xs.length xs.length hi-HT.sIx xs.length 0 lo),IsTup.new _ _⟩
def sU(K:U0a):R2:=fun x y H Q=>∃a b xs ys,x=.ref a/\y=.ref b/\SqT K H a xs/\SqT K H b ys/\xs≠[]/\xs.length+ys.length<=sizeLine /\
 (ys=[]->Q (.ref a) H)/\(ys≠[]->∀p,H p=none->Q (.ref p) (upd H p (.tup (xs++ys))))
theorem Vals.Q5{xs:List V}{us:List Value}(r:Vals xs us):us=[]↔xs=[]:=by
 cases r with
 |nil=>simp
 |cons _ _=>simp
theorem jq:OpR X (binaryOp .Add) (sU X.K):=by
 intro pins s σ H x y v u Q I rx ry h
 obtain⟨a,b,xs,ys,rfl,rfl,ha,hb,hx,hz,q1,q2⟩:=h
 cases rx
 cases ry
 obtain⟨its,r1,p1,_⟩:=I.tuple ha
 obtain⟨its2,r2,p2,_⟩:=I.tuple hb
 refine HT.lY p1 p2 (fun z=>hx (r1.Q5.mp z)) (fun z=>⟨.ref a,H,I,rfl,q1 (r2.Q5.mp z)⟩) (fun z=>?_) (by rw[←r1.length,←r2.length];exact hz)
 refine⟨.ref s.heap.objs.size,_,I.laid (t':=s.toks) (o:=.tup (xs++ys)) (fun b ob q=>U0b _ q) (U0k _) ?_,rfl,q2 (fun w=>z (r2.Q5.mpr w)) _ (I.hok.fresh (U0k _))⟩
 exact⟨by rw[U0n];exact hz,_,r1.append r2,IsTup.new _ _⟩
end
end L2
namespace L2
open PySem PySem.Spec PyProof.Rows
def ixN(n:Nat)(i:Int):Option Nat:=if 0<=i then (if i<n then some i.toNat else none) else if -(n:Int)<=i then some (i+n).toNat else none
def atI{α:Type}(xs:List α)(i:Int):Option α:=(ixN xs.length i).bind fun j=>xs[j]?
theorem YS{n:Nat}{i:Int}{j:Nat}(h:ixN n i=some j):seqIndex? i n=some j/\j<n/\-(n:Int)<=i/\i<n:=by
 unfold ixN at h
 by_cases h0:0<=i
 .rw[if_pos h0] at h
  by_cases h1:i<n
  .rw[if_pos h1] at h
   have e:i.toNat=j:=U00 h
   exact⟨by rw[seqIndex_of h0 h1,e],by omega,by omega,h1⟩
  .rw[if_neg h1] at h;cases h
 .rw[if_neg h0] at h
  by_cases h1:-(n:Int)<=i
  .rw[if_pos h1] at h
   have e:(i+n).toNat=j:=U00 h
   exact⟨by rw[seqIndex_neg (by omega) h1,e],by omega,h1,by omega⟩
  .rw[if_neg h1] at h;cases h
theorem Td{α:Type}{xs:List α}{i:Int}{v:α}(h:atI xs i=some v):∃j,seqIndex? i xs.length=some j/\xs[j]?=some v/\j<xs.length/\-(xs.length:Int)<=i/\i<xs.length:=by
 unfold atI at h
 cases e:ixN xs.length i with
 |none=>rw[e] at h;cases h
 |some j =>
  rw[e] at h
  obtain⟨h1,h2,h3,h4⟩:=YS e
  exact⟨j,h1,h,h2,h3,h4⟩
theorem Mx{α:Type}{xs:List α}{j:Nat}{v:α}(h:xs[j]?=some v):atI xs (j:Int)=some v:=by
 have hj:j<xs.length:=(U0l.mp h).1
 have e:ixN xs.length (j:Int)=some j:=by
  unfold ixN
  rw[if_pos (by omega),if_pos (by omega)];simp
 unfold atI;rw[e];exact h
theorem Wg{α:Type}(xs:List α)(v:α):atI (xs++[v]) (-1)=some v:=by
 have hl:(xs++[v]).length=xs.length+1:=by simp
 have e:ixN (xs++[v]).length (-1)=some xs.length:=by
  unfold ixN
  rw[hl,if_neg (by decide),if_pos (by omega)]
  congr 1
  omega
 unfold atI
 rw[e]
 show(xs++[v])[xs.length]?=some v
 simp
def QB(b:Expr):Prop:=∀o i,subscripted b false o i=operate [o,i] (getItem o i)
def IxR(X:Cx)(r:R2):Prop :=
 ∀(value slice:Expr)(pins:List (Addr×Obj))(s:Shared)(σ:St)(H:Hp)(x y:V)(v u:Value)(Q:VK),Inv X pins σ H s->RelV x v->RelV y u->r x y H Q ->
  subscripted slice false v u=operate [v,u] (getItem v u)->wpAny (model X.prog X.w) X.A (subscriptTail value slice v u) (EP X pins σ Q) X.xe s
def MtR(X:Cx)(id:String)(r:V->List V->Hp->VK->Prop):Prop :=
 ∀(pins:List (Addr×Obj))(s:Shared)(σ:St)(H:Hp)(x:V)(xs:List V)(v:Value)(us:List Value)(Q:VK),Inv X pins σ H s->RelV x v->Vals xs us->r x xs H Q ->
  wpAny (model X.prog X.w) X.A (call (.builtin id) (v::us)) (EP X pins σ Q) X.xe s
section
variable{X:Cx}{a b:Expr}{ta tb:TE}{pos:Pos}
theorem IxR.or{r r':R2}(h:IxR X r)(h':IxR X r'):IxR X (fun x y H Q=>r x y H Q∨r' x y H Q):=by
 intro value slice pins s σ H x y v u Q I rx ry q hs
 rcases q with q|q
 .exact h value slice pins s σ H x y v u Q I rx ry q hs
 .exact h' value slice pins s σ H x y v u Q I rx ry q hs
theorem su{r:R2}(hr:IxR X r)(ha:PE X a ta)(hb:PE X b tb)(hs:QB b):PE X (.Subscript a b pos) (tOp r ta tb):=by
 intro pins s σ H Q I h
 exact Subscript_ (Yk ha hb I h fun v u s2 x y H2 I2 rx ry q=>hr a b pins s2 σ H2 x y v u Q I2 rx ry q (hs _ _))
def nR(K:U0a):R2:=fun x y H Q=>∃p xs i v,x=.ref p/\y=.int i/\SqL K H p xs/\atI xs i=some v/\Q v H
def nP(K:U0a):R2:=fun x y H Q=>∃p xs i v,x=.ref p/\y=.int i/\SqT K H p xs/\atI xs i=some v/\Q v H
def nQ:R2:=fun x y H Q=>∃z i c,x=.str z/\y=.int i/\z.length<=sizeLine/\atI z.cps.toList i=some c/\Q (.str ⟨#[c]⟩) H
theorem lA:IxR X (nR X.K):=by
 intro value slice pins s σ H x y v u Q I rx ry h hs
 obtain⟨p,xs,i,z,rfl,rfl,hq,he,q⟩:=h
 cases rx
 obtain⟨t,rfl⟩:=ry
 obtain⟨its,r,pl,hz⟩:=I.list hq
 obtain⟨j,h1,h2,h3,h4,h5⟩:=Td he
 obtain⟨w,ew,rw'⟩:=r.get h2
 have hl:=r.length
 have hn:=Oc
 have fin:EP X pins σ Q w s:=⟨z,H,I,rw',q⟩
 by_cases h0:0<=i
 .have hj:i.toNat=j:=by
   rw[seqIndex_of h0 h5] at h1
   exact U00 h1
  exact item_listR pl.isList h0 (by omega) (by rw[hj];simpa using ew) fin hs
 .have hj:(i+(its.toArray.size:Int)).toNat=j:=by
   rw[seqIndex_neg (by omega) h4] at h1
   rw[U0o,←hl]
   exact U00 h1
  exact subscriptTail_builtinR (x:=w) pl.isList.typeIs slot_list_getitem.lookup
   (wpAny_getItem_list_neg (Q:=fun r s'=>r=w/\EP X pins σ Q r s') pl.isList (by omega) (by rw[U0o]<;>omega) (by omega) (by rw[hj];simpa using ew) ⟨rfl,fin⟩) hs
theorem qW:IxR X (nP X.K):=by
 intro value slice pins s σ H x y v u Q I rx ry h hs
 obtain⟨p,xs,i,z,rfl,rfl,hq,he,q⟩:=h
 cases rx
 obtain⟨t,rfl⟩:=ry
 obtain⟨its,r,pl,hz⟩:=I.tuple hq
 obtain⟨j,h1,h2,h3,h4,h5⟩:=Td he
 obtain⟨w,ew,rw'⟩:=r.get h2
 have hl:=r.length
 have hn:=Oc
 have fin:EP X pins σ Q w s:=⟨z,H,I,rw',q⟩
 exact subscriptTail_builtinR (x:=w) pl.typeIs slot_tuple_getitem.lookup
  (getItem_tuple (j:=j) (Q:=fun r s'=>r=w/\EP X pins σ Q r s') pl (by omega) (by omega) (by rw[U0o,←hl];exact h1) (by simpa using ew) ⟨rfl,fin⟩) hs
theorem qX:IxR X nQ:=by
 intro value slice pins s σ H x y v u Q I rx ry h hs
 obtain⟨z,i,c,rfl,rfl,hz,he,q⟩:=h
 obtain⟨t,rfl⟩:=rx
 obtain⟨t',rfl⟩:=ry
 obtain⟨j,h1,h2,h3,h4,h5⟩:=Td he
 have hl:z.cps.toList.length=z.length:=by simp[Str.length]
 rw[hl] at h1 h4 h5
 have hn:=Oc
 exact tail_any (typeIs_str s z t) slot_str_getitem.lookup (getItem_str (c:=c) (by
  have e1:decide (i < -(2^63:Int))=false:=decide_eq_false (by omega)
  have e2:decide (i≥2^63)=false:=decide_eq_false (by omega)
  rw[e1,e2,U44]) (by rw[h1];simpa using h2) ⟨.str ⟨#[c]⟩,H,I.tok _,⟨_,rfl⟩,q⟩) hs
def rIx(K:U0a):R2:=fun x y H Q=>nR K x y H Q∨nP K x y H Q∨nQ x y H Q
theorem BK:IxR X (rIx X.K):=lA.or (qW.or qX)
theorem ZL(its:List Value)(n j:Nat)(u:Value):U15 (·.setIfInBounds j u) { cls:=.type "list",data:=.seq its.toArray n }={ cls:=.type "list",data:=.seq (its.set j u).toArray n }:=by
 simp[U15]
theorem Inv.lst{pins:List (Addr×Obj)}{σ:St}{H:Hp}{s:Shared}{p:Addr}{xs:List V}(I:Inv X pins σ H s)(h:H p=some (.lst xs)) :
  ∃(its:List Value)(n:Nat),Vals xs its/\s.heap.get? p=some { cls:=.type "list",data:=.seq its.toArray n }/\xs.length<=sizeLine:=by
 obtain⟨z,its,n,r,e⟩:=I.hok p _ h
 exact⟨its,n,r,e,z⟩
theorem Inv.qH{pins:List (Addr×Obj)}{σ:St}{H:Hp}{s:Shared}{p:Addr}{xs ys:List V}{its its':List Value}{n n':Nat}{f:Obj->Obj}(I:Inv X pins σ H s)(h:H p=some (.lst xs))
  (ho:s.heap.get? p=some { cls:=.type "list",data:=.seq its.toArray n }) (hf:f { cls:=.type "list",data:=.seq its.toArray n }={ cls:=.type "list",data:=.seq its'.toArray n' }) (r:Vals ys its') (hz:ys.length<=sizeLine) (t:Nat) :
  Inv X pins σ (upd H p (.lst ys)) { s with heap:=s.heap.update p f,toks:=t }:=by
 have e:(s.heap.update p f).get? p=some { cls:=.type "list",data:=.seq its'.toArray n' }:=by
  rw[U14 f ho (by rw[hf]<;>rfl),hf]
 refine I.write (x:=p) (e:=p) (by rw[h];trivial) (.inl rfl) (fun b u hb q=>(U1d _ _ (U1m hb)).trans q) ⟨_,e⟩ ?_
 exact⟨hz,its',n',r,e⟩
def sJ:V->V->V->Hp->(Hp->Prop)->Prop:=fun o i v H Q=>∃p xs k j,o=.ref p/\i=.int k/\H p=some (.lst xs)/\ixN xs.length k=some j/\Q (upd H p (.lst (xs.set j v)))
theorem set_list:o8 X sJ:=by
 intro pins s σ H o i v ov iv u Q I ro ri rv h
 obtain⟨p,xs,k,j,rfl,rfl,hp,hj,q⟩:=h
 cases ro
 obtain⟨t,rfl⟩:=ri
 obtain⟨its,n,r,ho,hz⟩:=I.lst hp
 obtain⟨h1,h2,h3,h4⟩:=YS hj
 have hl:=r.length
 have hn:=Oc
 have I':Inv X pins σ (upd H p (.lst (xs.set j v))) { s with heap:=s.heap.update p (U15 (·.setIfInBounds j u)) } :=
  I.qH hp ho (ZL its n j u) (r.set rv j) (by rw[U4n];exact hz) s.toks
 by_cases h0:0<=k
 .have hk:k.toNat=j:=by
   rw[seqIndex_of h0 h4] at h1
   exact U00 h1
  exact PySem.W.ki_setAt ho h0 (by omega) (by rw[U0o,←hl];exact h4) (by rw[hk];exact⟨_,I',q⟩)
 .have hk:(k+(its.toArray.size:Int)).toNat=j:=by
   rw[seqIndex_neg (by omega) h3] at h1
   rw[U0o,←hl]
   exact U00 h1
  exact PySem.W.ki_setBack ho (by omega) (by rw[U0o,←hl];exact h3) (by omega) (by rw[hk];exact⟨_,I',q⟩)
theorem Wj(lo hi:Option Int)(n:Nat):(sliceBounds lo hi none n).1=((HT.sIx n 0 lo:Nat):Int)/\(sliceBounds lo hi none n).2.1=((HT.sIx n n hi:Nat):Int)/\(sliceBounds lo hi none n).2.2=1:=by
 refine⟨?_,?_,rfl⟩
 .cases lo with
  |none=>simp[sliceBounds,HT.sIx]
  |some i =>
   simp only[sliceBounds,HT.sIx,Option.getD_none,show(1:Int)>0 by decide,if_true]
   by_cases h:i<0
   .simp only[h,if_true]<;>omega
   .simp only[h,if_false]<;>omega
 .cases hi with
  |none=>simp[sliceBounds,HT.sIx]
  |some i =>
   simp only[sliceBounds,HT.sIx,Option.getD_none,show(1:Int)>0 by decide,if_true]
   by_cases h:i<0
   .simp only[h,if_true]<;>omega
   .simp only[h,if_false]<;>omega
theorem Uu(its:List Value)(lo hi:Option Int):slicePick its.toArray lo hi none=((its.drop (HT.sIx its.length 0 lo)).take (HT.sIx its.length its.length hi-HT.sIx its.length 0 lo)).toArray:=by
 obtain⟨h1,h2,h3⟩:=Wj lo hi its.toArray.size
 unfold slicePick
 rw[h1,h2,h3]
 simp only[sliceRange_one,pick_run,U0o]<;>rfl
def nH(K:U0a):V->Option Int->Option Int->Hp->VK->Prop:=fun x lo hi H Q=>∃a xs,x=.ref a/\SqL K H a xs/\∀p,H p=none->Q (.ref p) (upd H p (.lst (JL xs lo hi)))
theorem jK:SlR X (nH X.K):=by
 intro pins s σ H x v vl vu lo hi sl Q I rx hs pl pu h
 obtain⟨a,xs,rfl,hx,q⟩:=h
 cases rx
 obtain⟨its,r,ht,hz⟩:=I.list hx
 have hlen:=r.length
 refine⟨"list",_,slot_list_getitem.lookup,ht.isList.typeIs,?_⟩
 refine wpAny_getItem_list_slice ht.isList hs pl pu .none (by simp) ?_ (by rw[U0o]<;>omega)
 rw[Uu,←hlen]
 refine⟨.ref s.heap.objs.size,_,I.laid (t':=s.toks) (o:=.lst (JL xs lo hi)) (fun b ob q=>U0b _ q) (U0k _) ?_,rfl,q _ (I.hok.fresh (U0k _))⟩
 exact⟨U06 (Qa xs lo hi) hz,_,0,(r.drop (HT.sIx xs.length 0 lo)).take (HT.sIx xs.length xs.length hi-HT.sIx xs.length 0 lo),U0s _ rfl⟩
theorem Dw:DK X (.builtin "len") (fun xs H Q=>∃p ys,xs=[.ref p]/\(SqL X.K H p ys∨SqT X.K H p ys)/\Q (.int ys.length) H):=by
 intro pins s σ H xs us Q I r h
 obtain⟨p,ys,rfl,hq,q⟩:=h
 obtain⟨u,rfl,rx⟩:=vals1 r
 cases rx
 have hn:=Oc
 rcases hq with hq|hq
 .obtain⟨its,r',pl,hz⟩:=I.list hq
  have hlen:=r'.length
  exact Calls.call_len_list pl.isList (by simp only[U0o]<;>omega) ⟨.int ys.length,H,I.tok _,⟨s.toks+1,by rw[U0o,hlen]⟩,q⟩
 .obtain⟨its,r',pl,hz⟩:=I.tuple hq
  have hlen:=r'.length
  exact len_tuple pl (by simp only[U0o]<;>omega) ⟨.int ys.length,H,I.tok _,⟨s.toks+1,by rw[U0o,hlen]⟩,q⟩
theorem DK.or{f:Value}{r r':List V->Hp->VK->Prop}(h:DK X f r)(h':DK X f r'):DK X f (fun xs H Q=>r xs H Q∨r' xs H Q):=by
 intro pins s σ H xs us Q I rs q
 rcases q with q|q
 .exact h pins s σ H xs us Q I rs q
 .exact h' pins s σ H xs us Q I rs q
theorem X7:DK X (.type "list") (fun xs H Q=>∃p ys,xs=[.ref p]/\(SqL X.K H p ys∨SqT X.K H p ys)/\∀l,H l=none->Q (.ref l) (upd H l (.lst ys))):=by
 intro pins s σ H xs us Q I r h
 obtain⟨p,ys,rfl,hq,q⟩:=h
 obtain⟨u,rfl,rx⟩:=vals1 r
 cases rx
 have fin:∀(its:List Value),Vals ys its->ys.length<=sizeLine->∀(h':Heap)(c':Nat),(∀b o',s.heap.get? b=some o'->h'.get? b=some o') ->
   h'.get? s.heap.objs.size=some { cls:=.type "list",dict:=none,data:=.seq its.toArray c',slots:=#[] }->EP X pins σ Q (.ref s.heap.objs.size) { s with heap:=h' }:=fun its r' hz h' c' kp e =>
  ⟨.ref s.heap.objs.size,_,I.laid (t':=s.toks) kp (U0k _) (show Cr X.prog X.w _ h' _ (.lst ys) from ⟨hz,its,c',r',e⟩),rfl,q _ (I.hok.fresh (U0k _))⟩
 rcases hq with hq|hq
 .obtain⟨its,r',pl,hz⟩:=I.list hq
  have hlen:=r'.length
  obtain⟨o,ho,hc,n,hd⟩:=pl.isList
  exact call_list_seq p (.inl rfl) ho hc hd (fun h' c' kp e=>fin its r' hz h' c' kp e) (by simp only[U0o]<;>omega)
 .obtain⟨its,r',pl,hz⟩:=I.tuple hq
  have hlen:=r'.length
  obtain⟨o,ho,hc,n,hd⟩:=pl
  exact call_list_seq p (.inr rfl) ho hc hd (fun h' c' kp e=>fin its r' hz h' c' kp e) (by simp only[U0o]<;>omega)
theorem V1:DK X (.type "tuple") (fun xs H Q=>∃p ys,xs=[.ref p]/\((SqL X.K H p ys/\∀l,H l=none->Q (.ref l) (upd H l (.tup ys)))∨(SqT X.K H p ys/\Q (.ref p) H))):=by
 intro pins s σ H xs us Q I r h
 obtain⟨p,ys,rfl,h⟩:=h
 obtain⟨u,rfl,rx⟩:=vals1 r
 cases rx
 rcases h with ⟨hq,q⟩|⟨hq,q⟩
 .obtain⟨its,r',pl,hz⟩:=I.list hq
  have hlen:=r'.length
  refine call_tuple_list pl.isList (fun h' kp=>?_) (by simp only[U0o]<;>omega)
  have I1:Inv X pins σ H { s with heap:=h' }:=I.kept (t':=s.toks) kp
  have I2:Inv X pins σ (upd H h'.objs.size (.tup ys)) { s with heap:=h'.push { cls:=.type "tuple",data:=.seq its.toArray } } :=
   I1.laid (t':=s.toks) (fun b o e=>U0b _ e) (U0k _) (show Cr X.prog X.w _ _ _ (.tup ys) from ⟨hz,its,r',IsTup.new _ _⟩)
  exact⟨.ref h'.objs.size,_,I2,rfl,q _ (I1.hok.fresh (U0k _))⟩
 .obtain⟨its,r',pl,hz⟩:=I.tuple hq
  exact call_tuple_same pl ⟨.ref p,H,I,rfl,q⟩
def tyV(K:U0a)(T:String)(x:V)(H:Hp):Prop:=match x with
 |.str _=>T="str"
 |.int _=>T="int"
 |.ref p=>(T="list"/\∃xs,SqL K H p xs)∨(T="tuple"/\∃o,K.lookup p=some o/\o.cls=.type "tuple"/\o.dict=none) ∨
   (T="dict"/\((∃kvs,H p=some (.dK kvs))∨∃kvs,H p=some (.dT kvs)))∨(T="set"/\∃S n,H p=some (.set S n))
 |_=>False
theorem Zk{pins:List (Addr×Obj)}{σ:St}{H:Hp}{s:Shared}{T:String}{x:V}{v:Value}(I:Inv X pins σ H s)(r:RelV x v)(ty:tyV X.K T x H) :
  s.TypeIs v T/\∀a,v=.ref a->∃ob,s.heap.get? a=some ob/\ob.dict=none:=by
 cases x with
 |str z =>
  obtain⟨t,rfl⟩:=r
  cases (show T="str" from ty)
  exact⟨typeIs_str s z t,fun _ e=>nomatch e⟩
 |int i =>
  obtain⟨t,rfl⟩:=r
  cases (show T="int" from ty)
  exact⟨typeIs_int s i t,fun _ e=>nomatch e⟩
 |ref p =>
  cases r
  rcases ty with ⟨rfl,xs,hq⟩|⟨rfl,o,hk,hc,hd⟩|⟨rfl,hk⟩|⟨rfl,S,n,hk⟩
  .obtain⟨its,_,pl,_⟩:=I.list hq
   refine⟨pl.isList.typeIs,fun a e=>?_⟩
   cases e
   obtain⟨o,n,e,c,hd,_⟩:=pl
   exact⟨o,e,hd⟩
  .refine⟨⟨o,I.kIn p o hk,hc⟩,fun a e=>?_⟩
   cases e
   exact⟨o,I.kIn _ o hk,hd⟩
  .have z:∃o,s.heap.get? p=some o/\o.ExactDict:=by
    rcases hk with ⟨kvs,hk⟩|⟨kvs,hk⟩
    .obtain⟨_,_,_,_,o,_,_,e,ex,_⟩:=I.hok p _ hk
     exact⟨o,e,ex⟩
    .obtain⟨_,_,_,_,o,_,_,e,ex,_⟩:=I.hok p _ hk
     exact⟨o,e,ex⟩
   obtain⟨o,e,ex⟩:=z
   refine⟨⟨o,e,ex.1⟩,fun a e2=>?_⟩
   cases e2
   exact⟨o,e,ex.2.1⟩
  .obtain⟨o,_,_,_,e,ex,_⟩:=I.hok p _ hk
   refine⟨⟨o,e,ex.1⟩,fun a e2=>?_⟩
   cases e2
   exact⟨o,e,ex.2.1⟩
 |_=>exact U36 ty
def n6(K:U0a)(T:String)(r:V->List V->Hp->VK->Prop)(to:TE):TE:=fun σ H Q=>to σ H fun x H1=>tyV K T x H1/\r x [] H1 Q
def tBM(K:U0a)(T:String)(r:V->List V->Hp->VK->Prop)(to:TE)(t:TA):TE:=fun σ H Q=>to σ H fun x H1=>tyV K T x H1/\t σ H1 fun xs H2=>r x xs H2 Q
variable{o e:Expr}{es:List Expr}{to:TE}{t:TA}{name:Str}{apos cpos:Pos}{T id:String}{r:V->List V->Hp->VK->Prop}
theorem pN(pa:PlainAttrs T)(slot:Slot T name id)(hty:typeOf (.builtin id)=pure (.type "method_descriptor"))(hm:MtR X id r)(ho:PE X o to)
  (hbase:attributeBase o name X.env (eval o X.env)=eval o X.env:=by rfl) (hline:(apos.endLine==cpos.line)=true:=by rfl):PE X (.Call (.Attribute o name apos) [] [] cpos) (n6 X.K T r to):=by
 intro pins s σ H Q I h
 refine wpAny_Call_method0_late hbase hline (thn (ho pins s σ H _ I h) fun v s1 ⟨x,H1,I1,r1,ty,q1⟩=>?_)
 obtain⟨h1,h2⟩:=Zk I1 r1 ty
 exact⟨T,id,pa,slot,hty,h1,h2,Calls.callWith_builtin rfl (PySem.evalArgs_none (hm pins s1 σ H1 x [] v [] Q I1 r1 .nil q1))⟩
theorem tD(pa:PlainAttrs T)(slot:Slot T name id)(hty:typeOf (.builtin id)=pure (.type "method_descriptor"))(hm:MtR X id r)(ho:PE X o to)(ha:PA X (e::es) t)
  (hbase:attributeBase o name X.env (eval o X.env)=eval o X.env:=by rfl)
  (hfew:((backTo cpos (starEach (e::es) X.env)).all (fun x=>!x.1)&&(backToKw cpos (keywordEach [] X.env)).all (fun x=>x.1.isSome)
   && decide ((e::es).length+([]:List Keyword).length+(if ([]:List Keyword).isEmpty then 0 else 1)<30))=true:=by rfl)
  (hline:(apos.endLine==cpos.line)=true:=by rfl) (hs:starEach (e::es) X.env=(false,eval e X.env)::starEach es X.env:=by rfl) (hplain:(backTo cpos (starEach es X.env)).any (·.1)=false:=by rfl) :
  PE X (.Call (.Attribute o name apos) (e::es) [] cpos) (tBM X.K T r to t):=by
 intro pins s σ H Q I h
 refine wpAny_Call_method_late hbase hfew hline rfl (thn (ho pins s σ H _ I h) fun v s1 ⟨x,H1,I1,r1,ty,q1⟩=>?_)
 obtain⟨h1,h2⟩:=Zk I1 r1 ty
 refine⟨T,id,pa,slot,hty,h1,h2,?_⟩
 have hA:=ha cpos pins s1 σ H1 _ I1 q1
 rw[hs] at hA ⊢
 refine Calls.callWith_builtin (by show(false||(backTo cpos (starEach es X.env)).any (·.1))=false;rw[hplain]<;>rfl) (Calls.evalArgs_plain ?_)
 exact thn hA fun us s2 ⟨vs,H2,I2,r2,q2⟩=>hm pins s2 σ H2 x vs v us Q I2 r1 r2 q2
/- xs.append(e), list.index on a module's tuple .. are MtR facts of 06m -/
end
end L2
namespace L2
open PySem PySem.Spec PyProof.Rows
def MtM(X:Cx)(id:String)(r:V->List V->Hp->VK->Prop):Prop :=
 ∀(pins:List (Addr×Obj))(s:Shared)(σ:St)(H:Hp)(x:V)(xs:List V)(v:Value)(us:List Value)(Q:VK),Inv X pins σ H s->RelV x v->Vals xs us->r x xs H Q ->
  wpAny (model X.prog X.w) X.A (call (.builtin id) (v::us)) (EP X pins σ Q) X.xe s
theorem Vals.one:∀{x:V} {us:List Value},Vals [x] us->∃u,us=[u]/\RelV x u
 |_,_,.cons r .nil=>⟨_,rfl,r⟩
theorem Vals.zero:∀{us:List Value},Vals [] us->us=[]
 |_,.nil=>rfl
theorem Vals.rep{xs:List V}{us:List Value}(h:Vals xs us):∀k:Nat,Vals (U03 k xs).flatten (U03 k us).flatten
 |0=>.nil
 |k+1=>by
  rw[U0u,U0u,U33,U33]
  exact Vals.append h (Vals.rep h k)
theorem foldl_rep(its:List Value):∀(k:Nat)(acc:List Value),
  U57 (fun x1 x2=>x1++x2) acc.toArray (U03 k its.toArray)=(acc++(U03 k its).flatten).toArray
 |0,acc=>by simp
 |k+1,acc=>by
  have e:acc.toArray++its.toArray=(acc++its).toArray:=by simp
  have e2:(acc++its)++(U03 k its).flatten=acc++(U03 (k+1) its).flatten:=by
   rw[U0u,U33,U4w]
  rw[←e2,←foldl_rep its k (acc++its),←e,U0u,U2q]
section
variable{X:Cx}{pins:List (Addr×Obj)}{σ:St}{H:Hp}{s:Shared}{l b:Addr}{xs ys zs:List V}
theorem Inv.ni{its its':List Value}{n:Nat}{f:Array Value->Array Value}{t':Nat}(I:Inv X pins σ H s)(hH:H l=some (.lst xs))
  (e:s.heap.get? l=some { cls:=.type "list",data:=.seq its.toArray n }) (hf:f its.toArray=its'.toArray) (hv:Vals ys its') (hz:ys.length<=sizeLine) :
  Inv X pins σ (upd H l (.lst ys)) { s with heap:=s.heap.update l (U15 f),toks:=t' }:=by
 have q:=PySem.IsL.update e f
 rw[hf] at q
 refine I.write (x:=l) (e:=l) (by rw[hH];exact trivial) (.inl rfl) (fun b' u hb hu=>(U1d s.heap (U15 f) (U1m hb)).trans hu) ⟨_,q⟩ ?_
 exact⟨hz,its',_,hv,q⟩
theorem Inv.nj{its:List Value}{t':Nat}(I:Inv X pins σ H s)(hv:Vals ys its)(hz:ys.length<=sizeLine) :
  Inv X pins σ (upd H s.heap.objs.size (.lst ys)) { s with heap:=s.heap.push { cls:=.type "list",data:=.seq its.toArray },toks:=t' } :=
 I.laid (fun _ _ q=>U0b _ q) (U0k _) ⟨hz,its,0,hv,U0s _ rfl⟩
theorem Inv.fresh(I:Inv X pins σ H s):H s.heap.objs.size=none:=I.hok.fresh (U0k _)
theorem Inv.VF(I:Inv X pins σ H s)(hH:H l=some (.lst xs)):xs.length<=sizeLine/\∃(its:List Value)(n:Nat),Vals xs its/\xs.length=its.length/\s.heap.get? l=some { cls:=.type "list",data:=.seq its.toArray n }:=by
 obtain⟨z,its,n,r,e⟩:=I.hok l _ hH
 exact⟨z,its,n,r,r.length,e⟩
theorem fM{n:Nat}(h:n<=sizeLine):U5j n=false:=by
 unfold U5j
 exact decide_eq_false (by omega)
end
section
variable{X:Cx}
def YD:V->List V->Hp->VK->Prop:=fun x vs H Q=>∃l xs y,x=.ref l/\vs=[y]/\H l=some (.lst xs)/\xs.length<sizeLine/\Q .non (upd H l (.lst (xs++[y])))
theorem JH:MtM X "list.append" YD:=by
 intro pins s σ H x vs v us Q I rx rv h
 obtain⟨l,xs,y,rfl,rfl,hH,hz,q⟩:=h
 cases rx
 obtain⟨u,rfl,ru⟩:=rv.one
 obtain⟨z,its,n,r,hl,e⟩:=I.VF hH
 refine call_meets F.slot_list_append ⟨_,e,rfl⟩ F.entry_list_append (F.args_list_append_2 _ _) (PySem.list_append l its.toArray n u (by rw[U0o];omega)) ⟨e,?_⟩
 refine⟨.non,_,I.ni (its':=its++[u]) hH e (by simp) (r.append (.cons ru .nil)) ?_,rfl,q⟩
 rw[U0n,U3m]
 omega
def Zq:V->List V->Hp->VK->Prop:=fun x vs H Q=>∃l xs,x=.ref l/\vs=[]/\H l=some (.lst xs)/\Q .non (upd H l (.lst []))
theorem fQ:MtM X "list.clear" Zq:=by
 intro pins s σ H x vs v us Q I rx rv h
 obtain⟨l,xs,rfl,rfl,hH,q⟩:=h
 cases rx
 have hus:=rv.zero
 subst hus
 obtain⟨z,its,n,r,hl,e⟩:=I.VF hH
 refine call_meets F.slot_list_clear ⟨_,e,rfl⟩ F.entry_list_clear (F.args_list_clear_1 _) (AutoSeq1.list_clear_list_0 l its.toArray n (by rw[U0o];omega)) ⟨e,?_⟩
 exact⟨.non,_,I.ni (its':=[]) (ys:=[]) hH e rfl .nil (U2y _),rfl,q⟩
def nW:R2:=fun x y H Q=>∃l b xs zs,x=.ref l/\y=.ref b/\H l=some (.lst xs)/\H b=some (.lst zs)/\xs.length+zs.length<=sizeLine/\∀p,H p=none->Q (.ref p) (upd H p (.lst (xs++zs)))
theorem pX:OpR X (binaryOp .Add) nW:=by
 intro pins s σ H x y v u Q I rx ry h
 obtain⟨l,b,xs,zs,rfl,rfl,hH,hB,hz,q⟩:=h
 cases rx
 cases ry
 obtain⟨z,its,n,r,hl,e⟩:=I.VF hH
 obtain⟨z2,its2,n2,r2,hl2,e2⟩:=I.VF hB
 refine PySem.P.add_list e e2 ?_ (by rw[U0o,U0o];omega)
 have ea:its.toArray++its2.toArray=(its++its2).toArray:=by simp
 rw[ea]
 exact⟨.ref _,_,I.nj (t':=s.toks) (r.append r2) (by rw[U0n];omega),rfl,q _ I.fresh⟩
def nO:R2:=fun x y H Q=>∃l k xs,x=.ref l/\y=.int k/\H l=some (.lst xs)/\-(2^63)<=k/\k<2^63/\xs.length*k.toNat<=sizeLine /\
 ∀p,H p=none->Q (.ref p) (upd H p (.lst (U03 k.toNat xs).flatten))
theorem len_rep{α:Type}(xs:List α)(k:Nat):(U03 k xs).flatten.length=k*xs.length:=by
 induction k with
 |zero=>simp
 |succ k ih=>rw[U0u,U33,U0n,ih,Nat.succ_mul,Nat.add_comm]
theorem pQ:OpR X (binaryOp .Mult) nO:=by
 intro pins s σ H x y v u Q I rx ry h
 obtain⟨l,k,xs,rfl,rfl,hH,h1,h2,hz,q⟩:=h
 cases rx
 obtain⟨t,rfl⟩:=ry
 obtain⟨z,its,n,r,hl,e⟩:=I.VF hH
 have hlen:its.toArray.size*k.toNat<=sizeLine:=by rw[U0o,←hl];exact hz
 have hcap:¬its.toArray.size*k.toNat>(2^63-1)/8:=by
  have:(sizeLine:Nat)<=(2^63-1)/8:=by decide
  omega
 have hfit:¬(!Builtin.List.listFitsIndex k)=true:=by
  rw[fitsIndex_both h1 h2]
  exact U1a
 have hlong:¬U5j (its.toArray.size*k.toNat)=true:=by
  rw[fM hlen]
  exact U1a
 have hnew:U57 (fun x1 x2=>x1++x2) #[] (U03 (if its.toArray.isEmpty=true then 0 else k.toNat) its.toArray)=(U03 k.toNat its).flatten.toArray:=by
  have f0:∀m:Nat,U57 (fun x1 x2=>x1++x2) #[] (U03 m its.toArray)=(U03 m its).flatten.toArray:=fun m=>by
   have:=foldl_rep its m []
   rw[U11] at this
   exact this
  rw[f0]
  cases its with
  |nil=>simp
  |cons a r'=>rw[if_neg (by simp)]
 refine wpAny_binaryOp_repeat_ref (T:="list") (U:="int") (by decide) ⟨_,e,rfl⟩ (fun s'=>typeIs_int s' k t) noFill_list_mul F.fills_int_mul F.slot_int_rmul repeat_list F.slot_int_index.lookup
  (call_meets F.slot_int_rmul (typeIs_int s k t) F.entry_int_rmul (F.args_int_rmul_2 _ _) (int___rmul___int_list k t l its.toArray n)
   ⟨e,rfl,⟨_,e,rfl⟩,call_meets F.slot_list_mul ⟨_,e,rfl⟩ F.entry_list_mul (F.args_list_mul_2 _ _) (AutoListH.list___mul___list_int_3 l its.toArray n k t hfit hcap hlong) ⟨e,?_⟩⟩)
 rw[hnew]
 exact⟨.ref _,_,I.nj (t':=s.toks) (r.rep k.toNat) (by rw[len_rep,U6w];exact hz),rfl,q _ I.fresh⟩
end
section
variable{prog:Program}{w:World}{A:Around}{E:Value->Shared->Prop}{s:Shared}
set_option maxRecDepth 100000 in
end
section
variable{X:Cx}
end
end L2
namespace Att
open PySem PySem.W PySem.Calls PyProof.Rows
theorem Sd{P:Params}{h:Heap}:∀(ns:List Int)(vs:List Value),WellAll P h vs (ns.map WData.int)->IntsAre vs ns:=by
 intro ns
 induction ns with
 |nil =>
  intro vs w
  rw[U1u] at w
  cases w
  exact .nil
 |cons n ns ih =>
  intro vs w
  rw[U0t] at w
  cases w with
  |cons a b =>
   cases a
   exact .cons _ _ (ih _ b)
theorem aW{l:OpenLaw}{n:Nat}(hn:l.most=some n){P:Params}{h:Heap}{args:List WData}{vals:List Value}
  (hpre:l.row.toRowW.claim.pre args=true) (hwl:WellAll P h vals args) :
  ∃a vs ns,vals=[U1x a]/\args=[WData.list (ns.map WData.int)]/\h.get? a=some { cls:=.type "list",data:=.seq vs.toArray }/\IntsAre vs ns/\ns.length<=n:=by
 have hsh:WShape.hasAll [] args [.list .int]=true:=(pre_splitW hpre).1
 have hc:l.pre.holds [] { args:=args }=true:=(pre_splitW hpre).2
 obtain⟨d,r,rfl,h1,h2⟩:=hasAllW_cons hsh
 obtain rfl:=hasAllW_nil h2
 obtain⟨xs,rfl,h3⟩:=hasW_list h1
 obtain⟨ns,rfl⟩:=items_int h3
 have hlen:ns.length<=n:=by
  unfold OpenLaw.pre at hc
  have h4:(WTm.not (.lt (.lit (.int (n:Int))) (.len (.arg 0)))).holds [] { args:=[.list (ns.map .int)] }=true:=by
   have h4:=(holds_andW hc).1
   rw[hn] at h4
   exact h4
  have h5:=condW_of h4 (w_not (w_lt w_lit (w_len_list (w_arg rfl))))
  rw[U0i] at h5
  refine Nat.le_of_not_lt fun q=>?_
  have q':(n:Int)<((ns.length:Nat):Int):=by omega
  first
   |(rw[decide_eq_true q'] at h5;exact absurd h5 (by decide))
   |(simp at h5;omega)
 cases hwl with
 |cons w1 w2 =>
  cases w2
  cases w1 with
  |list ho hall=>exact⟨_,_,ns,rfl,rfl,ho,Sd ns _ hall,hlen⟩
theorem aq(l:OpenLaw)(args:List WData):l.row.toRowW.claim.post args (.bool true) args=true :=
 postW_of (r:=l.row.toRowW) (X:=(true==true))
  (show WShape.has [] (.bool true) .bool=true by first|rfl|decide|simp[WShape.has,WShape.arms,WShape.armsAll])
  (show(WTm.eq .res (.lit (.bool true))).value [] { args:=args,res:=some (.bool true),after:=args }=some (.bool (true==true)) from w_eq_bool (w_res rfl) w_lit) rfl
theorem ZM{R:WRecords}{cl:Str->Option Addr}{h:Heap}{a:Addr}{ds:List WData}{as:List Addr}(r:ReadsAllW R cl h [.ref a] [.list ds] as)(lo:∀b∈as,(b==sysModules)=false):a≠sysModules:=by
 cases r with
 |cons r1 _ =>
  cases r1 with
  |list _ _ _ _=>exact fun z=>by have:=lo a (by simp);rw[z] at this;simp at this
theorem Xq{l:OpenLaw}{n:Nat}{q:Program}{loose:List Str}{XP:(Str->Option Value)->Heap->Prop}{YP:World->Heap->Prop}{d:DefRec}
  (hn:l.most=some n) (hdf:d.params.defaults=[])
  (call:∀(w:World)(s₀ s₁:Shared)(mg mb:Str->Option Value)(fa:Addr)(o:Obj)(pm cd doc:Value)(a:Addr)(vs:List Value)(ns:List Int),
   Ground q loose [] XP w s₀ mg mb s₁.heap->YP w s₁.heap ->
   s₁.heap.get? fa=some o->o.data=.func (docDef d.name d.params d.body d.scope pm cd doc)->s₁.heap.CodeRec cd d.name->mg d.name=some (.ref fa) ->
   s₁.heap.get? a=some { cls:=.type "list",data:=.seq vs.toArray }->IntsAre vs ns->ns.length<=n->a≠sysModules->s₁.gens=#[] ->
   codeAny (model l.prog w) callerA (.call (.ref fa) ⟨[.ref a],[]⟩) (fun r s'=>r=.ok (.ret (.bool true))/\OldK s₁.heap s'.heap/\s'.os=s₁.os/\AllBare s'.gens) s₁) :
  WalkO q loose XP YP l.row.toRowW d [] (fun f vs=>U7c f vs):=by
 intro w s₀ s₁ mg mb G Y fa o pm cd doc dV kV ho hd hcd hD hmg hg args vals as hpre hlay hrd hwl hlo
 obtain rfl:dV=.none:=Dflts.none hD hdf
 obtain rfl:kV=.none:=Dflts.noKw hD
 obtain⟨a,vs,ns,rfl,rfl,hobj,hints,hlen⟩:=aW hn hpre hwl
 refine enter_call (codeAny_mono (call w s₀ s₁ mg mb fa o pm cd doc a vs ns G Y ho (fd_plain hd) hcd hmg hobj hints hlen (ZM hrd hlo) hg) fun r s' hq=>?_)
 obtain⟨rfl,h2,h3,h4⟩:=hq
 exact⟨.inl ⟨.bool true,.bool true,[],rfl,fun _=>rfl,.bool true,aq l _,fun _=>⟨U6p,fun _ hm=>(nomatch hm)⟩⟩,h2,h3,h4⟩
section
variable{prog:Program}{w:World}{A:Around}{E:Value->Shared->Prop}{s:Shared}{K:Frag}
end
end Att
namespace L2
open PySem PySem.Spec PyProof.Rows
theorem Oe:∀{vs:List Value} {ns:List Int},IntsAre vs ns->Vals (ns.map V.int) vs
 |_,_,.nil=>.nil
 |_,_,.cons n t h=>.cons ⟨t,rfl⟩ (Oe h)
def Only(H:Hp):Prop:=∀b,H b=none∨∃o xs,H b=some (.frz o (.lst xs))
theorem fu{P:Program}{w:World}{K:U0a}{mg mb:Str->Option Value}{CX:CXT}{k:Nat}{fa a:Addr}{fd:FuncData}{x:Str}{sp:Sp}{s₁:Shared}{vs:List Value}{ns:List Int}
  (KX:K.In s₁.heap) (hns:s₁.heap.Ns mainGlobals mg) (hb:s₁.heap.Ns builtinsNs mb) (hbb:∀x:Str,x≠"__name__"->mb x=bootBuiltins x) (hlim:s₁.heap.NoLimit) (hg:s₁.gens=#[])
  (ha:s₁.heap.get? a=some { cls:=.type "list",data:=.seq vs.toArray }) (hi:IntsAre vs ns) (hl:ns.length<=sizeLine) (hasy:a≠sysModules) (hr:Dz k callerA)
  (F:∀base:Heap,K.In base->base.Ns mainGlobals mg->DG P w K mg base CX k fa fd [x] sp) (hbind:∀(s:Shared)(u:Value),BindsTo s fd ⟨[u],[]⟩ [(x,u)])
  (hsp:∀H:Hp,Only H->SqL K H a (ns.map V.int)->sp [.ref a] H (fun v _=>v=.bl true) fun _ _ _=>False)
  (hCX:∀H e s',CX [] H s₁ (fun _ _ _=>False) e s'->False) :
  codeAny (model P w) callerA (.call (.ref fa) ⟨[.ref a],[]⟩) (fun r s'=>r=.ok (.ret (.bool true))/\OldK s₁.heap s'.heap/\s'.os=s₁.os/\AllBare s'.gens) s₁:=by
 have rv:=Oe hi
 have lenV:=hi.length
 -- from an abstract heap in which nothing but the script may be tracked
 have core:∀H:Hp,Only H->SqL K H a (ns.map V.int)->HOk P w H s₁.heap->(∀b,H b≠none->b=a)->(H a≠none->K.lookup a=none) ->
   codeAny (model P w) callerA (.call (.ref fa) ⟨[.ref a],[]⟩) (fun r s'=>r=.ok (.ret (.bool true))/\OldK s₁.heap s'.heap/\s'.os=s₁.os/\AllBare s'.gens) s₁:=by
  intro H hO hS hok hA hK
  have base_of:∀{b:Addr} {o:Obj},s₁.heap.get? b=some o->H b=none->(N6 s₁.heap H).get? b=some o:=fun e n=>gR e n
  have noA:∀{b:Addr} {o:Obj} {es:Array DictEntry} {ep:Nat},s₁.heap.get? b=some o->o.data=.dict es ep->H b=none:=fun {b o es ep} e d=>by
   cases q:H b with
   |none=>rfl
   |some u =>
    have e':b=a:=hA b (by rw[q];simp)
    subst e'
    rw[ha] at e;cases e
    have d':Data.seq vs.toArray _=Data.dict es ep:=d
    cases d'
  have nsK:∀{b:Addr} {m:Str->Option Value},s₁.heap.Ns b m->(N6 s₁.heap H).Ns b m:=fun {b m} ⟨o,es,ep,e,d,r⟩=>⟨o,es,ep,base_of e (noA e d),d,r⟩
  have hKb:K.In (N6 s₁.heap H):=fun b o e=>base_of (KX b o e) (by
   cases q:H b with
   |none=>rfl
   |some u =>
    have e':b=a:=hA b (by rw[q];simp)
    subst e'
    rw[hK (by rw[q];simp)] at e;cases e)
  have hM:Mod K mg (N6 s₁.heap H):=⟨hKb,nsK hns,⟨mb,nsK hb,hbb⟩,let ⟨mc,h1,h2⟩:=hlim;⟨mc,nsK h1,h2⟩⟩
  have e0:Yp P w K mg (N6 s₁.heap H) callerA [] s₁ H:=⟨rfl,hM,fun b o e=>jt e,U7g (bU _ _),trivial,fun b hb=>absurd (show b∈([]:List Addr) from hb) (by simp),hok,.of_eq hg,Classical.byContradiction fun z=>hasy (hA _ z).symm⟩
  refine codeAny_mono ((F _ hKb (nsK hns)).run callerA [] s₁ H ⟨[.ref a],[]⟩ [.ref a] [.ref a] _ _ hr e0 (hbind s₁ (.ref a)) (.cons rfl .nil) (hsp H hO hS)) fun r s' h=>?_
  cases r with
  |error e=>exact(hCX H e s' h).elim
  |ok fl =>
   cases fl with
   |next=>exact U36 h
   |brk=>exact U36 h
   |cont=>exact U36 h
   |ret u =>
    obtain⟨v,H',os,bare,un,hok',r',q⟩:=h
    have q':v=.bl true:=q
    subst q'
    obtain rfl:u=U4k true:=r'
    refine⟨rfl,OldK.of_keep fun b o e=>?_,os,bare⟩
    cases q:H b with
    |none=>exact un.keep b o e q (by intro z;exact absurd (show b∈([]:List Addr) from z) (by simp)) (by simp)
    |some u =>
     rcases hO b with z|⟨ob,xs,z⟩
     .rw[q] at z;cases z
     .have z2:=un.frzs b ob _ z
      obtain⟨e1,_⟩:=hok b _ z
      obtain⟨e2,_⟩:=hok' b _ z2
      rw[e] at e1;cases e1
      exact e2
 cases hk:K.lookup a with
 |some o =>
  -- the script is one of the module's own objects
  have e:=KX a o hk
  rw[ha] at e
  cases e
  refine core (fun _=>none) (fun _=>.inl rfl) (.inr ⟨_,vs.toArray,_,hk,rfl,rfl,rfl,by rw[U0o,lenV];exact hl,by simpa using rv⟩) (fun b u z=>by have z':(none:Option HO)=some u:=z;cases z') (fun b z=>absurd rfl z) fun z=>absurd rfl z
 |none =>
  refine core (fun b=>if b=a then some (.frz { cls:=.type "list",data:=.seq vs.toArray } (.lst (ns.map V.int))) else none) (fun b=>?_) (.inl (.inr ⟨{ cls:=.type "list",data:=.seq vs.toArray },if_pos rfl⟩)) (fun b u z=>?_) (fun b z=>?_) fun _=>hk
  .by_cases hb:b=a
   .exact .inr ⟨_,_,if_pos hb⟩
   .exact .inl (if_neg hb)
  .by_cases hb:b=a
   .have z':=(if_pos hb).symm.trans z
    cases z'
    subst hb
    exact⟨ha,by rw[U0i];exact hl,vs,_,rv,ha⟩
   .have z':=(if_neg hb).symm.trans z
    cases z'
  .by_cases hb:b=a
   .exact hb
   .exact absurd (if_neg hb) z
end L2
namespace L2
open PySem PySem.Spec PyProof.Rows
abbrev KOf{K:U0a}{h:Heap}(_:K.In h):U0a:=K
theorem walk_of{l:U58}{n k:Nat}{q:Program}{loose:List Str}{XP:(Str->Option Value)->Heap->Prop}{YP:World->Heap->Prop}{d:DefRec}{K:Params->U0a}{CX:World->CXT}{sp:World->Sp}{x:Str}
  (hn:l.most=some n) (hn2:n<=sizeLine) (hdf:d.params.defaults=[]) (hr:Dz k callerA)
  (hY:∀(w:World)(h:Heap),YP w h->(K w.params).In h)
  (F:∀(w:World)(mg:Str->Option Value)(fa:Addr)(h:Heap),(K w.params).In h->h.Ns mainGlobals mg->mg d.name=some (.ref fa) ->
   ∃fd:FuncData,(∀(s:Shared)(u:Value),BindsTo s fd ⟨[u],[]⟩ [(x,u)]) /\
    ∀base:Heap,(K w.params).In base->base.Ns mainGlobals mg->DG l.prog w (K w.params) mg base (CX w) k fa fd [x] (sp w))
  (hsp:∀(w:World)(H:Hp)(a:Addr)(ns:List Int),ns.length<=n->Only H->SqL (K w.params) H a (ns.map V.int)->sp w [.ref a] H (fun v _=>v=.bl true) fun _ _ _=>False)
  (hCX:∀(w:World)(H:Hp)(s:Shared)(e:Value)(s':Shared),CX w [] H s (fun _ _ _=>False) e s'->False) :
  U7e q loose XP YP l.row.toRowW d [] (fun f vs=>U7c f vs):=by
 refine Att.Xq hn hdf fun w s₀ s₁ mg mb fa o pm cd doc a vs ns G Y ho hd hcd hmg hobj hints hlen hasy hg=>?_
 have KX:=hY w _ Y
 obtain⟨fd,hb,hF⟩:=F w mg fa _ KX G.T.g hmg
 exact fu KX G.T.g G.T.b G.T.builtins G.T.nolimit hg hobj hints (U06 hlen hn2) hasy hr hF hb (fun H hO hS=>hsp w H a ns hlen hO hS) fun H e s'=>hCX w H s₁ e s'
theorem dD{l:U58}{n k:Nat}{q:Program}{loose:List Str}{XP:(Str->Option Value)->Heap->Prop}{YP:World->Heap->Prop}{d:DefRec}{K:Params->U0a}{CX:CXT}{sp:U0a->Sp}{x:Str}
  (hn:l.most=some n) (hn2:n<=sizeLine) (hdf:d.params.defaults=[]) (hr:Dz k callerA)
  (hY:∀(w:World)(h:Heap),YP w h->(K w.params).In h)
  (F:∀(w:World)(mg:Str->Option Value)(fa:Addr)(h:Heap),(K w.params).In h->h.Ns mainGlobals mg->mg d.name=some (.ref fa) ->
   ∃fd:FuncData,(∀(s:Shared)(u:Value),BindsTo s fd ⟨[u],[]⟩ [(x,u)]) /\
    ∀base:Heap,(K w.params).In base->base.Ns mainGlobals mg->DG l.prog w (K w.params) mg base CX k fa fd [x] (sp (K w.params)))
  (hsp:∀(K:U0a)(H:Hp)(a:Addr)(ns:List Int),ns.length<=n->Only H->SqL K H a (ns.map V.int)->sp K [.ref a] H (fun v _=>v=.bl true) fun _ _ _=>False)
  (hCX:∀(H:Hp)(s:Shared)(e:Value)(s':Shared),CX [] H s (fun _ _ _=>False) e s'->False) :
  U7e q loose XP YP l.row.toRowW d [] (fun f vs=>U7c f vs) :=
 walk_of (K:=K) (CX:=fun _=>CX) (sp:=fun w=>sp (K w.params)) hn hn2 hdf hr hY F (fun w H a ns h1 h2 h3=>hsp (K w.params) H a ns h1 h2 h3) fun _ H s e s'=>hCX H s e s'
end L2
/- THE LAST THEOREM (shape; LID, My.* are yours):
   My.Adr: a structure of the addresses that your layer names (classes, functions); My.Txt K t: a structure (Prop) of the equations over K;
   My.txt_mk : {K} {implicit addresses ..} (e1 : nsIn K mainGlobals "law" = some (some (.ref f))) (e2 : K.lookup f = some ⟨oc, od, .func (fnOf "law" "law" params body scope dV kV doc pm an cdv ct), sl⟩) (e3 : codeIn K cdv "law" = true) .. : ∃ t, My.Txt K t

set_option maxRecDepth 100000 in
set_option maxHeartbeats 0 in
theorem PySem.Challenge.cw_LID_holds : PySem.Challenge.rw_LID.Holds := by
  w_on; o_law; k_head; (case hw => w_witness2)
  k_fill
  refine L2.walk_of (l := PySem.Challenge.rw_LID) (n := 63) (k := 40) (x := "script") (CX := fun w => ..) (sp := fun _ => My.sp_law) rfl (by decide) rfl ⟨rfl, by decide, by decide⟩ (fun w h Y => PySem.W.kIn_of Y) ?F ?S ?C
  case F =>
    intro w mg fa h KX G hmg
    have T : ∃ t, My.Txt (L2.KOf KX) t := by
      dsimp only [L2.KOf]                          -- K must stand as «<heap const> w.params» for k_is
      refine' My.txt_mk ?e1 ?e2 ?e3 ..
      (case e1 => PySem.W.k_is)                    -- in the order: a name -> its address -> its object -> its parts
      (case e2 => PySem.W.k_is)
      ..
    obtain ⟨t, T⟩ := T
    have e0 := hmg.symm.trans (PySem.W.mg_of KX G T.law)
    cases e0                                       -- fa is the law's own address
    exact ⟨_, fun s u => .of_eq rfl, fun base kb nb => My.law_fn T kb nb⟩     -- if «.of_eq rfl» comes too early: refine' ⟨_, ?b, fun base kb nb => My.law_fn T kb nb⟩; exact fun s u => .of_eq rfl
  case S => exact fun w H a ns hl hO hS => ..
  case C => exact ..
(the tactic k_is has no namespace: write k_is) -/
namespace L2
open PySem PySem.Spec PyProof.Rows
def CP(s:Stmt):Arguments:=match s with
 |.FunctionDef _ a _ _ _ _ _ _ _ _=>a
 |_=>{ posonlyargs:=[],args:=[],vararg:=none,kwonlyargs:=[],kw_defaults:=[],kwarg:=none,defaults:=[] }
def Bu(s:Stmt):List Stmt:=match s with
 |.FunctionDef _ _ b _ _ _ _ _ _ _=>b
 |_=>[]
def Ak(s:Stmt):Scope:=match s with
 |.FunctionDef _ _ _ _ _ _ sc _ _ _=>sc
 |_=>{ kind:=.function,names:=[],isGenerator:=false,isCoroutine:=false }
abbrev CX0:CXT:=fun _ _ _ _ _ _=>False
abbrev E0:XK:=fun _ _ _=>False
theorem tG{X:Cx}:Passes CX0 X E0:=fun _ _ _ _ _ _ _ h=>h.elim
structure Fun(K:U0a)(x qual:Str)(st:Stmt)(f:Addr)(fd:FuncData):Prop where
 ex:∃(oc:Value)(od:Option Addr)(kV doc pm:Value)(an:Option Addr)(cdv ct:Value)(osl:Array (Option Value)),
  fd=U09 x qual (CP st) (Bu st) (Ak st) .none kV doc pm an cdv ct/\K.lookup f=some ⟨oc,od,.func fd,osl⟩/\U07 K cdv qual=true
 kp:U04 K (.ref f)=true
section
variable{P:Program}{w:World}{K:U0a}{mg:Str->Option Value}{base:Heap}
theorem Fun.ok{x qual:Str}{st:Stmt}{f:Addr}{fd:FuncData}{N ps:List Str}{k:Nat}{sp:Sp}(F:Fun K x qual st f fd)(S:CT N ps (Ak st))(len:∀vs H Q E,sp vs H Q E->vs.length=ps.length)
  (hbody:∀(cdv:Value)(A:Around)(outer:List Env)(s:Shared)(H:Hp)(vs:List V)(Q:VK)(E:XK),Dz k (A.deeper (envOfC qual (Ak st) s.heap.objs.size f cdv))->sp vs H Q E ->
   ∃t,PSs (O8 CX0 P w K mg base N qual (Ak st) f cdv A outer s H E).nox (Bu st) t/\t { nx:=fun _ H'=>Q .non H',rt:=Q } (start N vs) H):DG P w K mg base CX0 (k+1) f fd ps sp:=by
 obtain⟨oc,od,kV,doc,pm,an,cdv,ct,osl,rfl,lk,hcd⟩:=F.ex
 refine u5 lk hcd S len fun A outer s H vs Q E hr hsp=>?_
 obtain⟨t,h,q⟩:=hbody cdv A outer s H vs Q E hr hsp
 exact⟨t,h.nox,q⟩
theorem Fun.binds{x qual:Str}{st:Stmt}{f:Addr}{fd:FuncData}{ps:List Str}(F:Fun K x qual st f fd)
  (h:∀(kV doc pm:Value)(an:Option Addr)(cdv ct:Value)(us:List Value),us.length=ps.length->bindArgs (U09 x qual (CP st) (Bu st) (Ak st) .none kV doc pm an cdv ct) ⟨us,[]⟩=pure (ps.zip us)):Binds K fd ps []:=by
 obtain⟨oc,od,kV,doc,pm,an,cdv,ct,osl,rfl,lk,hcd⟩:=F.ex
 exact .all (h kV doc pm an cdv ct)
theorem Dj{x qual:Str}{st:Stmt}{f:Addr}{oc:Value}{od an:Option Addr}{osl:Array (Option Value)}{kV doc pm cdv ct:Value}(l:K.lookup f=some ⟨oc,od,.func (U09 x qual (CP st) (Bu st) (Ak st) .none kV doc pm an cdv ct),osl⟩)
  (c:U07 K cdv qual=true) (k:U04 K (.ref f)=true):Fun K x qual st f (U09 x qual (CP st) (Bu st) (Ak st) .none kV doc pm an cdv ct):=⟨⟨oc,od,kV,doc,pm,an,cdv,ct,osl,rfl,l,c⟩,k⟩
end
theorem Yx{A:Around}{k:Nat}(hr:Dz k A):A.units+1<cLine:=U3t (Nat.add_le_add_left (by decide:1<=64) _) hr.units
theorem UG{n:Nat}(h:n<=1000):n<sizeLine:=U3t h (by decide)
section
variable{X:Cx}
end
def Same(H H':Hp):Prop:=∀b o,H b=some o->H' b=some o
theorem Same.refl(H:Hp):Same H H:=fun _ _ h=>h
theorem Same.free{H H':Hp}(e:Same H H'){l:Addr}(h:H' l=Option.none):H l=Option.none:=by
 cases q:H l with
 |none=>rfl
 |some o =>
  rw[e l o q] at h
  cases h
end L2
end
section
namespace SetP
open PySem
def J6(xs:Array Nat):Prop:=xs.toList.Pairwise (·<·)
theorem dj:J6 #[]:=U6p
theorem Z7(n:Nat):J6 (Array.range n):=by
 unfold J6
 rw[Array.toList_range]
 exact List.pairwise_lt_range
theorem J6.lt{xs:Array Nat}(h:J6 xs){i k:Nat}(hik:i<k)(hk:k<xs.size):xs.getD i 0<xs.getD k 0:=by
 have q:=List.pairwise_iff_getElem.mp h i k (by rw[U1t];omega) (by rw[U1t];exact hk) hik
 rw[U2v,U2v,U10 (by omega),U10 hk]
 simpa using q
theorem J6.le{xs:Array Nat}(h:J6 xs){i k:Nat}(hik:i<=k)(hk:k<xs.size):xs.getD i 0<=xs.getD k 0:=by
 rcases Nat.lt_or_eq_of_le hik with z|z
 .exact U2b (h.lt z hk)
 .rw[z];exact U0k _
theorem T8{xs:Array Nat}{j:Nat}(h:J6 xs):∀(fuel lo hi:Nat),lo<=hi->hi<=xs.size->hi-lo<=fuel->(∀i,i<lo->xs.getD i 0<j)->(∀i,hi<=i->i<xs.size->j<=xs.getD i 0) ->
  U4x xs j fuel lo hi<=xs.size/\(∀i,i<U4x xs j fuel lo hi->xs.getD i 0<j)/\∀i,U4x xs j fuel lo hi<=i->i<xs.size->j<=xs.getD i 0
 |0,lo,hi,h1,h2,h3,h4,h5=>by
  have e:lo=hi:=by omega
  subst e
  unfold U4x
  exact⟨h2,h4,h5⟩
 |fuel+1,lo,hi,h1,h2,h3,h4,h5=>by
  unfold U4x
  by_cases hlt:lo<hi
  .rw[if_pos hlt]
   have hm:(lo+hi)/2<hi:=by omega
   have hl:lo<=(lo+hi)/2:=by omega
   have e:xs.getD ((lo+hi)/2) j=xs.getD ((lo+hi)/2) 0:=by
    rw[U2v,U2v,U10 (by omega)]
    rfl
   dsimp only
   rw[e]
   by_cases hc:xs.getD ((lo+hi)/2) 0<j
   .rw[if_pos hc]
    exact T8 h fuel _ hi (by omega) h2 (by omega) (fun i hi'=>U3t (h.le (by omega) (by omega)) hc) h5
   .rw[if_neg hc]
    exact T8 h fuel lo _ (by omega) (by omega) (by omega) h4 (fun i hi' hs=>U06 (Nat.le_of_not_lt hc) (h.le hi' hs))
  .rw[if_neg hlt]
   have e:lo=hi:=by omega
   subst e
   exact⟨h2,h4,h5⟩
theorem Ny{xs:Array Nat}{j:Nat}(h:J6 xs):U1j xs j<=xs.size/\(∀i,i<U1j xs j->xs.getD i 0<j)/\∀i,U1j xs j<=i->i<xs.size->j<=xs.getD i 0:=by
 unfold U1j
 exact T8 h xs.size 0 xs.size (U2y _) (U0k _) (by omega) (fun i hi=>absurd hi (U62 _)) fun i h1 h2=>absurd h2 (by omega)
theorem SQ{xs:Array Nat}(h:J6 xs){i:Nat}(hi:i<xs.size):U1j xs (xs.getD i 0+1)=i+1:=by
 obtain⟨a,b,c⟩:=Ny (j:=xs.getD i 0+1) h
 generalize U1j xs (xs.getD i 0+1)=r at a b c
 rcases Nat.lt_trichotomy r (i+1) with z|z|z
 .have:=c i (by omega) hi;omega
 .exact z
 .have h1:=b (i+1) z
  have h2:xs.getD i 0<xs.getD (i+1) 0:=h.lt (U53 i) (by omega)
  omega
theorem SN{xs:Array Nat}(h:J6 xs):U1j xs 0=0:=by
 obtain⟨a,b,c⟩:=Ny (j:=0) h
 generalize U1j xs 0=r at a b c
 cases r with
 |zero=>rfl
 |succ r=>exact absurd (b 0 (by omega)) (U62 _)
theorem XQ{xs:Array Nat}{j:Nat}(h:J6 xs)(hn:xs[U1j xs j]?≠some j):J6 (SetTable.insertAt xs (U1j xs j) j):=by
 obtain⟨a,b,c⟩:=Ny (j:=j) h
 unfold J6
 rw[SetTable.toList_insertAt]
 generalize U1j xs j=p at a b c hn
 have getT:∀i,i<xs.size->xs.toList[i]?=some (xs.getD i 0):=fun i hi=>by
  rw[U3w,U2v,U10 hi];rfl
 refine U3o.mpr ⟨h.sublist (List.take_sublist _ _),U1i.mpr ⟨fun y hy=>?_,h.sublist (List.drop_sublist _ _)⟩,fun x hx y hy=>?_⟩
 .obtain⟨i,hi⟩:=U3x.mp hy
  rw[List.getElem?_drop] at hi
  have hlt:p+i<xs.size:=by
   have:=(U0l.mp hi).1
   rwa [U1t] at this
  rw[getT _ hlt] at hi
  have e:=U00 hi
  have h1:=c (p+i) (U1g _ _) hlt
  rw[←e]
  rcases Nat.lt_or_eq_of_le h1 with z|z
  .exact z
  .exfalso
   have hp:p<xs.size:=by omega
   have h2:=c p (U0k _) hp
   have h3:=h.le (U1g p i) hlt
   have h4:xs.getD p 0=j:=by omega
   apply hn
   have:=getT p hp
   rw[U3w] at this
   rw[this,h4]
 .have hxj:x<j:=by
   obtain⟨i,hi⟩:=U3x.mp hx
   have hip:i<p:=by
    have:=(U0l.mp hi).1
    rw[U2r] at this;omega
   rw[List.getElem?_take_of_lt hip] at hi
   have hlt:i<xs.size:=by
    have:=(U0l.mp hi).1
    rwa [U1t] at this
   rw[getT _ hlt] at hi
   rw[←U00 hi]
   exact b i hip
  rcases U0r.mp hy with z|z
  .rw[z];exact hxj
  .obtain⟨i,hi⟩:=U3x.mp z
   rw[List.getElem?_drop] at hi
   have hlt:p+i<xs.size:=by
    have:=(U0l.mp hi).1
    rwa [U1t] at this
   rw[getT _ hlt] at hi
   rw[←U00 hi]
   exact U0m hxj (c (p+i) (U1g _ _) hlt)
def Off(t:SetTable)(j:Nat):Prop:=t.place[U1j t.place j]?≠some j
theorem QK{t:SetTable}{j:Nat}(h:∀i,t.slot j≠.live i):Off t j:=fun e=>by
 apply h (U1j t.place j)
 unfold SetTable.slot
 dsimp only
 rw[e]
 simp
theorem Oj{t:SetTable}{f:Nat->Int}{h:Int}{j:Nat}{d:Option Nat}:∀(fuel:Nat)(p:SetTable.Probe),(∀d,p.dummy=some d->Off t d)->U6q t f h fuel p=some (.empty j d)->Off t j/\∀d',d=some d'->Off t d'
 |0,_,_,e=>by unfold U6q at e;cases e
 |fuel+1,p,hp,e=>by
  unfold U6q at e
  cases hs:t.slot p.j with
  |empty =>
   rw[hs] at e
   have e':=U00 e
   cases e'
   exact⟨QK (fun i z=>by rw[hs] at z;exact SetTable.Slot.noConfusion z),hp⟩
  |dummy =>
   rw[hs] at e
   refine Oj fuel _ (fun d' hd=>?_) e
   have hd':(t.advance { p with dummy:=some p.j }).dummy=some p.j:=by
    unfold SetTable.advance;dsimp only;split<;>rfl
   rw[hd'] at hd
   cases hd
   exact QK fun i z=>by rw[hs] at z;cases z
  |live i =>
   rw[hs] at e
   dsimp only at e
   split at e
   .cases e
   .refine Oj fuel _ (fun d' hd=>hp d' ?_) e
    rw[←hd]
    unfold SetTable.advance
    split<;>rfl
theorem X5{t:SetTable}{h:Int}{j:Nat}{b:Bool}(e:t.freeSlot h=some (j,b)):Off t j:=by
 unfold SetTable.freeSlot at e
 split at e
 .rename_i j' d q
  unfold U6g at q
  obtain⟨o1,o2⟩:=Oj _ _ (fun d hd=>by unfold SetTable.probeStart at hd;cases hd) q
  have e':=U00 e
  cases d with
  |none=>cases e';exact o1
  |some d=>cases e';exact o2 _ rfl
 .cases e
def TabOk(L:Bool)(t:SetTable):Prop:=J6 t.place/\t.led=L
theorem TabOk.fresh(L:Bool)(f m:Nat):TabOk L (.fresh f m L):=⟨dj,rfl⟩
theorem TabOk.standIn{L:Bool}{t:SetTable}(h:TabOk L t)(n:Nat):TabOk L (t.standIn n):=⟨Z7 n,h.2⟩
theorem TabOk.orStandIn{L:Bool}{t:SetTable}(h:TabOk L t)(n:Nat):TabOk L (t.orStandIn n):=by
 unfold SetTable.orStandIn
 split
 .exact h
 .exact h.standIn n
theorem TabOk.jE{L:Bool}{t:SetTable}(h:TabOk L t)(b:Bool):TabOk L { t with plain:=b }:=h
theorem ZR{L:Bool}{t:SetTable}(h:TabOk L t)(es:Array (Int×Value))(k:Int)(x:Value):TabOk L (layNew t es k x).2.1:=by
 unfold layNew
 split
 .rename_i slot wasDummy q
  exact TabOk.orStandIn (t:=(t.put slot).1) ⟨XQ h.1 (X5 q),h.2⟩ _
 .exact h.standIn _
theorem Qt{α:Type}(g:Nat->Option α):∀l:List Nat,List.Sublist ((l.filterMap fun j=>(g j).map (j,·)).map (·.1)) l
 |[]=>List.Sublist.slnil
 |j::r=>by
  rw[U5]
  cases hg:g j with
  |none=>exact(Qt g r).cons j
  |some a=>exact(Qt g r).cons_cons j
theorem Wo{L:Bool}{t:SetTable}(h:TabOk L t)(es:Array (Int×Value))(n:Nat):TabOk L (relayAll t es n).2.1:=by
 unfold relayAll
 split
 .rename_i t' order q
  dsimp only
  split
  .unfold SetTable.relaid SetTable.laid at q
   cases ho:SetTable.layClean (SetTable.sizeAbove n-1) (es.map (·.1)) with
   |none=>rw[ho] at q;cases q
   |some owner =>
    rw[ho] at q
    have q':=U00 q
    cases q'
    refine⟨?_,h.2⟩
    show U6l (·<·) (List.toArray _).toList
    exact List.pairwise_lt_range.sublist (Qt (fun j=>owner.getD j none) _)
  .exact h.standIn _
 .exact h.standIn _
end SetP
end
section
set_option maxRecDepth 100000
namespace SetP
open PySem PyProof.Rows
abbrev Ln(w:World):Bool:=!(w.params.followText "set-order")
structure SetT(prog:Program)(w:World)(h:Heap)(a:Addr)(ds:List Int):Prop where
 nd:ds.Nodup
 ex:∃o es ep t,h.get? a=some o/\o.ExactSet/\o.data=.set es ep t/\ElemsOf (intKind prog w) es.toList/\(∀k,decide (k∈ds)=true↔∃e∈es.toList,(intKind prog w).is k e.2=true) /\
  es.size<scanBound/\t.fits es.size=true/\es.size=ds.length/\TabOk (Ln w) t
def Fp(ds:List Int)(k:Int):List Int:=if k∈ds then ds else ds++[k]
theorem RG{ds:List Int}(h:ds.Nodup)(k:Int):(Fp ds k).Nodup:=by
 unfold Fp
 split
 .exact h
 .rename_i hk
  exact U6r.mpr ⟨h,by simp,fun a ha b hb=>by rw[U0w] at hb;subst hb;rintro rfl;exact hk ha⟩
theorem Ub{ds:List Int}{k j:Int}:j∈Fp ds k↔j∈ds∨j=k:=by
 unfold Fp
 split
 .rename_i hk
  exact⟨.inl,fun z=>z.elim id fun e=>e ▸ hk⟩
 .rw[U1w,U0w]
theorem cM(ds:List Int)(k:Int):(Fp ds k).length<=ds.length+1:=by
 unfold Fp
 split
 .omega
 .rw[U0n,U3m];omega
section
variable{prog:Program}{w:World}{A:Around}{E:Value->Shared->Prop}{s:Shared}
theorem SetT.sameBut{h h':Heap}{a:Addr}{ds:List Int}(x:SetT prog w h a ds)(hs:∀o,h.get? a=some o->h'.get? a=some o):SetT prog w h' a ds:=by
 obtain⟨nd,o,es,ep,t,e,r⟩:=x
 exact⟨nd,o,es,ep,t,hs o e,r⟩
theorem SetT.stored{h:Heap}{a:Addr}{o:Obj}{es es':Array (Int×Value)}{ep:Nat}{t t':SetTable}{ds:List Int}(ho:h.get? a=some o)(hex:o.ExactSet)(hd:o.data=.set es ep t)(nd:ds.Nodup)
  (hel:ElemsOf (intKind prog w) es'.toList) (hm:∀k,decide (k∈ds)=true↔∃e∈es'.toList,(intKind prog w).is k e.2=true) (hb:es'.size<scanBound) (hf:t'.fits es'.size=true) (hn:es'.size=ds.length) (ht:TabOk (Ln w) t') :
  (h.update a (Obj.putSet es' t')).get? a=some { o with data:=.set es' (ep+1) t' }/\SetT prog w (h.update a (Obj.putSet es' t')) a ds:=by
 obtain⟨g,_⟩:=SetOf_store (knd:=intKind prog w) ho hex hd hel hm hb hf
 exact⟨g,nd,_,es',ep+1,t',g,hex,rfl,hel,hm,hb,hf,hn,ht⟩
theorem Ut{g:Bool->Sem Unit}(hg:∀(b:Bool)(s₁:Shared)(Q':Unit->Shared->Prop),Q' () s₁->wpAny (model prog w) A (g b) Q' E s₁)
  {a:Addr} {o:Obj} {es es1:Array (Int×Value)} {ep:Nat} {t t2:SetTable} {ds:List Int} (ho:s.heap.get? a=some o) (hex:o.ExactSet) (hd:o.data=.set es ep t) (nd:ds.Nodup)
  (hel:ElemsOf (intKind prog w) es1.toList) (hm:∀k,decide (k∈ds)=true↔∃e∈es1.toList,(intKind prog w).is k e.2=true) (hb:es1.size<scanBound) (hf:t2.fits es1.size=true) (hn:es1.size=ds.length) (ht:TabOk (Ln w) t2)
  {dummy:Bool} {R:Option Bool->Shared->Prop} (h:∀h',U02 a s.heap h'->SetT prog w h' a ds->R (some true) { s with heap:=h' }) :
  wpAny (model prog w) A (do
    storeSet a es1 t2
    if (!dummy&&t2.tooFull)=true then do
      g (relayAll t2 es1 (U39 es1.size)).2.2
      storeSet a (relayAll t2 es1 (U39 es1.size)).1 (relayAll t2 es1 (U39 es1.size)).2.1
      pure (some true)
     else pure (some true)) R E s:=by
 obtain⟨g1,T1⟩:=SetT.stored (prog:=prog) (w:=w) ho hex hd nd hel hm hb hf hn ht
 have sb1:=U1n s.heap a (Obj.putSet es1 t2)
 refine U0 (wpAny_storeSet_of ho hd ?_ (fits_of_scanBound hb))
 split
 .have p:=relayAll_perm t2 es1 (U39 es1.size)
  have f:=relayAll_fits t2 es1 (U39 es1.size)
  have tb:=Wo ht es1 (U39 es1.size)
  generalize relayAll t2 es1 (U39 es1.size)=RR at p f tb
  obtain⟨es2,t3,gave⟩:=RR
  have sz:es2.size=es1.size:=by simpa using p.length_eq
  have T2:=SetT.stored (prog:=prog) (w:=w) (es':=es2) (t':=t3) g1 hex rfl nd (hel.perm p) (fun k=>(hm k).trans ⟨fun⟨e,he,q⟩=>⟨e,p.mem_iff.mpr he,q⟩,fun⟨e,he,q⟩=>⟨e,p.mem_iff.mp he,q⟩⟩)
   (by rw[sz];exact hb) f (by rw[sz];exact hn) tb
  refine U0 (hg _ _ _ (U0 (wpAny_storeSet_of g1 rfl ?_ (fits_of_scanBound (by show es2.size<_;rw[sz];exact hb)))))
  exact U0d (h _ (sb1.trans (U1n _ a _)) T2.2)
 .exact U0d (h _ sb1 T1)
theorem Xr{a:Addr}{ds:List Int}{k:Int}{t0:Tok}{Q:Bool->Shared->Prop}(hS:SetT prog w s.heap a ds)(room:ds.length+1<scanBound)
  (h:∀b h',U02 a s.heap h'->SetT prog w h' a (Fp ds k)->Q b { s with heap:=h' }):wpAny (model prog w) A (setAddHashed a (.int k t0) ((intKind prog w).hash k)) Q E s:=by
 obtain⟨nd,o,es,ep,t,ho,hex,hd,hel,hm,hb,hf,hn,ht⟩:=hS
 have hkey:(intKind prog w).is k (.int k t0)=true:=intKind_is prog w k t0
 have hsc:(U3s k t0).scannable=true:=rfl
 unfold setAddHashed setAddHashedIn
 refine U2f (U0 (U34 ho hd hf ?_))
 dsimp only
 rw[byScan_of hsc hb hel,if_pos rfl]
 unfold setAddByScan
 refine U0 (U0 (U41 (U0 (wpAny_setScan_of hkey ho hd hf hel ?_))))
 cases hr:List.findIdx? (fun e=>(intKind prog w).is k e.2) es.toList with
 |some j =>
  obtain⟨hj,hpj,_⟩:=List.findIdx?_eq_some_iff_getElem.mp hr
  have hk:k∈ds:=of_decide_eq_true ((hm k).mpr ⟨es.toList[j],U3i hj,hpj⟩)
  refine U0d (U0d ?_)
  have q:=h false s.heap (U02.refl a s.heap) (by
   have e:Fp ds k=ds:=by unfold Fp;rw[if_pos hk]
   rw[e];exact⟨nd,o,es,ep,t,ho,hex,hd,hel,hm,hb,hf,hn,ht⟩)
  cases s;exact q
 |none =>
  have hk:k ∉ ds:=fun z=>by
   obtain⟨e,he,hp⟩:=(hm k).mp (decide_eq_true z)
   have q:=List.findIdx?_eq_none_iff.mp hr e he
   rw[hp] at q;cases q
  have eA:Fp ds k=ds++[k]:=by unfold Fp;rw[if_neg hk]
  have p:=layNew_perm t es ((intKind prog w).hash k) (.int k t0)
  have f:=layNew_fits t es ((intKind prog w).hash k) (.int k t0)
  have tb:=ZR ht es ((intKind prog w).hash k) (.int k t0)
  generalize layNew t es ((intKind prog w).hash k) (.int k t0)=LL at p f tb
  obtain⟨es1,t1,dummy,gave⟩:=LL
  dsimp only at p f tb ⊢
  rw[Array.toList_push] at p
  have hel1:ElemsOf (intKind prog w) es1.toList:=(hel.push hkey hsc).perm p
  have sz:es1.size=(Fp ds k).length:=by
   have q:=p.length_eq
   rw[U1t,U0n,U3m,U1t] at q
   rw[q,eA,U0n,U3m,hn]
  have hm1:∀j,decide (j∈Fp ds k)=true↔∃e∈es1.toList,(intKind prog w).is j e.2=true:=fun j=>by
   rw[←mem_push_iff (S:=fun k'=>decide (k'∈ds)) hkey hm p j]
   simp only[decide_eq_true_eq,U4o,Ub]
  have hb1:es1.size<scanBound:=by rw[sz,eA,U0n,U3m];exact room
  refine U0 ?_
  have gw:∀(b:Bool)(s₁:Shared)(Q':Unit->Shared->Prop),Q' () s₁->wpAny (model prog w) A (match b with|true=>rule "set.scan.the-table-gave-way"|false=>pure ()) Q' E s₁:=fun b s₁ Q' q=>by
   cases b
   .exact U0d q
   .exact U41 q
  refine gw _ _ _ ?_
  split
  .refine U0 ?_
   rw[hashByValue_scannable 8 hsc]
   refine U0d (Ut gw ho hex hd (RG nd k) hel1 hm1 hb1 ?_ sz ?_ fun h' sb T=>U0d (h true h' sb T))
   .split
    .exact f
    .exact SetTable.fits_plain_off f
   .split
    .exact tb
    .exact tb.jE false
  .refine U0 (U0d ?_)
   rw[if_pos rfl]
   exact Ut gw ho hex hd (RG nd k) hel1 hm1 hb1 f sz tb fun h' sb T=>U0d (h true h' sb T)
end
end SetP
end
section
set_option maxRecDepth 100000
namespace SetP
open PySem PyProof.Rows
theorem Ui:entryFor table "set.update.loop"=some Builtin.«set.update.loop»:=entryFor_of_tree (by kernel_rfl)
theorem Ol:plainId "set.update.loop"=true:=by decide +kernel
def once(ns:List Int):List Int:=ns.foldl Fp []
theorem bD(ns:List Int)(k:Int):once (ns++[k])=Fp (once ns) k:=by unfold once;rw[U35];rfl
theorem LR:∀(ns:List Int),(once ns).Nodup/\(once ns).length<=ns.length/\∀j,j∈once ns↔j∈ns:=by
 intro ns
 have all:∀(ns ds:List Int),ds.Nodup->(ns.foldl Fp ds).Nodup/\(ns.foldl Fp ds).length<=ds.length+ns.length/\∀j,j∈ns.foldl Fp ds↔j∈ds∨j∈ns:=by
  intro ns
  induction ns with
  |nil=>intro ds h;exact⟨h,by simp,fun j=>by simp⟩
  |cons n r ih =>
   intro ds h
   obtain⟨a,b,c⟩:=ih (Fp ds n) (RG h n)
   refine⟨a,?_,fun j=>?_⟩
   .have:=cM ds n
    rw[U2q,U0e];omega
   .rw[U2q,c j,Ub,U0r]
    constructor
    .rintro((z|z)|z)
     .exact .inl z
     .exact .inr (.inl z)
     .exact .inr (.inr z)
    .rintro(z|z|z)
     .exact .inl (.inl z)
     .exact .inl (.inr z)
     .exact .inr z
 obtain⟨a,b,c⟩:=all ns [] List.nodup_nil
 exact⟨a,by rw[U1h,Nat.zero_add] at b;exact b,fun j=>by rw[show once ns=ns.foldl Fp [] from rfl,c j];simp⟩
section
variable{prog:Program}{w:World}{A:Around}{E:Value->Shared->Prop}{s:Shared}
theorem dF{R:Result->Shared->Prop}{S I l:Addr}{items:Array Value}{ns:List Int}(hh:A.handled=none)(hi:IntsAre items.toList ns)(hb:items.size+1<scanBound)(hSI:S≠I)(hSl:S≠l)(hIl:I≠l) :
  ∀(k i:Nat)(s:Shared),items.size-i=k->i<=items.size->s.heap.IsListIter I l i->s.heap.IsList l items->SetT prog w s.heap S (once (ns.take i)) ->
   (∀h' tk,(∀b o,b≠S->b≠I->s.heap.get? b=some o->h'.get? b=some o)->SetT prog w h' S (once ns)->R (.ok (.ret .none)) { s with heap:=h',toks:=tk }) ->
   codeAny (model prog w) A (.builtin "set.update.loop" ⟨[.ref S,.ref I],[]⟩) R s:=by
 have hlen:items.size=ns.length:=by have:=hi.length;simpa using this
 intro k
 induction k with
 |zero =>
  intro i s hk hi' it il T hR
  have e:i=items.size:=by omega
  subst e
  refine codeAny_builtin Ui ?_
  rw[U3 Ol _]
  show wpAny _ A.in1 (pyNext (.ref I) >>= _) _ _ s
  refine U0 (wpAny_pyNext_list_end hh it il (by simp) fun h' eb=>?_)
  show wpAny _ A.in1 (ret U2g) _ _ _
  refine U0d (hR h' s.toks (fun b o _ hbI q=>eb b o hbI q) ?_)
  rw[U5y (by omega)] at T
  exact T.sameBut fun o q=>eb S o hSI q
 |succ k ih =>
  intro i s hk hi' it il T hR
  have hlt:i<items.size:=by omega
  refine codeAny_builtin Ui ?_
  rw[U3 Ol _]
  show wpAny _ A.in1 (pyNext (.ref I) >>= _) _ _ s
  refine U0 (wpAny_pyNext_list_item it il (x:=items[i]) (by simp[hlt]) fun h1 it1 sb1=>?_)
  have hn:i<ns.length:=by omega
  obtain⟨t0,hv⟩:∃t0,items[i]=.int ns[i] t0:=by
   have all:∀{vs:List Value} {ms:List Int},IntsAre vs ms->∀(j:Nat)(h1:j<vs.length)(h2:j<ms.length),∃t0,vs[j]=.int ms[j] t0:=by
    intro vs ms r
    induction r with
    |nil=>intro j h1;simp at h1
    |cons n t _ ih=>intro j h1 h2;cases j with
     |zero=>exact⟨t,rfl⟩
     |succ j=>exact ih j (by simpa using h1) (by simpa using h2)
   have q:=all hi i (by simpa using hlt) hn
   simpa using q
  rw[hv]
  show wpAny _ A.in1 (holding [U3s ns[i] t0] (setAdd S (.int ns[i] t0)) >>= _) _ _ _
  have T1:SetT prog w h1 S (once (ns.take i)):=T.sameBut fun o q=>(sb1.2 S hSI).trans q
  have il1:h1.IsList l items:=by
   obtain⟨o,ho,r⟩:=il
   exact⟨o,(sb1.2 l hIl.symm).trans ho,r⟩
  refine U0 (U2f ?_)
  unfold setAdd
  refine U2f (U0 ((intKind prog w).pyHash (k:=ns[i]) (intKind_is _ _ _ _) ?_))
  have room:(once (ns.take i)).length+1<scanBound:=by
   have q:=(LR (ns.take i)).2.1
   rw[U2r] at q
   omega
  refine Xr (s:={ s with heap:=h1,toks:=s.toks+1 }) T1 room fun b h2 sb2 T2=>?_
  have T2':SetT prog w h2 S (once (ns.take (i+1))):=by
   rw[List.take_succ_eq_append_getElem hn,bD];exact T2
  refine U0d ⟨plainId_quiet Ol _,ih (i+1) _ (by omega) hlt ?_ ?_ T2' fun h' tk hk' T'=>?_⟩
  .obtain⟨o,ho,r⟩:=it1
   exact⟨o,(sb2.2 I hSI.symm).trans ho,r⟩
  .obtain⟨o,ho,r⟩:=il1
   exact⟨o,(sb2.2 l hSl.symm).trans ho,r⟩
  .exact hR h' tk (fun c o hcS hcI q=>hk' c o hcS hcI ((sb2.2 c hcS).trans ((sb1.2 c hcI).trans q))) T'
theorem tO(a:Value){Q₁:Value->Shared->Prop}
  (h:Q₁ (.ref s.heap.objs.size) { s with heap:=s.heap.push { cls:=.type "set",dict:=none,data:=.set #[] 0 (.fresh 0 0 (Ln w)) } }) :
  codeAny (model prog w) A (.call (.builtin "set.__new__") ⟨[.type "set",a],[]⟩) (wants Q₁ E) s:=by
 refine codeAny_of_tree ?_
 have hck:checkBuiltinCall "set.__new__" ⟨[.type "set",a],[]⟩=pure ():=by kernel_rfl
 show wpAny _ A.in1 (checkBuiltinCall "set.__new__" ⟨[.type "set",a],[]⟩ >>= fun _=>again (.builtin "set.__new__" ⟨[.type "set",a],[]⟩)) _ _ s
 rw[hck]
 refine U0 (U0d (U0d ⟨plainId_quiet F.plain_set_new _,codeAny_builtin F.entry_set_new ?_⟩))
 rw[U3 F.plain_set_new _]
 have hsub:=sub_set_self
 unfold Builtin.«set.__new__» Builtin.Frozenset.newClass
 obtain⟨hp,g,d,tk,os⟩:=s
 dsimp only
 wp_walk
 refine U4c (U0d ?_)
 simp only[newObj]
 exact U0 (wpAny_alloc (U0d (U0d h)))
theorem gP{M:Model}{self a:Value}{Q:Unit->Shared->Prop}(hT:s.TypeIs self "set")(hQ:Q () s):wpAny M A (checkBuiltinCall "set.__init__" ⟨[self,a],[]⟩) Q E s:=by
 simp only[checkBuiltinCall,kind_set_init,split_set_init,sig_set_init]
 refine U0 (U42 hT sub_set_self ?_)
 simp only[U50,U1z,if_false]
 unfold Bind.checkArgs
 dsimp only
 refine U0 (m:=Bind.printed "set" true _ _) (printed_name (by decide) ?_)
 refine U0 (m:=Bind.printed "*" false _ _) (printed_star (self:=self) rfl hT fun short=>?_)
 have one:(if (U5s.self==U5s.none)=true then [self,a].length else [self,a].length-1)=1:=by
  have z:(U5s.self==U5s.none)=false:=by decide
  simp[z]
 rw[one]
 simp only[U1u]
 have z1:(U32==U32)=true:=by decide
 have z2:(U32==U3u.posOrKw)=false:=by decide
 have z3:(U32==U3u.varPos)=false:=by decide
 have fine:Bind.check ⟨.positional,"set","*",.self,[⟨"iterable",.posOnly,false⟩]⟩ "set" short 1 []=pure ():=by
  simp[Bind.check,Bind.checkCount,Bind.isPositional,z1,z2,z3]
 rw[fine]
 exact U0d hQ
set_option maxHeartbeats 3200000 in
theorem jL{l:Addr}{items:Array Value}{ns:List Int}{Q:Value->Shared->Prop}(hh:A.handled=none)(hl:s.heap.IsList l items)(hi:IntsAre items.toList ns)(hb:items.size+1<scanBound)
  (h:∀h' tk,(∀b o,s.heap.get? b=some o->h'.get? b=some o)->SetT prog w h' s.heap.objs.size (once ns)->Q (.ref s.heap.objs.size) { s with heap:=h',toks:=tk }) :
  wpAny (model prog w) A (call (.type "set") [.ref l]) Q E s:=by
 have hmade:=U4d.made
 have hsub:=U4d.sub
 have h1:=U4d.notType
 have h2:=U4d.canCreate
 have hct:checkTypeCall "set" ⟨[.ref l],[]⟩=pure ():=by kernel_rfl
 obtain⟨c,tl,hmro⟩:=U4d.mro
 refine wpAny_call (codeAny_of_tree ?_)
 show wpAny _ _ (callAny (.type "set") ⟨[.ref l],[]⟩) _ _ s
 refine U0d ⟨Code.quiet_builtin _ (by decide +kernel),codeAny_builtin F.entry_type_call ?_⟩
 rw[Around.under_plain (weight_type_call_type "set" [.ref l] []) rfl]
 repeat (any_goals (first|assumption|wp_step))
 refine codeAny_mono (tO (.ref l) (E:=E) (Q₁:=fun obj s₁=>obj=.ref s.heap.objs.size/\s₁={ s with heap:=s.heap.push { cls:=.type "set",dict:=none,data:=.set #[] 0 (.fresh 0 0 (Ln w)) } }) ⟨rfl,rfl⟩) fun r s₁ hr=>?_
 cases r with
 |error e=>exact hr
 |ok fl =>
  cases fl with
  |ret obj =>
   obtain⟨rfl,rfl⟩:=hr
   generalize hg1:s.heap.push { cls:=.type "set",dict:=none,data:=.set #[] 0 (.fresh 0 0 (Ln w)) }=g1
   have e1:g1.get? s.heap.objs.size=some { cls:=.type "set",dict:=none,data:=.set #[] 0 (.fresh 0 0 (Ln w)) }:=hg1 ▸ U0s _ rfl
   have k1:∀b o,s.heap.get? b=some o->g1.get? b=some o:=fun b o q=>hg1 ▸ U0b _ q
   have z1:g1.objs.size=s.heap.objs.size+1:=by rw[←hg1,U18]
   have hT:U51 { s with heap:=g1 } (.ref s.heap.objs.size) "set":=⟨_,e1,rfl⟩
   have hli:=U4d.init.lookup
   have hbi:=U4d.init.bind (.ref s.heap.objs.size)
   repeat (any_goals (first|assumption|wp_step))
   refine codeAny_mono (codeAny_call_builtin (R:=wants (fun r s₂=>r=.none/\∃h' tk,s₂={ s with heap:=h',toks:=tk }/\(∀b o,s.heap.get? b=some o->h'.get? b=some o)/\SetT prog w h' s.heap.objs.size (once ns)) E)
    U4d.init.plain F.entry_set_init (gP hT ?_)) fun r₂ s₂ hr₂=>?_
   .obtain⟨ol,hol,hcl,nl,hdl⟩:=hl
    obtain⟨ocls,odict,odata,oslots⟩:=ol
    simp only at hcl hdl
    subst hcl hdl
    have q1:g1.get? l=some { cls:=.type "list",dict:=odict,data:=.seq items nl,slots:=oslots }:=k1 _ _ hol
    have il:g1.IsList l items:=⟨_,q1,rfl,nl,rfl⟩
    have hlS:l<s.heap.objs.size:=U0j hol
    have hs1:isSubtype (.type "list") (.type "set")=pure false:=by rw[isSubtype_type];kernel_rfl
    have hs2:isSubtype (.type "list") (.type "frozenset")=pure false:=by rw[isSubtype_type];kernel_rfl
    have hs3:(U3f "list"==U3f "dict")=false:=by decide
    unfold Builtin.«set.__init__» noKeywords Builtin.Frozenset.updateFrom
    generalize hPI:pyIter=PI
    wp_walk
    subst hPI
    refine U5t il (U0 (wpAny_runValue ?_))
    have n1:s.heap.objs.size≠g1.objs.size:=by rw[z1];exact U0v (U53 _)
    have n2:s.heap.objs.size≠l:=U1q hlS
    have n3:g1.objs.size≠l:=by rw[z1];exact U1q (U20 hlS)
    refine dF (l:=l) (items:=items) (by simpa using hh) hi hb n1 n2 n3 (items.size-0) 0 _ (by omega) (U2y _) ⟨_,U0s _ rfl,rfl,rfl⟩ ?_ ?_ ?_
    .obtain⟨o,ho,r⟩:=il
     exact⟨o,U0b _ ho,r⟩
    .refine⟨List.nodup_nil,_,#[],0,_,U0b _ e1,⟨rfl,rfl,rfl⟩,rfl,fun e he=>by simp at he,fun k=>by simp[once],by decide,by rfl,rfl,TabOk.fresh _ _ _⟩
    .intro h' tk hk T
     show wpAny _ _ _ _ _ _
     refine U0d ?_
     show wpAny _ _ (ret U2g) _ _ _
     refine U0d ⟨rfl,h',tk,rfl,fun b o q=>?_,T⟩
     have hb':=U0j q
     exact hk b o (U0v hb') (by rw[z1];exact U0v (U20 hb')) (U0b _ (k1 b o q))
   .cases r₂ with
    |error e=>exact hr₂
    |ok fl₂ =>
     cases fl₂ with
     |ret r =>
      obtain⟨rfl,h',tk,rfl,hk,T⟩:=hr₂
      repeat (any_goals (first|assumption|wp_step))
      exact h h' tk hk T
     |_=>exact hr₂.elim
  |_=>exact hr.elim
end
end SetP
end
section
set_option maxRecDepth 100000
namespace SetP
open PySem PyProof.Rows
theorem Nv{α:Type}:∀(l:List α)(i:Nat)(h:i<l.length),(l[i]::l.eraseIdx i).Perm l
 |[],i,h=>absurd h (by simp)
 |x::r,0,_=>U6h _
 |x::r,i+1,h=>(U4p.swap x _ _).trans (U7a x (Nv r i (by simpa using h)))
theorem QJ:∀{ds ns:List Int},ds.Nodup->(∀k,k∈ds->k∈ns)->ns.length<=ds.length->ns.Perm ds
 |[],ns,_,_,h=>by
  have e:ns=[]:=U4g.mp (by simpa using h)
  rw[e]
 |d::r,ns,nd,sub,h=>by
  have hd:d∈ns:=sub d U0g
  have p:=List.perm_cons_erase hd
  obtain⟨h1,h2⟩:=U4m.mp nd
  refine p.trans (U7a d (QJ h2 (fun k hk=>?_) ?_))
  .have hne:k≠d:=fun e=>h1 (e ▸ hk)
   exact(List.mem_erase_of_ne hne).mpr (sub k (U0z _ hk))
  .rw[List.length_erase_of_mem hd]
   rw[U0e] at h
   omega
theorem YF{α:Type}(next:Nat->Nat):∀(fuel k:Nat)(left:List α)(out:Array α),left.length=fuel->(pickOrder.go next fuel k left out).toList.Perm (out.toList++left)
 |0,_,left,out,h=>by
  have e:left=[]:=U4g.mp h
  subst e
  unfold pickOrder.go
  simp
 |fuel+1,k,left,out,h=>by
  unfold pickOrder.go
  have hi:next k%left.length<left.length:=Nat.mod_lt _ (by omega)
  rw[U0q hi]
  dsimp only
  refine(YF next fuel (k+1) _ _ (by rw[List.length_eraseIdx_of_lt hi];omega)).trans ?_
  rw[Array.toList_push,U4w]
  exact U4p.append_left _ (Nv _ _ hi)
theorem bA{α:Type}(next:Nat->Nat)(xs:Array α):(pickOrder next xs).toList.Perm xs.toList:=by
 unfold pickOrder
 simpa using YF next xs.size 0 xs.toList #[] (by simp)
section
variable{M:Model}{A:Around}{E:Value->Shared->Prop}
theorem Ze{src:Source}{n:Nat}{s:Shared}{Q:Nat->Shared->Prop}(hn:n≠0)(h:∀i d',i<n->Q i { s with drawn:=d' }):wpAny M A (choose src n) Q E s :=
 fun _ _ _=>⟨hn,h _ _ (Nat.mod_lt _ (Nat.pos_of_ne_zero hn))⟩
theorem O5{α:Type}:∀(n:Nat)(xs:List α)(s:Shared)(Q:List α->Shared->Prop),xs.length<=n->(∀ys d',ys.Perm xs->Q ys { s with drawn:=d' })->wpAny M A (drawOrder n xs) Q E s
 |0,xs,s,Q,h,q=>by
  have e:xs=[]:=U4g.mp (by omega)
  subst e
  unfold drawOrder
  exact U0d (q [] s.drawn (U6h _))
 |n+1,[],s,Q,h,q=>by
  unfold drawOrder
  exact U0d (q [] s.drawn (U6h _))
 |n+1,x::xs,s,Q,h,q=>by
  unfold drawOrder
  refine U0 (Ze (by simp) fun i d' hi=>?_)
  rw[U0q hi]
  dsimp only
  refine U0 (O5 n _ _ _ (by rw[List.length_eraseIdx_of_lt hi];simp at h ⊢;omega) fun ys d'' p=>U0d (q _ d'' ?_))
  exact(U7a _ p).trans (Nv _ _ hi)
end
theorem Em:Slot "set_iterator" "__next__" "set_iterator.__next__" :=
 .of (owner:="set_iterator") (n:="__next__") (by rw[typeLookup_type,builtinLookup_eq_fast];kernel_rfl) (by decide +kernel) (by decide +kernel) (by decide +kernel)
  (by first|exact .inl (by decide +kernel)|exact .inr (by decide +kernel)) (by rw[isSubtype_type];kernel_rfl)
theorem Lk:entryFor table "set_iterator.__next__"=some Builtin.«set_iterator.__next__»:=entryFor_of_tree (by kernel_rfl)
theorem M9(a:Value):argsOk "set_iterator.__next__" ⟨[a],[]⟩:=by unfold argsOk;kernel_rfl
theorem Tj:entryFor table "set.__iter__"=some Builtin.«frozenset.__iter__» :=
 entryFor_alias (id':="frozenset.__iter__") (by kernel_rfl) rfl (by decide +kernel) (by kernel_rfl)
def Io(first:Value)(i:Nat)(S:Addr)(n ep:Nat):Obj:={ cls:=.type "set_iterator",data:=.fields #[first,.int i 0,.ref S,.int n 0,.int ep 0] }
inductive Road (w:World) (h:Heap) (es:Array (Int×Value)) (ep:Nat) (t:SetTable) (S it T:Addr) (vs:List Value) (i:Nat):Value->Prop
 |text (k:Int):w.params.followText "set-order"=true->(∀(j:Nat),vs[j]?=((pickOrder (w.params.setOrder S ep) es)[j]?).map fun(e:Int×Value)=>e.2)->Road w h es ep t S it T vs i (.int k 0)
 |plain:w.params.followText "set-order"=false->(!t.plain&&decide (es.size>1))=false->TabOk true t->(∀(j:Nat),vs[j]?=(es[j]?).map fun(e:Int×Value)=>e.2)->Road w h es ep t S it T vs i (.int ((if i=0 then 0 else t.place.getD (i-1) 0+1:Nat):Int) 0)
 |drawn (ps:List Nat):T≠it->h.get? T=some { cls:=.type "tuple",data:=.seq (ps.map fun(p:Nat)=>rawInt p).toArray 0 }->(∀p∈ps,p<es.size)->(∀(j:Nat),vs[j]?=(ps[j]?).bind fun p=>(es[p]?).map fun(e:Int×Value)=>e.2)->Road w h es ep t S it T vs i (.ref T)
structure Ka(w:World)(h:Heap)(it S T:Addr)(vs:List Value)(i:Nat):Prop where
 ne:it≠S
 ex:∃o es ep t first,h.get? S=some o/\o.data=.set es ep t/\t.fits es.size=true/\vs.length=es.size/\h.get? it=some (Io first i S es.size ep)/\Road w h es ep t S it T vs i first
section
variable{prog:Program}{w:World}{A:Around}{E:Value->Shared->Prop}{s:Shared}
theorem Ka.keep{h h':Heap}{it S T:Addr}{vs:List Value}{i:Nat}(x:Ka w h it S T vs i)(k:∀b∈[it,S,T],∀o,h.get? b=some o->h'.get? b=some o):Ka w h' it S T vs i:=by
 obtain⟨ne,o,es,ep,t,first,a,b,c,d,e,r⟩:=x
 refine⟨ne,o,es,ep,t,first,k S (by simp) _ a,b,c,d,k it (by simp) _ e,?_⟩
 cases r with
 |text k1 z1 z2=>exact .text k1 z1 z2
 |plain z1 z2 z3 z4=>exact .plain z1 z2 z3 z4
 |drawn ps z1 z2 z3 z4=>exact .drawn ps z1 (k T (by simp) _ z2) z3 z4
theorem qY{S:Addr}{ds:List Int}{Q:Value->Shared->Prop}(hS:SetT prog w s.heap S ds)
  (h:∀h' d' it T vs,(∀b o,s.heap.get? b=some o->h'.get? b=some o)->s.heap.objs.size<=it->(T=S∨s.heap.objs.size<=T)->Ka w h' it S T vs 0->(∃ns,IntsAre vs ns/\ns.Perm ds)->Q (.ref it) { s with heap:=h',drawn:=d' }) :
  wpAny (model prog w) A (pyIter (.ref S)) Q E s:=by
 obtain⟨nd,o,es,ep,t,ho,hex,hd,hel,hm,hb,hf,hn,ht⟩:=hS
 have hT:s.TypeIs (.ref S) "set":=⟨o,ho,hex.1⟩
 have hlt:=U0j ho
 -- the members as ints
 have intsV:∀(l:List (Int×Value)),ElemsOf (intKind prog w) l->∃ns,IntsAre (l.map (·.2)) ns/\∀k,k∈ns↔∃e∈l,(intKind prog w).is k e.2=true:=by
  intro l
  induction l with
  |nil=>intro _;exact⟨[],.nil,fun k=>by simp⟩
  |cons e r ih =>
   intro he
   obtain⟨ns,a,b⟩:=ih he.tail
   obtain⟨⟨k0,hk0,_⟩,_⟩:=he.head
   obtain⟨t0,e0⟩:=Value.isInt_shape (show Value.isInt k0 e.2=true from hk0)
   refine⟨k0::ns,by rw[U0t,e0];exact .cons k0 t0 a,fun k=>?_⟩
   rw[U0r,b k]
   constructor
   .rintro(z|⟨e',he',q⟩)
    .exact⟨e,U0g,by rw[z];exact hk0⟩
    .exact⟨e',U0z _ he',q⟩
   .rintro⟨e',he',q⟩
    rcases U0r.mp he' with z|z
    .subst z;exact .inl ((intKind prog w).inj _ _ _ q hk0)
    .exact .inr ⟨e',z,q⟩
 -- any order of the members is the ints in some order
 have fin:∀(l:List (Int×Value)),l.Perm es.toList->∃ns,IntsAre (l.map (·.2)) ns/\ns.Perm ds:=fun l p=>by
  obtain⟨ns,a,b⟩:=intsV l (hel.perm p)
  refine⟨ns,a,?_⟩
  have hsub:ds ⊆ ns:=fun k hk=>(b k).mpr (by
   obtain⟨e,he,q⟩:=(hm k).mp (decide_eq_true hk)
   exact⟨e,p.mem_iff.mpr he,q⟩)
  have hle:ns.length<=ds.length:=by
   have q1:(l.map (·.2)).length=ns.length:=IntsAre.length a
   rw[U0i] at q1
   exact U7g (by rw[←q1,p.length_eq,U1t,hn])
  exact QJ nd (fun k hk=>hsub hk) hle
 refine U6s hT F.slot_set_iter (U17 F.slot_set_iter hT Tj ?_ (F.args_set_iter_1 _))
 unfold Builtin.«frozenset.__iter__» Builtin.Frozenset.slot0 slotArgs
 simp only[U6x,U50,U1z,↓reduceIte,bind_assoc,U1h,bne_self_eq_false]
 unfold Builtin.Frozenset.addrOf Builtin.Frozenset.sizeOf
 refine U0 (U0d ?_)
 try dsimp only
 refine U0 (U0d ?_)
 refine U0 (U0 (U6c ho hd hf (U0d ?_)))
 unfold setDrawn setsByText
 simp only[bind_assoc]
 refine U0 (U34 ho hd hf ?_)
 refine U0 (U4c ?_)
 refine U0 (U0d (U0 (U0d ?_)))
 show wpAny (model prog w) A.in1 (if (!(w.params.followText "set-order")&&(!t.plain&&decide (es.size>1)))=true then _ else _) _ _ s
 have len2:∀(ps:List Nat),ps.Perm (U0p es.size)->((ps.filterMap fun p=>es[p]?)).Perm es.toList/\∀(j:Nat),((ps.filterMap fun p=>es[p]?).map (·.2))[j]?=(ps[j]?).bind fun p=>(es[p]?).map fun(e:Int×Value)=>e.2:=fun ps p=>by
  refine⟨(p.filterMap _).trans (by rw[filterMap_getElem?_range]),?_⟩
  have all:∀(ps:List Nat),(∀p∈ps,p<es.size)->∀(j:Nat),((ps.filterMap fun p=>es[p]?).map (·.2))[j]?=(ps[j]?).bind fun p=>(es[p]?).map fun(e:Int×Value)=>e.2:=by
   intro ps
   induction ps with
   |nil=>intro _ j;simp
   |cons q r ih =>
    intro hq j
    have hq':q<es.size:=hq q U0g
    rw[List.filterMap_cons_some (b:=es[q]) (by simp[hq'])]
    cases j with
    |zero=>simp[hq']
    |succ j=>simpa using ih (fun p hp=>hq p (U0z _ hp)) j
  exact all ps fun q hq=>U2n.mp (p.mem_iff.mp hq)
 split
 .rename_i hc
  refine U0 (O5 es.size (U0p es.size) s _ (by simp) fun ps d' p=>?_)
  obtain⟨p1,p2⟩:=len2 ps p
  refine U0 (U19 ?_ ?_)
  .refine U0 (wpAny_setEpoch_of (U0b _ ho) hd hf ?_)
   refine U0 (U19 (U0d ⟨_,rfl,"set_iterator",_,⟨_,U0s _ rfl,rfl⟩,Em.lookup,?_⟩))
   refine h _ d' _ s.heap.objs.size ((ps.filterMap fun p=>es[p]?).map (·.2)) (fun b o' e=>U0b _ (U0b _ e)) ?_ (.inr (U0k _)) ?_ (fin _ p1)
   .show s.heap.objs.size<=(s.heap.push _).objs.size
    rw[U18];exact U47 _
   .refine⟨?_,o,es,ep,t,_,U0b _ (U0b _ ho),hd,hf,?_,U0s _ rfl,.drawn ps ?_ (U0b _ (U0s _ rfl)) (fun q hq=>U2n.mp (p.mem_iff.mp hq)) p2⟩
    .show(s.heap.push _).objs.size≠S
     rw[U18];exact U1q (U20 hlt)
    .rw[U0i,p1.length_eq,U1t]
    .show s.heap.objs.size≠(s.heap.push _).objs.size
     rw[U18];exact U0v (U53 _)
  .show _<=sizeLine
   rw[U0o,U0i,p.length_eq,U4y]
   exact fits_of_scanBound hb
 .rename_i hc
  refine U0 (U0d (U0 (wpAny_setEpoch_of ho hd hf ?_)))
  refine U0 (U19 (U0d ⟨_,rfl,"set_iterator",_,⟨_,U0s _ rfl,rfl⟩,Em.lookup,?_⟩))
  by_cases ht':w.params.followText "set-order"=true
  .have pp:=bA (w.params.setOrder S ep) es
   have q:=h (s.heap.push (Io (rawInt 0) 0 S es.size ep)) s.drawn s.heap.objs.size S ((pickOrder (w.params.setOrder S ep) es).toList.map (·.2)) (fun b o' e=>U0b _ e) (U0k _) (.inl rfl)
    ⟨U1q hlt,o,es,ep,t,_,U0b _ ho,hd,hf,by rw[U0i,pp.length_eq,U1t],U0s _ rfl,.text 0 ht' fun j=>by rw[U05,U3w]⟩ (fin _ pp)
   exact q
  .have hf':w.params.followText "set-order"=false:=by simpa using ht'
   have hL:Ln w=true:=by show(!_)=true;rw[hf'];rfl
   rw[hL] at ht
   have hdr:(!t.plain&&decide (es.size>1))=false:=by
    rw[hf'] at hc
    simpa using hc
   have q:=h (s.heap.push (Io (rawInt 0) 0 S es.size ep)) s.drawn s.heap.objs.size S (es.toList.map (·.2)) (fun b o' e=>U0b _ e) (U0k _) (.inl rfl)
    ⟨U1q hlt,o,es,ep,t,_,U0b _ ho,hd,hf,by rw[U0i,U1t],U0s _ rfl,.plain hf' hdr ht fun j=>by rw[U05,U3w]⟩ (fin _ (U6h _))
   exact q
end
end SetP
end
section
set_option maxRecDepth 100000
namespace SetP
open PySem PyProof.Rows
section
variable{prog:Program}{w:World}{A:Around}{E:Value->Shared->Prop}{s:Shared}
theorem Rq(first x:Value)(i:Nat)(S:Addr)(n ep:Nat):U3q (·.setIfInBounds 0 x) (Io first i S n ep)=Io x i S n ep:=rfl
theorem ZX(first:Value)(i:Nat)(S:Addr)(n ep:Nat):U3q (·.setIfInBounds 1 (rawInt ((i:Int)+1))) (Io first i S n ep)=Io first (i+1) S n ep:=rfl
theorem PJ{S:Addr}{o:Obj}{es:Array (Int×Value)}{ep slot given:Nat}{t:SetTable}{Q:Option (Value×Nat)->Shared->Prop}(ho:s.heap.get? S=some o)(hd:o.data=.set es ep t)(hf:t.fits es.size=true)
  (z:w.params.followText "set-order"=true) (h:Q (((pickOrder (w.params.setOrder S ep) es)[given]?).map fun e=>(e.2,slot)) s):wpAny (model prog w) A (setNext S slot given ep) Q E s:=by
 unfold setNext
 refine U0 (U34 ho hd hf ?_)
 unfold setsByText
 refine U0 (U0 (U4c (U0d ?_)))
 show wpAny _ _ (if (w.params.followText "set-order")=true then _ else _) _ _ s
 rw[if_pos z]
 show wpAny _ _ (if (ep != ep)=true then _ else _) _ _ s
 rw[if_neg (by simp)]
 unfold setWalk
 refine U0 (U0 (U34 ho hd hf ?_))
 unfold setsByText
 refine U0 (U0 (U4c (U0d ?_)))
 show wpAny _ _ (if (w.params.followText "set-order")=true then _ else _) _ _ s
 rw[if_pos z]
 exact U0 (U4c (U0d (U0d h)))
theorem Nz{S:Addr}{o:Obj}{es:Array (Int×Value)}{ep slot given:Nat}{t:SetTable}{Q:Option (Value×Nat)->Shared->Prop}(ho:s.heap.get? S=some o)(hd:o.data=.set es ep t)(hf:t.fits es.size=true)
  (z:w.params.followText "set-order"=false) (z2:(!t.plain&&decide (es.size>1))=false) (z3:t.led=true)
  (h:Q (match es[U1j t.place slot]?,t.place[U1j t.place slot]? with|some (_,x),some j=>some (x,j+1)|_,_=>none) s):wpAny (model prog w) A (setNext S slot given ep) Q E s:=by
 unfold setNext
 refine U0 (U34 ho hd hf ?_)
 unfold setsByText
 refine U0 (U0 (U4c (U0d ?_)))
 show wpAny _ _ (if (w.params.followText "set-order")=true then _ else _) _ _ s
 rw[if_neg (by rw[z];simp)]
 show wpAny _ _ (if (!t.plain&&decide (es.size>1))=true then _ else _) _ _ s
 rw[if_neg (by rw[z2];simp)]
 refine U0 ?_
 show wpAny _ _ (if (!t.led&&!es.isEmpty)=true then _ else _) _ _ s
 rw[if_neg (by rw[z3];simp)]
 exact U0d (U0d h)
theorem ZK{it S T:Addr}{vs:List Value}{i:Nat}{v:Value}{Q:Option Value->Shared->Prop}(x:Ka w s.heap it S T vs i)(hv:vs[i]?=some v)
  (h:∀h',U02 it s.heap h'->Ka w h' it S T vs (i+1)->Q (some v) { s with heap:=h' }):wpAny (model prog w) A (pyNext (.ref it)) Q E s:=by
 obtain⟨ne,o,es,ep,t,first,ho,hd,hf,hl,hi,r⟩:=x
 have hT:s.TypeIs (.ref it) "set_iterator":=⟨_,hi,rfl⟩
 unfold pyNext
 refine U0 (U45 (wpAny_callSpecial?_slot (name:=U23 "__next__") hT Em (U17 Em hT Lk ?_ (M9 _))))
 unfold Builtin.«set_iterator.__next__» slotArgs
 simp only[U6x,U50,U1z,↓reduceIte,U1h,bne_self_eq_false]
 refine U0 (U0d ?_)
 refine U0 (wpAny_fieldsOf hi rfl ?_)
 show wpAny _ _ (setEntries S >>= _) _ _ s
 refine U0 (U6c ho hd hf ?_)
 show wpAny _ _ (if ((es.size:Int) != (es.size:Int))=true then _ else _) _ _ s
 rw[if_neg (by simp)]
 have lt:i<vs.length:=(U0l.mp hv).1
 have upd1:∀{h1:Heap} {f1:Value},h1.get? it=some (Io f1 i S es.size ep)->(h1.update it (U3q (·.setIfInBounds 1 (rawInt ((i:Int)+1))))).get? it=some (Io f1 (i+1) S es.size ep):=fun {h1 f1} e=>by
  rw[←ZX f1 i S es.size ep];exact U14 _ e rfl
 have upd0:∀{h1:Heap} {f1 y:Value},h1.get? it=some (Io f1 i S es.size ep)->(h1.update it (U3q (·.setIfInBounds 0 y))).get? it=some (Io y i S es.size ep):=fun {h1 f1 y} e=>by
  rw[←Rq f1 y i S es.size ep];exact U14 _ e rfl
 cases r with
 |text k z1 z2 =>
  show wpAny _ _ (setNext S k.toNat i ep >>= _) _ _ s
  refine U0 (PJ ho hd hf z1 ?_)
  have q:=z2 i
  rw[hv] at q
  cases hp:(pickOrder (w.params.setOrder S ep) es)[i]? with
  |none=>rw[hp] at q;cases q
  |some e =>
   rw[hp] at q
   have q':v=e.2:=U00 q
   subst q'
   refine U0 (U2z hi rfl (by simp) (U0 (U2z (upd0 hi) rfl (by simp) (U0d ⟨_,rfl,U0d (h _ ((U1n ..).trans (U1n ..)) ⟨ne,o,es,ep,t,_,?_,hd,hf,hl,upd1 (upd0 hi),.text _ z1 z2⟩)⟩))))
   rw[U1d _ _ ne,U1d _ _ ne];exact ho
 |plain z1 z2 z3 z4 =>
  show wpAny _ _ (setNext S (Int.toNat ((if i=0 then 0 else t.place.getD (i-1) 0+1:Nat):Int)) i ep >>= _) _ _ s
  rw[U3b]
  refine U0 (Nz ho hd hf z1 z2 z3.2 ?_)
  have psz:t.place.size=es.size:=by
   have q:=hf
   simp only[SetTable.fits,U0y,beq_iff_eq] at q
   exact q.1
  have hb:U1j t.place (if i=0 then 0 else t.place.getD (i-1) 0+1)=i:=by
   cases i with
   |zero=>rw[if_pos rfl];exact SN z3.1
   |succ i=>rw[if_neg (by omega)];exact SQ z3.1 (by omega)
  rw[hb]
  have q:=z4 i
  rw[hv] at q
  have hie:i<es.size:=by omega
  have hip:i<t.place.size:=by omega
  rw[U10 hie] at q ⊢
  rw[U10 hip]
  have q':v=es[i].2:=U00 q
  subst q'
  show wpAny _ _ (setField (.ref it) 0 (rawInt ((t.place[i]+1:Nat):Int)) >>= _) _ _ s
  refine U0 (U2z hi rfl (by simp) (U0 (U2z (upd0 hi) rfl (by simp) (U0d ⟨_,rfl,U0d (h _ ((U1n ..).trans (U1n ..)) ⟨ne,o,es,ep,t,_,?_,hd,hf,hl,upd1 (upd0 hi),?_⟩)⟩))))
  .rw[U1d _ _ ne,U1d _ _ ne];exact ho
  .have e:t.place[i]=t.place.getD (i+1-1) 0:=by
    rw[U2v,Nat.add_sub_cancel,U10 hip];rfl
   have rr:∀hp:Heap,Road w hp es ep t S it T vs (i+1) (.int ((t.place[i]+1:Nat):Int) 0):=fun hp=>by
    have r1:Road w hp es ep t S it T vs (i+1) (.int ((if i+1=0 then 0 else t.place.getD (i+1-1) 0+1:Nat):Int) 0):=.plain z1 z2 z3 z4
    rw[if_neg (by omega),←e] at r1
    exact r1
   exact rr _
 |drawn ps z1 z2 z3 z4 =>
  show wpAny _ _ (seqItems? (.ref T) >>= _) _ _ s
  refine U0 (U2o z2 rfl ?_)
  have q:=z4 i
  rw[hv] at q
  cases hp:ps[i]? with
  |none=>rw[hp] at q;cases q
  |some p =>
   rw[hp] at q
   have hlt:p<es.size:=z3 p (U1l hp)
   have q2:some v=(es[p]?).map fun(e:Int×Value)=>e.2:=q
   rw[U10 hlt] at q2
   have q':v=es[p].2:=U00 q2
   subst q'
   have hg:((ps.map fun(p:Nat)=>rawInt p).toArray)[i]?=some (rawInt p):=by
    rw[U54,U05,hp];rfl
   show wpAny _ _ (match ((ps.map fun(p:Nat)=>rawInt p).toArray)[(i:Int).toNat]? with|some (.int place _)=>_|some _=>_|none=>_) _ _ s
   rw[U3b,hg]
   show wpAny _ _ (setNextDrawn S p ep >>= _) _ _ s
   unfold setNextDrawn
   refine U0 (U0 (U34 ho hd hf ?_))
   show wpAny _ _ (if (ep != ep)=true then _ else _) _ _ s
   rw[if_neg (by simp)]
   dsimp only
   rw[U10 hlt]
   refine U0d ?_
   refine U0 (U2z hi rfl (by simp) (U0d ⟨_,rfl,U0d (h _ (U1n ..) ⟨ne,o,es,ep,t,_,?_,hd,hf,hl,upd1 hi,.drawn ps z1 ?_ z3 z4⟩)⟩))
   .rw[U1d _ _ ne];exact ho
   .rw[U1d _ _ z1.symm];exact z2
theorem bI{it S T:Addr}{vs:List Value}{Q:Option Value->Shared->Prop}(hh:A.handled=none)(x:Ka w s.heap it S T vs vs.length)
  (h:∀h',U48 it s.heap h'->Q none { s with heap:=h' }):wpAny (model prog w) A (pyNext (.ref it)) Q E s:=by
 obtain⟨ne,o,es,ep,t,first,ho,hd,hf,hl,hi,r⟩:=x
 have hT:s.TypeIs (.ref it) "set_iterator":=⟨_,hi,rfl⟩
 unfold pyNext
 refine U0 (U45 (wpAny_callSpecial?_slot (name:=U23 "__next__") hT Em (U17 Em hT Lk ?_ (M9 _))))
 unfold Builtin.«set_iterator.__next__» slotArgs
 simp only[U6x,U50,U1z,↓reduceIte,U1h,bne_self_eq_false]
 refine U0 (U0d ?_)
 refine U0 (wpAny_fieldsOf hi rfl ?_)
 show wpAny _ _ (setEntries S >>= _) _ _ s
 refine U0 (U6c ho hd hf ?_)
 show wpAny _ _ (if ((es.size:Int) != (es.size:Int))=true then _ else _) _ _ s
 rw[if_neg (by simp)]
 have stop:∀{s1:Shared},U48 it s.heap s1.heap->s1={ s with heap:=s1.heap }->wpAny (model prog w) A.in1 (newExc (.type "StopIteration") [] >>= fun e=>(raiseNew e:Sem Fin)) (fun fin s'=>∃v,fin=.done (.ret v)/\wpAny (model prog w) A (pure (some v)) Q E s')
   (fun e s'=>wpAny (model prog w) A (do if ←isInstance e (.type "StopIteration") then pure none else throw e) Q E s') s1:=fun {s1} eb es1=>by
  refine U0 ?_
  simp only[newExc,newTuple]
  refine U0 (U19 ?_ (by size_fits))
  refine U0 (m:=firstArgMember _ _) (wpAny_of_eq (a:=U2g) (by first|rfl|(simp only[firstArgMember];rfl)) ?_)
  refine U19 ?_ (by size_fits)
  simp only[raiseNew]
  refine U0 (wpAny_handled ?_)
  rw[show A.in1.handled=none from hh]
  refine U0 (U0d (wpAny_throw ?_))
  refine U0 (U42 (T:="StopIteration") (b:=true) ⟨_,U0s _ rfl,rfl⟩ isSubtype_stop ?_)
  rw[if_pos rfl,es1]
  exact U0d (h _ ((eb.push _).push _))
 cases r with
 |text k z1 z2 =>
  show wpAny _ _ (setNext S k.toNat vs.length ep >>= _) _ _ s
  refine U0 (PJ ho hd hf z1 ?_)
  have q:=z2 vs.length
  rw[U55 (U0k _)] at q
  cases hp:(pickOrder (w.params.setOrder S ep) es)[vs.length]? with
  |some e=>rw[hp] at q;cases q
  |none =>
   refine U0 (U2z hi rfl (by simp) ?_)
   exact stop (s1:={ s with heap:=s.heap.update it (U3q (·.setIfInBounds 2 U2g)) }) (U1n ..).extBut rfl
 |plain z1 z2 z3 z4 =>
  generalize hsl:(if vs.length=0 then 0 else t.place.getD (vs.length-1) 0+1:Nat)=sl
  show wpAny _ _ (setNext S (Int.toNat (sl:Int)) vs.length ep >>= _) _ _ s
  rw[U3b]
  refine U0 (Nz ho hd hf z1 z2 z3.2 ?_)
  have psz:t.place.size=es.size:=by
   have q:=hf
   simp only[SetTable.fits,U0y,beq_iff_eq] at q
   exact q.1
  have hb:U1j t.place sl=vs.length:=by
   rw[←hsl]
   generalize vs.length=n at hl
   cases n with
   |zero=>rw[if_pos rfl];exact SN z3.1
   |succ i=>rw[if_neg (by omega)];exact SQ z3.1 (by omega)
  rw[hb,hl,Array.getElem?_eq_none (U0k _)]
  refine U0 (U2z hi rfl (by simp) ?_)
  exact stop (s1:={ s with heap:=s.heap.update it (U3q (·.setIfInBounds 2 U2g)) }) (U1n ..).extBut rfl
 |drawn ps z1 z2 z3 z4 =>
  show wpAny _ _ (seqItems? (.ref T) >>= _) _ _ s
  refine U0 (U2o z2 rfl ?_)
  have q:=z4 vs.length
  rw[U55 (U0k _)] at q
  have hg:((ps.map fun(p:Nat)=>rawInt p).toArray)[vs.length]?=none:=by
   rw[U54,U05]
   cases hp:ps[vs.length]? with
   |none=>rfl
   |some p =>
    rw[hp] at q
    have hlt:p<es.size:=z3 p (U1l hp)
    have q2:none=(es[p]?).map fun(e:Int×Value)=>e.2:=q
    rw[U10 hlt] at q2
    cases q2
  show wpAny _ _ (match ((ps.map fun(p:Nat)=>rawInt p).toArray)[(vs.length:Int).toNat]? with|some (.int place _)=>_|some _=>_|none=>_) _ _ s
  rw[U3b,hg]
  refine U0 (U2z hi rfl (by simp) ?_)
  have e0:(s.heap.update it (U3q (·.setIfInBounds 0 (rawInt 0)))).get? it=some (Io (rawInt 0) vs.length S es.size ep):=by
   rw[←Rq (.ref T) (rawInt 0) vs.length S es.size ep];exact U14 _ hi rfl
  refine U0 (U2z e0 rfl (by simp) ?_)
  exact stop (s1:={ s with heap:=(s.heap.update it (U3q (·.setIfInBounds 0 (rawInt 0)))).update it (U3q (·.setIfInBounds 2 U2g)) }) ((U1n ..).trans (U1n ..)).extBut rfl
end
end SetP
end
section
set_option maxRecDepth 100000
namespace SetP
open PySem PyProof.Rows
theorem M8:Slot "set_iterator" "__iter__" "set_iterator.__iter__" :=
 .of (owner:="set_iterator") (n:="__iter__") (by rw[typeLookup_type,builtinLookup_eq_fast];kernel_rfl) (by decide +kernel) (by decide +kernel) (by decide +kernel)
  (by first|exact .inl (by decide +kernel)|exact .inr (by decide +kernel)) (by rw[isSubtype_type];kernel_rfl)
theorem RL:entryFor table "set_iterator.__iter__"=some Builtin.«dict_keyiterator.__iter__» :=
 entryFor_alias (id':="dict_keyiterator.__iter__") (by kernel_rfl) rfl (by decide +kernel) (by kernel_rfl)
theorem Sg(a:Value):argsOk "set_iterator.__iter__" ⟨[a],[]⟩:=by unfold argsOk;kernel_rfl
theorem ZQ:typeLookup (.type "set") "__len__"=pure (some (.builtin "set.__len__")):=F.slot_set_len.lookup
section
variable{prog:Program}{w:World}{A:Around}{E:Value->Shared->Prop}{s:Shared}
theorem jC(hh:A.handled=none)(it S T:Addr)(vs:List Value):Walks prog w A it [it,S,T] [it] vs.length (fun i v=>vs[i]?=some v) (fun i h=>Ka w h it S T vs i) where
 sub:=fun b hb=>by simp at hb;subst hb;simp
 frame:=fun i h h' x k=>x.keep fun b hb o e=>k b hb o e
 item:=fun i s Q E hi x hQ=>by
  have hv:vs[i]?=some vs[i]:=U0q hi
  exact ZK x hv fun h' sb x'=>hQ _ h' s.toks hv x' fun b o hb e=>(sb.2 b (by simpa using hb)).trans e
 done:=fun s Q E x hQ=>bI hh x fun h' eb=>hQ h' s.toks fun b o hb e=>eb b o (by simpa using hb) e
 self:=fun i s Q E x hQ=>by
  obtain⟨_,o,es,ep,t,first,_,_,_,_,hi,_⟩:=x
  have hT:s.TypeIs (.ref it) "set_iterator":=⟨_,hi,rfl⟩
  refine U6s hT M8 (U17 M8 hT RL ?_ (Sg _))
  show wpAny _ _ (ret (.ref it)) _ _ s
  exact U0d ⟨_,rfl,"set_iterator",_,hT,Em.lookup,hQ⟩
theorem qZ{S:Addr}{Q:Bool->Shared->Prop}(hT:s.TypeIs (.ref S) "set")(h:Q false s):wpAny (model prog w) A (U40 (.ref S)) Q E s:=by
 unfold U40
 refine U0 (U63 hT ZQ ?_)
 have hs:splitId "set.__len__"=some ("set","__len__"):=by decide +kernel
 dsimp only
 rw[hs]
 dsimp only
 refine U0 (U42 hT sub_set_self ?_)
 simp only[U50,U1z,if_false]
 refine U0 (U5i hT ?_)
 exact U0d h
theorem bw{S:Addr}{ds:List Int}{Q:List Value->Shared->Prop}(hh:A.handled=none)(hS:SetT prog w s.heap S ds)(h64:ds.length<64)
  (h:∀h' d' tk vs ns,(∀b o,s.heap.get? b=some o->h'.get? b=some o)->IntsAre vs ns->ns.Perm ds->Q vs { s with heap:=h',drawn:=d',toks:=tk }):wpAny (model prog w) A (collect (.ref S)) Q E s:=by
 obtain⟨o,ho,hex⟩:∃o,s.heap.get? S=some o/\o.ExactSet:=by
  obtain⟨_,o,es,ep,t,ho,hex,_⟩:=hS
  exact⟨o,ho,hex⟩
 have hlt:=U0j ho
 unfold collect
 refine U0 (wpAny_runValue (codeAny_builtin F.entry_proto_collect ?_))
 rw[U3 F.plain_proto_collect _]
 show wpAny _ A.in1 (newList [] >>= fun l=>again (.builtin "list.__iadd__" ⟨[l,.ref S],[]⟩)) _ _ s
 refine U0 (U19 (U0d ⟨plainId_quiet F.plain_list_iadd _,codeAny_builtin F.entry_list_iadd ?_⟩))
 rw[U3 F.plain_list_iadd _]
 generalize hL:s.heap.objs.size=L
 generalize hg:s.heap.push { cls:=.type "list",dict:=none,data:=.seq ([]:List Value).toArray }=g
 have k1:∀b o,s.heap.get? b=some o->g.get? b=some o:=fun b o e=>hg ▸ U0b _ e
 have hLg:g.get? L=some { cls:=.type "list",data:=.seq ([]:List Value).toArray }:=hg ▸ hL ▸ U0s _ rfl
 have hsz:g.objs.size=L+1:=by rw[←hg,U18,hL]
 have hLS:L≠S:=by rw[←hL];exact U1q hlt
 have hT:U51 { s with heap:=g } (.ref S) "set":=⟨o,k1 _ _ ho,hex.1⟩
 show wpAny _ A.in1 (U3d (.ref L) (.ref S) (.ref L)) _ _ _
 unfold U3d
 refine U0 (U5i hT ?_)
 have h1:U4e (.ref L) (.ref S)=false:=by simp[U4e,hLS]
 have h2:(U3f "set"==U3f "list")=false:=by decide
 have h3:(U3f "set"==U3f "tuple")=false:=by decide
 simp only[h1,h2,h3,U44,U1z,if_false]
 refine U0 (qY (s:={ s with heap:=g }) (hS.sameBut fun o e=>k1 _ _ e) fun g2 d2 it T vs k2 hit hTT x ⟨ns,hi,hp⟩=>?_)
 have hT2:U51 { s with heap:=g2,drawn:=d2 } (.ref S) "set":=⟨o,k2 _ _ (k1 _ _ ho),hex.1⟩
 refine U0 (U2f (qZ hT2 ?_))
 have hit':L<it:=by
  have hit2:g.objs.size<=it:=hit
  omega
 show wpAny _ A.in1 (rule "list.extend.makes-room" >>= fun _=>Builtin.List.listTouch (.ref L) >>= fun _=>again (.builtin "list.extend.loop" ⟨[.ref L,.ref it,.ref L],[]⟩)) _ _ _
 refine U0 (U41 (U0 ?_))
 have e1:=k2 _ _ hLg
 show wpAny _ A.in1 (updateSeq L (·.push .none) >>= fun _=>updateSeq L (·.pop)) _ _ _
 refine U0 (U4q e1 rfl ?_)
 have e2:=U14 (U15 (·.push U2g)) e1 rfl
 refine U4q e2 rfl ?_
 have e3:=U14 (U15 (·.pop)) e2 rfl
 have oth:∀b o,b≠L->g2.get? b=some o->((g2.update L (U15 (·.push U2g))).update L (U15 (·.pop))).get? b=some o:=fun b o hb e=>(U1d _ _ (U1m hb)).trans ((U1d _ _ (U1m hb)).trans e)
 have hvn:vs.length=ns.length:=IntsAre.length hi
 have hv64:vs.length<64:=by rw[hvn,hp.length_eq];exact h64
 have hz:vs.length<=sizeLine:=by rw[sizeLine_eq];omega
 have nin:L ∉ [it,S,T]:=fun z=>by
  simp only[U0r,U12,or_false] at z
  rcases z with z|z|z
  .omega
  .exact hLS z
  .rcases hTT with q|q
   .exact hLS (z.trans q)
   .have q':g.objs.size<=T:=q
    omega
 have W:=(jC (prog:=prog) (w:=w) (A:=A.in1) (by simpa using hh) it S T vs).toS
 have x3:Ka w ((g2.update L (U15 (·.push U2g))).update L (U15 (·.pop))) it S T vs 0:=x.keep fun b hb o e=>oth b o (fun z=>nin (z ▸ hb)) e
 refine U0d ⟨plainId_quiet F.plain_extend_loop _,codeAny_extend_loopS W hz L nin _ vs.length 0 _ _ _ (by omega) (U2y _) x3 e3 (ItemsOf.nil _) fun s' acc c hm hS' hacc=>?_⟩
 show wpAny _ A (load L >>= _) _ _ s'
 refine U0 (wpAny_load hS' ?_)
 have eacc:acc.toList=vs:=by
  apply List.ext_getElem?
  intro j
  rw[U3w]
  cases hj:acc[j]? with
  |some v=>exact(hacc.2 j v hj).symm
  |none =>
   have:acc.size<=j:=by simpa using hj
   rw[hacc.1] at this
   exact(U55 this).symm
 obtain⟨h',g',d',tk,os'⟩:=s'
 have q1:g'=s.gens:=hm.gens
 have q2:os'=s.os:=hm.os
 subst q1 q2
 refine U0d ?_
 show Q acc.toList _
 rw[eacc]
 refine h h' d' tk vs ns (fun b o e=>hm.heap b o ?_ (oth b o ?_ (k2 _ _ (k1 _ _ e)))) hi hp
 .have hb:b<L:=by rw[←hL];exact U0j e
  intro z
  rcases U0r.mp z with z|z
  .exact absurd z (U0v hb)
  .exact absurd (U0w.mp z) (U0v (U2p hb hit'))
 .exact U0v (by rw[←hL];exact U0j e)
theorem SX{h:Heap}{a:Addr}{vs:List Value}{n:Nat}{out:Array Value}(ho:h.get? a=some (seqObj "list" vs.toArray n)):∃n',(sortedHeap h a vs out).get? a=some (seqObj "list" out n'):=by
 unfold sortedHeap
 have q1:=get?_update_seq ho (fun _=>#[])
 exact⟨_,get?_update_seq (U0b _ (U0b _ q1)) (fun _=>out)⟩
theorem RJ{h:Heap}{a b:Addr}{vs:List Value}{out:Array Value}{o:Obj}(hb:b≠a)(ho:h.get? b=some o):(sortedHeap h a vs out).get? b=some o:=by
 unfold sortedHeap
 rw[U1d _ _ (U1m hb)]
 exact U0b _ (U0b _ ((U1d _ _ (U1m hb)).trans ho))
theorem dO{S:Addr}{ds:List Int}{Q:Value->Shared->Prop}(hh:A.handled=none)(hS:SetT prog w s.heap S ds)(h64:ds.length<64)
  (h:∀h' d' tk l vs ns n,(∀b o,s.heap.get? b=some o->h'.get? b=some o)->(∀b o,s.heap.get? b=some o->b<l)->h'.get? l=some { cls:=.type "list",data:=.seq vs n }->IntsAre vs.toList ns->ns.Perm ds->ns.Pairwise (·<=·)->Q (.ref l) { s with heap:=h',drawn:=d',toks:=tk }) :
  wpAny (model prog w) A (call (.builtin "sorted") [.ref S]) Q E s:=by
 refine Calls.call_function_entry kind_sorted plain_sorted entry_sorted (args_sorted1 _) ?_
 unfold Builtin.«sorted»
 refine U0 (m:=checkCount "sorted" 1 1 _) (U0d ?_)
 refine U0 (bw (A:=A.in1) (by simpa using hh) hS h64 fun h1 d1 t1 vs ns k1 hi hp=>?_)
 have hv64:vs.length<64:=by rw[show vs.length=ns.length from IntsAre.length hi,hp.length_eq];exact h64
 refine U0 (wpAny_newList ?_)
 have hoL:(h1.push (seqObj "list" vs.toArray 0)).get? h1.objs.size=some (seqObj "list" vs.toArray 0):=U0s _ rfl
 show wpAny _ _ _ _ _ { s with heap:=h1.push (seqObj "list" vs.toArray 0),drawn:=d1,toks:=t1 }
 refine U0 (U2f (U17 slot_list_sort ⟨_,hoL,rfl⟩ entry_list_sort (list_sort_tree hoL hi hv64 fun out ns' a1 a2 a3=>⟨_,rfl,?_⟩) (args_list_sort _)))
 refine U0d ⟨_,rfl,?_⟩
 have old:∀b o,s.heap.get? b=some o->b≠h1.objs.size:=fun b o e=>U0v (U0j (k1 b o e))
 obtain⟨n',e'⟩:=SX (out:=out) hoL
 refine h _ d1 t1 h1.objs.size out ns' n' (fun b o e=>RJ (old b o e) (U0b _ (k1 b o e))) (fun b o e=>U0j (k1 b o e)) e' a1 (a2.trans hp) a3
end
end SetP
end
section
namespace L2
open PySem PySem.Spec PyProof.Rows
def PTs(X:Cx)(ifs:List Expr)(t:TT):Prop :=
 ∀(pins:List (Addr×Obj))(s:Shared)(σ:St)(H:Hp)(Q:Bool->Hp->Prop),Inv X pins σ H s->t σ H Q ->
  wpAny (model X.prog X.w) X.A (forIn ifs true fun c r=>if r=true then do let ok ←isTrue c X.env (eval c X.env);pure (U59 ok) else pure (U59 r)) (TP X pins σ Q) X.xe s
def Ga:TT:=fun _ H Q=>Q true H
theorem jV{X:Cx}:PTs X [] Ga:=fun _ _ _ H _ I h=>U0d ⟨H,I,h⟩
theorem jU{X:Cx}{c:Expr}{t:TT}(h:PT X c t):PTs X [c] t:=by
 intro pins s σ H Q I hw
 rw[U3y]
 simp only[if_true]
 refine U0 (U0 (thn (h pins s σ H Q I hw) fun b s1 hb=>U0d ?_))
 show wpAny _ _ (pure b) _ _ _
 exact U0d hb
def Low(k:Nat)(g:TG):Prop:=∀x σ H Q,g x σ H Q->g x σ H fun σ' H'=>Q σ' H'/\σ'.length=σ.length/\∀j,k<=j->σ'[j]?=σ[j]?
def VH(k:Nat)(g:TGs):Prop:=∀x σ H Q,g x σ H Q->g x σ H fun σ' H'=>Q σ' H'/\σ'.length=σ.length/\∀j,k<=j->σ'[j]?=σ[j]?
theorem fV{k i:Nat}(h:i<k):Low k (V6 i):=fun x σ H Q q =>
 ⟨q,U4n ..,fun j hj=>U28 (by omega)⟩
theorem jz{k:Nat}:VH k cX:=fun _ _ _ _ ⟨e,q⟩=>⟨e,q,rfl,fun _ _=>rfl⟩
theorem fX{k:Nat}{t:TG}{u:TGs}(ht:Low k t)(hu:VH k u)(mono:∀x σ H Q Q',(∀σ' H',Q σ' H'->Q' σ' H')->t x σ H Q->t x σ H Q')
  (monoU:∀x σ H Q Q',(∀σ' H',Q σ' H'->Q' σ' H')->u x σ H Q->u x σ H Q'):VH k (Yz t u):=fun x σ H Q ⟨v,r,e,q⟩=>by
 refine⟨v,r,e,mono v σ H _ _ (fun σ1 H1 z=>?_) (ht v σ H _ q)⟩
 obtain⟨z1,z2,z3⟩:=z
 exact monoU r σ1 H1 _ _ (fun σ2 H2 y=>⟨y.1,y.2.1.trans z2,fun j hj=>(y.2.2 j hj).trans (z3 j hj)⟩) (hu r σ1 H1 _ z1)
theorem jy{K:U0a}{n k:Nat}{t:TGs}(h:VH k t):Low k (cW K n t):=fun x σ H Q ⟨a,xs,e,hs,hl,q⟩=>⟨a,xs,e,hs,hl,h xs σ H Q q⟩
def compLook(sc:Scope)(N N2:List Str)(k:Nat)(caps:List Nat)(scope:Scope):Bool :=
 decide (scope.kind=.function)&&scope.names.all (fun y=>decide (y.2≠.cell)||decide (scope.names.lookup y.1=some .cell))&&scope.names.all (fun y=>decide (y.2≠.local)||decide (scope.names.lookup y.1=some .local)) &&
 scope.names.all (fun y=>decide (y.2≠.free)||decide (sc.names.lookup y.1=some .cell)||decide (sc.names.lookup y.1=some .free))&&decide N2.Nodup&&decide (N2.length=k+caps.length) &&
 (U0p caps.length).all fun j=>match caps[j]?,N2[k+j]? with
  |some i,some y=>decide (N[i]?=some y)&&decide (scope.names.lookup y=some .free)
  |_,_=>false
structure FZ(sc:Scope)(N N2:List Str)(k:Nat)(caps:List Nat)(scope:Scope):Prop where
 kind:scope.kind=.function
 one:∀y∈scope.names,y.2=.cell->scope.names.lookup y.1=some .cell
 loc:∀y∈scope.names,y.2=.local->scope.names.lookup y.1=some .local
 free:∀y∈scope.names,y.2=.free->sc.names.lookup y.1=some .cell∨sc.names.lookup y.1=some .free
 nd:N2.Nodup
 len:N2.length=k+caps.length
 cap:∀j i,caps[j]?=some i->∃y,N2[k+j]?=some y/\N[i]?=some y/\scope.names.lookup y=some .free
theorem FZ.of{sc:Scope}{N N2:List Str}{k:Nat}{caps:List Nat}{scope:Scope}(h:compLook sc N N2 k caps scope=true):FZ sc N N2 k caps scope:=by
 unfold compLook at h
 simp only[U0y,U3j,U4o,decide_eq_true_eq] at h
 obtain⟨⟨⟨⟨⟨⟨h1,h2⟩,h3⟩,h4⟩,h5⟩,h6⟩,h7⟩:=h
 refine⟨h1,fun y hy e=>?_,fun y hy e=>?_,fun y hy e=>?_,h5,h6,fun j i e=>?_⟩
 .rcases h2 y hy with z|z
  .exact absurd e z
  .exact z
 .rcases h3 y hy with z|z
  .exact absurd e z
  .exact z
 .rcases h4 y hy with (z|z)|z
  .exact absurd e z
  .exact .inl z
  .exact .inr z
 .have hj:j∈U0p caps.length:=U2n.mpr (U0l.mp e).1
  have q:=h7 j hj
  rw[e] at q
  cases hy:N2[k+j]? with
  |none=>rw[hy] at q;exact absurd q (by simp)
  |some y =>
   rw[hy] at q
   simp only[U0y,decide_eq_true_eq] at q
   exact⟨y,rfl,q.1,q.2⟩
theorem PK{env:Env}:∀{names:List (Str×NameKind)} {x:Str},names.lookup x=some .free ->
  (names.map fun(n,k)=>if (k==U2a&&env.scope.kind==.function&&env.kindOf n==some .cell) then (n,U3g) else (n,k)).lookup x=some .cell ∨
  (names.map fun(n,k)=>if (k==U2a&&env.scope.kind==.function&&env.kindOf n==some .cell) then (n,U3g) else (n,k)).lookup x=some .free
 |[],_,h=>by simp at h
 |(n,k)::r,x,h=>by
  have ih:=@PK env r x
  show U68 x ((if (k==U2a&&env.scope.kind==.function&&env.kindOf n==some .cell)=true then (n,U3g) else (n,k))::_)=_∨U68 x ((if (k==U2a&&env.scope.kind==.function&&env.kindOf n==some .cell)=true then (n,U3g) else (n,k))::_)=_
  cases hx:x==n with
  |true =>
   simp only[U1r,hx] at h
   cases h
   by_cases hc:(U2a==U2a&&env.scope.kind==.function&&env.kindOf n==some .cell)=true
   .rw[if_pos hc];left;simp only[U1r,hx]
   .rw[if_neg hc];right;simp only[U1r,hx]
  |false =>
   simp only[U1r,hx] at h
   by_cases hc:(k==U2a&&env.scope.kind==.function&&env.kindOf n==some .cell)=true
   .rw[if_pos hc];simp only[U1r,hx];exact ih h
   .rw[if_neg hc];simp only[U1r,hx];exact ih h
theorem PL{env:Env}:∀{names:List (Str×NameKind)} {x:Str},
  ((names.map fun(n,k)=>if (k==U2a&&env.scope.kind==.function&&env.kindOf n==some .cell) then (n,U3g) else (n,k)).lookup x=some .cell ∨
   (names.map fun(n,k)=>if (k==U2a&&env.scope.kind==.function&&env.kindOf n==some .cell) then (n,U3g) else (n,k)).lookup x=some .free)->names.lookup x=some .free∨names.lookup x=some .cell
 |[],_,h=>by simp at h
 |(n,k)::r,x,h=>by
  have ih:=@PL env r x
  cases hx:x==n with
  |true =>
   simp only[U1r,hx]
   by_cases hf:k=.free
   .rw[hf];exact .inl rfl
   .have hkf:(k==U2a)=false:=by
     cases k<;>first|rfl|exact absurd rfl hf
    simp only[U0t,hkf,Bool.false_and,U1z,if_false,U1r,hx] at h
    rcases h with z|z
    .exact .inr z
    .exact absurd (U00 z) hf
  |false =>
   simp only[U1r,hx]
   refine ih ?_
   have h':U68 x ((if (k==U2a&&env.scope.kind==.function&&env.kindOf n==some .cell)=true then (n,U3g) else (n,k))::List.map _ r)=some .cell∨U68 x ((if (k==U2a&&env.scope.kind==.function&&env.kindOf n==some .cell)=true then (n,U3g) else (n,k))::List.map _ r)=some .free:=h
   by_cases hcc:(k==U2a&&env.scope.kind==.function&&env.kindOf n==some .cell)=true
   .rw[if_pos hcc] at h';simp only[U1r,hx] at h';exact h'
   .rw[if_neg hcc] at h';simp only[U1r,hx] at h';exact h'
theorem Gp:∀(names:List (Str×NameKind))(n:Nat)(acc:List (Str×Addr)),cellsFrom n names acc=cellsFrom n names []++acc
 |[],_,_=>rfl
 |(x,k)::r,n,acc=>by
  unfold cellsFrom
  split
  .rw[Gp r (n+1) ((x,n)::acc),Gp r (n+1) [(x,n)],U4w];rfl
  .exact Gp r n acc
theorem KQ:∀(names:List (Str×NameKind))(n:Nat){x:Str}{c:Addr},(x,c)∈cellsFrom n names []->(x,U3g)∈names
 |[],_,_,_,h=>by simp[cellsFrom] at h
 |(y,k)::r,n,x,c,h=>by
  unfold cellsFrom at h
  split at h
  .rename_i hk
   rw[Gp] at h
   rcases U1w.mp h with z|z
   .exact U0z _ (KQ r (n+1) z)
   .have z':(x,c)=(y,n):=by simpa using z
    have hk':k=.cell:=by simpa using hk
    cases z'
    rw[hk'];exact U0g
  .exact U0z _ (KQ r n h)
theorem ZP{cs ds:List (Str×Addr)}{x:Str}{c:Addr}(h:(cs++ds).lookup x=some c):cs.lookup x=some c∨(cs.lookup x=none/\ds.lookup x=some c):=by
 rw[U4r] at h
 cases e:cs.lookup x with
 |none=>rw[e] at h;exact .inr ⟨rfl,h⟩
 |some d=>rw[e] at h;exact .inl h
theorem Xf{M:Model}{A:Around}{E:Value->Shared->Prop}{s:Shared}{scope:Scope}{globals:Addr}{cl:List (Str×Addr)}{qual:Str}{env:Env}{Q:Env->Shared->Prop}
  (hQ:∀h':Heap,h'.Ns s.heap.objs.size (fun _=>none)->(∀b o,s.heap.get? b=some o->h'.get? b=some o)->CellsOk h' (s.heap.objs.size+1) (cellsFrom (s.heap.objs.size+1) scope.names []) ->
   Q { scope,locals:=s.heap.objs.size,globals,cells:=cellsFrom (s.heap.objs.size+1) scope.names []++cl,qual,func:=none,code:=env.code,frame:=env.frame,builtins:=env.builtins } { s with heap:=h' }) :
  wpAny M A (newFunctionEnv scope globals cl [] qual none .none (some env)) Q E s:=by
 simp only[newFunctionEnv,Option.isSome_some,if_true]
 refine U0 (wpAny_alloc ?_)
 refine U0 (wpAny_layCells _ (fun name kind cells=>by cases hkc:kind==U3g<;>simp[hkc]) _ _ _ _ ?_)
 rw[show({ s with heap:=s.heap.push { cls:=.type "dict",data:=.dict #[] } }:Shared).heap.objs.size=s.heap.objs.size+1 from U18 ..]
 have ok:=cellsFrom_ok scope.names (s.heap.push { cls:=.type "dict",data:=.dict #[] }) (s.heap.objs.size+1) [] ⟨fun _ _ hm=>(nomatch hm),U6p⟩ (by rw[U18];exact U0k _)
 rw[U18] at ok
 rw[Gp]
 refine U0 ?_
 rw[U5o]
 refine U0d (U0d (hQ _ ?_ ?_ ok))
 .exact(Heap.Ns.new s.heap (.type "dict")).keeps (pushCells_keeps _ _)
 .exact fun b o e=>pushCells_keeps _ _ b o (U0b _ e)
theorem S9{scope:Scope}{env:Env}(h:∀y∈scope.names,y.2=.free->∃c,env.cells.lookup y.1=some c) :
  ∃cl,closureFor scope env=pure cl/\(∀x c,cl.lookup x=some c->env.cells.lookup x=some c)/\∀x,scope.names.lookup x=some .free->∃c,cl.lookup x=some c:=by
 have all:∀(names:List (Str×NameKind))(cs:List (Str×Addr)),(∀y∈names,y.2=.free->∃c,env.cells.lookup y.1=some c)->(∀x c,cs.lookup x=some c->env.cells.lookup x=some c) ->
   ∃cl,(forIn names cs (fun(x:Str×NameKind) (cs:List (Str×Addr))=>(match x with
     |(name,kind)=>if (kind==U2a)=true then (cellOf env name >>= fun a=>pure (U59 ((name,a)::cs))) else pure (U59 cs):Sem (ForInStep (List (Str×Addr)))) ):Sem (List (Str×Addr)))=pure cl /\
    (∀x c,cl.lookup x=some c->env.cells.lookup x=some c)/\(∀x c,cs.lookup x=some c->∃c',cl.lookup x=some c')/\∀x,names.lookup x=some .free->∃c,cl.lookup x=some c:=by
  intro names
  induction names with
  |nil=>intro cs _ hc;exact⟨cs,rfl,hc,fun x c e=>⟨c,e⟩,fun x e=>by simp at e⟩
  |cons y r ih =>
   intro cs hy hc
   obtain⟨n,kd⟩:=y
   by_cases hk:kd=.free
   .subst hk
    obtain⟨c,hcn⟩:=hy (n,.free) U0g rfl
    have hc':∀x c',((n,c)::cs).lookup x=some c'->env.cells.lookup x=some c':=fun x c' e=>by
     rw[U1r] at e
     cases hx:x==n with
     |true =>
      rw[hx] at e
      have hxn:x=n:=by simpa using hx
      rw[hxn,hcn];exact e
     |false=>rw[hx] at e;exact hc x c' e
    obtain⟨cl,e1,e2,e3,e4⟩:=ih ((n,c)::cs) (fun z hz=>hy z (U0z _ hz)) hc'
    refine⟨cl,?_,e2,fun x c' e=>?_,fun x e=>?_⟩
    .rw[U3y]
     have hb:(U2a==U2a)=true:=rfl
     simp only[hb,if_true,cellOf,hcn,pure_bind]
     exact e1
    .by_cases hx:(x==n)=true
     .exact e3 x c (by rw[U1r,hx])
     .have hx':(x==n)=false:=by simpa using hx
      exact e3 x c' (by rw[U1r,hx'];exact e)
    .rw[U1r] at e
     cases hx:x==n with
     |true=>exact e3 x c (by rw[U1r,hx])
     |false=>rw[hx] at e;exact e4 x e
   .have hb:(kd==U2a)=false:=by
     cases kd<;>first|rfl|exact absurd rfl hk
    obtain⟨cl,e1,e2,e3,e4⟩:=ih cs (fun z hz=>hy z (U0z _ hz)) hc
    refine⟨cl,?_,e2,e3,fun x e=>?_⟩
    .rw[U3y]
     simp only[hb,U1z,if_false,pure_bind]
     exact e1
    .rw[U1r] at e
     cases hx:x==n with
     |true=>rw[hx] at e;exact absurd (U00 e) hk
     |false=>rw[hx] at e;exact e4 x e
 obtain⟨cl,e1,e2,_,e4⟩:=all scope.names [] h (fun x c e=>by simp at e)
 refine⟨cl,?_,e2,e4⟩
 unfold closureFor
 rw[←bind_pure (pure cl:Sem _),←e1]
abbrev Dc(X:Cx)(N2:List Str)(scope:Scope)(cl:List (Str×Addr))(C:Addr)(s:Shared)(H:Hp)(ex:List Addr):Cx :=
 { X with N:=N2,s₀:=s,H₀:=H,env:=compEnvC scope cl C X.env,outer:=X.stack,ex:=ex,fn:=fun x=>decide (scope.names.lookup x=some .cell),pn:=[],xe:=fun _ _=>False }
def Ih(k:Nat)(caps:List Nat)(σ:St):St:=U03 k none++caps.map fun j=>(σ[j]?).join
def uH(J:It)(k:Nat)(caps:List Nat)(σ:St)(g:TG)(tt:TT)(te:TE)(Q:VK)(H1:Hp):Prop:=∃W:Nat->Nat->List V->Hp->Prop,(∃m,W 0 m [] H1)/\∀i m ys H,W i m ys H ->
 (J.stop i H/\∀p,H p=none->Q (.ref p) (upd H p (.lst ys))) ∨
 (J.go i H/\ys.length<sizeLine/\∀x H',J.yld i H x H'->g x (Ih k caps σ) H' fun σ2 H2=>tt σ2 H2 fun b H3 =>
  if b=true then te σ2 H3 fun v H4=>∃m',m'<m/\W (i+1) m' (ys++[v]) H4 else ∃m',m'<m/\W (i+1) m' ys H3)
def Yr(k:Nat)(caps:List Nat)(wi:TI)(g:TG)(tt:TT)(te:TE):TE:=fun σ H Q=>wi σ H fun J H1=>uH J k caps σ g tt te Q H1
theorem Yc{k:Nat}{caps:List Nat}{σ:St}{i:Nat}{v:V}(h:(Ih k caps σ)[i]?=some (some v)):∃j a,i=k+j/\caps[j]?=some a/\σ[a]?=some (some v):=by
 unfold Ih at h
 by_cases hi:i<k
 .rw[U1b (by simpa using hi),U4f,if_pos hi] at h
  cases h
 .rw[U1v (by simpa using hi),U1y,U05] at h
  cases e:caps[i-k]? with
  |none=>rw[e] at h;cases h
  |some a =>
   rw[e] at h
   have h':(σ[a]?).join=some v:=U00 h
   refine⟨i-k,a,by omega,e,?_⟩
   cases e2:σ[a]? with
   |none=>rw[e2] at h';cases h'
   |some o =>
    rw[e2] at h'
    cases o with
    |none=>cases h'
    |some v' =>
     have h'':some v'=some v:=h'
     rw[h'']
theorem Js{a b n:Nat}(h1:a<n)(h2:n<=b):a≠b:=by omega
section
variable{X:Cx}{pins:List (Addr×Obj)}{σ:St}
theorem Inv.but{H:Hp}{s:Shared}{C:Addr}{h':Heap}(I:Inv X pins σ H s)(hb:U02 C s.heap h')(hn:H C=none)(hL:C≠X.env.locals)(h1:X.s₀.heap.objs.size<=C)(h2:∀x c,X.env.cells.lookup x=some c->c≠C)(h3:∀p∈X.pn++pins,p.1≠C) :
  Inv X pins σ H { s with heap:=h' }:=I.turned (t':=s.toks) (fun b o hne e=>(hb.2 b hne).trans e) hn hL (.inr h1) h2 h3
theorem S8{s2:Shared}{H2:Hp}{elt tg iter:Expr}{ifs:List Expr}{scope:Scope}{pos:Pos}{N2:List Str}{k:Nat}{caps:List Nat}{cl:List (Str×Addr)}{g:TG}{tt:TT}{te:TE}{E:Value->Shared->Prop}
  {it:Addr} {fp:List Addr} {tn:Nat->Heap->Prop} {J:It} {RR:Value->Addr->Result->Shared->Prop} {Qe:List V->Hp->Prop} {W:Nat->Nat->List V->Hp->Prop} {m0:Nat}
  (hc:X.calm=true) (hS:FZ X.env.scope X.N N2 k caps scope) (hlow:Low k g)
  (hcl:∀x c,cl.lookup x=some c->X.env.cells.lookup x=some c) (hcf:∀x,scope.names.lookup x=some .free->∃c,cl.lookup x=some c)
  (hb:∀(cl:List (Str×Addr))(C:Addr)(s:Shared)(H:Hp)(ex:List Addr),PG (Dc X N2 scope cl C s H ex) tg g/\PTs (Dc X N2 scope cl C s H ex) ifs tt/\PE (Dc X N2 scope cl C s H ex) elt te)
  (I2:Inv X pins σ H2 s2) (T:Turn X.prog X.w X.K tg J fp it tn) (st2:tn 0 s2.heap) (f2:∀b∈fp,MJ X pins H2 b) (w0:W 0 m0 [] H2)
  (turn:∀i m ys H,W i m ys H->(J.stop i H/\Qe ys H) ∨
   (J.go i H/\ys.length<sizeLine/\∀x H',J.yld i H x H'->g x (Ih k caps σ) H' fun σ2 H2=>tt σ2 H2 fun b H3 =>
    if b=true then te σ2 H3 fun v H4=>∃m',m'<m/\W (i+1) m' (ys++[v]) H4 else ∃m',m'<m/\W (i+1) m' ys H3))
  (hRR:∀D C s' H' ys,s2.heap.objs.size<=D->s2.heap.objs.size<=C->C≠D->H' D=none->H' C=none->Inv X pins σ (upd H' D (.lst ys)) s'->(∃m,s'.heap.Ns C m)->Qe ys H'->RR (.ref D) C (.ok .next) s') :
  wpAny (model X.prog X.w) X.A (newList []) (fun acc s₃=>wpAny (model X.prog X.w) X.A (newFunctionEnv scope X.env.globals cl [] X.env.qual none .none (some X.env)) (fun cenv s₄ =>
   codeAny (model X.prog X.w) X.A (.compStart (.ListComp elt [⟨tg,iter,ifs,0⟩] scope pos) 0 (.ref it) acc { cenv with scope:=relabel scope X.env }) (RR acc cenv.locals) s₄) E s₃) E s2:=by
 refine U19 (Xf fun h₁ hns₁ kp cok=>?_)
 dsimp only at hns₁ kp cok ⊢
 generalize hH3:s2.heap.push { cls:=.type "list",dict:=none,data:=.seq ([]:List Value).toArray }=H3 at hns₁ kp cok ⊢
 have hC:H3.objs.size=s2.heap.objs.size+1:=by rw[←hH3,U18]
 generalize hDD:s2.heap.objs.size=D at hC
 generalize hCC:H3.objs.size=C at hns₁ cok hC ⊢
 have hDC:D≠C:=by omega
 have szD:s2.heap.objs.size<=D:=U7g hDD
 have szC:s2.heap.objs.size<=C:=by rw[hDD,hC];exact U47 _
 have below:∀b o,s2.heap.get? b=some o->b≠C/\b≠D:=fun b o e=>⟨Js (U0j e) szC,Js (U0j e) szD⟩
 have old:∀b o,s2.heap.get? b=some o->h₁.get? b=some o:=fun b o e=>kp b o (hH3 ▸ U0b _ e)
 have hacc:h₁.get? D=some { cls:=.type "list",data:=.seq ([]:List Value).toArray 0 }:=kp _ _ (hH3 ▸ hDD ▸ U0s _ rfl)
 have f2h:∀b∈fp,∃o,s2.heap.get? b=some o:=fun b hbf=>let ⟨o,e,_⟩:=T.obj 0 _ st2 b hbf;⟨o,e⟩
 -- the block's context
 have okc:∀x c,X.env.cells.lookup x=some c->∃o,s2.heap.get? c=some o:=fun x c e=>let ⟨_,o,ho,_⟩:=I2.cell x c e;⟨o,ho⟩
 have oMem:∀x c,(cellsFrom (C+1) scope.names []).lookup x=some c->C+1<=c/\h₁.IsCell c none/\scope.names.lookup x=some .cell:=fun x c e=>by
  have m:=U2s e
  exact⟨(cok.empty x c m).2,(cok.empty x c m).1,hS.one _ (KQ _ _ m) rfl⟩
 have oHas:∀x,scope.names.lookup x=some .cell->∃c,(cellsFrom (C+1) scope.names []).lookup x=some c:=fun x e=>U4a.mp (U5w scope.names (C+1) [] (.inl e))
 have oApart:=cok.apart
 generalize cellsFrom (C+1) scope.names []=own at oMem oHas oApart ⊢
 have hcs:∀x c,(own++cl).lookup x=some c->(C+1<=c/\h₁.IsCell c none/\own.lookup x=some c)∨X.env.cells.lookup x=some c:=fun x c e=>by
  rcases ZP e with z|z
  .exact .inl ⟨(oMem x c z).1,(oMem x c z).2.1,z⟩
  .exact .inr (hcl x c z.2)
 have hlt:∀x c,X.env.cells.lookup x=some c->c<s2.heap.objs.size:=fun x c e=>let ⟨o,ho⟩:=okc x c e;U0j ho
 have OK:(Dc X N2 scope (own++cl) C s2 H2 fp).Ok:=by
  refine⟨I2.ok.mod,hS.kind,I2.ok.glob,I2.ok.blt,?_,fun x y c h1 h2=>?_,fun x hx=>?_,fun x c hf h1=>?_,I2.ok.hd,I2.ok.frames,.inl rfl,fun b hbf=>?_,I2.bs,
   U06 I2.ok.bsz I2.sz,fun b o e hbf=>?_,fun b hbf hb'=>?_,I2.stack,I2.Y5,I2.Qf⟩
  .exact szC
  .rcases hcs x c h1 with z|z
   .rcases hcs y c h2 with z'|z'
    .exact name_of_addr oApart (U2s z.2.2) (U2s z'.2.2)
    .exact absurd (hlt y c z') (Nat.not_lt.mpr (U06 szC (U06 (U47 _) z.1)))
   .rcases hcs y c h2 with z'|z'
    .exact absurd (hlt x c z) (Nat.not_lt.mpr (U06 szC (U06 (U47 _) z'.1)))
    .exact I2.ok.inj x y c z z'
  .rcases PL (env:=X.env) hx with z|z
   .obtain⟨c,e⟩:=hcf x z
    show ∃c,(own++cl).lookup x=some c
    rw[U4r]
    cases q:own.lookup x with
    |none=>exact⟨c,e⟩
    |some d=>exact⟨d,rfl⟩
   .obtain⟨c,e⟩:=oHas x z
    exact⟨c,by show(own++cl).lookup x=some c;rw[U4r,e];rfl⟩
  .obtain⟨d,e⟩:=oHas x (of_decide_eq_true hf)
   have h1':(own++cl).lookup x=some c:=h1
   rw[U4r,e] at h1'
   have e2:d=c:=U00 h1'
   rw[←e2]
   exact U06 szC (U06 (U47 _) (oMem x d e).1)
  .obtain⟨o,e⟩:=f2h b hbf
   refine⟨(below b o e).1,fun x c h1=>?_⟩
   rcases hcs x c h1 with z|z
   .exact fun w=>absurd (U0j e) (by rw[←w];exact Nat.not_lt.mpr (U06 szC (U06 (U47 _) z.1)))
   .exact(f2 b hbf).2.2.2.2.1 x c z
  .rcases(f2 b hbf).2.2.2.1 with z|z
   .exact I2.ok.noex b o e z
   .exact absurd (U0m (U0j (I2.ok.bs b o e).1) z) (U3p _)
  .rcases U0r.mp (I2.O9 b hb') with z|z
   .exact(f2 b hbf).2.1 z
   .exact(f2 b hbf).2.2.1 z
 have fresh:∀a,s2.heap.objs.size<=a->H2 a=none:=fun a ha=>I2.hok.fresh ha
 have I4:∀tk,Inv (Dc X N2 scope (own++cl) C s2 H2 fp) [(D,{ cls:=.type "list",data:=.seq ([]:List Value).toArray 0 })] (Ih k caps σ) H2 { s2 with heap:=h₁,toks:=tk }:=fun tk=>by
  refine⟨OK,rfl,I2.bare,Un.kept old,⟨_,hns₁,fun i x v e1 e2 e3=>?_⟩,fun x c e=>?_,fresh C szC,fun x c e=>?_,fun p hp=>?_,I2.hok.kept old,?_⟩
  .obtain⟨j,a,rfl,ha,hv⟩:=Yc e2
   obtain⟨y,y1,y2,y3⟩:=hS.cap j a ha
   have e1':N2[k+j]?=some x:=e1
   rw[y1] at e1';cases e1'
   have hk:X.env.scope.names.lookup x=some .cell∨X.env.scope.names.lookup x=some .free:=hS.free (x,.free) (U2s y3) rfl
   obtain⟨m',_,hl⟩:=id I2.loc
   obtain⟨u,ru,lk⟩:=hl a x v y2 hv (hk.elim (fun z=>.inr (.inl z)) fun z=>.inr (.inr z))
   refine⟨u,ru,.inr ⟨PK y3,?_⟩⟩
   rcases lk with ⟨kk,_⟩|⟨_,c,e,z⟩
   .have kk':X.env.scope.names.lookup x=some .local:=kk
    rw[kk'] at hk
    rcases hk with z|z<;>cases z
   .obtain⟨c',e'⟩:=hcf x y3
    have e'':=hcl x c' e'
    rw[e] at e'';cases e''
    obtain⟨o,ho,hd⟩:=z
    refine⟨c,?_,o,old c o ho,hd⟩
    show(own++cl).lookup x=some c
    rw[U4r]
    cases q:own.lookup x with
    |none=>exact e'
    |some d=>have:=(oMem x d q).2.2;rw[y3] at this;cases this
  .rcases hcs x c e with z|z
   .exact⟨none,z.2.1⟩
   .obtain⟨v,o,ho,hd⟩:=I2.cell x c z
    exact⟨v,o,old c o ho,hd⟩
  .rcases hcs x c e with z|z
   .exact fresh c (U06 szC (U06 (U47 _) z.1))
   .exact I2.freeC x c z
  .have hp':p∈[(D,({ cls:=.type "list",data:=.seq ([]:List Value).toArray 0 }:Obj))]:=hp
   have e:p=(D,({ cls:=.type "list",data:=.seq ([]:List Value).toArray 0 }:Obj)):=by simpa using hp'
   subst e
   exact⟨hacc,fresh D szD,hDC,fun z=>by
    rcases U0r.mp (I2.O9 D z) with z|z
    .exact Js I2.lt szD z.symm
    .exact I2.cU szD z,fun v z=>by cases z⟩
  .show(Ih k caps σ).length=N2.length
   unfold Ih
   rw[U0n,U1y,U0i,hS.len]
 -- the loop
 obtain⟨hg,ht,he⟩:=hb (own++cl) C s2 H2 fp
 have loop:∀s₃:Shared,Inv (Dc X N2 scope (own++cl) C s2 H2 fp) [(D,{ cls:=.type "list",data:=.seq ([]:List Value).toArray 0 })] (Ih k caps σ) H2 s₃->tn 0 s₃.heap ->
   codeAny (model X.prog X.w) X.A (.compLoop (.ListComp elt [⟨tg,iter,ifs,0⟩] scope pos) 0 (.ref it) (.ref D) (compEnvC scope (own++cl) C X.env)) (RR (.ref D) C) s₃:=by
  intro s₃ I₃ st₃
  refine codeAny_loop rfl (fun n s'=>∃i ys its nn H',Inv (Dc X N2 scope (own++cl) C s2 H2 fp) [(D,{ cls:=.type "list",data:=.seq (its:List Value).toArray nn })] (Ih k caps σ) H' s'/\Vals ys its/\tn i s'.heap/\(∀b∈fp,H' b=none)/\ys.length<=sizeLine/\W i n ys H') ?_ m0
   ⟨0,[],[],0,H2,I₃,.nil,st₃,fun b hbf=>(f2 b hbf).1,U2y _,w0⟩
  rintro n s5 ⟨i,ys,its,nn,H5,I5,rv,st5,fr5,hz,w5⟩
  show wpAny _ X.A ((compTurn (.ListComp elt [⟨tg,iter,ifs,0⟩] scope pos) 0 (.ref it) (.ref D) (compEnvC scope (own++cl) C X.env)).onRaise (fun x=>do noteFrame x (compEnvC scope (own++cl) C X.env);theTreesLotGoes x)) _ _ s5
  refine wpAny_noted ?_
  rw[compTurn_list]
  refine U0 (wpAny_standAt (U0 ?_))
  have fpok:∀{H':Hp} {o:Obj},(∀b∈fp,H' b=none)->∀b∈fp,MJ (Dc X N2 scope (own++cl) C s2 H2 fp) [(D,o)] H' b:=fun {H' o} hn b hbf=>by
   obtain⟨ob,e⟩:=f2h b hbf
   refine⟨hn b hbf,(below b ob e).1,OK.exfs b hbf,.inl hbf,(OK.exf b hbf).2,fun p hp z=>?_⟩
   have hp':p∈[(D,o)]:=hp
   have e':p=(D,o):=by simpa using hp'
   subst e'
   exact(below b ob e).2 z.symm
  rcases turn i n ys H5 w5 with ⟨stop,qn⟩|⟨go,hz2,step⟩
  .refine thn (T.done (Dc X N2 scope (own++cl) C s2 H2 fp) rfl rfl rfl hc i _ s5 _ H5 _ I5 (fpok fr5) st5 stop) fun r s6 ⟨hr,I6⟩=>?_
   subst hr
   refine U0d ?_
   obtain⟨pe,pn,pne,pnf,_⟩:=I6.pin (D,{ cls:=.type "list",data:=.seq its.toArray nn }) (U01 _ (U0w.mpr rfl))
   have hD:H5 D=none:=pn
   have hCn:H5 C=none:=I6.free
   refine hRR D C s6 H5 ys szD szC (U1m hDC) hD hCn ?_ ?_ qn
   .have un:Un (frs X.stack) fp H2 (upd H5 D (.lst ys)) s2.heap s6.heap:=by
     have u:=I6.base
     refine⟨u.keep,u.slot,fun b o e n1 n2=>?_,u.there,fun b xs e=>?_,fun b o u' e=>?_,fun b ps e=>?_,fun n=>by rw[BZ (U0v (U0m I2.Yl szD))];exact u.sy n⟩
     .rw[BZ (below b o e).2];exact u.free b o e n1 n2
     .rw[BZ (DR (u.tups b xs e) hD)];exact u.tups b xs e
     .rw[BZ (DR (u.frzs b o u' e) hD)];exact u.frzs b o u' e
     .obtain⟨more,q⟩:=u.tbls b ps e
      exact⟨more,by rw[BZ (DR q hD)];exact q⟩
    refine I2.call' I6.os un (fun b u e=>?_) I6.bare (fun b hbf=>⟨(f2 b hbf).2.2.2.1,(f2 b hbf).2.1,(f2 b hbf).2.2.2.2.1,(f2 b hbf).2.2.2.2.2⟩)
    by_cases hbd:b=D
    .subst hbd
     rw[Bk] at e;cases e
     exact⟨hz,its,nn,rv,pe⟩
    .rw[BZ hbd] at e
     exact(I6.hok b u e).stay (fun _ _ _ q=>q) (fun c q=>by rw[BZ (DR q hD)];exact q) fun c xs q=>by rw[BZ (DR q hD)];exact q
   .obtain⟨m,hn,_⟩:=I6.loc
    exact⟨m,hn⟩
  .refine thn (T.item (Dc X N2 scope (own++cl) C s2 H2 fp) rfl rfl rfl hc i _ s5 _ H5 _ I5 (fpok fr5) st5 go) fun r s6 ⟨u,hr,h6⟩=>?_
   subst hr
   refine U0 (thn h6 fun _ s7 ⟨x,H7,I7,r7,y7,st7,fr7⟩=>?_)
   have I7':=I7.pinned (fpok fr7) (T.obj _ _ st7)
   refine U0 (U5m (hg _ s7 _ H7 x u _ I7' r7 (hlow _ _ _ _ (step x H7 y7))) (fun _ s8 ⟨σ8,H8,I8,q8,ql,qk⟩=>?_) fun _ _ z=>z.elim)
   have wk:∀{pl:List (Addr×Obj)} {H9:Hp} {s9:Shared},Inv (Dc X N2 scope (own++cl) C s2 H2 fp) pl σ8 H9 s9->Inv (Dc X N2 scope (own++cl) C s2 H2 fp) pl (Ih k caps σ) H9 s9:=fun {pl H9 s9} I9 =>
    I9.weak ql.symm fun i v e=>by
     obtain⟨j,a,rfl,_,_⟩:=Yc e
     rw[qk (k+j) (U1g _ _)];exact e
   have pinD:∀{pl:List (Addr×Obj)} {σ9:St} {H9:Hp} {s9:Shared},Inv (Dc X N2 scope (own++cl) C s2 H2 fp) (((D,({ cls:=.type "list",data:=.seq its.toArray nn }:Obj))::[])++pl) σ9 H9 s9->s9.heap.get? D=some { cls:=.type "list",data:=.seq its.toArray nn }/\H9 D=none:=fun {pl σ9 H9 s9} I9=>by
    obtain⟨e1,e2,_⟩:=I9.pin (D,_) (U01 _ (U27 _ (U0w.mpr rfl)))
    exact⟨e1,e2⟩
   have stn:∀{pl:List (Addr×Obj)} {σ9:St} {H9:Hp} {s9:Shared},Inv (Dc X N2 scope (own++cl) C s2 H2 fp) (pl++Jx fp s7.heap) σ9 H9 s9->tn (i+1) s9.heap/\∀b∈fp,H9 b=none:=fun {pl σ9 H9 s9} I9=>by
    refine⟨T.keep _ _ _ st7 fun b hbf o e=>(I9.pin (b,o) (U01 _ (U01 _ (Ke hbf e)))).1,fun b hbf=>?_⟩
    obtain⟨o,e,d⟩:=T.obj _ _ st7 b hbf
    exact(I9.pin (b,o) (U01 _ (U01 _ (Ke hbf e)))).2.1
   refine U0 (U5m (ht _ s8 σ8 H8 _ I8 q8) (fun ok s9 ⟨H9,I9,q9⟩=>?_) fun _ _ z=>z.elim)
   cases ok with
   |false =>
    obtain⟨m',hm,w9⟩:=(by simpa using q9:∃m',m'<n/\W (i+1) m' ys H9)
    refine U0d ⟨rfl,m',hm,i+1,ys,its,nn,H9,wk I9.NP,rv,(stn I9).1,(stn I9).2,hz,w9⟩
   |true =>
    have q9':te σ8 H9 fun v H4=>∃m',m'<n/\W (i+1) m' (ys++[v]) H4:=by simpa using q9
    refine U0 (U0 (U5m (he _ s9 σ8 H9 _ I9 q9') (fun y s10 ⟨v,H10,I10,r10,q10⟩=>U0 ?_) fun _ _ z=>z.elim))
    obtain⟨m',hm,w10⟩:=q10
    obtain⟨eD,nD⟩:=pinD I10
    have hl:=rv.length
    refine call_meets F.slot_list_append ⟨_,eD,rfl⟩ F.entry_list_append (F.args_list_append_2 _ _) (PySem.list_append D its.toArray nn y (by rw[U0o];omega)) ⟨eD,?_⟩
    refine U0d (U0d ⟨rfl,m',hm,?_⟩)
    obtain⟨n2,qD⟩:∃n2,(s10.heap.update D (U15 fun z=>z.push y)).get? D=some { cls:=.type "list",data:=.seq (its++[y]).toArray n2 }:=by
     have q0:=PySem.IsL.update eD (fun z=>z.push y)
     have hf:its.toArray.push y=(its++[y]).toArray:=by simp
     rw[hf] at q0
     exact⟨_,q0⟩
    have J0:Inv (Dc X N2 scope (own++cl) C s2 H2 fp) (Jx fp s7.heap) (Ih k caps σ) H10 s10:=wk (I10.Py fun p hp=>I10.pin p (U01 _ (U01 _ hp)))
    have J1:Inv (Dc X N2 scope (own++cl) C s2 H2 fp) (Jx fp s7.heap) (Ih k caps σ) H10 { s10 with heap:=s10.heap.update D (U15 fun z=>z.push y),toks:=s10.toks }:=by
     refine J0.turned (fun b o hne e=>(U1d s10.heap _ (U1m hne)).trans e) nD hDC (.inr szD) (fun x c e z=>?_) fun p hp z=>?_
     .rcases hcs x c e with y|y
      .have:=y.1
       rw[z] at this
       omega
      .obtain⟨o,ho⟩:=okc x c y
       exact(below c o ho).2 z
     .have hp':p∈Jx fp s7.heap:=hp
      obtain⟨ob,e⟩:=f2h p.1 (UW hp').1
      exact(below p.1 ob e).2 z
    have J2:Inv (Dc X N2 scope (own++cl) C s2 H2 fp) [(D,{ cls:=.type "list",data:=.seq (its++[y]).toArray n2 })] (Ih k caps σ) H10 { s10 with heap:=s10.heap.update D (U15 fun z=>z.push y),toks:=s10.toks }:=by
     refine J1.Py fun p hp=>?_
     have e:p=(D,{ cls:=.type "list",data:=.seq (its++[y]).toArray n2 }):=U0w.mp hp
     subst e
     exact⟨qD,nD,hDC,fun z=>by
      rcases U0r.mp (I2.O9 D z) with z|z
      .exact Js I2.lt szD z.symm
      .exact I2.cU szD z,fun v z=>by cases z⟩
    refine⟨i+1,ys++[v],its++[y],_,H10,J2,rv.append (.cons r10 .nil),?_,(stn I10).2,?_,w10⟩
    .refine T.keep _ _ _ (stn I10).1 fun b hbf o e=>?_
     obtain⟨ob,e'⟩:=f2h b hbf
     exact(U1d s10.heap _ (U1m (below b ob e').2)).trans e
    .rw[U0n,U3m];omega
 have st1:tn 0 h₁:=T.keep _ _ _ st2 fun b hbf o e=>old b o e
 exact codeAny_compStart_list (loop _ (I4 _) st1) (T.self X.A 0 _ _ _ st1 (loop _ (I4 _) st1))
theorem jj{elt tg iter:Expr}{ifs:List Expr}{scope:Scope}{pos:Pos}{N2:List Str}{k:Nat}{caps:List Nat}{wi:TI}{g:TG}{tt:TT}{te:TE}
  (hc:X.calm=true) (hS:FZ X.env.scope X.N N2 k caps scope) (hlow:Low k g) (hi:PI X tg iter wi)
  (hb:∀(cl:List (Str×Addr))(C:Addr)(s:Shared)(H:Hp)(ex:List Addr),PG (Dc X N2 scope cl C s H ex) tg g/\PTs (Dc X N2 scope cl C s H ex) ifs tt/\PE (Dc X N2 scope cl C s H ex) elt te)
  (hs:∀x,foldedSetIterable iter X.env x=pure x:=by intro _;rfl):PE X (.ListComp elt [⟨tg,iter,ifs,0⟩] scope pos) (Yr k caps wi g tt te):=by
 intro pins s σ H Q I h
 rw[eval_ListComp]
 obtain⟨cl,hcl0,hcl,hcf⟩:=S9 (scope:=scope) (env:=X.env) fun y hy e=>I.ok.has y.1 (hS.free y hy e)
 refine wpAny_comprehension_free (use:=none) rfl hs hcl0 hS.kind hS.loc ?_
 refine thn (hi pins s σ H _ I h) fun v s1 h1=>thn h1 fun itv s2 h2=>?_
 obtain⟨it,fp,tn,J,H2,e,I2,T,st2,f2,W,⟨m0,w0⟩,turn⟩:=h2
 subst e
 refine S8 (RR:=fun acc C=>compPost (model X.prog X.w) X.A X.xe none (EP X pins σ Q) acc C) (Qe:=fun ys H=>∀p,H p=none->Q (.ref p) (upd H p (.lst ys))) hc hS hlow hcl hcf hb I2 T st2 f2 w0 turn ?_
 intro D C s' H' ys hD hC hDC nD nC I' hn q
 obtain⟨m,hn⟩:=hn
 refine⟨m,hn,fun h' hsb=>⟨.ref D,_,?_,rfl,q D nD⟩⟩
 refine I'.but hsb (by rw[BZ hDC];exact nC) (fun z=>?_) (U06 I2.sz hC) (fun x c e z=>?_) fun p hp z=>?_
 .exact Js I2.lt hC z.symm
 .obtain⟨v,o,ho,_⟩:=I2.cell x c e
  exact Js (U0j ho) hC z
 .exact Js (U0j (I2.pin p hp).1) hC z
def rY(i:Nat)(t:TE):TS:=fun D σ H=>t σ H fun v H1=>D.nx (σ.set i (some v)) H1
theorem jZ{elt tg iter:Expr}{ifs:List Expr}{scope:Scope}{pos py spos:Pos}{N2:List Str}{k i:Nat}{y:Str}{caps:List Nat}{wi:TI}{g:TG}{tt:TT}{te:TE}
  (hc:X.calm=true) (hN:X.N.Nodup) (hi':X.N[i]?=some y) (hS:FZ X.env.scope X.N N2 k caps scope) (hlow:Low k g) (hi:PI X tg iter wi)
  (hb:∀(cl:List (Str×Addr))(C:Addr)(s:Shared)(H:Hp)(ex:List Addr),PG (Dc X N2 scope cl C s H ex) tg g/\PTs (Dc X N2 scope cl C s H ex) ifs tt/\PE (Dc X N2 scope cl C s H ex) elt te)
  (hx:X.env.scope.names.lookup y=some .local:=by rfl) (hsw:swapsWith (.ListComp elt [⟨tg,iter,ifs,0⟩] scope pos) (some (.Name y py)) spos.line X.env=pure true:=by rfl)
  (hs:∀x,foldedSetIterable iter X.env x=pure x:=by intro _;rfl):PS X (.Assign [.Name y py] (.ListComp elt [⟨tg,iter,ifs,0⟩] scope pos) spos) (rY i (Yr k caps wi g tt te)):=by
 intro pins s σ H D0 I h
 obtain⟨cl,hcl0,hcl,hcf⟩:=S9 (scope:=scope) (env:=X.env) fun y hy e=>I.ok.has y.1 (hS.free y hy e)
 rw[exec_Assign_Name_used _ _ _ _ hsw]
 refine U0 (wpAny_standAt (U0 ?_))
 show wpAny _ X.A (do let _ ←comprehension (.ListComp elt [⟨tg,iter,ifs,0⟩] scope pos) scope X.env _ (newList []) false (eval iter X.env) (some (assign (.Name y py) X.env))) _ _ s
 refine U0 (U5m (wpAny_comprehension_free (use:=some (assign (.Name y py) X.env)) (Q:=fun _ s'=>SP X pins D0 .next s') rfl hs hcl0 hS.kind hS.loc ?_) (fun _ s' hq=>U0d (U0d hq)) fun _ _ e=>e)
 refine thn (hi pins s σ H _ I h) fun v s1 h1=>thn h1 fun itv s2 h2=>?_
 obtain⟨it,fp,tn,J,H2,e,I2,T,st2,f2,W,⟨m0,w0⟩,turn⟩:=h2
 subst e
 refine S8 (RR:=fun acc C=>compPost (model X.prog X.w) X.A X.xe (some (assign (.Name y py) X.env)) (fun _ s'=>SP X pins D0 .next s') acc C)
  (Qe:=fun ys H=>∀p,H p=none->D0.nx (σ.set i (some (.ref p))) (upd H p (.lst ys))) hc hS hlow hcl hcf hb I2 T st2 f2 w0 turn ?_
 intro D C s' H' ys hD hC hDC nD nC I' hn q
 obtain⟨m,hn⟩:=hn
 show wpAny _ X.A (assign (.Name y py) X.env (.ref D)) _ _ _
 refine wpAny_assign_Name (Tv (v:=.ref D) I' hN hi' (.inl hx) rfl (fun s'' I'' ⟨a,hsb,ha⟩=>?_) (.inr hx))
 have hLC:C≠X.env.locals:=fun z=>Js I2.lt hC z.symm
 have hcC:∀x c,X.env.cells.lookup x=some c->c≠C:=fun x c e z=>by
  obtain⟨v,o,ho,_⟩:=I2.cell x c e
  exact Js (U0j ho) hC z
 have haC:C≠a:=by
  rcases ha with z|z
  .rw[z];exact hLC
  .exact fun e=>hcC y a z e.symm
 refine⟨m,hn.sameBut hsb haC,fun h' hsb'=>?_⟩
 refine⟨_,_,I''.but hsb' (by rw[BZ hDC];exact nC) hLC (U06 I2.sz hC) hcC fun p hp z=>?_,q D nD⟩
 exact Js (U0j (I2.pin p hp).1) hC z
end
end L2
end
section
namespace L2
open PySem PySem.Spec PyProof.Rows
theorem Cr.obj{P:Program}{w:World}{H:Hp}{h:Heap}{a:Addr}{o:HO}(x:Cr P w H h a o):∃ob,h.get? a=some ob:=by
 cases o with
 |lst xs=>obtain⟨_,_,_,_,e⟩:=x;exact⟨_,e⟩
 |tup xs=>obtain⟨_,_,_,ob,e,_⟩:=x;exact⟨ob,e⟩
 |dK kvs=>obtain⟨_,_,_,_,o,_,_,e,_⟩:=x;exact⟨o,e⟩
 |dT kvs=>obtain⟨_,_,_,_,o,_,_,e,_⟩:=x;exact⟨o,e⟩
 |set S n=>obtain⟨o,_,_,_,e,_⟩:=x;exact⟨o,e⟩
 |ins C dx fs=>obtain⟨_,_,_,e,_⟩:=x;exact⟨_,e⟩
 |own y=>exact x
 |xd fs=>obtain⟨_,⟨o,_,_,e,_⟩,_⟩:=x;exact⟨o,e⟩
 |rng lo hi=>obtain⟨_,_,_,e⟩:=x;exact⟨_,e⟩
 |frz ob u=>obtain⟨e,_⟩:=x;exact⟨_,e⟩
 |tbl ps=>exact⟨_,x⟩
 |met f y=>exact⟨_,x⟩
 |ext φ=>obtain⟨_,e,_⟩:=x;exact e
section
variable{X:Cx}{pins:List (Addr×Obj)}{σ:St}{H:Hp}{s:Shared}
theorem Inv.YJ(I:Inv X pins σ H s){a:Addr}(h:s.heap.get? a=none):H a=none:=by
 cases q:H a with
 |none=>rfl
 |some o =>
  obtain⟨ob,e⟩:=(I.hok a o q).obj
  rw[h] at e;cases e
theorem Inv.laidN{a:Addr}{o:HO}{h':Heap}{d':Drawn}{t':Nat}(I:Inv X pins σ H s)(k:∀b u,s.heap.get? b=some u->h'.get? b=some u)(hn:s.heap.get? a=none)(hsy:sysModules≠a)(new:Cr X.prog X.w (upd H a o) h' a o) :
  Inv X pins σ (upd H a o) { s with heap:=h',drawn:=d',toks:=t' }:=by
 have hH:=I.YJ hn
 have ne:∀b u,s.heap.get? b=some u->b≠a:=fun b u e z=>by rw[z,hn] at e;cases e
 refine I.step (g':=s.gens) (ch:=[]) (fun _ z=>nomatch z) (fun b u _ _ _ e _=>k b u e) (fun b u _ _ _ e _=>⟨u.slots,k b u e⟩) (fun b u _ e n=>by rw[BZ (ne b u e)];exact n) (fun b u _ e=>⟨u,k b u e⟩)
  (fun b xs e=>by rw[BZ (DR e hH)];exact e) (fun b u xs e=>by rw[BZ (DR e hH)];exact e) (fun b ps e=>⟨#[],by rw[BZ (DR e hH),e];simp⟩) (fun m hm=>?_) (fun b u e=>?_) I.bare (fun n=>by rw[BZ hsy];exact n)
 .obtain⟨ob,es,ep,e,r⟩:=hm
  exact⟨ob,es,ep,k _ _ e,r⟩
 .by_cases hb:b=a
  .subst hb;rw[Bk] at e;cases e;exact new
  .rw[BZ hb] at e
   exact(I.hok b u e).stay (fun c v _ q=>k c v q) (fun c q=>by rw[BZ (DR q hH)];exact q) fun c xs q=>by rw[BZ (DR q hH)];exact q
end
def VB(P:Program)(w:World)(a:Addr)(ds:List Int):HO:=.ext fun h=>SetP.SetT P w h a ds
theorem jM{P:Program}{w:World}{H:Hp}{h:Heap}{a:Addr}{ds:List Int}(x:SetP.SetT P w h a ds):Cr P w H h a (VB P w a ds) :=
 ⟨x,(by obtain⟨_,o,_,_,_,e,_⟩:=x;exact⟨o,e⟩),fun h1 h2 y k=>y.sameBut k⟩
section
variable{X:Cx}
theorem gq(hc:X.calm=true):DK X (.type "set") (fun xs H Q=>∃p ns,xs=[.ref p]/\SqL X.K H p (ns.map V.int)/\ns.length<1000/\∀a,H a=none->Q (.ref a) (upd H a (VB X.prog X.w a (SetP.once ns)))):=by
 intro pins s σ H xs us Q I r h
 obtain⟨p,ns,rfl,hq,hl,q⟩:=h
 obtain⟨u,rfl,rx⟩:=vals1 r
 cases rx
 obtain⟨its,rv,pl,hz⟩:=I.list hq
 have hlen:=rv.length
 rw[U0i] at hlen
 refine SetP.jL (I.ok.hd hc) pl.isList (by simpa using intsAre_of rv) (by rw[U0o,←hlen];unfold scanBound;omega) fun h' tk k T=>?_
 have hn:s.heap.get? s.heap.objs.size=none:=Heap.get?_none_of_le (U0k _)
 exact⟨.ref s.heap.objs.size,_,I.laidN (d':=s.drawn) (t':=tk) k hn (U0v I.Yl) (jM T),rfl,q _ (I.hok.fresh (U0k _))⟩
theorem Tn(hc:X.calm=true):DK X (.builtin "sorted") (fun xs H Q=>∃(a:Addr)(ds:List Int),xs=[.ref a]/\H a=some (VB X.prog X.w a ds)/\ds.length<64 /\
  ∀(l:Addr)(ns:List Int),H l=none->ns.Perm ds->ns.Pairwise (·<=·)->Q (.ref l) (upd H l (.lst (ns.map V.int)))):=by
 intro pins s σ H xs us Q I r h
 obtain⟨a,ds,rfl,hH,hl,q⟩:=h
 obtain⟨u,rfl,rx⟩:=vals1 r
 cases rx
 obtain⟨T,_,_⟩:=(show Cr X.prog X.w H s.heap a (VB X.prog X.w a ds) from I.hok a _ hH)
 refine SetP.dO (I.ok.hd hc) T hl fun h' d' tk l vs ns n k hb e hi hp hs=>?_
 have hn:s.heap.get? l=none:=by
  cases q:s.heap.get? l with
  |none=>rfl
  |some o=>exact absurd (hb l o q) (U3p _)
 have hsy:sysModules≠l:=by
  obtain⟨o,_,_,e,_⟩:=I.ok.mod.glob
  exact U0v (U2p (by decide:(1:Nat)<3) (hb _ _ (I.bk _ _ e)))
 have hlen:ns.length<64:=by rw[hp.length_eq];exact hl
 refine⟨.ref l,_,I.laidN (d':=d') (t':=tk) (o:=.lst (ns.map V.int)) k hn hsy ⟨?_,vs.toList,n,Oe hi,by simpa using e⟩,rfl,q l ns (I.YJ hn) hp hs⟩
 rw[U0i]
 exact U2b (UG (by omega))
theorem XC{prog:Program}{w:World}{A:Around}{bs:List Bool}{its:List Value}(r:Vals (bs.map V.bl) its):TruthOf prog w A (fun i v=>its.toArray[i]?=some v) (fun i=>bs.getD i false):=by
 intro i v s Q E hP h
 rw[U54] at hP
 have hlen:=r.length
 rw[U0i] at hlen
 have hi:i<bs.length:=by rw[hlen];exact(U0l.mp hP).1
 obtain⟨u,e,ru⟩:=r.get (i:=i) (x:=.bl bs[i]) (by rw[U05,U0q hi];rfl)
 rw[e] at hP;cases hP
 have ru':v=U4k bs[i]:=ru
 subst ru'
 have e2:bs.getD i false=bs[i]:=by rw[U1f,U0q hi];rfl
 have h:Q (bs.getD i false) s:=h
 rw[e2] at h
 exact U3a h
theorem all_range(bs:List Bool):(U0p bs.length).all (fun i=>bs.getD i false)=bs.all id:=by
 rw[U2d,U3j,U3j]
 constructor
 .intro h b hb
  obtain⟨i,hi⟩:=U3x.mp hb
  have q:=h i (U2n.mpr (U0l.mp hi).1)
  rw[U1f,hi] at q
  exact q
 .intro h i hi
  have hi':=U2n.mp hi
  rw[U1f,U0q hi']
  exact h _ (U3i hi')
theorem Wc(hc:X.calm=true):DK X (.builtin "all") (fun xs H Q=>∃(p:Addr)(bs:List Bool),xs=[.ref p]/\SqL X.K H p (bs.map V.bl)/\Q (.bl (bs.all id)) H):=by
 intro pins s σ H xs us Q I r h
 obtain⟨p,bs,rfl,hq,q⟩:=h
 obtain⟨u,rfl,rx⟩:=vals1 r
 cases rx
 obtain⟨its,rv,pl,hz⟩:=I.list hq
 have hlen:=rv.length
 rw[U0i] at hlen
 have hl:=pl.isList
 have hlt:p<s.heap.objs.size:=by obtain⟨o,ho,_⟩:=hl;exact U0j ho
 refine call_all_walk (U5t hl ?_)
 refine⟨s.heap.objs.size,[s.heap.objs.size,p],[s.heap.objs.size],its.toArray.size,_,_,fun i=>bs.getD i false,rfl,Walks.list (by simpa using I.ok.hd hc) s.heap.objs.size p (U0v hlt) its.toArray,⟨⟨_,U0s _ rfl,rfl,rfl⟩,hl.push _⟩,XC rv,fun h' tk k=>?_⟩
 refine⟨.bl (bs.all id),H,I.kept (h':=h') (t':=tk) fun b o e=>k b o (fun z=>?_) (U0b _ e),?_,q⟩
 .exact absurd (U0w.mp z) (U0v (U0j e))
 .show U4k _=U4k _
  rw[U0o,←hlen,all_range]
theorem CZ{K:U0a}{a b:String}{r:Bool}(h:(if (U3f a==U3f b)=true then some true else if PySem.W.kitMeta b=true then (PySem.fastBuiltinMro a).map (·.contains (.type b)) else none)=some r):U29 K (.type a) (.type b)=some r:=h
theorem Xo:DK X (.builtin "isinstance") (fun xs H Q=>∃(x:V)(T:String)(t:Value)(b:Bool),xs=[x,.ty T]/\J5 X.K H x t/\U29 X.K t (.type T)=some b/\Q (.bl b) H):=by
 intro pins s σ H xs us Q I r h
 obtain⟨x,T,t,b,rfl,ty,e,q⟩:=h
 obtain⟨u,w',rfl,rx,rt⟩:=vals2 r
 cases (show w'=U3f T from rt)
 exact bO I rx ty e fun tk=>⟨.bl b,H,I.tok tk,rfl,q⟩
theorem Xn:DK X (.type "range") (fun xs H Q=>∃(n:Int),xs=[.int n]/\∀p,H p=none->Q (.ref p) (upd H p (.rng 0 n))):=by
 intro pins s σ H xs us Q I r h
 obtain⟨n,rfl,q⟩:=h
 obtain⟨u,rfl,rx⟩:=vals1 r
 obtain⟨t,rfl⟩:=(show ∃t,u=U3s n t from rx)
 exact call_range_1 ⟨.ref s.heap.objs.size,_,I.laid (o:=.rng 0 n) (fun _ _ e=>U0b _ e) (U0k _) ⟨_,_,_,U0s _ rfl⟩,rfl,q _ (I.hok.fresh (U0k _))⟩
theorem Xm:DK X (.type "range") (fun xs H Q=>∃(a b:Int),xs=[.int a,.int b]/\∀p,H p=none->Q (.ref p) (upd H p (.rng a b))):=by
 intro pins s σ H xs us Q I r h
 obtain⟨a,b,rfl,q⟩:=h
 obtain⟨u,w',rfl,rx,ry⟩:=vals2 r
 obtain⟨t,rfl⟩:=(show ∃t,u=U3s a t from rx)
 obtain⟨t',rfl⟩:=(show ∃t,w'=U3s b t from ry)
 exact call_range_2 ⟨.ref s.heap.objs.size,_,I.laid (o:=.rng a b) (fun _ _ e=>U0b _ e) (U0k _) ⟨_,_,_,U0s _ rfl⟩,rfl,q _ (I.hok.fresh (U0k _))⟩
def upTo(lo:Int)(n:Nat):List Int:=(U0p n).map fun(i:Nat)=>lo+i
theorem Tp(hc:X.calm=true):DK X (.type "list") (fun xs H Q=>∃(r:Addr)(lo hi:Int),xs=[.ref r]/\H r=some (.rng lo hi)/\-(2^62)<=lo/\lo<2^62/\-(2^62)<=hi/\hi<2^62/\(hi-lo).toNat<=1000 /\
  ∀l,H l=none->Q (.ref l) (upd H l (.lst ((upTo lo (hi-lo).toNat).map V.int)))):=by
 intro pins s σ H xs us Q I rr h
 obtain⟨r,lo,hi,rfl,hH,h1,h2,h3,h4,h5,q⟩:=h
 obtain⟨u,rfl,rx⟩:=vals1 rr
 cases rx
 obtain⟨t,u,v,e⟩:=(show Cr X.prog X.w H s.heap r (.rng lo hi) from I.hok r _ hH)
 have hsz:Builtin.Range.rangeSize lo hi 1=(((hi-lo).toNat:Nat):Int):=by rw[rangeSize_one];split<;>omega
 refine call_list_range (a:=lo) (b:=hi) (c:=1) (I.ok.hd hc) e (small_one h1 h2 h3 h4) hsz (by omega) fun h' tk acc c k eS hacc=>?_
 refine⟨.ref s.heap.objs.size,_,I.laid (o:=.lst ((upTo lo (hi-lo).toNat).map V.int)) (t':=tk) k (U0k _) ⟨?_,acc.toList,c,?_,by simpa using eS⟩,rfl,q _ (I.hok.fresh (U0k _))⟩
 .unfold upTo
  rw[U0i,U0i,U4y]
  exact U2b (UG h5)
 .have gen:∀(l:List Value)(j:Nat),(∀(i:Nat)(v:Value),l[i]?=some v->∃t,v=U3s (lo+((i+j:Nat):Int)) t)->Vals (((U7m j l.length).map fun(i:Nat)=>lo+i).map V.int) l:=by
   intro l
   induction l with
   |nil=>intro j _;exact .nil
   |cons x r ih =>
    intro j hx
    obtain⟨t,e⟩:=hx 0 x rfl
    subst e
    rw[U0e,List.range'_succ]
    refine .cons ⟨t,by simp⟩ (ih (j+1) fun i v hv=>?_)
    obtain⟨t',e'⟩:=hx (i+1) v (by simpa using hv)
    exact⟨t',by rw[e',show i+1+j=i+(j+1) by omega]⟩
  have q2:=gen acc.toList 0 fun i v hv=>by
   obtain⟨t',e'⟩:=hacc.2 i v (by simpa using hv)
   exact⟨t',by rw[e'];simp⟩
  have el:acc.toList.length=(hi-lo).toNat:=by simpa using hacc.1
  rw[el,←List.range_eq_range'] at q2
  exact q2
theorem Inv.big{pins:List (Addr×Obj)}{σ:St}{H:Hp}{s:Shared}(I:Inv X pins σ H s):sysModules<s.heap.objs.size:=by
 obtain⟨o,_,_,e,_⟩:=I.ok.mod.glob
 exact U2p (by decide:(1:Nat)<3) (U0j (I.bk _ _ e))
end
end L2
end
section
namespace L2
open PySem PySem.Spec PyProof.Rows
mutual
inductive Tr (N:Addr->Prop) (H:Hp):V->PyData->Prop
 |non:Tr N H .non .none
 |bl (b:Bool):Tr N H (.bl b) (.bool b)
 |int (i:Int):Tr N H (.int i) (.int i)
 |str (x:Str):Tr N H (.str x) (.str x)
 |lst {a:Addr} {xs:List V} {ds:List PyData}:N a->H a=some (.lst xs)->JV N H xs ds->Tr N H (.ref a) (.list ds)
 |tup {a:Addr} {xs:List V} {ds:List PyData}:N a->H a=some (.tup xs)->JV N H xs ds->Tr N H (.ref a) (.tuple ds)
 |dct {a:Addr}:N a->H a=some (.dK [])->Tr N H (.ref a) (.dict [])
inductive JV (N:Addr->Prop) (H:Hp):List V->List PyData->Prop
 |nil:JV N H [] []
 |cons {x:V} {d:PyData} {xs:List V} {ds:List PyData}:Tr N H x d->JV N H xs ds->JV N H (x::xs) (d::ds)
end
section
variable{N N':Addr->Prop}{H H':Hp}
end
section
variable{N:Addr->Prop}{P:Program}{w:World}{H:Hp}{h:Heap}
mutual
theorem Tr.reads(ok:HOk P w H h)(hs:H sysModules=none):∀{v:V} {d:PyData},Tr N H v d->∀u,RelV v u->∃as,Reads h u d as/\sysModules ∉ as
 |_,_,.non,u,r=>⟨[],by cases (show u=U2g from r);exact .none,by simp⟩
 |_,_,.bl b,u,r=>⟨[],by cases (show u=U4k b from r);exact .bool b,by simp⟩
 |_,_,.int i,u,r=>by obtain⟨t,rfl⟩:=(show ∃t,u=U3s i t from r);exact⟨[],.int i t,by simp⟩
 |_,_,.str x,u,r=>by obtain⟨t,rfl⟩:=(show ∃t,u=U6z x t from r);exact⟨[],.str x t,by simp⟩
 |_,_,.lst (a:=a) (xs:=xs) (ds:=ds) _ hH t,u,r=>by
  cases (show u=U1x a from r)
  obtain⟨_,its,n,rv,e⟩:=(show Cr P w H h a (.lst xs) from ok a _ hH)
  obtain⟨as,ra,na⟩:=JV.reads ok hs t its rv
  refine⟨a::as,.list e rfl rfl (by simpa using ra),fun z=>?_⟩
  rcases U0r.mp z with z|z
  .rw[z] at hs;rw[hs] at hH;cases hH
  .exact na z
 |_,_,.tup (a:=a) (xs:=xs) (ds:=ds) _ hH t,u,r=>by
  cases (show u=U1x a from r)
  obtain⟨_,its,rv,ob,e,c,n,d⟩:=(show Cr P w H h a (.tup xs) from ok a _ hH)
  obtain⟨as,ra,na⟩:=JV.reads ok hs t its rv
  exact⟨as,.tuple e c d (by simpa using ra),na⟩
 |_,_,.dct (a:=a) _ hH,u,r=>by
  cases (show u=U1x a from r)
  obtain⟨_,y,vs,kv,o,es,ep,e,ex,d,el⟩:=(show Cr P w H h a (.dK []) from ok a _ hH)
  cases kv
  have e0:es.toList=[]:=by
   have q:Pairs (Fq P w) es.toList []:=el.2.1
   generalize es.toList=l at q
   cases q
   rfl
  refine⟨[a],.dict (as:=[]) (bs:=[]) e ex.1 d (by rw[e0];exact .nil) (by rw[e0];exact .nil),fun z=>?_⟩
  have z':=U0w.mp z
  rw[←z'] at y
  simp at y
theorem JV.reads(ok:HOk P w H h)(hs:H sysModules=none):∀{xs:List V} {ds:List PyData},JV N H xs ds->∀us,Vals xs us->∃as,ReadsAll h us ds as/\sysModules ∉ as
 |_,_,.nil,us,r=>by cases r;exact⟨[],.nil,by simp⟩
 |_,_,.cons t ts,us,r=>by
  cases r with
  |cons rx rr =>
   obtain⟨as,ra,na⟩:=Tr.reads ok hs t _ rx
   obtain⟨bs,rb,nb⟩:=JV.reads ok hs ts _ rr
   exact⟨as++bs,.cons ra rb,fun z=>(U1w.mp z).elim na nb⟩
end
end
section
variable{X:Cx}
theorem cD{k:Nat}(hr:Dz k X.A):DK X (.builtin "repr") (fun xs H Q=>∃(N:Addr->Prop)(a:Addr)(d:PyData),xs=[.ref a]/\Tr N H (.ref a) d/\d.showable=true/\d.depth<=60/\d.shown.length<=sizeLine/\Q (.str d.shown) H):=by
 intro pins s σ H xs us Q I r h
 obtain⟨N,a,d,rfl,t,h1,h2,h3,q⟩:=h
 obtain⟨u,rfl,rx⟩:=vals1 r
 cases rx
 obtain⟨as,ra,na⟩:=t.reads I.hok I.Qf (.ref a) rfl
 have hu:=hr.un
 exact repr_of_reads' ra h1 (fun _=>na) hr.gd (by omega) (fun _ _ e=>e) (fun h' u tk k=>⟨.str d.shown,H,I.kept (h':=h') (t':=tk) k,⟨u,rfl⟩,q⟩) h3
theorem pW{k:Nat}(hr:Dz k X.A):OpR X (compareOp .Eq) (fun x y H Q=>∃(N N':Addr->Prop)(d e:PyData),Tr N H x d/\Tr N' H y e/\U2j d=true/\U2j e=true/\Q (.bl (U7d d e)) H):=by
 intro pins s σ H x y v u Q I rx ry h
 obtain⟨N,N',d,e,t1,t2,s1,s2,q⟩:=h
 obtain⟨as,ra,_⟩:=t1.reads I.hok I.Qf v rx
 obtain⟨bs,rb,_⟩:=t2.reads I.hok I.Qf u ry
 exact SeqAt.compareEq_shaped ra rb s1 s2 hr.units ⟨.bl _,H,I,rfl,q⟩
theorem pR{k:Nat}(hr:Dz k X.A):OpR X (compareOp .NotEq) (fun x y H Q=>∃(N N':Addr->Prop)(d e:PyData),Tr N H x d/\Tr N' H y e/\U2j d=true/\U2j e=true/\Q (.bl (!PyData.eqv d e)) H):=by
 intro pins s σ H x y v u Q I rx ry h
 obtain⟨N,N',d,e,t1,t2,s1,s2,q⟩:=h
 obtain⟨as,ra,_⟩:=t1.reads I.hok I.Qf v rx
 obtain⟨bs,rb,_⟩:=t2.reads I.hok I.Qf u ry
 exact SeqAt.compareNe_shaped ra rb s1 s2 hr.units ⟨.bl _,H,I,rfl,q⟩
end
end L2
end
section
namespace HT
open PySem PySem.Spec PyProof.Rows
section
variable{prog:Program}{w:World}{A:Around}{E:Value->Shared->Prop}{s:Shared}
theorem gn{t b:Addr}{ws:List Value}{Q:Value->Shared->Prop}(ht:IsTup s.heap t ([]:List Value).toArray)(hb:IsTup s.heap b ws.toArray)(h:Q (.ref b) s):wpAny (model prog w) A (binaryOp .Add (.ref t) (.ref b)) Q E s:=by
 obtain⟨⟨c1,d1,x1,sl1⟩,ho,hc,n,hd⟩:=id ht
 obtain⟨⟨c2,d2,x2,sl2⟩,ho2,hc2,n2,hd2⟩:=id hb
 simp only at hc hd hc2 hd2
 subst hc hd hc2 hd2
 exact concat_meets ⟨_,ho,rfl⟩ ⟨_,ho2,rfl⟩ noFill_tuple_add seq_tuple_add U5x U5q (U5h _ _) (tuple_addW0 t b _ ws.toArray n n2 d1 d2 sl1 sl2 (by simp)) ⟨ho,ho2,h⟩
theorem XD{t sl:Addr}{items:Array Value}{vl vu:Value}{lo hi:Option Int}{Q:Value->Shared->Prop}(ht:IsTup s.heap t items)(hs:s.heap.IsSliceOf sl vl vu .none)(pl:IsPart vl lo)(pu:IsPart vu hi)
  (hw:sIx items.size 0 lo=0/\sIx items.size items.size hi=items.size) (h:Q (.ref t) s):wpAny (model prog w) A (getItem (.ref t) (.ref sl)) Q E s:=by
 obtain⟨os,hos,hcs,hds⟩:=id hs
 have hTs:s.TypeIs (.ref sl) "slice":=⟨os,hos,hcs⟩
 unfold getItem
 try with_reducible refine U2f ?_
 first|refine U0 (U0d ?_)|skip
 refine U0 (wpAny_sequenceKey ht.typeIs (by decide) ?_)
 refine U0 (wpAny_callSpecial?_slot (name:=U23 "__getitem__") ht.typeIs U2m (U17 U2m ht.typeIs entry_tuple_getitem ?_ (args_tuple_getitem _ _)))
 show wpAny _ _ (Builtin.Tuple.tupleItemsOf (.ref t) >>= _) _ _ s
 refine U0 (tupleItemsOf_ ht (U0 (U5i hTs ?_)))
 rw[if_pos (by decide)]
 refine U0 (Li hs pl pu ?_)
 have yes:(((sIx items.size 0 lo:Nat):Int)==0&&(1:Int)==1&&(sIx items.size items.size hi-sIx items.size 0 lo)==items.size)=true:=by
  rw[hw.1,hw.2];simp
 show wpAny _ _ (if (((sIx items.size 0 lo:Nat):Int)==0&&(1:Int)==1&&(sIx items.size items.size hi-sIx items.size 0 lo)==items.size)=true then _ else _) _ _ s
 rw[if_pos yes]
 unfold Builtin.Tuple.tupleIsExact
 refine U0 (U0 (U5i ht.typeIs (U0d ?_)))
 rw[if_pos (by decide)]
 exact U0 (U41 (U0d ⟨_,rfl,U0d h⟩))
end
end HT
namespace L2
open PySem PySem.Spec PyProof.Rows
theorem Cw{H:Hp}{p:Addr}(h:H p=none)(o:HO):Same H (upd H p o):=fun b u q=>by rw[BZ (DR q h)];exact q
theorem Zd(xs:List V)(lo hi:Option Int)(h:HT.sIx xs.length 0 lo=0/\HT.sIx xs.length xs.length hi=xs.length):JL xs lo hi=xs:=by
 unfold JL
 rw[h.1,h.2,U7b,Nat.sub_zero,U3k]
section
variable{X:Cx}
theorem jr:OpR X (binaryOp .Add) (fun x y H Q=>∃(a b:Addr)(xs ys:List V),x=.ref a/\y=.ref b/\H a=some (.tup xs)/\H b=some (.tup ys)/\xs.length+ys.length<=sizeLine/\∀p H',Same H H'->H' p=some (.tup (xs++ys))->Q (.ref p) H'):=by
 intro pins s σ H x y v u Q I rx ry h
 obtain⟨a,b,xs,ys,rfl,rfl,ha,hb,hz,q⟩:=h
 by_cases hx:xs=[]
 .subst hx
  cases rx
  cases ry
  obtain⟨its,r1,p1,_⟩:=I.tuple (SqT.of ha)
  obtain⟨its2,r2,p2,_⟩:=I.tuple (SqT.of hb)
  cases r1
  exact HT.gn p1 p2 ⟨.ref b,H,I,rfl,q b H (Same.refl H) hb⟩
 .refine jq pins s σ H _ _ v u Q I rx ry ⟨a,b,xs,ys,rfl,rfl,SqT.of ha,SqT.of hb,hx,hz,fun z=>?_,fun _ p hp=>q p _ (Cw hp _) Bk⟩
  subst z
  exact q a H (Same.refl H) (by rw[U3c];exact ha)
theorem jJ:SlR X (fun x lo hi H Q=>∃(a:Addr)(xs:List V),x=.ref a/\H a=some (.tup xs)/\∀p H',Same H H'->H' p=some (.tup (JL xs lo hi))->Q (.ref p) H'):=by
 intro pins s σ H x v vl vu lo hi sl Q I rx hs pl pu h
 obtain⟨a,xs,rfl,ha,q⟩:=h
 by_cases hw:HT.sIx xs.length 0 lo=0/\HT.sIx xs.length xs.length hi=xs.length
 .cases rx
  obtain⟨its,r,ht,hz⟩:=I.tuple (SqT.of ha)
  have hlen:its.toArray.size=xs.length:=by rw[U0o];exact r.length.symm
  refine⟨"tuple",_,U2m.lookup,ht.typeIs,?_⟩
  exact HT.XD ht hs pl pu (by rw[hlen];exact hw) ⟨.ref a,H,I,rfl,q a H (Same.refl H) (by rw[Zd xs lo hi hw];exact ha)⟩
 .exact oH pins s σ H _ v vl vu lo hi sl Q I rx hs pl pu ⟨a,xs,rfl,SqT.of ha,hw,fun p hp=>q p _ (Cw hp _) Bk⟩
theorem fH{d:Addr}{D:List (PyData×PyData)}(hT:∀h,X.K.In h->IntTab X.prog X.w h d D):OpR X (compareOp .In) (fun x y H Q=>∃(i:Int),x=.int i/\y=.ref d/\Q (.bl (lookup (.int i) D).isSome) H):=by
 intro pins s σ H x y v u Q I rx ry h
 obtain⟨i,rfl,rfl,q⟩:=h
 obtain⟨t,rfl⟩:=(show ∃t,v=U3s i t from rx)
 cases ry
 exact in_intTab (hT _ I.kIn) ⟨.bl _,H,I.tok _,rfl,q⟩
theorem mj{P:Program}{w:World}{K:U0a}{d:Addr}{ep:Nat}{h1 h2 h3 k1 k2 k3 v1 v2 v3:Int}{t1 t2 t3 u1 u2 u3:Tok}(hd:(d==sysModules)=false)
  (l:K.lookup d=some { cls:=.type "dict",data:=.dict #[⟨h1,.int k1 t1,.int v1 u1⟩,⟨h2,.int k2 t2,.int v2 u2⟩,⟨h3,.int k3 t3,.int v3 u3⟩] ep })
  (e1:h1=hashInt k1) (e2:h2=hashInt k2) (e3:h3=hashInt k3) (nd:[k1,k2,k3].Nodup):∀h,K.In h->IntTab P w h d [(.int k1,.int v1),(.int k2,.int v2),(.int k3,.int v3)]:=by
 intro h kin
 refine⟨hd,[(k1,.int v1 u1),(k2,.int v2 u2),(k3,.int v3 u3)],⟨_,_,ep,kin _ _ l,⟨rfl,rfl,rfl⟩,rfl,?_,?_,nd⟩,?_⟩
 .intro e he
  simp only[List.mem_toArray,U0r,U12,or_false] at he
  rcases he with z|z|z
  .subst z;exact⟨k1,intKind_is P w k1 t1,e1⟩
  .subst z;exact⟨k2,intKind_is P w k2 t2,e2⟩
  .subst z;exact⟨k3,intKind_is P w k3 t3,e3⟩
 .exact .cons (intKind_is P w k1 t1) rfl (.cons (intKind_is P w k2 t2) rfl (.cons (intKind_is P w k3 t3) rfl .nil))
 .exact .cons (.int v1 u1) (.cons (.int v2 u2) (.cons (.int v3 u3) .nil))
end
end L2
end
section
namespace L2
open PySem PySem.Spec PyProof.Rows
def Cal(P:Program)(w:World)(K:U0a)(mg:Str->Option Value)(base:Heap)(x:Str)(k:Nat)(ps:List Str)(sp:Sp):Prop :=
 ∃f fd,DG P w K mg base CX0 k f fd ps sp/\Binds K fd ps []/\U04 K (.ref f)=true/\mg x=some (.ref f)
section
variable{X:Cx}
theorem Qq{x:Str}{k k':Nat}{ps:List Str}{sp:Sp}{e:Expr}{es:List Expr}{t:TA}{p pos:Pos}(c:Cal X.prog X.w X.K X.mg X.base x k ps sp)(hr:Dz k' X.A)(hk:k<=k')(hg:Gl X x)(ha:PA X (e::es) t)
  (hdb:(x==("__debug__":Str))=false:=by decide) (he:starEach (e::es) X.env=(false,eval e X.env)::starEach es X.env:=by rfl) (hpl:(backTo pos (starEach es X.env)).any (·.1)=false:=by rfl) :
  PE X (.Call (.Name x p) (e::es) [] pos) (iM sp [] E0 t):=by
 obtain⟨f,fd,F,b,kp,m⟩:=c
 exact jk (F.mono hk) hr hg m kp b .nil tG ha hdb he hpl
theorem W3:OpR X (binaryOp .FloorDiv) (rI (fun _ j=>0<j/\j<2^64) fun i j=>.int (i/j)):=opI fun i j _ _ _ _ _ hc q=>by
 rw[←Int.fdiv_eq_ediv_of_nonneg _ (U7h hc.1)] at q
 refine floordiv_int (Int.ne_of_gt hc.1) q (.inl (PyProof.noPylong_of_log2 ?_))
 have h1:j.natAbs<2^64:=by omega
 have h2:j.natAbs≠0:=by omega
 exact U2p ((Nat.log2_lt h2).mpr h1) (by decide)
end
theorem HY:bootBuiltins "len"=some (.builtin "len"):=by decide +kernel
theorem GK:bootBuiltins "isinstance"=some (.builtin "isinstance"):=by decide +kernel
theorem aD:bootBuiltins "all"=some (.builtin "all"):=by decide +kernel
theorem cJ:bootBuiltins "sorted"=some (.builtin "sorted"):=by decide +kernel
theorem qt:bootBuiltins "min"=some (.builtin "min"):=by decide +kernel
theorem qu:bootBuiltins "max"=some (.builtin "max"):=by decide +kernel
theorem Q9:bootBuiltins "repr"=some (.builtin "repr"):=by decide +kernel
theorem qp:bootBuiltins "set"=some (.type "set"):=by decide +kernel
theorem TY:bootBuiltins "list"=some (.type "list"):=by decide +kernel
theorem Nk:bootBuiltins "tuple"=some (.type "tuple"):=by decide +kernel
theorem iC:bootBuiltins "range"=some (.type "range"):=by decide +kernel
theorem Vj:bootBuiltins "int"=some (.type "int"):=by decide +kernel
theorem lZ:bootBuiltins "bool"=some (.type "bool"):=by decide +kernel
def RB:List Str:=["len","isinstance","all","sorted","min","max","abs","repr","set","list","tuple","range","int","bool","str"]
def Blt(mg:Str->Option Value):Prop:=∀x∈RB,mg x=none
theorem Blt.is{mg:Str->Option Value}(b:Blt mg)(x:Str)(h:RB.contains x=true:=by decide +kernel):mg x=none:=b x (List.contains_iff_mem.mp h)
def tyName:PyData->String
 |.none=>"NoneType"
 |.bool _=>"bool"
 |.int _=>"int"
 |.str _=>"str"
 |.list _=>"list"
 |.tuple _=>"tuple"
 |.dict _=>"dict"
theorem Tr.ty{N:Addr->Prop}{K:U0a}{H:Hp}{v:V}{d:PyData}(t:Tr N H v d):J5 K H v (.type (tyName d)):=by
 cases t with
 |non=>exact .non
 |bl b=>exact .bl b
 |int i=>exact .int i
 |str x=>exact .str x
 |lst _ h _=>exact .lst h
 |tup _ h _=>exact .tup h
 |dct _ h=>exact .dK h
def VG(T:String)(d:PyData):Bool:=match T with
 |"int"=>(match d with|.int _=>true|.bool _=>true|_=>false)
 |"bool"=>(match d with|.bool _=>true|_=>false)
 |"tuple"=>(match d with|.tuple _=>true|_=>false)
 |"list"=>(match d with|.list _=>true|_=>false)
 |_=>false
theorem kO{K:U0a}(d:PyData):U29 K (.type (tyName d)) (.type "int")=some (VG "int" d):=by
 cases d with
 |none=>exact CZ (a:="NoneType") (r:=false) (by decide +kernel)
 |bool _=>exact CZ (a:="bool") (r:=true) (by decide +kernel)
 |int _=>exact CZ (a:="int") (r:=true) (by decide +kernel)
 |str _=>exact CZ (a:="str") (r:=false) (by decide +kernel)
 |list _=>exact CZ (a:="list") (r:=false) (by decide +kernel)
 |tuple _=>exact CZ (a:="tuple") (r:=false) (by decide +kernel)
 |dict _=>exact CZ (a:="dict") (r:=false) (by decide +kernel)
theorem gD{K:U0a}(d:PyData):U29 K (.type (tyName d)) (.type "bool")=some (VG "bool" d):=by
 cases d with
 |none=>exact CZ (a:="NoneType") (r:=false) (by decide +kernel)
 |bool _=>exact CZ (a:="bool") (r:=true) (by decide +kernel)
 |int _=>exact CZ (a:="int") (r:=false) (by decide +kernel)
 |str _=>exact CZ (a:="str") (r:=false) (by decide +kernel)
 |list _=>exact CZ (a:="list") (r:=false) (by decide +kernel)
 |tuple _=>exact CZ (a:="tuple") (r:=false) (by decide +kernel)
 |dict _=>exact CZ (a:="dict") (r:=false) (by decide +kernel)
theorem kit_tuple{K:U0a}(d:PyData):U29 K (.type (tyName d)) (.type "tuple")=some (VG "tuple" d):=by
 cases d with
 |none=>exact CZ (a:="NoneType") (r:=false) (by decide +kernel)
 |bool _=>exact CZ (a:="bool") (r:=false) (by decide +kernel)
 |int _=>exact CZ (a:="int") (r:=false) (by decide +kernel)
 |str _=>exact CZ (a:="str") (r:=false) (by decide +kernel)
 |list _=>exact CZ (a:="list") (r:=false) (by decide +kernel)
 |tuple _=>exact CZ (a:="tuple") (r:=true) (by decide +kernel)
 |dict _=>exact CZ (a:="dict") (r:=false) (by decide +kernel)
theorem gC{K:U0a}(d:PyData):U29 K (.type (tyName d)) (.type "list")=some (VG "list" d):=by
 cases d with
 |none=>exact CZ (a:="NoneType") (r:=false) (by decide +kernel)
 |bool _=>exact CZ (a:="bool") (r:=false) (by decide +kernel)
 |int _=>exact CZ (a:="int") (r:=false) (by decide +kernel)
 |str _=>exact CZ (a:="str") (r:=false) (by decide +kernel)
 |list _=>exact CZ (a:="list") (r:=true) (by decide +kernel)
 |tuple _=>exact CZ (a:="tuple") (r:=false) (by decide +kernel)
 |dict _=>exact CZ (a:="dict") (r:=false) (by decide +kernel)
end L2
end
section
namespace L2
open PySem PySem.Spec PyProof.Rows
def Mq:PyData->Bool
 |.none=>true
 |.bool _=>true
 |.int i=>decide (i.natAbs<10^41)
 |.str x=>decide (x.length<=30)&&x.cps.toList.all fun c=>decide (c<16^8)
 |.dict kvs=>kvs.isEmpty
 |_=>false
def fit:List Nat->PyData->Bool
 |w::ws,.list xs=>decide (xs.length<=w)&&xs.all (fit ws)
 |w::ws,.tuple xs=>decide (xs.length<=w)&&xs.all (fit ws)
 |_,d=>Mq d
def bnd:List Nat->Nat
 |[]=>400
 |w::ws=>w*(bnd ws+2)+400
theorem YK{d:PyData}(h:Mq d=true):d.showable=true/\d.depth<=1/\d.shown.length<=400:=by
 cases d with
 |none=>exact⟨rfl,by simp[U24],by decide⟩
 |bool b=>exact⟨rfl,by simp[U24],by cases b<;>decide⟩
 |int i =>
  have hi:i.natAbs<10^41:=of_decide_eq_true h
  refine⟨?_,by simp[U24],?_⟩
  .simp only[U6,decide_eq_true_eq]
   by_cases h0:i.natAbs=0
   .rw[h0];decide
   .exact U2p ((Nat.log2_lt h0).mpr (U2p hi (by decide:10^41<2^137))) (by decide)
  .have q:=int_text_length_le10 (k:=41) (by decide) hi
   have e:(U3v (.int i)).length=(toString i).length:=by
    show(U23 (toString i)).length=_
    exact PySem.ofString_length _
   rw[e];omega
 |str x =>
  simp only[Mq,U0y,decide_eq_true_eq,U3j] at h
  refine⟨rfl,by simp[U24],?_⟩
  have q:=StrLaws.reprText_len x h.2
  simp only[U3v]
  have:=h.1
  omega
 |list xs=>cases h
 |tuple xs=>cases h
 |dict kvs =>
  cases kvs with
  |nil=>exact⟨rfl,by simp[U24,PyData.depthKv],by decide⟩
  |cons a r=>cases h
theorem TQ{ws:List Nat}(ih:∀d,fit ws d=true->d.showable=true/\d.depth<=ws.length+1/\d.shown.length<=bnd ws):∀xs:List PyData,xs.all (fit ws)=true ->
  PyData.showableAll xs=true/\U3z xs<=ws.length+1/\((U4s xs).map (·.length)).sum+2*(U4s xs).length<=xs.length*(bnd ws+2)
 |[],_=>⟨rfl,by simp[U3z],by simp[U4s]⟩
 |x::r,h=>by
  rw[U6m,U0y] at h
  obtain⟨a1,a2,a3⟩:=ih x h.1
  obtain⟨b1,b2,b3⟩:=TQ ih r h.2
  refine⟨by simp[PyData.showableAll,a1,b1],by simp only[U3z];omega,?_⟩
  simp only[U4s,U0t,U4j,U0e]
  rw[show(r.length+1)*(bnd ws+2)=r.length*(bnd ws+2)+(bnd ws+2) from Nat.succ_mul _ _]
  omega
theorem Zy:∀(ws:List Nat)(d:PyData),fit ws d=true->d.showable=true/\d.depth<=ws.length+1/\d.shown.length<=bnd ws
 |[],d,h=>by
  have h':Mq d=true:=by
   cases d<;>exact h
  obtain⟨a,b,c⟩:=YK h'
  exact⟨a,b,c⟩
 |w::ws,d,h=>by
  have ih:=Zy ws
  have leaf:Mq d=true->d.showable=true/\d.depth<=(w::ws).length+1/\d.shown.length<=bnd (w::ws):=fun h'=>by
   obtain⟨a,b,c⟩:=YK h'
   refine⟨a,by rw[U0e];omega,U06 c ?_⟩
   unfold bnd;omega
  cases d with
  |list xs =>
   simp only[fit,U0y,decide_eq_true_eq] at h
   obtain⟨a,b,c⟩:=TQ ih xs h.2
   refine⟨by simpa [U6] using a,by simp only[U24,U0e];omega,?_⟩
   have q:=listText_len_le (U4s xs)
   have m:=U43 (bnd ws+2) h.1
   simp only[U3v,bnd]
   omega
  |tuple xs =>
   simp only[fit,U0y,decide_eq_true_eq] at h
   obtain⟨a,b,c⟩:=TQ ih xs h.2
   refine⟨by simpa [U6] using a,by simp only[U24,U0e];omega,?_⟩
   have q:=tupleText_len_le (U4s xs)
   have m:=U43 (bnd ws+2) h.1
   simp only[U3v,bnd]
   omega
  |none=>exact leaf h
  |bool b=>exact leaf h
  |int i=>exact leaf h
  |str x=>exact leaf h
  |dict kvs=>exact leaf h
def Nx(n:Nat)(Pv:Nat->List V->Hp->Prop)(i:Nat)(ys:List V)(H:Hp):Prop:=∃m',m'<n-i/\(m'=n-(i+1)/\i+1<=n/\Pv (i+1) ys H)
theorem nx{n:Nat}{Pv:Nat->List V->Hp->Prop}{i:Nat}{ys:List V}{H:Hp}(hi:i<n)(p:Pv (i+1) ys H):Nx n Pv i ys H:=⟨n-(i+1),by omega,rfl,hi,p⟩
section
variable{k:Nat}{caps:List Nat}{σ:St}{g:TG}{tt:TT}{te:TE}{Q:VK}{H:Hp}
end
def Well(H:Hp)(a:Addr):Prop:=∃x y:Int,H a=some (.lst [.int x,.int y])
end L2
end
section
namespace L2
open PySem PySem.Spec PyProof.Rows
section
variable{a:Addr}{H0:Hp}{σ:St}{te t1 t2:TE}{ta:TA}{d:PyData}{ds d1 d2:List PyData}{i j:Int}
end
end L2
end
section
namespace L2
open PySem PySem.Spec PyProof.Rows
section
variable{X:Cx}{K:U0a}
abbrev uh(K:U0a):List V->Hp->VK->Prop:=fun xs H Q=>∃p ys,xs=[.ref p]/\(SqL K H p ys∨SqT K H p ys)/\Q (.int ys.length) H
abbrev jR(K:U0a):List V->Hp->VK->Prop:=fun xs H Q=>∃p ys,xs=[.ref p]/\(SqL K H p ys∨SqT K H p ys)/\∀l,H l=none->Q (.ref l) (upd H l (.lst ys))
abbrev eG(K:U0a):List V->Hp->VK->Prop:=fun xs H Q=>∃p ys,xs=[.ref p]/\((SqL K H p ys/\∀l,H l=none->Q (.ref l) (upd H l (.tup ys)))∨(SqT K H p ys/\Q (.ref p) H))
theorem fC{d:Addr}{D:List (PyData×PyData)}{x:Str}{p pos:Pos}{b:Expr}{ta tb:TE}(hT:∀h,X.K.In h->IntTab X.prog X.w h d D)(ha:PE X (.Name x p) ta)(hb:PE X b tb)(hs:QB b)
  (hg:∀r,letTemporaryGo (.Name x p) (.ref d) r=pure ():=by intro _;with_unfolding_all rfl) :
  PE X (.Subscript (.Name x p) b pos) (tOp (fun x y H Q=>∃(i j:Int),x=.ref d/\y=.int i/\lookup (.int i) D=some (.int j)/\Q (.int j) H) ta tb):=by
 intro pins s σ H Q I h
 refine Subscript_ (Yk ha hb I h fun v u s2 x y H2 I2 rx ry q=>?_)
 obtain⟨i,j,rfl,rfl,hl,q⟩:=q
 cases rx
 obtain⟨t,rfl⟩:=ry
 refine item_intTab (hT _ I2.kIn) hl (fun v fl=>?_) (hs _ _) hg
 cases fl s2.heap with
 |int _ t'=>exact⟨.int j,H2,I2.tok _,⟨t',rfl⟩,q⟩
end
end L2
end
section
namespace Bc
open PySem PySem.Spec PyProof.Rows L2
abbrev D3:List (PyData×PyData):=[(.int 1,.int 20),(.int 2,.int 10),(.int 3,.int 6)]
theorem tY(i:Int):(lookup (.int i) D3).isSome=decide (i=1∨i=2∨i=3):=by
 have same_i:∀a b:Int,same (.int a) (.int b)=decide (a=b):=fun a b=>by by_cases h:a=b<;>simp[same,h]
 simp only[lookup,same_i]
 by_cases h1:(1:Int)=i
 .subst h1;rfl
 by_cases h2:(2:Int)=i
 .subst h2;rfl
 by_cases h3:(3:Int)=i
 .subst h3;rfl
 rw[decide_eq_false h1,decide_eq_false h2,decide_eq_false h3]
 have h:¬(i=1∨i=2∨i=3):=by omega
 rw[decide_eq_false h]
 rfl
def nq:PyData->Bool
 |.tuple es=>U5u es&&decide (U3z es<=60)
 |_=>true
def lay:PyData->Bool
 |.tuple ds=>ds.all nq
 |_=>true
abbrev F3:List Nat:=[9,9,9]
def nr(a:Int):Bool:=decide (-(10^9)<=a)&&decide (a<=10^9)
def bx:PyData->Bool
 |.tuple [.int a,.int b]=>nr a&&nr b&&decide (a<b)
 |_=>false
def part(d:PyData):Bool:=fit [9,9] d&&nq d
def good(d:PyData):Bool:=fit F3 d&&lay d
end Bc
end
section
set_option maxRecDepth 100000
namespace HT
open PySem PySem.Spec PyProof.Rows
open AutoSeq1 (wpAny_loadPart')
theorem RK:fillsNumberSlot (.type "tuple") "mul"=pure false :=
 PySem.fillsNumberSlot_seq (id:="tuple.__mul__") (r:=some (.builtin "tuple.__rmul__")) U4u.lookup (by decide +kernel) PySem.F.slot_tuple_rmul.lookup (by decide +kernel)
theorem aZ:seqRepeat? (.type "tuple")=pure (some (.builtin "tuple.__mul__")):=by
 unfold seqRepeat?
 rw[PySem.seqSlot_of (T:="tuple") (name:="__mul__") (id:="tuple.__mul__") U4u.lookup (by decide +kernel),PySem.seqSlot_of (T:="tuple") (name:="__rmul__") (id:="tuple.__rmul__") PySem.F.slot_tuple_rmul.lookup (by decide +kernel)]
 rfl
theorem X4(a:Int)(t:Tok)(l:Addr)(items:Array Value)(n:Nat)(dd:Option Addr)(sl:Array (Option Value)) :
  Meets (Builtin.«int.__rmul__» ⟨[.int a t,.ref l],[]⟩) (fun _ R s=>s.heap.get? l=some { cls:=.type "tuple",dict:=dd,data:=.seq items n,slots:=sl }/\R (.ok (.ret Value.notImplemented)) s) :=
 .of_wp fun prog w A R s h=>by obtain⟨hp,g,d,tk,os⟩:=s;obtain⟨hl,h⟩:=h;wp_walk using wpAny_loadPart' hl;exact⟨_,rfl,h⟩
theorem dI(l:Addr)(items:Array Value)(n:Nat)(dd:Option Addr)(sl:Array (Option Value))(x:Int)(u:Tok)(hc0:¬(decide (x < -(2^63))||decide (x≥2^63))=true)(hc1:(items.isEmpty||x==1)=true) :
  Meets (Builtin.«tuple.__mul__» ⟨[.ref l,.int x u],[]⟩) (fun _ R s=>s.heap.get? l=some { cls:=.type "tuple",dict:=dd,data:=.seq items n,slots:=sl }/\R (.ok (.ret (U1x l))) { s with heap:=s.heap,toks:=s.toks }) :=
 .of_wp fun prog w A R s h=>by obtain⟨hp,g,d,tk,os⟩:=s;obtain⟨hl,h⟩:=h;have f1:=AutoSeq1.idx_int;wp_walk;refine U64 (decide_eq_false hc0) ?_;wp_walk using wpAny_loadPart' hl;exact⟨_,rfl,h⟩
theorem dH(l:Addr)(items:Array Value)(n:Nat)(dd:Option Addr)(sl:Array (Option Value))(x:Int)(u:Tok)(hc0:¬(decide (x < -(2^63))||decide (x≥2^63))=true)(hc1:¬(items.isEmpty||x==1)=true)
  (hc2:¬(decide (x<=0)||items.isEmpty)=true) (hc3:¬(items.size:Int)*x>(2^63-1)/8) (hc4:¬Builtin.Tuple.tupleTooMany ((items.size:Int)*x)=true) (hsz:(U57 (fun x1 x2=>x1++x2) #[] (U03 x.toNat items)).size<=sizeLine) :
  Meets (Builtin.«tuple.__mul__» ⟨[.ref l,.int x u],[]⟩) (fun _ R s=>s.heap.get? l=some { cls:=.type "tuple",dict:=dd,data:=.seq items n,slots:=sl }/\R (.ok (.ret (U1x s.heap.objs.size))) { s with heap:=s.heap.push { cls:=U3f "tuple",data:=Data.seq (U57 (fun x1 x2=>x1++x2) #[] (U03 x.toNat items)) },toks:=s.toks }) :=
 .of_wp fun prog w A R s h=>by obtain⟨hp,g,d,tk,os⟩:=s;obtain⟨hl,h⟩:=h;have f1:=AutoSeq1.idx_int;wp_walk;refine U64 (decide_eq_false hc0) ?_;wp_walk using wpAny_loadPart' hl;refine U64 (decide_eq_false hc3) ?_;wp_walk;exact⟨_,rfl,h⟩
section
variable{prog:Program}{w:World}{A:Around}{E:Value->Shared->Prop}{s:Shared}
theorem jw{t:Addr}{its:List Value}{k:Int}{u:Tok}{Q:Value->Shared->Prop}(ht:IsTup s.heap t its.toArray)(hne:its≠[])(h1:1<=k)(h2:k<2^60)(hz:its.length*k.toNat<=sizeLine)
  (q1:k=1->Q (.ref t) s) (q2:k≠1->Q (.ref s.heap.objs.size) { s with heap:=s.heap.push { cls:=.type "tuple",data:=.seq (U03 k.toNat its).flatten.toArray } }) :
  wpAny (model prog w) A (binaryOp .Mult (.ref t) (.int k u)) Q E s:=by
 obtain⟨⟨c1,d1,x1,sl1⟩,ho,hc,n,hd⟩:=id ht
 simp only at hc hd
 subst hc hd
 have c0:¬(decide (k < -(2^63))||decide (k≥2^63))=true:=by
  rw[decide_eq_false (by omega),decide_eq_false (by omega)];exact U1a
 have ne:its.toArray.isEmpty=false:=by cases its with|nil=>exact absurd rfl hne|cons _ _=>rfl
 have hnew:U57 (fun x1 x2=>x1++x2) #[] (U03 k.toNat its.toArray)=(U03 k.toNat its).flatten.toArray:=by
  have:=L2.foldl_rep its k.toNat []
  rw[U11] at this
  exact this
 refine wpAny_binaryOp_repeat_ref (T:="tuple") (U:="int") (by decide) ⟨_,ho,rfl⟩ (fun s'=>typeIs_int s' k u) RK PySem.F.fills_int_mul PySem.F.slot_int_rmul aZ PySem.F.slot_int_index.lookup
  (call_meets PySem.F.slot_int_rmul (typeIs_int s k u) PySem.F.entry_int_rmul (PySem.F.args_int_rmul_2 _ _) (X4 k u t its.toArray n d1 sl1) ⟨ho,rfl,⟨_,ho,rfl⟩,?_⟩)
 by_cases k1:k=1
 .exact call_meets U4u ⟨_,ho,rfl⟩ PySem.F.entry_tuple_mul (PySem.F.args_tuple_mul_2 _ _) (dI t its.toArray n d1 sl1 k u c0 (by rw[k1];simp)) ⟨ho,q1 k1⟩
 .have e:((its.toArray.size:Nat):Int)*k=((its.length*k.toNat:Nat):Int):=by
   rw[U0o,Int.natCast_mul,Int.toNat_of_nonneg (by omega)]
  have hs:(sizeLine:Nat)=16777216:=by decide
  refine call_meets U4u ⟨_,ho,rfl⟩ PySem.F.entry_tuple_mul (PySem.F.args_tuple_mul_2 _ _) (dH t its.toArray n d1 sl1 k u c0 ?_ ?_ ?_ ?_ ?_) ⟨ho,?_⟩
  .rw[ne];simp[k1]
  .rw[ne,decide_eq_false (by omega)];exact U1a
  .rw[e];omega
  .rw[e]
   unfold Builtin.Tuple.tupleTooMany
   rw[decide_eq_true_eq]
   omega
  .rw[hnew,U0o,L2.len_rep,U6w];exact hz
  .rw[hnew];exact q2 k1
end
end HT
namespace L2
open PySem PySem.Spec PyProof.Rows
abbrev iR:R2:=fun x y H Q=>∃(a:Addr)(k:Int)(xs:List V),x=.ref a/\y=.int k/\H a=some (.tup xs)/\xs≠[]/\1<=k/\k<2^60/\xs.length*k.toNat<=sizeLine/\∀p H',Same H H'->H' p=some (.tup (U03 k.toNat xs).flatten)->Q (.ref p) H'
section
variable{X:Cx}
theorem jo:OpR X (binaryOp .Mult) iR:=by
 intro pins s σ H x y v u Q I rx ry h
 obtain⟨a,k,xs,rfl,rfl,ha,hne,k1,k2,hz,q⟩:=h
 cases rx
 obtain⟨t,rfl⟩:=ry
 obtain⟨its,r1,p1,_⟩:=I.tuple (SqT.of ha)
 refine HT.jw p1 (fun z=>hne (r1.Q5.mp z)) k1 k2 (by rw[←r1.length];exact hz) (fun e=>?_) (fun e=>?_)
 .refine⟨.ref a,H,I,rfl,q a H (Same.refl H) ?_⟩
  rw[e]
  simpa using ha
 .refine⟨.ref s.heap.objs.size,_,I.laid (t':=s.toks) (o:=.tup (U03 k.toNat xs).flatten) (fun b ob q=>U0b _ q) (U0k _) ?_,rfl,q _ _ (Cw (I.hok.fresh (U0k _)) _) Bk⟩
  exact⟨by rw[len_rep,U6w];exact hz,_,r1.rep k.toNat,IsTup.new _ _⟩
end
section
variable{X:Cx}
theorem Km{k:Nat}(hr:Dz k X.A):DK X (.builtin "repr") (fun xs H Q=>∃(N:Addr->Prop)(v:V)(d:PyData),xs=[v]/\Tr N H v d/\d.showable=true/\d.depth<=60/\d.shown.length<=sizeLine/\Q (.str d.shown) H):=by
 intro pins s σ H xs us Q I r h
 obtain⟨N,v,d,rfl,t,h1,h2,h3,q⟩:=h
 have onRef:∀b,v=.ref b->wpAny (model X.prog X.w) X.A (call (.builtin "repr") us) (EP X pins σ Q) X.xe s:=fun b e=>by
  subst e
  exact cD hr pins s σ H _ us Q I r ⟨N,b,d,rfl,t,h1,h2,h3,q⟩
 cases t with
 |lst _ _ _=>exact onRef _ rfl
 |tup _ _ _=>exact onRef _ rfl
 |dct _ _=>exact onRef _ rfl
 |non =>
  obtain⟨u,rfl,rx⟩:=vals1 r
  cases (show u=U2g from rx)
  exact PySem.P.repr_of_none ⟨.str "None",H,I.tok _,⟨_,rfl⟩,q⟩
 |bl b =>
  obtain⟨u,rfl,rx⟩:=vals1 r
  cases (show u=U4k b from rx)
  exact PySem.P.repr_of_bool ⟨.str (if b then "True" else "False"),H,I.tok _,⟨_,rfl⟩,q⟩
 |int i =>
  obtain⟨u,rfl,rx⟩:=vals1 r
  obtain⟨t,rfl⟩:=rx
  exact PySem.P.repr_of_int (by simpa [U6] using h1) ⟨.str (toString i),H,I.tok _,⟨_,rfl⟩,q⟩
 |str x =>
  obtain⟨u,rfl,rx⟩:=vals1 r
  obtain⟨t,rfl⟩:=rx
  exact PySem.P.repr_of_str ⟨.str (reprText x),H,I.tok _,⟨_,rfl⟩,q⟩ h3
end
section
variable{a:Addr}{H0:Hp}{σ:St}{te t1 t2:TE}{ta:TA}{d:PyData}{ds d1 d2:List PyData}{i j:Int}{K:U0a}
end
structure Wq(a q:Addr)(bs:List V)(H:Hp):Prop where
 w:Well H a
 at_:H q=some (.lst bs)
 ne:q≠a
section
variable{a q p:Addr}{bs:List V}{H H':Hp}
abbrev iU:R2:=fun x y H Q=>∃(a b:Addr)(xs ys:List V),x=.ref a/\y=.ref b/\H a=some (.tup xs)/\H b=some (.tup ys)/\xs.length+ys.length<=sizeLine/\∀p H',Same H H'->H' p=some (.tup (xs++ys))->Q (.ref p) H'
abbrev nJ:V->Option Int->Option Int->Hp->VK->Prop:=fun x lo hi H Q=>∃(a:Addr)(xs:List V),x=.ref a/\H a=some (.tup xs)/\∀p H',Same H H'->H' p=some (.tup (JL xs lo hi))->Q (.ref p) H'
end
end L2
end
section
namespace L2
open PySem PySem.Spec PyProof.Rows
end L2
namespace Bc
open PySem PySem.Spec PyProof.Rows L2
def qG:PyData->Nat
 |.int 1=>20
 |.int 2=>10
 |.int 3=>6
 |_=>0
def v8(n:Nat):PyData->Bool
 |.tuple es=>decide (es.length=n)&&es.all bx
 |_=>false
end Bc
end
section
namespace L2
open PySem PySem.Spec PyProof.Rows
theorem Inv.Xz{X:Cx}{pins:List (Addr×Obj)}{σ:St}{H:Hp}{s:Shared}{h':Heap}{t':Nat}{fp:List Addr}(I:Inv X pins σ H s)(k:∀b o,b ∉ fp->s.heap.get? b=some o->h'.get? b=some o)(hf:∀b∈fp,MJ X pins H b) :
  Inv X pins σ H { s with heap:=h',toks:=t' }:=by
 have nit:∀b u,H b=some u->b ∉ fp:=fun b u e z=>by
  have:=(hf b z).1
  rw[this] at e
  cases e
 refine I.step (g':=s.gens) (d':=s.drawn) (ch:=fp) (fun b hb=>?_) (fun b o _ _ hc e _=>k b o hc e) (fun b o _ _ hc e _=>⟨o.slots,k b o hc e⟩) (fun _ _ _ _ n=>n) (fun b o hc e=>⟨o,k b o hc e⟩) (fun _ _ e=>e) (fun _ _ _ e=>e)
  (fun b ps e=>⟨#[],by rw[e];simp⟩) (fun m hm=>?_) (fun b u e=>?_) I.bare id
 .obtain⟨_,a2,_,a4,a5,a6⟩:=hf b hb
  exact⟨a4,a2,a5,a6⟩
 .obtain⟨o,es,ep,ho,r⟩:=hm
  exact⟨o,es,ep,k _ o (fun z=>(hf _ z).2.1 rfl) ho,r⟩
 .refine(I.hok b u e).stay (fun c v hc q=>k c v ?_ q) (fun _ q=>q) fun _ _ q=>q
  rcases hc with z|z
  .rw[z];exact nit b u e
  .exact nit c _ z
theorem Inv.tH{X:Cx}{pins:List (Addr×Obj)}{σ:St}{H:Hp}{s:Shared}{h':Heap}{t':Nat}{fp:List Addr}{x y:V}{u v:Value}(I:Inv X pins σ H s)(rx:RelV x u)(ry:RelV y v)
  (ht:h'.get? s.heap.objs.size=some { cls:=.type "tuple",data:=.seq #[u,v] }) (k:∀b o,b ∉ fp->s.heap.get? b=some o->h'.get? b=some o) (hf:∀b∈fp,MJ X pins H b) (hlt:∀b∈fp,b<s.heap.objs.size) :
  Inv X pins σ (upd H s.heap.objs.size (.tup [x,y])) { s with heap:=h',toks:=t' }:=by
 have I1:=I.laid (h':=s.heap.push { cls:=.type "tuple",data:=.seq #[u,v] }) (t':=s.toks) (a:=s.heap.objs.size) (o:=.tup [x,y]) (fun b ob q=>U0b _ q) (U0k _)
  ⟨(by decide:2<=sizeLine),[u,v],.cons rx (.cons ry .nil),IsTup.new _ _⟩
 refine Inv.Xz (s:={ s with heap:=s.heap.push { cls:=.type "tuple",data:=.seq #[u,v] } }) (h':=h') (t':=t') (fp:=fp) I1 (fun b o hb e=>?_) (fun b hb=>?_)
 .rcases Heap.get?_push_cases e with ⟨z1,z2⟩|z
  .rw[z1,z2]
   exact ht
  .exact k b o hb z
 .obtain⟨a1,a2,a3,a4,a5,a6⟩:=hf b hb
  exact⟨by rw[BZ (U0v (hlt b hb))];exact a1,a2,a3,a4,a5,a6⟩
section
variable{X:Cx}
end
end L2
end
section
set_option maxRecDepth 100000
namespace HT
open PySem PySem.Spec PyProof.Rows
section
variable{prog:Program}{w:World}{A:Around}{E:Value->Shared->Prop}{s:Shared}
theorem nextT{it t:Addr}{i:Nat}{ws:Array Value}{x:Value}{Q:Value->Shared->Prop}(c:s.heap.IsTupleIter it t i)(ct:s.heap.IsTuple t ws)(ex:ws[i]?=some x)
  (q:∀h',h'.IsTupleIter it t (i+1)->U02 it s.heap h'->Q x { s with heap:=h' }):wpAny (model prog w) A (U1e (.ref it)) Q E s:=by
 obtain⟨o,e0,e1,e2⟩:=id c
 obtain⟨ot,f0,_,nt,f1⟩:=ct
 unfold U1e
 refine U0 (wpAny_callSpecial?_slot (name:=U23 "__next__") c.typeIs U3l (U17 U3l c.typeIs PySem.F.entry_tuple_iterator_next ?_ (PySem.F.args_tuple_iterator_next_1 _)))
 refine(show wpAny _ _ (field (.ref it) 0 >>= _) _ _ s from U0 (U13 e0 e2 (x:=.ref t) rfl ?_))
 show wpAny _ _ (ite ((U1x t==U2g)=true) _ _) _ _ s
 rw[if_neg (by exact U1a)]
 refine(show wpAny _ _ (field (.ref it) 1 >>= _) _ _ s from U0 (U13 e0 e2 (x:=.int i 0) rfl ?_))
 refine(show wpAny _ _ (seqItems? (.ref t) >>= _) _ _ s from U0 (U2o f0 f1 ?_))
 simp only[ex,U3b]
 refine U0 (U2z e0 e2 (by simp) (U0d ⟨x,rfl,U0d (q _ ⟨_,U14 _ e0 (Obj.isFreed_of_fields (Obj.data_mapFields e2 _)),(Obj.cls_mapFields ..).trans e1,?_⟩ (U1n ..))⟩))
 rw[Obj.data_mapFields e2]
 simp[rawInt]
theorem qC{it t:Addr}{i:Nat}{ws:Array Value}{Q:Value->Shared->Prop}(ha:A.handled=none)(c:s.heap.IsTupleIter it t i)(ct:s.heap.IsTuple t ws)(ex:ws[i]?=none)
  (q:∀h' e,U48 it s.heap h'->(∃o,h'.get? e=some o/\o.cls=.type "StopIteration")->E (.ref e) { s with heap:=h' }):wpAny (model prog w) A (U1e (.ref it)) Q E s:=by
 obtain⟨o,e0,e1,e2⟩:=id c
 obtain⟨ot,f0,_,nt,f1⟩:=ct
 unfold U1e
 refine U0 (wpAny_callSpecial?_slot (name:=U23 "__next__") c.typeIs U3l (U17 U3l c.typeIs PySem.F.entry_tuple_iterator_next ?_ (PySem.F.args_tuple_iterator_next_1 _)))
 refine(show wpAny _ _ (field (.ref it) 0 >>= _) _ _ s from U0 (U13 e0 e2 (x:=.ref t) rfl ?_))
 show wpAny _ _ (ite ((U1x t==U2g)=true) _ _) _ _ s
 rw[if_neg (by exact U1a)]
 refine(show wpAny _ _ (field (.ref it) 1 >>= _) _ _ s from U0 (U13 e0 e2 (x:=.int i 0) rfl ?_))
 refine(show wpAny _ _ (seqItems? (.ref t) >>= _) _ _ s from U0 (U2o f0 f1 ?_))
 simp only[ex,U3b]
 refine U0 (U41 (U0 (U2z e0 e2 (by simp) (show wpAny _ _ (newExc (.type "StopIteration") [] >>= _) _ _ _ from U0 ?_))))
 simp only[newTuple,newExc]
 refine U0 (U19 (U0 (m:=firstArgMember _ _) (wpAny_of_eq (a:=U2g) (by first|rfl|(simp only[firstArgMember];rfl)) (U19 ?_ (by size_fits)))) (by size_fits))
 simp only[raiseNew]
 refine U0 (wpAny_handled ?_)
 rw[show A.in1.handled=none from ha]
 exact U0 (U0d (wpAny_throw (q _ _ (((U1n ..).extBut.push _).push _) ⟨_,U0s _ rfl,rfl⟩)))
theorem qe(ha:A.handled=none)(it t:Addr)(ne:t≠it)(ws:Array Value):Draws prog w A it [it,t] ws.size (fun i v=>ws[i]?=some v) (fun i h=>h.IsTupleIter it t i/\h.IsTuple t ws) where
 live:=fun _ _ st=>let ⟨o,e,_⟩:=st.1;⟨o,e⟩
 frame:=fun _ _ _ st k=>⟨st.1.at fun o e=>k it (by simp) o e,st.2.at fun o e=>k t (by simp) o e⟩
 item:=fun i s Q E hi st q=>nextT st.1 st.2 (x:=ws[i]) (by simp[hi]) fun h' c' sb=>q _ h' s.toks (by simp[hi]) ⟨c',st.2.extBut sb.extBut ne⟩ sb
 done:=fun s Q E st q=>qC ha st.1 st.2 (by simp) q
structure Apart(z TI TO i1 i2:Addr)(fp1 fp2:List Addr):Prop where
 a1:TI≠z
 a2:TO≠z
 a3:TI≠TO
 b1:∀b∈fp1,b≠z/\b≠TO/\b≠i2
 b2:∀b∈fp2,b≠z/\b≠TO/\b≠i1
 c1:i1≠z/\i1≠TO/\i1≠TI
 c2:i2≠z/\i2≠TO/\i2≠TI
 c3:i1≠i2
section
variable{z TI TO i1 i2:Addr}{fp1 fp2:List Addr}{n1 n2 k:Nat}{P1 P2:Nat->Value->Prop}{S1 S2:Nat->Heap->Prop}{a b:Value}
theorem uT{Q:Value->Shared->Prop}(D1:Draws prog w A i1 fp1 n1 P1 S1)(D2:Draws prog w A i2 fp2 n2 P2 S2)(D:Apart z TI TO i1 i2 fp1 fp2)(hZ:IsZip s.heap z TI TO .none)(hI:IsPair s.heap TI (.ref i1) (.ref i2))(hO:IsPair s.heap TO a b)
  (s1:S1 k s.heap) (s2:S2 k s.heap) (k1:k<n1) (k2:k<n2)
  (q:∀x y h' tk,P1 k x->P2 k y->IsZip h' z TI TO (rawInt s.heap.objs.size)->IsPair h' TO x y->S1 (k+1) h'->S2 (k+1) h'->IsPair h' s.heap.objs.size x y->h'.objs.size=s.heap.objs.size+1 ->
   (∀c o,c≠z->c≠TO->c≠i1->c≠i2->s.heap.get? c=some o->h'.get? c=some o)->Q (.ref s.heap.objs.size) { s with heap:=h',toks:=tk }) :
  wpAny (model prog w) A (Builtin.«zip.__next__» ⟨[.ref z],[]⟩) (fun fin s'=>∃v,fin=.done (.ret v)/\Q v s') E s:=by
 obtain⟨hp,g,d,tk0,os⟩:=s
 refine(show wpAny _ _ (field (.ref z) 2 >>= _) _ _ _ from U0 (U13 hZ rfl (x:=.bool false) rfl ?_))
 refine(show wpAny _ _ (field (.ref z) 3 >>= _) _ _ _ from U0 (U13 hZ rfl (x:=.ref TI) rfl (U0 (U2o hI rfl ?_))))
 refine(show wpAny _ _ (U1p (.ref z) >>= _) _ _ _ from U0 ?_)
 unfold U1p
 refine U0 (U13 hZ rfl (x:=.none) rfl (U0d ?_))
 simp only[if_true]
 refine U0 (U41 (U0 (U13 hZ rfl (x:=.ref TO) rfl (U0 (U3n hZ (by simp) fun g1 z1 m1=>?_)))))
 replace z1:IsZip g1 z TI TO .ellipsis:=z1
 replace m1:U02 z hp g1:=m1
 refine U0 ?_
 simp only[List.zipIdx_cons,List.zipIdx_nil,U3y,U5o]
 have t1:S1 k g1:=D1.frame _ _ _ s1 fun c hc o e=>m1.extBut _ _ (D.b1 c hc).1 e
 have u1:S2 k g1:=D2.frame _ _ _ s2 fun c hc o e=>m1.extBut _ _ (D.b2 c hc).1 e
 refine U0 (U0 (U52 (show wpAny _ _ (U1e (.ref i1) >>= _) _ _ _ from U0 (D1.item k ⟨g1,g,d,tk0,os⟩ _ _ k1 t1 fun x g2 tk1 px t2 m2=>U0d ?_))))
 replace m2:U02 i1 g1 g2:=m2
 have o2:IsPair g2 TO a b:=m2.extBut _ _ (U1m D.c1.2.1) (m1.extBut _ _ D.a2 hO)
 refine U0 (U2o o2 rfl (U0 (U6a o2 fun g3 o3 m3=>?_)))
 replace o3:IsPair g3 TO x b:=o3
 replace m3:U02 TO g2 g3:=m3
 have u3:S2 k g3:=D2.frame _ _ _ u1 fun c hc o e=>m3.extBut _ _ (D.b2 c hc).2.1 (m2.extBut _ _ (D.b2 c hc).2.2 e)
 refine U0 (U69 (U0d ?_))
 refine U0 (U0 (U52 (show wpAny _ _ (U1e (.ref i2) >>= _) _ _ _ from U0 (D2.item k ⟨g3,g,d,tk1,os⟩ _ _ k2 u3 fun y g4 tk2 py u4 m4=>U0d ?_))))
 replace m4:U02 i2 g3 g4:=m4
 have o4:IsPair g4 TO x b:=m4.extBut _ _ (U1m D.c2.2.1) o3
 refine U0 (U2o o4 rfl (U0 (U6a o4 fun g5 o5 m5=>?_)))
 replace o5:IsPair g5 TO x y:=o5
 replace m5:U02 TO g4 g5:=m5
 refine U0 (U69 (U0d (U0d (U0 (U2o o5 rfl (U0 (wpAny_newTuple ?_)))))))
 have sz:g5.objs.size=hp.objs.size:=by rw[m5.1,m4.1,m3.1,m2.1,m1.1]
 have z5:IsZip g5 z TI TO .ellipsis:=m5.extBut _ _ (U1m D.a2) (m4.extBut _ _ (U1m D.c2.1) (m3.extBut _ _ (U1m D.a2) (m2.extBut _ _ (U1m D.c1.1) z1)))
 have kk:∀c o,c≠z->c≠TO->c≠i1->c≠i2->hp.get? c=some o->g5.get? c=some o:=fun c o n1 n2 n3 n4 e=>m5.extBut _ _ n2 (m4.extBut _ _ n4 (m3.extBut _ _ n2 (m2.extBut _ _ n3 (m1.extBut _ _ n1 e))))
 have lz:z<g5.objs.size:=U0j z5
 refine(show wpAny _ _ (Builtin.SmallTypes.ownedTupleHandOut (.ref z) (.ref g5.objs.size) >>= _) _ _ _ from U0 ?_)
 unfold Builtin.SmallTypes.ownedTupleHandOut
 have z6:IsZip (g5.push { cls:=.type "tuple",data:=.seq #[x,y] }) z TI TO .ellipsis:=U0b _ z5
 refine U0 (U3n z6 (by simp) fun g7 z7 m7=>?_)
 replace z7:IsZip g7 z TI TO (rawInt g5.objs.size):=z7
 refine U3n z7 (by simp) fun g8 z8 m8=>?_
 replace z8:IsZip g8 z TI TO (rawInt g5.objs.size):=z8
 have up:∀c o,c≠z->g5.get? c=some o->g8.get? c=some o:=fun c o n e=>m8.extBut _ _ n (m7.extBut _ _ n (U0b _ e))
 have p8:IsPair g8 g5.objs.size x y:=m8.extBut _ _ (U1q lz) (m7.extBut _ _ (U1q lz) (U0s _ rfl))
 have w8:g8.objs.size=g5.objs.size+1:=by rw[m8.1,m7.1,U18]
 rw[sz] at z8 p8 w8
 refine U0d ⟨_,rfl,?_⟩
 show Q (.ref g5.objs.size) _
 rw[sz]
 refine q x y g8 tk2 px py z8 (up _ _ D.a2 o5) ?_ ?_ p8 w8 fun c o n1 n2 n3 n4 e=>up c o n1 (kk c o n1 n2 n3 n4 e)
 .exact D1.frame _ _ _ t2 fun c hc o e=>up _ _ (D.b1 c hc).1 (m5.extBut _ _ (D.b1 c hc).2.1 (m4.extBut _ _ (D.b1 c hc).2.2 (m3.extBut _ _ (D.b1 c hc).2.1 e)))
 .exact D2.frame _ _ _ u4 fun c hc o e=>up _ _ (D.b2 c hc).1 (m5.extBut _ _ (D.b2 c hc).2.1 e)
theorem uU{Q:PySem.Fin->Shared->Prop}(D1:Draws prog w A i1 fp1 n1 P1 S1)(D2:Draws prog w A i2 fp2 n2 P2 S2)(D:Apart z TI TO i1 i2 fp1 fp2)(hZ:IsZip s.heap z TI TO .none)(hI:IsPair s.heap TI (.ref i1) (.ref i2))(hO:IsPair s.heap TO a b)
  (s1:S1 k s.heap) (s2:S2 k s.heap) (ke:k=n1∨(k<n1/\k=n2))
  (q:∀h' e tk,(∀c o,c≠z->c≠TO->c≠i1->c≠i2->s.heap.get? c=some o->h'.get? c=some o)->(∃o,h'.get? e=some o/\o.cls=.type "StopIteration")->E (.ref e) { s with heap:=h',toks:=tk }) :
  wpAny (model prog w) A (Builtin.«zip.__next__» ⟨[.ref z],[]⟩) Q E s:=by
 obtain⟨hp,g,d,tk0,os⟩:=s
 refine(show wpAny _ _ (field (.ref z) 2 >>= _) _ _ _ from U0 (U13 hZ rfl (x:=.bool false) rfl ?_))
 refine(show wpAny _ _ (field (.ref z) 3 >>= _) _ _ _ from U0 (U13 hZ rfl (x:=.ref TI) rfl (U0 (U2o hI rfl ?_))))
 refine(show wpAny _ _ (U1p (.ref z) >>= _) _ _ _ from U0 ?_)
 unfold U1p
 refine U0 (U13 hZ rfl (x:=.none) rfl (U0d ?_))
 simp only[if_true]
 refine U0 (U41 (U0 (U13 hZ rfl (x:=.ref TO) rfl (U0 (U3n hZ (by simp) fun g1 z1 m1=>?_)))))
 replace z1:IsZip g1 z TI TO .ellipsis:=z1
 replace m1:U02 z hp g1:=m1
 refine U0 ?_
 simp only[List.zipIdx_cons,List.zipIdx_nil,U3y,U5o]
 have t1:S1 k g1:=D1.frame _ _ _ s1 fun c hc o e=>m1.extBut _ _ (D.b1 c hc).1 e
 have u1:S2 k g1:=D2.frame _ _ _ s2 fun c hc o e=>m1.extBut _ _ (D.b2 c hc).1 e
 rcases ke with ke|⟨k1,ke⟩
 .subst ke
  refine U0 (U0 (U52 (show wpAny _ _ (U1e (.ref i1) >>= _) _ _ _ from U0 (D1.done ⟨g1,g,d,tk0,os⟩ _ _ t1 fun g2 e m2 he=>?_))))
  obtain⟨oe,he1,he2⟩:=he
  replace m2:U48 i1 g1 g2:=m2
  have z2:IsZip g2 z TI TO .ellipsis:=m2 _ _ (U1m D.c1.1) z1
  have ez:e≠z:=fun x=>by subst x;rw[z2] at he1;cases he1;simp at he2
  exact U3n z2 (by simp) fun g3 _ m3=>q g3 e _ (fun c o n1 _ n3 _ x=>m3.extBut _ _ n1 (m2 _ _ n3 (m1.extBut _ _ n1 x))) ⟨oe,m3.extBut _ _ ez he1,he2⟩
 .refine U0 (U0 (U52 (show wpAny _ _ (U1e (.ref i1) >>= _) _ _ _ from U0 (D1.item k ⟨g1,g,d,tk0,os⟩ _ _ k1 t1 fun x g2 tk1 px t2 m2=>U0d ?_))))
  replace m2:U02 i1 g1 g2:=m2
  have o2:IsPair g2 TO a b:=m2.extBut _ _ (U1m D.c1.2.1) (m1.extBut _ _ D.a2 hO)
  refine U0 (U2o o2 rfl (U0 (U6a o2 fun g3 o3 m3=>?_)))
  replace m3:U02 TO g2 g3:=m3
  have u3:S2 k g3:=D2.frame _ _ _ u1 fun c hc o e=>m3.extBut _ _ (D.b2 c hc).2.1 (m2.extBut _ _ (D.b2 c hc).2.2 e)
  rw[ke] at u3
  refine U0 (U69 (U0d ?_))
  refine U0 (U0 (U52 (show wpAny _ _ (U1e (.ref i2) >>= _) _ _ _ from U0 (D2.done ⟨g3,g,d,tk1,os⟩ _ _ u3 fun g4 e m4 he=>?_))))
  obtain⟨oe,he1,he2⟩:=he
  replace m4:U48 i2 g3 g4:=m4
  have z4:IsZip g4 z TI TO .ellipsis:=m4 _ _ (U1m D.c2.1) (m3.extBut _ _ (U1m D.a2) (m2.extBut _ _ (U1m D.c1.1) z1))
  have ez:e≠z:=fun x=>by subst x;rw[z4] at he1;cases he1;simp at he2
  exact U3n z4 (by simp) fun g5 _ m5=>q g5 e _ (fun c o n1 n2 n3 n4 x=>m5.extBut _ _ n1 (m4 _ _ n4 (m3.extBut _ _ n2 (m2.extBut _ _ n3 (m1.extBut _ _ n1 x))))) ⟨oe,m5.extBut _ _ ez he1,he2⟩
theorem Xv{Q:Option Value->Shared->Prop}(D1:Draws prog w A.in1 i1 fp1 n1 P1 S1)(D2:Draws prog w A.in1 i2 fp2 n2 P2 S2)(D:Apart z TI TO i1 i2 fp1 fp2)(hZ:IsZip s.heap z TI TO .none)(hI:IsPair s.heap TI (.ref i1) (.ref i2))(hO:IsPair s.heap TO a b)
  (s1:S1 k s.heap) (s2:S2 k s.heap) (k1:k<n1) (k2:k<n2)
  (q:∀x y h' tk,P1 k x->P2 k y->IsZip h' z TI TO (rawInt s.heap.objs.size)->IsPair h' TO x y->S1 (k+1) h'->S2 (k+1) h'->IsPair h' s.heap.objs.size x y->h'.objs.size=s.heap.objs.size+1 ->
   (∀c o,c≠z->c≠TO->c≠i1->c≠i2->s.heap.get? c=some o->h'.get? c=some o)->Q (some (.ref s.heap.objs.size)) { s with heap:=h',toks:=tk }) :
  wpAny (model prog w) A (pyNext (.ref z)) Q E s:=by
 have T:s.TypeIs (.ref z) "zip":=⟨_,hZ,rfl⟩
 unfold pyNext
 exact U0 (U45 (wpAny_callSpecial?_slot (name:=U23 "__next__") T U2l (U17 U2l T U4v (uT D1 D2 D hZ hI hO s1 s2 k1 k2 fun x y h' tk c1 c2 c3 c4 c5 c6 c7 c8 c9=>U0d (q x y h' tk c1 c2 c3 c4 c5 c6 c7 c8 c9)) (U4h _))))
theorem Xu{Q:Option Value->Shared->Prop}(D1:Draws prog w A.in1 i1 fp1 n1 P1 S1)(D2:Draws prog w A.in1 i2 fp2 n2 P2 S2)(D:Apart z TI TO i1 i2 fp1 fp2)(hZ:IsZip s.heap z TI TO .none)(hI:IsPair s.heap TI (.ref i1) (.ref i2))(hO:IsPair s.heap TO a b)
  (s1:S1 k s.heap) (s2:S2 k s.heap) (ke:k=n1∨(k<n1/\k=n2))
  (q:∀h' tk,(∀c o,c≠z->c≠TO->c≠i1->c≠i2->s.heap.get? c=some o->h'.get? c=some o)->Q none { s with heap:=h',toks:=tk }):wpAny (model prog w) A (pyNext (.ref z)) Q E s:=by
 have T:s.TypeIs (.ref z) "zip":=⟨_,hZ,rfl⟩
 unfold pyNext
 refine U0 (U45 (wpAny_callSpecial?_slot (name:=U23 "__next__") T U2l (U17 U2l T U4v (uU D1 D2 D hZ hI hO s1 s2 ke fun h' e tk kk he=>?_) (U4h _))))
 obtain⟨o,e1,e2⟩:=he
 exact U0 (U42 (T:="StopIteration") (b:=true) ⟨o,e1,e2⟩ isSubtype_stop (U0d (q h' tk kk)))
end
abbrev itO(c:String)(l:Addr):Obj:={ cls:=.type c,data:=.fields #[.ref l,.int 0 0] }
abbrev zt1(c1:String)(h:Heap)(l1:Addr):Heap:=h.push (itO c1 l1)
abbrev zt2(c1 c2:String)(h:Heap)(l1 l2:Addr):Heap:=(zt1 c1 h l1).push (itO c2 l2)
abbrev zt3(c1 c2:String)(h:Heap)(l1 l2:Addr):Heap:=(zt2 c1 c2 h l1 l2).push { cls:=.type "tuple",data:=.seq #[.ref h.objs.size,.ref (zt1 c1 h l1).objs.size] }
abbrev zt4(c1 c2:String)(h:Heap)(l1 l2:Addr):Heap:=(zt3 c1 c2 h l1 l2).push { cls:=.type "tuple",data:=.seq #[.none,.none] }
abbrev zt5(c1 c2:String)(h:Heap)(l1 l2:Addr):Heap:=(zt4 c1 c2 h l1 l2).push { cls:=.type "zip",data:=.fields #[.none,.bool false,.bool false,.ref (zt2 c1 c2 h l1 l2).objs.size,.ref (zt3 c1 c2 h l1 l2).objs.size] }
theorem j6(l1 l2:Addr)(xs ys:Array Value):Meets (Builtin.«zip.__new__» ⟨[.type "zip",.ref l1,.ref l2],[]⟩) (fun _ R s=>s.heap.IsTuple l1 xs/\s.heap.IsTuple l2 ys/\R (.ok (.ret (.ref (zt4 "tuple_iterator" "tuple_iterator" s.heap l1 l2).objs.size))) { s with heap:=zt5 "tuple_iterator" "tuple_iterator" s.heap l1 l2 }) :=
 .of_wp fun prog w A R s h=>by
  obtain⟨hp,g,d,tk,os⟩:=s
  obtain⟨e1,e2,h⟩:=h
  have sub:=sub_zip
  have T1:U5k (U6j ⟨hp,g,d,tk,os⟩) l1 xs:=e1
  have T2:U5k (U6j ⟨hp.push { cls:=.type "tuple_iterator",data:=.fields #[.ref l1,.int 0 0] },g,d,tk,os⟩) l2 ys:=U5k.push e2 _
  wp_walk using U5l T1,U5l T2
  exact⟨_,rfl,h⟩
theorem j7(l1 l2:Addr)(xs ys:Array Value):Meets (Builtin.«zip.__new__» ⟨[.type "zip",.ref l1,.ref l2],[]⟩) (fun _ R s=>s.heap.IsList l1 xs/\s.heap.IsTuple l2 ys/\R (.ok (.ret (.ref (zt4 "list_iterator" "tuple_iterator" s.heap l1 l2).objs.size))) { s with heap:=zt5 "list_iterator" "tuple_iterator" s.heap l1 l2 }) :=
 .of_wp fun prog w A R s h=>by
  obtain⟨hp,g,d,tk,os⟩:=s
  obtain⟨e1,e2,h⟩:=h
  have sub:=sub_zip
  have T1:Heap.IsList (U6j ⟨hp,g,d,tk,os⟩) l1 xs:=e1
  have T2:U5k (U6j ⟨hp.push { cls:=.type "list_iterator",data:=.fields #[.ref l1,.int 0 0] },g,d,tk,os⟩) l2 ys:=U5k.push e2 _
  wp_walk using U5t T1,U5l T2
  exact⟨_,rfl,h⟩
theorem Wf{c1 c2:String}{l1 l2:Addr}{P1 P2:Heap->Prop}{Q:Value->Shared->Prop}(m:Meets (Builtin.«zip.__new__» ⟨[.type "zip",.ref l1,.ref l2],[]⟩) (fun _ R s=>P1 s.heap/\P2 s.heap/\R (.ok (.ret (.ref (zt4 c1 c2 s.heap l1 l2).objs.size))) { s with heap:=zt5 c1 c2 s.heap l1 l2 }))(e1:P1 s.heap)(e2:P2 s.heap)
  (q:∀h',IsZip h' (s.heap.objs.size+4) (s.heap.objs.size+2) (s.heap.objs.size+3) .none->IsPair h' (s.heap.objs.size+2) (.ref s.heap.objs.size) (.ref (s.heap.objs.size+1))->IsPair h' (s.heap.objs.size+3) .none .none ->
   h'.get? s.heap.objs.size=some (itO c1 l1)->h'.get? (s.heap.objs.size+1)=some (itO c2 l2)->(∀c o,s.heap.get? c=some o->h'.get? c=some o)->Q (.ref (s.heap.objs.size+4)) { s with heap:=h' }) :
  wpAny (model prog w) A (call (.type "zip") [.ref l1,.ref l2]) Q E s:=by
 refine callType_new PySem.F.called_zip (by decide) (PySem.F.typeCall_zip_2 _ _) (PySem.F.newCall_zip_2 _ _) (fun obj=>PySem.F.args_object_init_3 obj _ _) PySem.F.entry_zip_new m ⟨e1,e2,?_⟩
 have z1:(zt1 c1 s.heap l1).objs.size=s.heap.objs.size+1:=U18 ..
 have z2:(zt2 c1 c2 s.heap l1 l2).objs.size=s.heap.objs.size+2:=by rw[U18,z1]
 have z3:(zt3 c1 c2 s.heap l1 l2).objs.size=s.heap.objs.size+3:=by rw[U18,z2]
 have z4:(zt4 c1 c2 s.heap l1 l2).objs.size=s.heap.objs.size+4:=by rw[U18,z3]
 have g5:(zt5 c1 c2 s.heap l1 l2).get? (zt4 c1 c2 s.heap l1 l2).objs.size=some _:=U0s _ rfl
 have g4:(zt5 c1 c2 s.heap l1 l2).get? (zt3 c1 c2 s.heap l1 l2).objs.size=some _:=U0b _ (U0s _ rfl)
 have g3:(zt5 c1 c2 s.heap l1 l2).get? (zt2 c1 c2 s.heap l1 l2).objs.size=some _:=U0b _ (U0b _ (U0s _ rfl))
 have g2:(zt5 c1 c2 s.heap l1 l2).get? (zt1 c1 s.heap l1).objs.size=some _:=U0b _ (U0b _ (U0b _ (U0s _ rfl)))
 have g1:(zt5 c1 c2 s.heap l1 l2).get? s.heap.objs.size=some _:=U0b _ (U0b _ (U0b _ (U0b _ (U0s _ rfl))))
 have kk:∀c o,s.heap.get? c=some o->(zt5 c1 c2 s.heap l1 l2).get? c=some o:=fun c o e=>U0b _ (U0b _ (U0b _ (U0b _ (U0b _ e))))
 show _/\_
 rw[z2,z3,z4] at g5
 rw[z1,z2] at g3
 rw[z3] at g4
 rw[z1] at g2
 have Z:IsZip (zt5 c1 c2 s.heap l1 l2) (s.heap.objs.size+4) (s.heap.objs.size+2) (s.heap.objs.size+3) .none:=g5
 rw[z4]
 exact⟨⟨_,Z,rfl⟩,q _ Z g3 g4 g1 g2 kk⟩
theorem Wd{l1 l2:Addr}{xs ys:Array Value}{Q:Value->Shared->Prop}(e1:s.heap.IsTuple l1 xs)(e2:s.heap.IsTuple l2 ys)
  (q:∀h',IsZip h' (s.heap.objs.size+4) (s.heap.objs.size+2) (s.heap.objs.size+3) .none->IsPair h' (s.heap.objs.size+2) (.ref s.heap.objs.size) (.ref (s.heap.objs.size+1))->IsPair h' (s.heap.objs.size+3) .none .none ->
   h'.IsTupleIter s.heap.objs.size l1 0->h'.IsTupleIter (s.heap.objs.size+1) l2 0->(∀c o,s.heap.get? c=some o->h'.get? c=some o)->Q (.ref (s.heap.objs.size+4)) { s with heap:=h' }) :
  wpAny (model prog w) A (call (.type "zip") [.ref l1,.ref l2]) Q E s :=
 Wf (P1:=fun h=>h.IsTuple l1 xs) (P2:=fun h=>h.IsTuple l2 ys) (j6 l1 l2 xs ys) e1 e2 fun h' c1 c2 c3 c4 c5 k=>q h' c1 c2 c3 ⟨_,c4,rfl,rfl⟩ ⟨_,c5,rfl,rfl⟩ k
theorem iB{l1 l2:Addr}{xs ys:Array Value}{Q:Value->Shared->Prop}(e1:s.heap.IsList l1 xs)(e2:s.heap.IsTuple l2 ys)
  (q:∀h',IsZip h' (s.heap.objs.size+4) (s.heap.objs.size+2) (s.heap.objs.size+3) .none->IsPair h' (s.heap.objs.size+2) (.ref s.heap.objs.size) (.ref (s.heap.objs.size+1))->IsPair h' (s.heap.objs.size+3) .none .none ->
   h'.IsListIter s.heap.objs.size l1 0->h'.IsTupleIter (s.heap.objs.size+1) l2 0->(∀c o,s.heap.get? c=some o->h'.get? c=some o)->Q (.ref (s.heap.objs.size+4)) { s with heap:=h' }) :
  wpAny (model prog w) A (call (.type "zip") [.ref l1,.ref l2]) Q E s :=
 Wf (P1:=fun h=>h.IsList l1 xs) (P2:=fun h=>h.IsTuple l2 ys) (j7 l1 l2 xs ys) e1 e2 fun h' c1 c2 c3 c4 c5 k=>q h' c1 c2 c3 ⟨_,c4,rfl,rfl⟩ ⟨_,c5,rfl,rfl⟩ k
end
end HT
end
section
namespace L2
open PySem PySem.Spec PyProof.Rows
def HB(L:Bool)(xs:List V):HO:=if L=true then .lst xs else .tup xs
theorem HB.inj{L:Bool}{xs ys:List V}(h:HB L xs=HB L ys):xs=ys:=by cases L<;>cases h<;>rfl
def Itz(L M:Bool)(a b:Addr):It :=
 ⟨fun i H=>∃xs ys x y,H a=some (HB L xs)/\H b=some (HB M ys)/\xs[i]?=some x/\ys[i]?=some y,
  fun i H v H'=>∃p x y,H p=none/\v=.ref p/\H'=upd H p (.tup [x,y])/\(∀xs,H a=some (HB L xs)->xs[i]?=some x)/\∀ys,H b=some (HB M ys)->ys[i]?=some y,
  fun i H=>∃xs ys,H a=some (HB L xs)/\H b=some (HB M ys)/\(i=xs.length∨(i<xs.length/\i=ys.length))⟩
def Ip(L:Bool)(h:Heap)(it a:Addr)(i:Nat):Prop:=if L=true then h.IsListIter it a i else h.IsTupleIter it a i
def Yo(L:Bool)(h:Heap)(a:Addr)(ws:Array Value):Prop:=if L=true then h.IsList a ws else h.IsTuple a ws
theorem Mj{prog:Program}{w:World}{A:Around}(L:Bool)(ha:A.handled=none)(it t:Addr)(ne:t≠it)(ws:Array Value):Draws prog w A it [it,t] ws.size (fun i v=>ws[i]?=some v) (fun i h=>Ip L h it t i/\Yo L h t ws):=by
 cases L with
 |true=>exact Draws.list ha it t ne ws
 |false=>exact HT.qe ha it t ne ws
theorem Ip.at{L:Bool}{h h':Heap}{it a:Addr}{i:Nat}(x:Ip L h it a i)(k:∀o,h.get? it=some o->h'.get? it=some o):Ip L h' it a i:=by
 cases L with
 |true=>exact Heap.IsListIter.at x k
 |false=>exact Heap.IsTupleIter.at x k
theorem Ip.obj{L:Bool}{h:Heap}{it a:Addr}{i:Nat}(x:Ip L h it a i):∃o vs,h.get? it=some o/\o.data=.fields vs:=by
 cases L with
 |true=>obtain⟨o,e,_,d⟩:=(show h.IsListIter it a i from x);exact⟨o,_,e,d⟩
 |false=>obtain⟨o,e,_,d⟩:=(show h.IsTupleIter it a i from x);exact⟨o,_,e,d⟩
theorem Inv.O7{X:Cx}{pins:List (Addr×Obj)}{σ:St}{H:Hp}{s:Shared}{L:Bool}{a:Addr}{xs:List V}(I:Inv X pins σ H s)(h:H a=some (HB L xs)):∃its:List Value,Vals xs its/\Yo L s.heap a its.toArray:=by
 cases L with
 |true=>obtain⟨its,rv,p,_⟩:=I.list (SqL.of h);exact⟨its,rv,p.isList⟩
 |false=>obtain⟨its,rv,p,_⟩:=I.tuple (SqT.of h);exact⟨its,rv,p⟩
def uG(L M:Bool)(a b z TI TO i1 i2:Addr)(i:Nat)(h:Heap):Prop:=IsZip h z TI TO .none/\IsPair h TI (.ref i1) (.ref i2)/\(∃c d,IsPair h TO c d)/\Ip L h i1 a i/\Ip M h i2 b i
theorem RD{z TI TO i1 i2 a b:Addr}(d1:TI≠z)(d2:TO≠z)(d3:TI≠TO)(d4:i1≠z/\i1≠TO/\i1≠TI)(d5:i2≠z/\i2≠TO/\i2≠TI)(d6:i1≠i2)(na:a ∉ [z,TI,TO,i1,i2])(nb:b ∉ [z,TI,TO,i1,i2]):HT.Apart z TI TO i1 i2 [i1,a] [i2,b] where
 a1:=d1
 a2:=d2
 a3:=d3
 b1:=fun c hc=>by
  simp only[U0r,U12,or_false,not_or] at hc na
  rcases hc with rfl|rfl
  .exact⟨d4.1,d4.2.1,d6⟩
  .exact⟨na.1,na.2.2.1,na.2.2.2.2⟩
 b2:=fun c hc=>by
  simp only[U0r,U12,or_false,not_or] at hc nb
  rcases hc with rfl|rfl
  .exact⟨d5.1,d5.2.1,U1m d6⟩
  .exact⟨nb.1,nb.2.2.1,nb.2.2.2.1⟩
 c1:=d4
 c2:=d5
 c3:=d6
theorem dG{P:Program}{w:World}{K:U0a}{elts:List Expr}{x1:Nat}{pos:Pos}(L M:Bool)(a b z TI TO i1 i2:Addr)(d1:TI≠z)(d2:TO≠z)(d3:TI≠TO)(d4:i1≠z/\i1≠TO/\i1≠TI)(d5:i2≠z/\i2≠TO/\i2≠TI)(d6:i1≠i2) :
  Turn P w K (.Tuple elts x1 pos) (Itz L M a b) [z,TI,TO,i1,i2] z (uG L M a b z TI TO i1 i2) where
 mem:=by simp
 obj:=fun i h st c hc=>by
  obtain⟨h1,h2,⟨c',d',h3⟩,h4,h5⟩:=st
  simp only[U0r,U12,or_false] at hc
  rcases hc with rfl|rfl|rfl|rfl|rfl
  .exact⟨_,h1,fun v q=>by cases q⟩
  .exact⟨_,h2,fun v q=>by cases q⟩
  .exact⟨_,h3,fun v q=>by cases q⟩
  .obtain⟨o,vs,e,d⟩:=h4.obj
   exact⟨o,e,fun v q=>by rw[d] at q;cases q⟩
  .obtain⟨o,vs,e,d⟩:=h5.obj
   exact⟨o,e,fun v q=>by rw[d] at q;cases q⟩
 keep:=fun i h h' st k=>by
  obtain⟨h1,h2,⟨c',d',h3⟩,h4,h5⟩:=st
  exact⟨k z (by simp) _ h1,k TI (by simp) _ h2,⟨c',d',k TO (by simp) _ h3⟩,h4.at fun o q=>k i1 (by simp) o q,h5.at fun o q=>k i2 (by simp) o q⟩
 item:=by
  intro X hP hw hK hc i pins s σ H E I hf st hg
  subst hP hw hK
  obtain⟨xs,ys,x,y,hq1,hq2,hx,hy⟩:=hg
  obtain⟨its1,rv1,p1⟩:=I.O7 hq1
  obtain⟨its2,rv2,p2⟩:=I.O7 hq2
  obtain⟨u,hu,ru⟩:=rv1.get hx
  obtain⟨v,hv,rv⟩:=rv2.get hy
  obtain⟨h1,h2,⟨c',d',h3⟩,h4,h5⟩:=st
  have lt:∀c∈[z,TI,TO,i1,i2],c<s.heap.objs.size:=fun c hc=>by
   simp only[U0r,U12,or_false] at hc
   rcases hc with rfl|rfl|rfl|rfl|rfl
   .exact U0j h1
   .exact U0j h2
   .exact U0j h3
   .obtain⟨o,vs,e,_⟩:=h4.obj;exact U0j e
   .obtain⟨o,vs,e,_⟩:=h5.obj;exact U0j e
  have na:a ∉ [z,TI,TO,i1,i2]:=fun q=>by rw[(hf a q).1] at hq1;cases hq1
  have nb:b ∉ [z,TI,TO,i1,i2]:=fun q=>by rw[(hf b q).1] at hq2;cases hq2
  have ap:=RD d1 d2 d3 d4 d5 d6 na nb
  have hh:X.A.in1.handled=none:=I.ok.hd hc
  refine HT.Xv (Mj L hh i1 a (fun q=>na (by simp[q])) its1.toArray) (Mj M hh i2 b (fun q=>nb (by simp[q])) its2.toArray) ap h1 h2 h3 ⟨h4,p1⟩ ⟨h5,p2⟩ (by rw[U0o];exact(U0l.mp hu).1) (by rw[U0o];exact(U0l.mp hv).1)
   fun x' y' h' tk q1 q2 z' o' s1' s2' tp sz k=>⟨_,rfl,?_⟩
  have q1':its1[i]?=some x':=by simpa using q1
  have q2':its2[i]?=some y':=by simpa using q2
  rw[hu] at q1'
  rw[hv] at q2'
  cases q1'
  cases q2'
  refine wpAny_letOwnedTupleGo_zip z' fun h3' z2 sb=>?_
  have sb':U02 z h' h3':=sb
  have nz:s.heap.objs.size≠z:=U1q (lt z (by simp))
  have J:=I.tH (h':=h3') (t':=tk) (fp:=[z,TI,TO,i1,i2]) (x:=x) (y:=y) ru rv (sb'.extBut _ _ nz tp) (fun c o hc q=>by
   simp only[U0r,U12,or_false,not_or] at hc
   exact sb'.extBut _ _ hc.1 (k c o hc.1 hc.2.2.1 hc.2.2.2.1 hc.2.2.2.2 q)) hf lt
  refine⟨.ref s.heap.objs.size,_,J,rfl,⟨_,x,y,I.hok.fresh (U0k _),rfl,rfl,fun zs hz=>?_,fun zs hz=>?_⟩,⟨z2,?_,⟨_,_,sb'.extBut _ _ d2 o'⟩,s1'.1.at fun o q=>sb'.extBut _ _ d4.1 q,s2'.1.at fun o q=>sb'.extBut _ _ d5.1 q⟩,fun c hc=>?_⟩
  .rw[hq1] at hz
   rw[←HB.inj (U00 hz)]
   exact hx
  .rw[hq2] at hz
   rw[←HB.inj (U00 hz)]
   exact hy
  .exact sb'.extBut _ _ d1 (k TI _ d1 d3 (U1m d4.2.2) (U1m d5.2.2) h2)
  .rw[BZ (U0v (lt c hc))]
   exact(hf c hc).1
 done:=by
  intro X hP hw hK hc i pins s σ H E I hf st hg
  subst hP hw hK
  obtain⟨xs,ys,hq1,hq2,ke⟩:=hg
  obtain⟨its1,rv1,p1⟩:=I.O7 hq1
  obtain⟨its2,rv2,p2⟩:=I.O7 hq2
  obtain⟨h1,h2,⟨c',d',h3⟩,h4,h5⟩:=st
  have na:a ∉ [z,TI,TO,i1,i2]:=fun q=>by rw[(hf a q).1] at hq1;cases hq1
  have nb:b ∉ [z,TI,TO,i1,i2]:=fun q=>by rw[(hf b q).1] at hq2;cases hq2
  have hh:X.A.in1.handled=none:=I.ok.hd hc
  refine HT.Xu (Mj L hh i1 a (fun q=>na (by simp[q])) its1.toArray) (Mj M hh i2 b (fun q=>nb (by simp[q])) its2.toArray) (RD d1 d2 d3 d4 d5 d6 na nb) h1 h2 h3 ⟨h4,p1⟩ ⟨h5,p2⟩ (by rw[U0o,U0o,←rv1.length,←rv2.length];exact ke)
   fun h' tk k=>⟨rfl,I.Xz (t':=tk) (fp:=[z,TI,TO,i1,i2]) (fun c o hc q=>?_) hf⟩
  simp only[U0r,U12,or_false,not_or] at hc
  exact k c o hc.1 hc.2.2.1 hc.2.2.2.1 hc.2.2.2.2 q
 self:=fun _ _ _ _ _ st h=>wpAny_pyIter_zip st.1 h
abbrev ux(L M:Bool)(ta:TA):TI:=fun σ H R=>ta σ H fun vs H1=>∃a b xs ys,vs=[.ref a,.ref b]/\H1 a=some (HB L xs)/\H1 b=some (HB M ys)/\R (Itz L M a b) H1
section
variable{X:Cx}
theorem Vd(L M:Bool)(hLM:L=M∨(L=true/\M=false)){a b:Expr}{ta:TA}{p pos:Pos}{elts:List Expr}{x1:Nat}{tpos:Pos}(hg:Gl X "zip")(hm:X.mg "zip"=none)(ha:PA X [a,b] ta)(hs:starEach [a,b] X.env=[(false,eval a X.env),(false,eval b X.env)]:=by rfl)(hs2:starEach [b] X.env=[(false,eval b X.env)]:=by rfl) :
  PI X (.Tuple elts x1 tpos) (.Call (.Name "zip" p) [a,b] [] pos) (ux L M ta):=by
 intro pins s σ H R I h
 refine Call_ (K1 I hg hm (by decide +kernel:bootBuiltins "zip"=some (.type "zip")) (U2u (thn (ha pos pins s σ H _ I h) fun us s1 ⟨vs,H1,I1,r1,q1⟩=>?_) (by rw[hs,hs2]) (by rw[hs2];rfl)))
 obtain⟨l,m,xs,ys,e,e1,e2,q⟩:=q1
 subst e
 obtain⟨us1,us2⟩:us=[.ref l,.ref m]/\True:=by
  cases r1 with
  |cons r rr =>
   cases rr with
   |cons r' rr =>
    cases rr
    cases r
    cases r'
    exact⟨rfl,trivial⟩
 subst us1
 obtain⟨its1,rv1,p1⟩:=I1.O7 e1
 obtain⟨its2,rv2,p2⟩:=I1.O7 e2
 have fin:∀h',IsZip h' (s1.heap.objs.size+4) (s1.heap.objs.size+2) (s1.heap.objs.size+3) .none->IsPair h' (s1.heap.objs.size+2) (.ref s1.heap.objs.size) (.ref (s1.heap.objs.size+1))->IsPair h' (s1.heap.objs.size+3) .none .none ->
   Ip L h' s1.heap.objs.size l 0->Ip M h' (s1.heap.objs.size+1) m 0->(∀c o,s1.heap.get? c=some o->h'.get? c=some o)->wpAny (model X.prog X.w) X.A (pyIter (.ref (s1.heap.objs.size+4))) (PIE X pins σ (.Tuple elts x1 tpos) R) X.xe { s1 with heap:=h' }:=fun h' c1 c2 c3 c4 c5 k=>by
  refine wpAny_pyIter_zip c1 ?_
  refine⟨s1.heap.objs.size+4,[s1.heap.objs.size+4,s1.heap.objs.size+2,s1.heap.objs.size+3,s1.heap.objs.size,s1.heap.objs.size+1],_,_,H1,rfl,I1.kept (t':=s1.toks) k,
   dG L M l m _ _ _ _ _ (by simp) (by simp) (by simp) ⟨by simp,by simp,by simp⟩ ⟨by simp,by simp,by simp⟩ (by simp),⟨c1,c2,⟨_,_,c3⟩,c4,c5⟩,fun c hc=>?_,q⟩
  have hc':s1.heap.objs.size<=c:=by
   simp only[U0r,U12,or_false] at hc
   rcases hc with rfl|rfl|rfl|rfl|rfl<;>first|exact U1g _ _|exact U0k _
  exact I1.Yj hc' (I1.hok.fresh hc')
 cases L with
 |true =>
  cases M with
  |true=>exact call_zip_2 p1 p2 fun h' c1 c2 c3 c4 c5 _ k=>fin h' c1 c2 c3 c4 c5 k
  |false=>exact HT.iB p1 p2 fun h' c1 c2 c3 c4 c5 k=>fin h' c1 c2 c3 c4 c5 k
 |false =>
  cases M with
  |true=>rcases hLM with z|⟨z,_⟩<;>cases z
  |false=>exact HT.Wd p1 p2 fun h' c1 c2 c3 c4 c5 k=>fin h' c1 c2 c3 c4 c5 k
end
end L2
end
section
namespace L2
open PySem PySem.Spec PyProof.Rows
section
variable{k:Nat}{caps:List Nat}{σ:St}{g:TG}{tt:TT}{te:TE}{Q:VK}{H:Hp}
end
end L2
end
section
set_option maxRecDepth 100000
namespace HT
open PySem PySem.Spec PyProof.Rows
section
variable{prog:Program}{w:World}{A:Around}{E:Value->Shared->Prop}{s:Shared}
theorem lD{x:Value}{Tx:String}{tp:Addr}{cs:List Value}{vs:List Bool}{dd:Option Addr}{n:Nat}{sl:Array (Option Value)}(ha:AnswersAll (fun s=>s.TypeIs x Tx) x cs vs) :
  Meets (Builtin.«isinstance» ⟨[x,.ref tp],[]⟩) (fun _ R s=>s.TypeIs x Tx/\s.heap.get? tp=some { cls:=.type "tuple",dict:=dd,data:=.seq cs.toArray n,slots:=sl }/\∀tk,R (.ok (.ret (.bool (vs.any id)))) { s with toks:=tk }) :=
 fun prog w A R s hs=>isinstance_outer (by
  obtain⟨h,g,d,t,os⟩:=s
  obtain⟨hx,htp,hq⟩:=hs
  have T2:(⟨h,g,d,t,os⟩:Shared).TypeIs (.ref tp) "tuple":=⟨_,htp,rfl⟩
  have f1:=PySem.F.isi_sub_tuple
  repeat (any_goals first|assumption|wp_step)
  refine wpAny_arrayLoop ?_
  simp only[List.toList_toArray,Option.getD_some]
  refine isinstance_items (dep:=0) (fun _ tk q=>q.toks tk) cs vs _ _ ha hx fun tk'=>?_
  cases hv:vs.any id with
  |true =>
   simp only[if_true]
   repeat (any_goals first|assumption|wp_step)
   exact hv ▸ hq tk'
  |false =>
   simp only[if_false,U1z]
   repeat (any_goals first|assumption|wp_step)
   exact hv ▸ hq tk') (U51.not_mainsLoader hs.1)
end
end HT
namespace L2
open PySem PySem.Spec PyProof.Rows
def isSeq:PyData->Bool
 |.list _=>true
 |.tuple _=>true
 |_=>false
def noDict:PyData->Bool
 |.dict _=>false
 |_=>true
theorem iJ(T:String)(h:T="tuple"∨T="list"):typeOf (.type T)=pure (.type "type"):=by rcases h with rfl|rfl<;>first|rfl|kernel_rfl
theorem Ij{a b:String}(h:(a,b)∈[("int","tuple"),("int","list"),("bool","tuple"),("bool","list"),("str","tuple"),("str","list"),("NoneType","tuple"),("NoneType","list"),("list","tuple"),("tuple","list")]):isSubtype (.type a) (.type b)=pure false:=by
 simp only[U0r,U12,or_false,Prod.mk.injEq] at h
 rcases h with ⟨rfl,rfl⟩|⟨rfl,rfl⟩|⟨rfl,rfl⟩|⟨rfl,rfl⟩|⟨rfl,rfl⟩|⟨rfl,rfl⟩|⟨rfl,rfl⟩|⟨rfl,rfl⟩|⟨rfl,rfl⟩|⟨rfl,rfl⟩<;>(rw[isSubtype_type];kernel_rfl)
theorem Y4{a:String}(h:a="tuple"∨a="list"):isSubtype (.type a) (.type a)=pure true:=by rcases h with rfl|rfl<;>(rw[isSubtype_type];kernel_rfl)
section
variable{X:Cx}
theorem V2:DK X (.builtin "isinstance") (fun xs H Q=>∃(N:Addr->Prop)(x:V)(d:PyData)(p:Addr),xs=[x,.ref p]/\H p=some (.tup [.ty "tuple",.ty "list"])/\Tr N H x d/\noDict d=true/\Q (.bl (isSeq d)) H):=by
 intro pins s σ H xs us Q I r h
 obtain⟨N,x,d,p,rfl,hp,t,nd,q⟩:=h
 obtain⟨u,v,rfl,rx,rv⟩:=vals2 r
 cases (show v=U1x p from rv)
 obtain⟨its,rt,pt,_⟩:=I.tuple (SqT.of hp)
 have ei:its=[.type "tuple",.type "list"]:=by
  cases rt with
  |cons r1 rr =>
   cases rr with
   |cons r2 rn =>
    cases rn
    cases (show _=U3f "tuple" from r1)
    cases (show _=U3f "list" from r2)
    rfl
 subst ei
 obtain⟨⟨c1,d1,x1,sl1⟩,ho,hc,n,hd⟩:=id pt
 simp only at hc hd
 subst hc hd
 have fin:∀(Tx:String)(vs:List Bool),AnswersAll (fun s=>s.TypeIs u Tx) u [.type "tuple",.type "list"] vs->s.TypeIs u Tx->vs.any id=isSeq d->wpAny (model X.prog X.w) X.A (call (.builtin "isinstance") [u,.ref p]) (EP X pins σ Q) X.xe s:=fun Tx vs ha hx e =>
  call_isinstance (HT.lD (cs:=[.type "tuple",.type "list"]) (dd:=d1) (n:=n) (sl:=sl1) ha) ⟨hx,ho,fun tk=>⟨.bl (isSeq d),H,I.tok tk,(by rw[e];rfl),q⟩⟩
 have y1:=iJ "tuple" (.inl rfl)
 have y2:=iJ "list" (.inr rfl)
 cases t with
 |non =>
  cases (show u=U2g from rx)
  exact fin "NoneType" [false,false] (.cons (Answers.of_false_none (by decide) y1 (Ij (by decide))) (.cons (Answers.of_false_none (by decide) y2 (Ij (by decide))) .nil)) rfl rfl
 |bl b =>
  cases (show u=U4k b from rx)
  exact fin "bool" [false,false] (.cons (Answers.of_false_bool (by decide) y1 (Ij (by decide))) (.cons (Answers.of_false_bool (by decide) y2 (Ij (by decide))) .nil)) rfl rfl
 |int i =>
  obtain⟨t,rfl⟩:=rx
  exact fin "int" [false,false] (.cons (Answers.of_false_int (by decide) y1 (Ij (by decide))) (.cons (Answers.of_false_int (by decide) y2 (Ij (by decide))) .nil)) rfl rfl
 |str z =>
  obtain⟨t,rfl⟩:=rx
  exact fin "str" [false,false] (.cons (Answers.of_false_str (by decide) y1 (Ij (by decide))) (.cons (Answers.of_false_str (by decide) y2 (Ij (by decide))) .nil)) rfl rfl
 |lst n1 h1 t1 =>
  cases rx
  obtain⟨its,_,pl,_⟩:=I.list (SqL.of h1)
  exact fin "list" [false,true] (.cons (Answers.of_false_list (by decide) y1 (Ij (by decide))) (.cons (Answers.of_true y2 (Y4 (.inr rfl))) .nil)) pl.isList.typeIs rfl
 |tup n1 h1 t1 =>
  cases rx
  obtain⟨its,_,pl,_⟩:=I.tuple (SqT.of h1)
  exact fin "tuple" [true,false] (.cons (Answers.of_true y1 (Y4 (.inl rfl))) (.cons (Answers.of_false_tuple (by decide) y2 (Ij (by decide))) .nil)) pl.typeIs rfl
 |dct _ _=>cases nd
end
end L2
end
section
namespace L2
open PySem PySem.Spec PyProof.Rows
end L2
namespace Bc
open PySem PySem.Spec PyProof.Rows L2
structure Good(n:Nat)(ds:List PyData):Prop where
 n1:1<=n
 n3:n<=3
 le:ds.length<=qG (.int n)
 all:ds.all (v8 n)=true
end Bc
end
section
namespace L2
open PySem PySem.Spec PyProof.Rows
section
variable{X:Cx}{K:U0a}
end
end L2
namespace Bc
open PySem PySem.Spec PyProof.Rows L2
def Fo(w:Nat):PyData->Int
 |.tuple es=>(match es[w]? with|some (.tuple [.int a,.int _])=>a|_=>0)
 |_=>0
def Ei(w:Nat):PyData->Int
 |.tuple es=>(match es[w]? with|some (.tuple [.int _,.int b])=>b|_=>0)
 |_=>0
end Bc
end
section
namespace VS
open PySem PySem.Spec L2
inductive D where
 |non|bl (b:Bool)|int (i:Int)|str (x:Str)|ty (n:String)
 |tup (ds:List D)|lst (m:Bool) (ds:List D)|ref (i:Nat)|scr (ns:List Int)|emp
 |dref (i:Nat)|dcf (kvs:List (Key×V))|dcm (kvs:List (Key×V))
abbrev Mu:=List (Option Addr)
def CV(μ:Mu)(a:Addr):Prop:=some a∈μ
structure Fr where
 K:U0a
 H0:Hp
 N:Addr->Prop
 m0:List Addr
def Fr.Ok(Γ:Fr)(m:Bool)(a:Addr):Prop:=(m=true->Γ.H0 a=none)/\(Γ.N a∨Γ.H0 a=none)
def IsL(H:Hp)(a:Addr):Prop:=∃xs,H a=some (.lst xs)
def IsK(H:Hp)(a:Addr):Prop:=∃kvs,H a=some (.dK kvs)
mutual
inductive VR (Γ:Fr) (μ:Mu) (H:Hp):V->D->Prop
 |non:VR Γ μ H .non .non
 |bl (b:Bool):VR Γ μ H (.bl b) (.bl b)
 |int (i:Int):VR Γ μ H (.int i) (.int i)
 |str (x:Str):VR Γ μ H (.str x) (.str x)
 |ty (n:String):VR Γ μ H (.ty n) (.ty n)
 |tup {a:Addr} {xs:List V} {ds:List D}:H a=some (.tup xs)->VRs Γ μ H xs ds->VR Γ μ H (.ref a) (.tup ds)
 |lst {m:Bool} {a:Addr} {xs:List V} {ds:List D}:Γ.Ok m a->¬CV μ a->H a=some (.lst xs)->VRs Γ μ H xs ds->VR Γ μ H (.ref a) (.lst m ds)
 |ref {i:Nat} {v:V}:i<μ.length->(∀a,μ[i]?=some (some a)->v=.ref a/\IsL H a)->VR Γ μ H v (.ref i)
 |dref {i:Nat} {v:V}:i<μ.length->(∀a,μ[i]?=some (some a)->v=.ref a/\IsK H a)->VR Γ μ H v (.dref i)
 |dcf {a:Addr} {kvs:List (Key×V)}:Γ.Ok false a->¬CV μ a->H a=some (.dK kvs)->VR Γ μ H (.ref a) (.dcf kvs)
 |scrK {a:Addr} {ns:List Int}:(∀H',SqL Γ.K H' a (ns.map V.int))->VR Γ μ H (.ref a) (.scr ns)
 |scrR {a:Addr} {ns:List Int} {o:Obj}:¬CV μ a->H a=some (.frz o (.lst (ns.map V.int)))->VR Γ μ H (.ref a) (.scr ns)
 |emp {a:Addr}:Γ.Ok false a->¬CV μ a->H a=some (.dK [])->VR Γ μ H (.ref a) .emp
inductive VRs (Γ:Fr) (μ:Mu) (H:Hp):List V->List D->Prop
 |nil:VRs Γ μ H [] []
 |cons {x:V} {d:D} {xs:List V} {ds:List D}:VR Γ μ H x d->VRs Γ μ H xs ds->VRs Γ μ H (x::xs) (d::ds)
end
structure Ext(μ:Mu)(H:Hp)(μ':Mu)(H':Hp):Prop where
 keep:∀a o,H a=some o->¬CV μ a->H' a=some o/\¬CV μ' a
 tups:∀a xs,H a=some (.tup xs)->H' a=some (.tup xs)
 none:∀a,H' a=none->H a=none
 ids:∀(i:Nat)(a:Addr),i<μ.length->μ'[i]?=some (some a)->μ[i]?=some (some a)
 len:μ.length<=μ'.length
 isl:∀a,CV μ a->IsL H a->IsL H' a
 isk:∀a,CV μ a->IsK H a->IsK H' a
theorem Ext.refl(μ:Mu)(H:Hp):Ext μ H μ H:=⟨fun _ _ h n=>⟨h,n⟩,fun _ _ h=>h,fun _ h=>h,fun _ _ _ h=>h,U0k _,fun _ _ h=>h,fun _ _ h=>h⟩
theorem Ext.trans{μ μ1 μ2:Mu}{H H1 H2:Hp}(a:Ext μ H μ1 H1)(b:Ext μ1 H1 μ2 H2):Ext μ H μ2 H2 :=
 ⟨fun c o h n=>let ⟨x,y⟩:=a.keep c o h n;b.keep c o x y,fun c xs h=>b.tups c xs (a.tups c xs h),fun c h=>a.none c (b.none c h),fun i c hi h=>a.ids i c hi (b.ids i c (U0m hi a.len) h),U06 a.len b.len,
  fun c l h=>by
  by_cases z:CV μ1 c
  .exact b.isl c z (a.isl c l h)
  .obtain⟨xs,e⟩:=a.isl c l h
   exact⟨xs,(b.keep c _ e z).1⟩,
  fun c l h=>by
  by_cases z:CV μ1 c
  .exact b.isk c z (a.isk c l h)
  .obtain⟨xs,e⟩:=a.isk c l h
   exact⟨xs,(b.keep c _ e z).1⟩⟩
section
variable{Γ:Fr}{μ μ':Mu}{H H':Hp}
mutual
theorem VR.ext(e:Ext μ H μ' H'):∀{v:V} {d:D},VR Γ μ H v d->VR Γ μ' H' v d
 |_,_,.non=>.non
 |_,_,.bl b=>.bl b
 |_,_,.int i=>.int i
 |_,_,.str x=>.str x
 |_,_,.ty n=>.ty n
 |_,_,.tup h t=>.tup (e.tups _ _ h) (VRs.ext e t)
 |_,_,.lst o n h t=>.lst o (e.keep _ _ h n).2 (e.keep _ _ h n).1 (VRs.ext e t)
 |_,_,.ref hi f=>.ref (U0m hi e.len) fun a q=>have z:=e.ids _ _ hi q;⟨(f a z).1,e.isl a (U1l z) (f a z).2⟩
 |_,_,.dref hi f=>.dref (U0m hi e.len) fun a q=>have z:=e.ids _ _ hi q;⟨(f a z).1,e.isk a (U1l z) (f a z).2⟩
 |_,_,.dcf o n h=>.dcf o (e.keep _ _ h n).2 (e.keep _ _ h n).1
 |_,_,.scrK h=>.scrK h
 |_,_,.scrR n h=>.scrR (e.keep _ _ h n).2 (e.keep _ _ h n).1
 |_,_,.emp o n h=>.emp o (e.keep _ _ h n).2 (e.keep _ _ h n).1
theorem VRs.ext(e:Ext μ H μ' H'):∀{vs:List V} {ds:List D},VRs Γ μ H vs ds->VRs Γ μ' H' vs ds
 |_,_,.nil=>.nil
 |_,_,.cons r t=>.cons (VR.ext e r) (VRs.ext e t)
end
theorem VRs.length:∀{xs:List V} {ds:List D},VRs Γ μ H xs ds->xs.length=ds.length
 |_,_,.nil=>rfl
 |_,_,.cons _ t=>by rw[U0e,U0e,VRs.length t]
theorem VRs.append:∀{xs ys:List V} {ds es:List D},VRs Γ μ H xs ds->VRs Γ μ H ys es->VRs Γ μ H (xs++ys) (ds++es)
 |_,_,_,_,.nil,t=>t
 |_,_,_,_,.cons r s,t=>.cons r (VRs.append s t)
theorem VRs.take:∀{xs:List V} {ds:List D} (n:Nat),VRs Γ μ H xs ds->VRs Γ μ H (xs.take n) (ds.take n)
 |_,_,0,_=>.nil
 |_,_,_+1,.nil=>.nil
 |_,_,n+1,.cons r t=>.cons r (VRs.take n t)
theorem VRs.drop:∀{xs:List V} {ds:List D} (n:Nat),VRs Γ μ H xs ds->VRs Γ μ H (xs.drop n) (ds.drop n)
 |_,_,0,r=>r
 |_,_,_+1,.nil=>.nil
 |_,_,n+1,.cons _ t=>VRs.drop n t
theorem VRs.get:∀{xs:List V} {ds:List D} {i:Nat} {d:D},VRs Γ μ H xs ds->ds[i]?=some d->∃x,xs[i]?=some x/\VR Γ μ H x d
 |_,_,_,_,.nil,h=>by simp at h
 |_,_,0,_,.cons r _,h=>by simp at h;subst h;exact⟨_,rfl,r⟩
 |_,_,i+1,d,.cons _ t,h=>by
  obtain⟨x,h1,h2⟩:=VRs.get (i:=i) (d:=d) t (by simpa using h)
  exact⟨x,by simpa using h1,h2⟩
theorem VRs.set{x:V}{d:D}(r:VR Γ μ H x d):∀{xs:List V} {ds:List D} (i:Nat),VRs Γ μ H xs ds->VRs Γ μ H (xs.set i x) (ds.set i d)
 |_,_,_,.nil=>.nil
 |_,_,0,.cons _ t=>.cons r t
 |_,_,i+1,.cons q t=>.cons q (VRs.set r i t)
theorem VRs.rep{xs:List V}{ds:List D}(h:VRs Γ μ H xs ds):∀n:Nat,VRs Γ μ H (U03 n xs).flatten (U03 n ds).flatten
 |0=>.nil
 |n+1=>by rw[U0u,U0u,U33,U33];exact h.append (VRs.rep h n)
theorem VRs.ints:∀(ns:List Int),VRs Γ μ H (ns.map V.int) (ns.map D.int)
 |[]=>.nil
 |n::r=>.cons (.int n) (VRs.ints r)
theorem VRs.RQ:∀{xs:List V} {ns:List Int},VRs Γ μ H xs (ns.map D.int)->xs=ns.map V.int
 |_,[],.nil=>rfl
 |_,n::r,.cons q t=>by cases q;rw[U0t,VRs.RQ t]
end
abbrev Env:=List (Option D)
abbrev Store:=List (Option (List D))
def Cell(Γ:Fr)(μ:Mu)(H:Hp)(a:Addr)(ds:List D):Prop:=(∃xs,H a=some (.lst xs)/\VRs Γ μ H xs ds)∨∃kvs,ds=[.dcm kvs]/\H a=some (.dK kvs)
structure Rep(Γ:Fr)(μ:Mu)(σ:St)(H:Hp)(env:Env)(S:Store):Prop where
 vals:∀(i:Nat)(d:D),env[i]?=some (some d)->∃v,σ[i]?=some (some v)/\VR Γ μ H v d
 len:σ.length=env.length
 sto:∀(i:Nat)(ds:List D),S[i]?=some (some ds)->∃a,μ[i]?=some (some a)/\Cell Γ μ H a ds
 liv:∀(i:Nat)(a:Addr),μ[i]?=some (some a)->∃ds,S[i]?=some (some ds)
 inj:∀(i j:Nat)(a:Addr),μ[i]?=some (some a)->μ[j]?=some (some a)->i=j
 slen:S.length=μ.length
 ent:Ext (Γ.m0.map some) Γ.H0 μ H
 new:∀(i:Nat)(a:Addr),Γ.m0.length<=i->μ[i]?=some (some a)->Γ.H0 a=none
section
variable{Γ:Fr}{μ μ':Mu}{σ σ2:St}{H H':Hp}{env env2:Env}{S S':Store}
theorem Cell.kind{a:Addr}{ds:List D}(c:Cell Γ μ H a ds):IsL H a∨IsK H a:=by
 rcases c with ⟨xs,h,_⟩|⟨kvs,_,h⟩
 .exact .inl ⟨xs,h⟩
 .exact .inr ⟨kvs,h⟩
theorem Cell.list{a:Addr}{ds:List D}(c:Cell Γ μ H a ds)(l:IsL H a):∃xs,H a=some (.lst xs)/\VRs Γ μ H xs ds:=by
 rcases c with z|⟨kvs,_,h⟩
 .exact z
 .obtain⟨xs,q⟩:=l
  rw[h] at q;cases q
theorem Cell.dict{a:Addr}{ds:List D}(c:Cell Γ μ H a ds)(l:IsK H a):∃kvs,ds=[.dcm kvs]/\H a=some (.dK kvs):=by
 rcases c with ⟨xs,h,_⟩|z
 .obtain⟨xs,q⟩:=l
  rw[h] at q;cases q
 .exact z
theorem Cell.to{μ':Mu}{H':Hp}{a:Addr}{ds:List D}(c:Cell Γ μ H a ds)(x:Ext μ H μ' H')(e:∀o,H a=some o->H' a=some o):Cell Γ μ' H' a ds:=by
 rcases c with ⟨xs,h,r⟩|⟨kvs,q,h⟩
 .exact .inl ⟨xs,e _ h,r.ext x⟩
 .exact .inr ⟨kvs,q,e _ h⟩
theorem Rep.live(R:Rep Γ μ σ H env S){a:Addr}(h:CV μ a):IsL H a∨IsK H a:=by
 obtain⟨i,hi⟩:=U3x.mp h
 obtain⟨ds,hs⟩:=R.liv i a hi
 obtain⟨b,h1,h2⟩:=R.sto i ds hs
 rw[hi] at h1;cases h1
 exact h2.kind
theorem Rep.dead(R:Rep Γ μ σ H env S){p:Addr}(h:H p=none):¬CV μ p:=fun z=>by
 rcases R.live z with ⟨xs,e⟩|⟨xs,e⟩<;>(rw[h] at e;cases e)
theorem Rep.fresh(R:Rep Γ μ σ H env S){p:Addr}(h:H p=none):Γ.H0 p=none:=R.ent.none p h
theorem Rep.ok(R:Rep Γ μ σ H env S){p:Addr}(h:H p=none)(m:Bool):Γ.Ok m p:=⟨fun _=>R.fresh h,.inr (R.fresh h)⟩
theorem Rep.grow(R:Rep Γ μ σ H env S)(e:Same H H'):Rep Γ μ σ H' env S/\Ext μ H μ H':=by
 have x:Ext μ H μ H':=⟨fun a o h n=>⟨e a o h,n⟩,fun a xs h=>e a _ h,fun a h=>e.free h,fun _ _ _ h=>h,U0k _,fun a _ ⟨xs,h⟩=>⟨xs,e a _ h⟩,fun a _ ⟨xs,h⟩=>⟨xs,e a _ h⟩⟩
 refine⟨⟨fun i d h=>?_,R.len,fun i ds h=>?_,R.liv,R.inj,R.slen,R.ent.trans x,R.new⟩,x⟩
 .obtain⟨v,h1,h2⟩:=R.vals i d h
  exact⟨v,h1,h2.ext x⟩
 .obtain⟨a,h1,h2⟩:=R.sto i ds h
  exact⟨a,h1,h2.to x fun o q=>e _ _ q⟩
theorem Rep.back(R:Rep Γ μ σ H env S)(x:Ext μ H μ' H')(R2:Rep Γ μ' σ2 H' env2 S'):Rep Γ μ' σ H' env S' :=
 ⟨fun i d h=>let ⟨v,h1,h2⟩:=R.vals i d h;⟨v,h1,h2.ext x⟩,R.len,R2.sto,R2.liv,R2.inj,R2.slen,R2.ent,R2.new⟩
theorem Rep.cQ(R:Rep Γ μ σ H env S)(i:Nat){v:V}{d:D}(r:VR Γ μ H v d):Rep Γ μ (σ.set i (some v)) H (env.set i (some d)) S:=by
 refine⟨fun j e h=>?_,by rw[U4n,U4n];exact R.len,R.sto,R.liv,R.inj,R.slen,R.ent,R.new⟩
 by_cases hj:i=j
 .subst hj
  have hl:i<env.length:=by
   have:=(U0l.mp h).1
   rw[U4n] at this;exact this
  rw[U2x hl] at h
  cases h
  exact⟨v,U2x (by rw[R.len];exact hl),r⟩
 .rw[U28 hj] at h ⊢
  exact R.vals j e h
theorem Rep.iZ(R:Rep Γ μ σ H env S){p:Addr}{o:HO}{ds:List D}(hp:H p=none)(r:∀μ' H',Ext μ H μ' H'->H' p=some o->Cell Γ μ' H' p ds) :
  Rep Γ (μ++[some p]) σ (upd H p o) env (S++[some ds])/\Ext μ H (μ++[some p]) (upd H p o):=by
 have ne:∀a o,H a=some o->a≠p:=fun a o h z=>by rw[z,hp] at h;cases h
 have x:Ext μ H (μ++[some p]) (upd H p o):=by
  refine⟨fun a o h n=>⟨by rw[BZ (ne a o h)];exact h,fun z=>?_⟩,fun a ys h=>by rw[BZ (ne a _ h)];exact h,fun a h=>?_,fun i a hi h=>?_,by rw[U0n];omega,fun a _ ⟨ys,h⟩=>⟨ys,by rw[BZ (ne a _ h)];exact h⟩,fun a _ ⟨ys,h⟩=>⟨ys,by rw[BZ (ne a _ h)];exact h⟩⟩
  .rcases U1w.mp z with z|z
   .exact n z
   .have z':a=p:=by simpa using z
    exact ne a o h z'
  .by_cases ha:a=p
   .rw[ha,Bk] at h;cases h
   .rw[BZ ha] at h;exact h
  .rw[U1b hi] at h;exact h
 have idx:∀i a,(μ++[some p])[i]?=some (some a)->(i<μ.length/\μ[i]?=some (some a))∨(i=μ.length/\a=p):=fun i a h=>by
  by_cases hi:i<μ.length
  .rw[U1b hi] at h;exact .inl ⟨hi,h⟩
  .rw[U1v (by omega)] at h
   have hl:=(U0l.mp h).1
   have hi':i=μ.length:=by simp at hl;omega
   subst hi'
   simp at h
   exact .inr ⟨rfl,h.symm⟩
 have no:∀a,μ[a]?=some (some p)->False:=fun i h=>R.dead hp (U1l h)
 refine⟨⟨fun i d h=>?_,R.len,fun i es h=>?_,fun i a h=>?_,fun i j a h1 h2=>?_,by rw[U0n,U0n,R.slen];rfl,R.ent.trans x,fun i a hi h=>?_⟩,x⟩
 .obtain⟨v,h1,h2⟩:=R.vals i d h
  exact⟨v,h1,h2.ext x⟩
 .by_cases hi:i<S.length
  .rw[U1b hi] at h
   obtain⟨a,h1,h2⟩:=R.sto i es h
   exact⟨a,by rw[U1b (by rw[←R.slen];exact hi)];exact h1,h2.to x fun o q=>by rw[BZ (ne a _ q)];exact q⟩
  .rw[U1v (by omega)] at h
   have hl:=(U0l.mp h).1
   have hi':i=S.length:=by simp at hl;omega
   subst hi'
   simp at h
   subst h
   exact⟨p,by rw[R.slen];simp,r _ _ x Bk⟩
 .rcases idx i a h with ⟨hi,h⟩|⟨rfl,rfl⟩
  .obtain⟨ds',q⟩:=R.liv i a h
   exact⟨ds',by rw[U1b (by rw[R.slen];exact hi)];exact q⟩
  .exact⟨ds,by rw[←R.slen];simp⟩
 .rcases idx i a h1 with ⟨_,g1⟩|⟨e1,e2⟩
  .rcases idx j a h2 with ⟨_,g2⟩|⟨e3,e4⟩
   .exact R.inj i j a g1 g2
   .exact(no i (e4 ▸ g1)).elim
  .rcases idx j a h2 with ⟨_,g2⟩|⟨e3,_⟩
   .exact(no j (e2 ▸ g2)).elim
   .rw[e1,e3]
 .rcases idx i a h with ⟨_,h⟩|⟨rfl,rfl⟩
  .exact R.new i a hi h
  .exact R.fresh hp
theorem Rep.laid(R:Rep Γ μ σ H env S){p:Addr}{xs:List V}{ds:List D}(hp:H p=none)(r:VRs Γ μ H xs ds) :
  Rep Γ (μ++[some p]) σ (upd H p (.lst xs)) env (S++[some ds])/\Ext μ H (μ++[some p]) (upd H p (.lst xs)):=R.iZ hp fun _ _ x q=>.inl ⟨xs,q,r.ext x⟩
theorem Rep.nY(R:Rep Γ μ σ H env S){i:Nat}{a:Addr}{o:HO}{ds:List D}(hi:μ[i]?=some (some a))(k1:IsL H a->IsL (upd H a o) a)(k2:IsK H a->IsK (upd H a o) a)(r:∀H',Ext μ H μ H'->H' a=some o->Cell Γ μ H' a ds) :
  Rep Γ μ σ (upd H a o) env (S.set i (some ds))/\Ext μ H μ (upd H a o):=by
 have hl:CV μ a:=U1l hi
 have hy:=R.live hl
 have x:Ext μ H μ (upd H a o):=by
  refine⟨fun b o h n=>⟨?_,n⟩,fun b zs h=>?_,fun b h=>?_,fun _ _ _ h=>h,U0k _,fun b _ h=>?_,fun b _ h=>?_⟩
  .rw[BZ (fun z=>n (by rw[z];exact hl))];exact h
  .rw[BZ (fun z=>by
    rw[z] at h
    rcases hy with ⟨_,q⟩|⟨_,q⟩<;>(rw[q] at h;cases h))];exact h
  .by_cases hb:b=a
   .rw[hb,Bk] at h;cases h
   .rw[BZ hb] at h;exact h
  .by_cases hb:b=a
   .subst hb;exact k1 h
   .obtain⟨ys,h⟩:=h
    exact⟨ys,by rw[BZ hb];exact h⟩
  .by_cases hb:b=a
   .subst hb;exact k2 h
   .obtain⟨ys,h⟩:=h
    exact⟨ys,by rw[BZ hb];exact h⟩
 have hiS:i<S.length:=by rw[R.slen];exact(U0l.mp hi).1
 refine⟨⟨fun j d h=>?_,R.len,fun j es h=>?_,fun j b h=>?_,R.inj,by rw[U4n];exact R.slen,R.ent.trans x,R.new⟩,x⟩
 .obtain⟨v,h1,h2⟩:=R.vals j d h
  exact⟨v,h1,h2.ext x⟩
 .by_cases hj:i=j
  .subst hj
   rw[U2x hiS] at h
   cases h
   exact⟨a,hi,r _ x Bk⟩
  .rw[U28 hj] at h
   obtain⟨b,h1,h2⟩:=R.sto j es h
   refine⟨b,h1,h2.to x fun o q=>?_⟩
   rw[BZ (fun z=>hj (R.inj i j a hi (by rw[←z];exact h1)))]
   exact q
 .by_cases hj:i=j
  .subst hj;exact⟨ds,U2x hiS⟩
  .rw[U28 hj];exact R.liv j b h
theorem Rep.put(R:Rep Γ μ σ H env S){i:Nat}{a:Addr}{xs:List V}{ds:List D}(hi:μ[i]?=some (some a))(hx:IsL H a)(r:VRs Γ μ H xs ds) :
  Rep Γ μ σ (upd H a (.lst xs)) env (S.set i (some ds))/\Ext μ H μ (upd H a (.lst xs)) :=
 R.nY hi (fun _=>⟨xs,Bk⟩) (fun⟨_,q⟩=>by obtain⟨_,p⟩:=hx;rw[q] at p;cases p) fun _ x q=>.inl ⟨xs,q,r.ext x⟩
end
end VS
end
section
namespace VS
open PySem PySem.Spec L2
abbrev Az:=Env->Store->Option (D×Store)
abbrev Bh:=Env->Store->Option (List D×Store)
abbrev Ec:=Env->Store->Option (Bool×Store)
abbrev Qk:=Env->Store->Option (Option Int×Store)
inductive Fl where|nx|brk|cnt|ret (d:D)
abbrev BX:=Env->Store->Option (Fl×Env×Store)
abbrev Ji:=Env->Store->Option ((List D×List (Nat×List D))×Store)
abbrev JQ:=D->Env->Option Env
def Ab(i:Nat):Az:=fun env S=>(env[i]?.join).map fun d=>(d,S)
def eC(d:D):Az:=fun _ S=>some (d,S)
def eOp(g:Store->D->D->Option D)(a b:Az):Az:=fun env S=>(a env S).bind fun p=>(b env p.2).bind fun q=>(g q.2 p.1 q.1).map fun d=>(d,q.2)
def eUn(g:Store->D->Option D)(a:Az):Az:=fun env S=>(a env S).bind fun p=>(g p.2 p.1).map fun d=>(d,p.2)
def Af:Bh:=fun _ S=>some ([],S)
def Aa(a:Az)(r:Bh):Bh:=fun env S=>(a env S).bind fun p=>(r env p.2).bind fun q=>some (p.1::q.1,q.2)
def eCB(g:Store->List D->Option D)(a:Bh):Az:=fun env S=>(a env S).bind fun p=>(g p.2 p.1).map fun d=>(d,p.2)
def Qh(a b:Az):Az:=fun env S=>(a env S).bind fun p=>match p.1 with|.bl true=>b env p.2|.bl false=>some (.bl false,p.2)|_=>none
def cY(a:Az):Az:=fun env S=>(a env S).bind fun p=>match p.1 with|.bl c=>some (.bl (!c),p.2)|_=>none
def Ri(g g':Store->D->D->Option D)(a b c:Az):Az:=fun env S=>(a env S).bind fun p=>(b env p.2).bind fun q=>(g q.2 p.1 q.1).bind fun z=>match z with
 |.bl true=>(c env q.2).bind fun r=>(g' r.2 q.1 r.1).map fun d=>(d,r.2)
 |.bl false=>some (.bl false,q.2)
 |_=>none
def Bo(a:Az):Ec:=fun env S=>(a env S).bind fun p=>match p.1 with|.bl c=>some (c,p.2)|_=>none
def Sh(a b:Ec):Ec:=fun env S=>(a env S).bind fun p=>if p.1=true then b env p.2 else some (false,p.2)
def tOr(a b:Ec):Ec:=fun env S=>(a env S).bind fun p=>if p.1=true then some (true,p.2) else b env p.2
def JK(a:Ec):Ec:=fun env S=>(a env S).bind fun p=>some (!p.1,p.2)
def GX:Qk:=fun _ S=>some (none,S)
def GR(a:Az):Qk:=fun env S=>(a env S).bind fun p=>match p.1 with|.int i=>some (some i,p.2)|_=>none
def eSl(g:Store->D->Option Int->Option Int->Option D)(a:Az)(l h:Qk):Az:=fun env S=>(a env S).bind fun p=>(l env p.2).bind fun q=>(h env q.2).bind fun r=>(g r.2 p.1 q.1 r.1).map fun d=>(d,r.2)
def Bq(a b:BX):BX:=fun env S=>(a env S).bind fun p=>match p.1 with|.nx=>b p.2.1 p.2.2|f=>some (f,p.2.1,p.2.2)
def FW:BX:=fun env S=>some (.nx,env,S)
def RZ:BX:=fun _ _=>none
def Bx(i:Nat)(a:Az):BX:=fun env S=>(a env S).bind fun p=>some (.nx,env.set i (some p.1),p.2)
def Ye(a:Az)(g:JQ):BX:=fun env S=>(a env S).bind fun p=>(g p.1 env).bind fun e=>some (.nx,e,p.2)
def Ig(a:Az):BX:=fun env S=>(a env S).bind fun p=>some (.nx,env,p.2)
def Cy(a:Az):BX:=fun env S=>(a env S).bind fun p=>some (.ret p.1,env,p.2)
def sIf(c:Ec)(a b:BX):BX:=fun env S=>(c env S).bind fun p=>if p.1=true then a env p.2 else b env p.2
inductive Pat where
 |nm (i:Nat)|tp (ps:List Pat)
mutual
def Pat.sem:Pat->D->Env->Option Env
 |.nm i,d,env=>some (env.set i (some d))
 |.tp ps,.tup ds,env=>Gm ps ds env
 |.tp _,_,_=>none
def Gm:List Pat->List D->Env->Option Env
 |[],[],env=>some env
 |p::ps,d::ds,env=>(Pat.sem p d env).bind fun e=>Gm ps ds e
 |_,_,_=>none
end
mutual
def Pat.raw(K:U0a):Pat->TG
 |.nm i=>V6 i
 |.tp ps=>cW K ps.length (J3 K ps)
def J3(K:U0a):List Pat->TGs
 |[]=>cX
 |p::ps=>Yz (Pat.raw K p) (J3 K ps)
end
mutual
def Pat.low(k:Nat):Pat->Bool
 |.nm i=>decide (i<k)
 |.tp ps=>Yi k ps
def Yi(k:Nat):List Pat->Bool
 |[]=>true
 |p::ps=>Pat.low k p&&Yi k ps
end
mutual
theorem Pat.mono(K:U0a):∀(p:Pat)(x:V)(σ:St)(H:Hp)(Q Q':St->Hp->Prop),(∀σ' H',Q σ' H'->Q' σ' H')->p.raw K x σ H Q->p.raw K x σ H Q'
 |.nm i,x,σ,H,Q,Q',f,h=>by rw[Pat.raw] at h ⊢;exact f _ _ h
 |.tp ps,x,σ,H,Q,Q',f,h=>by rw[Pat.raw] at h ⊢;obtain⟨a,xs,e,hs,hl,q⟩:=h;exact⟨a,xs,e,hs,hl,Yu K ps xs σ H Q Q' f q⟩
theorem Yu(K:U0a):∀(ps:List Pat)(x:List V)(σ:St)(H:Hp)(Q Q':St->Hp->Prop),(∀σ' H',Q σ' H'->Q' σ' H')->J3 K ps x σ H Q->J3 K ps x σ H Q'
 |[],x,σ,H,Q,Q',f,h=>by rw[J3] at h ⊢;exact⟨h.1,f _ _ h.2⟩
 |p::ps,x,σ,H,Q,Q',f,h=>by rw[J3] at h ⊢;obtain⟨v,r,e,q⟩:=h;exact⟨v,r,e,Pat.mono K p v σ H _ _ (fun σ1 H1 z=>Yu K ps r σ1 H1 Q Q' f z) q⟩
end
mutual
theorem Pat.Yw(K:U0a){k:Nat}:∀(p:Pat),p.low k=true->Low k (p.raw K)
 |.nm i,h=>by rw[Pat.raw];rw[Pat.low] at h;exact fV (of_decide_eq_true h)
 |.tp ps,h=>by rw[Pat.raw];rw[Pat.low] at h;exact jy (Zx K ps h)
theorem Zx(K:U0a){k:Nat}:∀(ps:List Pat),Yi k ps=true->VH k (J3 K ps)
 |[],_=>by rw[J3];exact jz
 |p::ps,h=>by
  rw[J3]
  rw[Yi,U0y] at h
  exact fX (Pat.Yw K p h.1) (Zx K ps h.2) (Pat.mono K p) (Yu K ps)
end
theorem Vx:∀{ps:List Pat} {ds:List D} {env env':Env},Gm ps ds env=some env'->ds.length=ps.length
 |[],[],_,_,_=>rfl
 |[],_::_,_,_,h=>by simp[Gm] at h
 |_::_,[],_,_,h=>by simp[Gm] at h
 |p::ps,d::ds,env,env',h=>by
  rw[Gm] at h
  cases e1:p.sem d env with
  |none=>rw[e1] at h;cases h
  |some env1 =>
   rw[e1] at h
   rw[U0e,U0e,Vx (show Gm ps ds env1=some env' from h)]
mutual
theorem Pat.run{Γ:Fr}{μ:Mu}{H:Hp}{S:Store}(K:U0a):∀(p:Pat){v:V}{d:D}{σ:St}{env env':Env}{Q:St->Hp->Prop},Rep Γ μ σ H env S->VR Γ μ H v d->p.sem d env=some env'->(∀σ',Rep Γ μ σ' H env' S->Q σ' H)->p.raw K v σ H Q
 |.nm i,v,d,σ,env,env',Q,R,r,e,q=>by
  rw[Pat.raw]
  rw[Pat.sem] at e
  cases e
  exact q _ (R.cQ i r)
 |.tp ps,v,d,σ,env,env',Q,R,r,e,q=>by
  rw[Pat.raw]
  cases r with
  |@tup b xs ds hb rs =>
   rw[Pat.sem] at e
   obtain⟨hl,w⟩:=nF K ps R rs e q
   exact⟨b,xs,rfl,SqT.of hb,hl,w⟩
  |_=>simp[Pat.sem] at e
theorem nF{Γ:Fr}{μ:Mu}{H:Hp}{S:Store}(K:U0a):∀(ps:List Pat){vs:List V}{ds:List D}{σ:St}{env env':Env}{Q:St->Hp->Prop},Rep Γ μ σ H env S->VRs Γ μ H vs ds->Gm ps ds env=some env'->(∀σ',Rep Γ μ σ' H env' S->Q σ' H)->vs.length=ps.length/\J3 K ps vs σ H Q
 |[],vs,ds,σ,env,env',Q,R,r,e,q=>by
  rw[J3]
  cases r with
  |nil=>rw[Gm] at e;cases e;exact⟨rfl,rfl,q σ R⟩
  |cons _ _=>simp[Gm] at e
 |p::ps,vs,ds,σ,env,env',Q,R,r,e,q=>by
  rw[J3]
  cases r with
  |nil=>simp[Gm] at e
  |@cons y d ys ds' r1 r2 =>
   rw[Gm] at e
   cases e1:p.sem d env with
   |none=>rw[e1] at e;cases e
   |some env1 =>
    rw[e1] at e
    have e':Gm ps ds' env1=some env':=e
    have hl:ys.length=ps.length:=by rw[r2.length];exact Vx e'
    exact⟨by rw[U0e,U0e,hl],y,ys,rfl,Pat.run K p R r1 e1 fun σ1 R1=>(nF K ps R1 r2 e' q).2⟩
end
def calm(w:List (Nat×List D))(S:Store):Prop:=∀p∈w,S[p.1]?=some (some p.2)
open Classical in
def loop(w:List (Nat×List D))(g:JQ)(b:BX):List D->BX
 |[],env,S=>if calm w S then some (.nx,env,S) else none
 |d::r,env,S=>if calm w S then (g d env).bind fun e=>(b e S).bind fun p=>match p.1 with
   |.nx=>loop w g b r p.2.1 p.2.2
   |.cnt=>loop w g b r p.2.1 p.2.2
   |.brk=>some (.nx,p.2.1,p.2.2)
   |.ret d=>some (.ret d,p.2.1,p.2.2)
  else none
def K7(it:Ji)(g:JQ)(b:BX):BX:=fun env S=>(it env S).bind fun p=>loop p.1.2 g b p.1.1 env p.2
def JM(k:Nat)(caps:List Nat)(env:Env):Env:=U03 k none++caps.map fun j=>(env[j]?).join
open Classical in
def FP(w:List (Nat×List D))(e0:Env)(g:JQ)(t:Ec)(e:Az):List D->List D->Store->Option (List D×Store)
 |[],ys,S=>if calm w S/\ys.length<=1000000 then some (ys,S) else none
 |d::r,ys,S=>if calm w S/\ys.length<=1000000 then (g d e0).bind fun e1=>(t e1 S).bind fun p =>
   if p.1=true then (e e1 p.2).bind fun q=>FP w e0 g t e r (ys++[q.1]) q.2 else FP w e0 g t e r ys p.2
  else none
def Ef(k:Nat)(caps:List Nat)(it:Ji)(g:JQ)(t:Ec)(e:Az):Bh:=fun env S=>(it env S).bind fun p=>FP p.1.2 (JM k caps env) g t e p.1.1 [] p.2
def Ga:Ec:=fun _ S=>some (true,S)
def Bp(a:Bh):Az:=fun env S=>(a env S).bind fun p=>some (.lst true p.1,p.2)
def K9(a:Bh):Az:=fun env S=>(a env S).bind fun p=>some (.ref p.2.length,p.2++[some p.1])
def BR(a:Bh):Az:=fun env S=>(a env S).bind fun p=>some (.tup p.1,p.2)
def wpE(K:U0a)(f:Az):TE:=fun σ H Q=>∃Γ μ env S d S',Γ.K=K/\Rep Γ μ σ H env S/\f env S=some (d,S')/\∀v μ' H',Ext μ H μ' H'->Rep Γ μ' σ H' env S'->VR Γ μ' H' v d->Q v H'
def wpA(K:U0a)(f:Bh):TA:=fun σ H Q=>∃Γ μ env S d S',Γ.K=K/\Rep Γ μ σ H env S/\f env S=some (d,S')/\∀v μ' H',Ext μ H μ' H'->Rep Γ μ' σ H' env S'->VRs Γ μ' H' v d->Q v H'
def wpT(K:U0a)(f:Ec):TT:=fun σ H Q=>∃Γ μ env S b S',Γ.K=K/\Rep Γ μ σ H env S/\f env S=some (b,S')/\∀μ' H',Ext μ H μ' H'->Rep Γ μ' σ H' env S'->Q b H'
def wpO(K:U0a)(f:Qk):TO:=fun σ H Q=>∃Γ μ env S b S',Γ.K=K/\Rep Γ μ σ H env S/\f env S=some (b,S')/\∀μ' H',Ext μ H μ' H'->Rep Γ μ' σ H' env S'->Q b H'
def FlQ(Γ:Fr)(μ:Mu)(E:Ends)(σ:St)(H:Hp):Fl->Prop
 |.nx=>E.nx σ H
 |.brk=>E.bk σ H
 |.cnt=>E.ct σ H
 |.ret d=>∀v,VR Γ μ H v d->E.rt v H
def wpS(K:U0a)(f:BX):TS:=fun E σ H=>∃Γ μ env S fl env' S',Γ.K=K/\Rep Γ μ σ H env S/\f env S=some (fl,env',S')/\∀μ' σ' H',Ext μ H μ' H'->Rep Γ μ' σ' H' env' S'->FlQ Γ μ' E σ' H' fl
structure VJ(Γ:Fr)(μ:Mu)(H:Hp)(J:It)(ds:List D)(w:List (Nat×List D)):Prop where
 step:∀(i:Nat)(d:D)(μ':Mu)(H':Hp)(σ':St)(env':Env)(S':Store),ds[i]?=some d->Ext μ H μ' H'->Rep Γ μ' σ' H' env' S'->calm w S'->J.go i H'/\∀x H'',J.yld i H' x H''->Same H' H''/\VR Γ μ' H'' x d
 stop:∀(μ':Mu)(H':Hp)(σ':St)(env':Env)(S':Store),Ext μ H μ' H'->Rep Γ μ' σ' H' env' S'->calm w S'->J.stop ds.length H'
def wpI(K:U0a)(f:Ji):TI:=fun σ H R=>∃Γ μ env S ds w S',Γ.K=K/\Rep Γ μ σ H env S/\f env S=some ((ds,w),S')/\∀J μ' H',Ext μ H μ' H'->Rep Γ μ' σ H' env S'->VJ Γ μ' H' J ds w->R J H'
structure JE(X:Cx)(e:Expr)(f:Az):Prop where
 pe:PE X e (wpE X.K f)
structure JA(X:Cx)(es:List Expr)(f:Bh):Prop where
 pa:PA X es (wpA X.K f)
structure JT(X:Cx)(e:Expr)(f:Ec):Prop where
 pt:PT X e (wpT X.K f)
structure JW(X:Cx)(e:Expr)(f:Ec):Prop where
 pw:PW X e (wpT X.K f)
structure JO(X:Cx)(e:Option Expr)(f:Qk):Prop where
 po:PO X e (wpO X.K f)
structure JS(X:Cx)(st:Stmt)(f:BX):Prop where
 ps:PS X st (wpS X.K f)
structure JSs(X:Cx)(sts:List Stmt)(f:BX):Prop where
 ps:PSs X sts (wpS X.K f)
structure JI(X:Cx)(tg e:Expr)(f:Ji):Prop where
 pi:PI X tg e (wpI X.K f)
structure JG(X:Cx)(tg:Expr)(p:Pat):Prop where
 pg:PG X tg (p.raw X.K)
structure JGs(X:Cx)(tgs:List Expr)(ps:List Pat):Prop where
 pg:PGs X tgs (J3 X.K ps)
structure JTs(X:Cx)(es:List Expr)(f:Ec):Prop where
 pt:PTs X es (wpT X.K f)
section
variable{X:Cx}
theorem PE.imp{e:Expr}{t t':TE}(h:PE X e t)(k:∀σ H Q,t' σ H Q->t σ H Q):PE X e t':=fun pins s σ H Q I q=>h pins s σ H Q I (k σ H Q q)
theorem PT.imp{e:Expr}{t t':TT}(h:PT X e t)(k:∀σ H Q,t' σ H Q->t σ H Q):PT X e t':=fun pins s σ H Q I q=>h pins s σ H Q I (k σ H Q q)
theorem PW.imp{e:Expr}{t t':TT}(h:PW X e t)(k:∀σ H Q,t' σ H Q->t σ H Q):PW X e t':=fun w pins s σ H Q I q=>h w pins s σ H Q I (k σ H Q q)
theorem PTs.imp{e:List Expr}{t t':TT}(h:PTs X e t)(k:∀σ H Q,t' σ H Q->t σ H Q):PTs X e t':=fun pins s σ H Q I q=>h pins s σ H Q I (k σ H Q q)
theorem PA.imp{e:List Expr}{t t':TA}(h:PA X e t)(k:∀σ H Q,t' σ H Q->t σ H Q):PA X e t':=fun p pins s σ H Q I q=>h p pins s σ H Q I (k σ H Q q)
theorem PO.imp{e:Option Expr}{t t':TO}(h:PO X e t)(k:∀σ H Q,t' σ H Q->t σ H Q):PO X e t':=fun pins s σ H Q I q=>h pins s σ H Q I (k σ H Q q)
theorem PS.imp{e:Stmt}{t t':TS}(h:PS X e t)(k:∀E σ H,t' E σ H->t E σ H):PS X e t':=fun pins s σ H E I q=>h pins s σ H E I (k E σ H q)
theorem PSs.imp{e:List Stmt}{t t':TS}(h:PSs X e t)(k:∀E σ H,t' E σ H->t E σ H):PSs X e t':=fun pins s σ H E I q=>h pins s σ H E I (k E σ H q)
theorem PI.imp{tg e:Expr}{t t':TI}(h:PI X tg e t)(k:∀σ H R,t' σ H R->t σ H R):PI X tg e t':=fun pins s σ H R I q=>h pins s σ H R I (k σ H R q)
theorem bind_some{α β:Type}{a:Option α}{f:α->Option β}{b:β}(h:a.bind f=some b):∃x,a=some x/\f x=some b:=by
 cases a with
 |none=>cases h
 |some x=>exact⟨x,rfl,h⟩
theorem map_some{α β:Type}{a:Option α}{f:α->β}{b:β}(h:a.map f=some b):∃x,a=some x/\f x=b:=by
 cases a with
 |none=>cases h
 |some x=>exact⟨x,rfl,U00 h⟩
def FJ(K:U0a)(r:R2)(g:Store->D->D->Option D):Prop:=∀(Γ:Fr)(μ:Mu)(σ:St)(H:Hp)(env:Env)(S:Store)(x y:V)(dx dy d:D),Γ.K=K->Rep Γ μ σ H env S->VR Γ μ H x dx->VR Γ μ H y dy->g S dx dy=some d ->
 ∀Q:VK,(∀v H',Same H H'->VR Γ μ H' v d->Q v H')->r x y H Q
def o7(K:U0a)(r:V->Hp->VK->Prop)(g:Store->D->Option D):Prop:=∀(Γ:Fr)(μ:Mu)(σ:St)(H:Hp)(env:Env)(S:Store)(x:V)(dx d:D),Γ.K=K->Rep Γ μ σ H env S->VR Γ μ H x dx->g S dx=some d ->
 ∀Q:VK,(∀v H',Same H H'->VR Γ μ H' v d->Q v H')->r x H Q
def Jh(K:U0a)(r:List V->Hp->VK->Prop)(g:Store->List D->Option D):Prop:=∀(Γ:Fr)(μ:Mu)(σ:St)(H:Hp)(env:Env)(S:Store)(xs:List V)(ds:List D)(d:D),Γ.K=K->Rep Γ μ σ H env S->VRs Γ μ H xs ds->g S ds=some d ->
 ∀Q:VK,(∀v H',Same H H'->VR Γ μ H' v d->Q v H')->r xs H Q
def iz(K:U0a)(r:V->Option Int->Option Int->Hp->VK->Prop)(g:Store->D->Option Int->Option Int->Option D):Prop:=∀(Γ:Fr)(μ:Mu)(σ:St)(H:Hp)(env:Env)(S:Store)(x:V)(dx d:D)(l h:Option Int),Γ.K=K->Rep Γ μ σ H env S->VR Γ μ H x dx->g S dx l h=some d ->
 ∀Q:VK,(∀v H',Same H H'->VR Γ μ H' v d->Q v H')->r x l h H Q
theorem V3{K:U0a}{r:R2}{g:Store->D->D->Option D}{fa fb:Az}(hs:FJ K r g){σ:St}{H:Hp}{Q:VK}(h:wpE K (eOp g fa fb) σ H Q):tOp r (wpE K fa) (wpE K fb) σ H Q:=by
 obtain⟨Γ,μ,env,S,d,S',hK,R,e,q⟩:=h
 obtain⟨⟨x,S1⟩,e1,e⟩:=bind_some e
 obtain⟨⟨y,S2⟩,e2,e⟩:=bind_some e
 obtain⟨z,e3,e⟩:=map_some e
 cases e
 refine⟨Γ,μ,env,S,x,S1,hK,R,e1,fun v1 μ1 H1 x1 R1 r1=>?_⟩
 refine⟨Γ,μ1,env,S1,y,S2,hK,R1,e2,fun v2 μ2 H2 x2 R2 r2=>?_⟩
 refine hs Γ μ2 σ H2 env S2 v1 v2 x y _ hK R2 (r1.ext x2) r2 e3 Q fun v H' sm rv=>?_
 obtain⟨R3,x3⟩:=R2.grow sm
 exact q v μ2 H' (x1.trans (x2.trans x3)) R3 rv
theorem CN{op:Operator}{r:R2}{g:Store->D->D->Option D}{a b:Expr}{fa fb:Az}{pos:Pos}(ho:OpR X (binaryOp op) r)(hs:FJ X.K r g)(ha:JE X a fa)(hb:JE X b fb):JE X (.BinOp a op b pos) (eOp g fa fb) :=
 ⟨PE.imp (sZ ho ha.pe hb.pe) fun _ _ _ h=>V3 hs h⟩
theorem Mh{op:CmpOp}{r:R2}{g:Store->D->D->Option D}{a b:Expr}{fa fb:Az}{pos:Pos}(ho:OpR X (compareOp op) r)(hs:FJ X.K r g)(ha:JE X a fa)(hb:JE X b fb)(hm:behindInMarks op b=false):JE X (.Compare a [op] [b] pos) (eOp g fa fb) :=
 ⟨PE.imp (YH ho ha.pe hb.pe hm) fun _ _ _ h=>V3 hs h⟩
theorem Bd{r:R2}{g:Store->D->D->Option D}{a b:Expr}{fa fb:Az}{pos:Pos}(ho:IxR X r)(hs:FJ X.K r g)(ha:JE X a fa)(hb:JE X b fb)(hp:QB b):JE X (.Subscript a b pos) (eOp g fa fb) :=
 ⟨PE.imp (su ho ha.pe hb.pe hp) fun _ _ _ h=>V3 hs h⟩
theorem Hr{op:UnaryOp}{r:V->Hp->VK->Prop}{g:Store->D->Option D}{a:Expr}{fa:Az}{pos:Pos}(ho:UnR X (unaryOp op) r)(hs:o7 X.K r g)(ha:JE X a fa):JE X (.UnaryOp op a pos) (eUn g fa) :=
 ⟨PE.imp (sY ho ha.pe) fun σ H Q h=>by
  obtain⟨Γ,μ,env,S,d,S',hK,R,e,q⟩:=h
  obtain⟨⟨x,S1⟩,e1,e⟩:=bind_some e
  obtain⟨z,e3,e⟩:=map_some e
  cases e
  refine⟨Γ,μ,env,S,x,S1,hK,R,e1,fun v1 μ1 H1 x1 R1 r1=>?_⟩
  refine hs Γ μ1 σ H1 env S1 v1 x _ hK R1 r1 e3 Q fun v H' sm rv=>?_
  obtain⟨R3,x3⟩:=R1.grow sm
  exact q v μ1 H' (x1.trans x3) R3 rv⟩
theorem Ae(i:Nat){x:Str}{pos:Pos}(hN:X.N[i]?=some x:=by rfl)(hv:Vis X.env.scope x:=by first|exact Or.inl rfl|exact Or.inr (Or.inl rfl)|exact Or.inr (Or.inr rfl))(hd:(x==("__debug__":Str))=false:=by decide)
  (hcd:(x==("__classdict__":Str))=false:=by decide):JE X (.Name x pos) (Ab i) :=
 ⟨PE.imp (pG hN hv hd hcd) fun σ H Q h=>by
  obtain⟨Γ,μ,env,S,d,S',hK,R,e,q⟩:=h
  obtain⟨d',e1,e⟩:=map_some e
  cases e
  have e1':env[i]?=some (some d):=by
   cases h:env[i]? with
   |none=>rw[h] at e1;cases e1
   |some o=>rw[h] at e1;exact congrArg some e1
  obtain⟨v,h1,h2⟩:=R.vals i d e1'
  exact⟨v,h1,q v μ H (Ext.refl _ _) R h2⟩⟩
theorem cO{K:U0a}{v:V}{d:D}(h:∀Γ μ H,VR Γ μ H v d){σ:St}{H:Hp}{Q:VK}(w:wpE K (eC d) σ H Q):tC v σ H Q:=by
 obtain⟨Γ,μ,env,S,d',S',hK,R,e,q⟩:=w
 cases e
 exact q v μ H (Ext.refl _ _) R (h Γ μ H)
theorem Aj{i j pos}:JE X (.Constant (.int i) j pos) (eC (.int i)):=⟨PE.imp pL fun _ _ _=>cO fun _ _ _=>.int i⟩
theorem Lq{b j pos}:JE X (.Constant (.bool b) j pos) (eC (.bl b)):=⟨PE.imp tE fun _ _ _=>cO fun _ _ _=>.bl b⟩
theorem Pn{n:String}{x:Str}{pos:Pos}(hg:Gl X x)(hm:X.mg x=none)(hv:bootBuiltins x=some (.type n))(hn:x≠"__name__":=by decide)(hd:(x==("__debug__":Str))=false:=by decide):JE X (.Name x pos) (eC (.ty n)) :=
 ⟨PE.imp (jm (v:=.ty n) hg hm hv rfl hn hd) fun _ _ _=>cO fun _ _ _=>.ty n⟩
theorem Ah:JA X [] Af:=⟨PA.imp Ra fun σ H Q h=>by
 obtain⟨Γ,μ,env,S,d,S',hK,R,e,q⟩:=h
 cases e
 exact q [] μ H (Ext.refl _ _) R .nil⟩
theorem Ac{e:Expr}{es:List Expr}{f:Az}{r:Bh}(ha:JE X e f)(hr:JA X es r)(hs:starEach (e::es) X.env=(false,eval e X.env)::starEach es X.env:=by rfl):JA X (e::es) (Aa f r) :=
 ⟨PA.imp (Pz ha.pe hr.pa hs) fun σ H Q h=>by
  obtain⟨Γ,μ,env,S,d,S',hK,R,e,q⟩:=h
  obtain⟨⟨x,S1⟩,e1,e⟩:=bind_some e
  obtain⟨⟨y,S2⟩,e2,e⟩:=bind_some e
  cases e
  refine⟨Γ,μ,env,S,x,S1,hK,R,e1,fun v1 μ1 H1 x1 R1 r1=>?_⟩
  refine⟨Γ,μ1,env,S1,y,S2,hK,R1,e2,fun v2 μ2 H2 x2 R2 r2=>?_⟩
  exact q _ μ2 H2 (x1.trans x2) R2 (.cons (r1.ext x2) r2)⟩
theorem big{n:Nat}(h:n<=1000000):n<sizeLine:=U3t h (by decide)
theorem oA{K:U0a}{f:Bh}{σ:St}{H:Hp}{Q:VK}(hl:∀env S p,f env S=some p->p.1.length<=1000000)(h:wpE K (BR f) σ H Q):mq (wpA K f) σ H Q:=by
 obtain⟨Γ,μ,env,S,d,S',hK,R,e,q⟩:=h
 obtain⟨⟨x,S1⟩,e1,e⟩:=bind_some e
 cases e
 refine⟨Γ,μ,env,S,x,S1,hK,R,e1,fun vs μ1 H1 x1 R1 r1=>⟨by rw[r1.length];exact U2b (big (hl _ _ _ e1)),fun p hp=>?_⟩⟩
 have sm:=Cw hp (.tup vs)
 obtain⟨R2,x2⟩:=R1.grow sm
 exact q _ μ1 _ (x1.trans x2) R2 (.tup Bk (r1.ext x2))
def Few(n:Nat)(f:Bh):Prop:=∀env S p,f env S=some p->p.1.length<=n
theorem Aw:Few 0 Af:=fun env S p h=>by cases h;exact U0k _
theorem Ai{n:Nat}{f:Az}{r:Bh}(h:Few n r):Few (n+1) (Aa f r):=fun env S p e=>by
 obtain⟨⟨x,S1⟩,e1,e⟩:=bind_some e
 obtain⟨⟨y,S2⟩,e2,e⟩:=bind_some e
 cases e
 have:=h _ _ _ e2
 show(x::y).length<=n+1
 rw[U0e]
 exact Nat.succ_le_succ this
theorem Bv{es:List Expr}{f:Bh}{x1:Nat}{pos:Pos}{n:Nat}(h:JA X es f)(hf:Few n f)(hn:n<=1000000:=by decide):JE X (.Tuple es x1 pos) (BR f):=⟨PE.imp (pI h.pa) fun _ _ _ w=>oA (fun env S p e=>U06 (hf env S p e) hn) w⟩
theorem Ds{es:List Expr}{f:Bh}{pos:Pos}{n:Nat}(h:JA X es f)(hf:Few n f)(hn:n<=1000000:=by decide):JE X (.List es pos) (Bp f):=⟨PE.imp (Zt h.pa) fun σ H Q w=>by
 obtain⟨Γ,μ,env,S,d,S',hK,R,e,q⟩:=w
 obtain⟨⟨x,S1⟩,e1,e⟩:=bind_some e
 cases e
 refine⟨Γ,μ,env,S,x,S1,hK,R,e1,fun vs μ1 H1 x1 R1 r1=>⟨by rw[r1.length];exact U2b (big (U06 (hf _ _ _ e1) hn)),fun p hp=>?_⟩⟩
 obtain⟨R2,x2⟩:=R1.grow (Cw hp (.lst vs))
 exact q _ μ1 _ (x1.trans x2) R2 (.lst (R1.ok hp true) (R1.dead hp) Bk (r1.ext x2))⟩
theorem Mt{es:List Expr}{f:Bh}{pos:Pos}{n:Nat}(h:JA X es f)(hf:Few n f)(hn:n<=1000000:=by decide):JE X (.List es pos) (K9 f):=⟨PE.imp (Zt h.pa) fun σ H Q w=>by
 obtain⟨Γ,μ,env,S,d,S',hK,R,e,q⟩:=w
 obtain⟨⟨x,S1⟩,e1,e⟩:=bind_some e
 cases e
 refine⟨Γ,μ,env,S,x,S1,hK,R,e1,fun vs μ1 H1 x1 R1 r1=>⟨by rw[r1.length];exact U2b (big (U06 (hf _ _ _ e1) hn)),fun p hp=>?_⟩⟩
 obtain⟨R2,x2⟩:=R1.laid hp r1
 exact q _ _ _ (x1.trans x2) R2 (.ref (by rw[U0n,R1.slen];simp) fun a h=>by
  rw[R1.slen] at h
  simp at h
  rw[←h]
  exact⟨rfl,⟨_,Bk⟩⟩)⟩
end
end VS
end
section
namespace VS
open PySem PySem.Spec L2
section
variable{X:Cx}{a b c:Expr}{fa fb fc:Az}{pos:Pos}{rest:List Expr}
theorem Rh{op}(h:JE X a fa):JE X (.BoolOp op [a] pos) fa:=⟨pJ h.pe⟩
theorem Od(ha:JE X a fa)(hb:JE X (.BoolOp .And (b::rest) pos) fb):JE X (.BoolOp .And (a::b::rest) pos) (Qh fa fb):=⟨PE.imp (pO ha.pe hb.pe) fun σ H Q h=>by
 obtain⟨Γ,μ,env,S,d,S',hK,R,e,q⟩:=h
 obtain⟨⟨x,S1⟩,e1,e⟩:=bind_some e
 refine⟨Γ,μ,env,S,x,S1,hK,R,e1,fun v1 μ1 H1 x1 R1 r1=>?_⟩
 dsimp only at e
 split at e
 .cases r1
  exact⟨true,rfl,by rw[if_pos rfl];exact⟨Γ,μ1,env,S1,d,S',hK,R1,e,fun v μ' H' x' R' r'=>q v μ' H' (x1.trans x') R' r'⟩⟩
 .cases r1
  cases e
  exact⟨false,rfl,by rw[if_neg U1a];exact q _ μ1 H1 x1 R1 (.bl false)⟩
 .cases e⟩
theorem qU(ha:JE X a fa):JE X (.UnaryOp .Not a pos) (cY fa):=⟨PE.imp (pK ha.pe) fun σ H Q h=>by
 obtain⟨Γ,μ,env,S,d,S',hK,R,e,q⟩:=h
 obtain⟨⟨x,S1⟩,e1,e⟩:=bind_some e
 refine⟨Γ,μ,env,S,x,S1,hK,R,e1,fun v1 μ1 H1 x1 R1 r1=>?_⟩
 dsimp only at e
 split at e
 .rename_i c
  cases r1
  cases e
  exact⟨c,rfl,q _ μ1 H1 x1 R1 (.bl _)⟩
 .cases e⟩
theorem K3{e:Expr}(h:JE X e fa)(he:∀whole,isTrue e X.env whole=(do let v ←whole;standAt e.pos;holding [v] (truthy v)):=by intro _;rfl):JT X e (Bo fa):=⟨PT.imp (oY h.pe he) fun σ H Q h=>by
 obtain⟨Γ,μ,env,S,d,S',hK,R,e,q⟩:=h
 obtain⟨⟨x,S1⟩,e1,e⟩:=bind_some e
 refine⟨Γ,μ,env,S,x,S1,hK,R,e1,fun v1 μ1 H1 x1 R1 r1=>?_⟩
 dsimp only at e
 split at e
 .rename_i c
  cases r1
  cases e
  exact⟨_,rfl,q μ1 H1 x1 R1⟩
 .cases e⟩
theorem Xx{K:U0a}{f:Az}{t:TE}(ht:∀σ H Q,wpE K f σ H Q->t σ H Q){σ:St}{H:Hp}{Q:Bool->Hp->Prop}(h:wpT K (Bo f) σ H Q):Yq t σ H Q:=by
 obtain⟨Γ,μ,env,S,d,S',hK,R,e,q⟩:=h
 obtain⟨⟨x,S1⟩,e1,e⟩:=bind_some e
 refine ht σ H _ ⟨Γ,μ,env,S,x,S1,hK,R,e1,fun v1 μ1 H1 x1 R1 r1=>?_⟩
 dsimp only at e
 split at e
 .cases r1
  cases e
  exact⟨_,rfl,q μ1 H1 x1 R1⟩
 .cases e
theorem Dt{op:CmpOp}{r:R2}{g:Store->D->D->Option D}(ho:OpR X (compareOp op) r)(hs:FJ X.K r g)(ha:JE X a fa)(hb:JE X b fb)(hm:behindInMarks op b=false):JT X (.Compare a [op] [b] pos) (Bo (eOp g fa fb)) :=
 ⟨PT.imp (jW ho ha.pe hb.pe hm) fun σ H Q h=>Xx (fun _ _ _=>V3 hs) h⟩
theorem dB{K:U0a}{r r':R2}{g g':Store->D->D->Option D}(hs:FJ K r g)(hs':FJ K r' g'){σ:St}{H:Hp}{Q:VK}(h:wpE K (Ri g g' fa fb fc) σ H Q):Zm r r' (wpE K fa) (wpE K fb) (wpE K fc) σ H Q:=by
 obtain⟨Γ,μ,env,S,d,S',hK,R,e,q⟩:=h
 obtain⟨⟨x,S1⟩,e1,e⟩:=bind_some e
 obtain⟨⟨y,S2⟩,e2,e⟩:=bind_some e
 obtain⟨z,e3,e⟩:=bind_some e
 refine⟨Γ,μ,env,S,x,S1,hK,R,e1,fun v1 μ1 H1 x1 R1 r1=>?_⟩
 refine⟨Γ,μ1,env,S1,y,S2,hK,R1,e2,fun v2 μ2 H2 x2 R2 r2=>?_⟩
 refine hs Γ μ2 σ H2 env S2 v1 v2 x y _ hK R2 (r1.ext x2) r2 e3 _ fun v H3 sm rv=>?_
 obtain⟨R3,x3⟩:=R2.grow sm
 dsimp only at e
 split at e
 .cases rv
  refine⟨true,rfl,?_⟩
  rw[if_pos rfl]
  obtain⟨⟨u,S3⟩,e4,e⟩:=bind_some e
  obtain⟨w,e5,e⟩:=map_some e
  cases e
  refine⟨Γ,μ2,env,S2,u,S3,hK,R3,e4,fun v4 μ4 H4 x4 R4 r4=>?_⟩
  refine hs' Γ μ4 σ H4 env S3 v2 v4 y u _ hK R4 (r2.ext (x3.trans x4)) r4 e5 _ fun v5 H5 sm5 rv5=>?_
  obtain⟨R5,x5⟩:=R4.grow sm5
  exact q v5 μ4 H5 (x1.trans (x2.trans (x3.trans (x4.trans x5)))) R5 rv5
 .cases rv
  cases e
  refine⟨false,rfl,?_⟩
  rw[if_neg U1a]
  exact q _ μ2 H3 (x1.trans (x2.trans x3)) R3 (.bl false)
 .cases e
theorem gF{op op':CmpOp}{r r':R2}{g g':Store->D->D->Option D}(ho:OpR X (compareOp op) r)(hs:FJ X.K r g)(ho':OpR X (compareOp op') r')(hs':FJ X.K r' g')(ha:JE X a fa)(hb:JE X b fb)(hc:JE X c fc)
  (hm:lastMarks [op,op'] [b,c]=false:=by with_unfolding_all rfl):JT X (.Compare a [op,op'] [b,c] pos) (Bo (Ri g g' fa fb fc)):=⟨PT.imp (eU ho ho' ha.pe hb.pe hc.pe hm) fun _ _ _ h=>Xx (fun _ _ _=>dB hs hs') h⟩
variable{ta tb:Ec}
theorem Lp(h:JW X a ta):JT X a ta:=⟨h.pw.pt⟩
theorem kW(ha:JT X a ta):JW X (.BoolOp .And [a] pos) ta:=⟨jT ha.pt⟩
theorem LC(ha:JT X a ta):JW X (.BoolOp .Or [a] pos) ta:=⟨oR ha.pt⟩
theorem qQ(ha:JT X a ta)(hb:JW X (.BoolOp .And (b::rest) pos) tb):JW X (.BoolOp .And (a::b::rest) pos) (Sh ta tb):=⟨PW.imp (oU ha.pt hb.pw) fun σ H Q h=>by
 obtain⟨Γ,μ,env,S,d,S',hK,R,e,q⟩:=h
 obtain⟨⟨x,S1⟩,e1,e⟩:=bind_some e
 refine⟨Γ,μ,env,S,x,S1,hK,R,e1,fun μ1 H1 x1 R1=>?_⟩
 dsimp only at e
 by_cases hx:x=true
 .rw[if_pos hx] at e ⊢
  exact⟨Γ,μ1,env,S1,d,S',hK,R1,e,fun μ' H' x' R'=>q μ' H' (x1.trans x') R'⟩
 .rw[if_neg hx] at e ⊢
  cases e
  exact q μ1 H1 x1 R1⟩
theorem KY(ha:JT X a ta)(hb:JW X (.BoolOp .Or (b::rest) pos) tb):JW X (.BoolOp .Or (a::b::rest) pos) (tOr ta tb):=⟨PW.imp (sW ha.pt hb.pw) fun σ H Q h=>by
 obtain⟨Γ,μ,env,S,d,S',hK,R,e,q⟩:=h
 obtain⟨⟨x,S1⟩,e1,e⟩:=bind_some e
 refine⟨Γ,μ,env,S,x,S1,hK,R,e1,fun μ1 H1 x1 R1=>?_⟩
 dsimp only at e
 by_cases hx:x=true
 .rw[if_pos hx] at e ⊢
  cases e
  exact q μ1 H1 x1 R1
 .rw[if_neg hx] at e ⊢
  exact⟨Γ,μ1,env,S1,d,S',hK,R1,e,fun μ' H' x' R'=>q μ' H' (x1.trans x') R'⟩⟩
theorem K4(ha:JT X a ta):JT X (.UnaryOp .Not a pos) (JK ta):=⟨PT.imp (oZ ha.pt) fun σ H Q h=>by
 obtain⟨Γ,μ,env,S,d,S',hK,R,e,q⟩:=h
 obtain⟨⟨x,S1⟩,e1,e⟩:=bind_some e
 cases e
 exact⟨Γ,μ,env,S,x,S1,hK,R,e1,fun μ1 H1 x1 R1=>q μ1 H1 x1 R1⟩⟩
theorem JD:JTs X [] Ga:=⟨PTs.imp jV fun σ H Q h=>by
 obtain⟨Γ,μ,env,S,d,S',hK,R,e,q⟩:=h
 cases e
 exact q μ H (Ext.refl _ _) R⟩
theorem YQ(h:JT X c ta):JTs X [c] ta:=⟨jU h.pt⟩
variable{lo hi:Option Expr}{ol oh:Qk}{p2:Pos}
theorem Ms:JO X none GX:=⟨PO.imp jg fun σ H Q h=>by
 obtain⟨Γ,μ,env,S,d,S',hK,R,e,q⟩:=h
 cases e
 exact q μ H (Ext.refl _ _) R⟩
theorem Mr(h:JE X a fa):JO X (some a) (GR fa):=⟨PO.imp (je h.pe) fun σ H Q h=>by
 obtain⟨Γ,μ,env,S,d,S',hK,R,e,q⟩:=h
 obtain⟨⟨x,S1⟩,e1,e⟩:=bind_some e
 refine⟨Γ,μ,env,S,x,S1,hK,R,e1,fun v1 μ1 H1 x1 R1 r1=>?_⟩
 dsimp only at e
 split at e
 .cases r1
  cases e
  exact⟨_,rfl,q μ1 H1 x1 R1⟩
 .cases e⟩
theorem La{r:V->Option Int->Option Int->Hp->VK->Prop}{g:Store->D->Option Int->Option Int->Option D}(hr:SlR X r)(hs:iz X.K r g)(ha:JE X a fa)(hl:JO X lo ol)(hh:JO X hi oh) :
  JE X (.Subscript a (.Slice lo hi none p2) pos) (eSl g fa ol oh):=⟨PE.imp (fB hr ha.pe hl.po hh.po) fun σ H Q h=>by
 obtain⟨Γ,μ,env,S,d,S',hK,R,e,q⟩:=h
 obtain⟨⟨x,S1⟩,e1,e⟩:=bind_some e
 obtain⟨⟨l,S2⟩,e2,e⟩:=bind_some e
 obtain⟨⟨u,S3⟩,e3,e⟩:=bind_some e
 obtain⟨z,e4,e⟩:=map_some e
 cases e
 refine⟨Γ,μ,env,S,x,S1,hK,R,e1,fun v1 μ1 H1 x1 R1 r1=>?_⟩
 refine⟨Γ,μ1,env,S1,l,S2,hK,R1,e2,fun μ2 H2 x2 R2=>?_⟩
 refine⟨Γ,μ2,env,S2,u,S3,hK,R2,e3,fun μ3 H3 x3 R3=>?_⟩
 refine hs Γ μ3 σ H3 env S3 v1 x _ l u hK R3 (r1.ext (x2.trans x3)) e4 Q fun v H' sm rv=>?_
 obtain⟨R4,x4⟩:=R3.grow sm
 exact q v μ3 H' (x1.trans (x2.trans (x3.trans x4))) R4 rv⟩
theorem iI{K:U0a}{r:List V->Hp->VK->Prop}{g:Store->List D->Option D}{f:Bh}(hs:Jh K r g){σ:St}{H:Hp}{Q:VK}(h:wpE K (eCB g f) σ H Q):tCB r (wpA K f) σ H Q:=by
 obtain⟨Γ,μ,env,S,d,S',hK,R,e,q⟩:=h
 obtain⟨⟨x,S1⟩,e1,e⟩:=bind_some e
 obtain⟨z,e4,e⟩:=map_some e
 cases e
 refine⟨Γ,μ,env,S,x,S1,hK,R,e1,fun v1 μ1 H1 x1 R1 r1=>?_⟩
 refine hs Γ μ1 σ H1 env S1 v1 x _ hK R1 r1 e4 Q fun v H' sm rv=>?_
 obtain⟨R4,x4⟩:=R1.grow sm
 exact q v μ1 H' (x1.trans x4) R4 rv
variable{x:Str}{p:Pos}{e:Expr}{es:List Expr}{id T:String}{f:Bh}
theorem Cd{r:List V->Hp->VK->Prop}{g:Store->List D->Option D}(hc:DK X (.builtin id) r)(hsm:Jh X.K r g)(hg:Gl X x)(hm:X.mg x=none)(hv:bootBuiltins x=some (.builtin id))(ha:JA X (e::es) f)(hn:x≠"__name__":=by decide)(hdb:(x==("__debug__":Str))=false:=by decide)
  (he:starEach (e::es) X.env=(false,eval e X.env)::starEach es X.env:=by rfl) (hpl:(backTo pos (starEach es X.env)).any (·.1)=false:=by rfl):JE X (.Call (.Name x p) (e::es) [] pos) (eCB g f) :=
 ⟨PE.imp (W2 hc hg hm hv ha.pa hn hdb he hpl) fun _ _ _ h=>iI hsm h⟩
theorem Ot{r:List V->Hp->VK->Prop}{g:Store->List D->Option D}(hc:DK X (.type T) r)(hsm:Jh X.K r g)(hg:Gl X x)(hm:X.mg x=none)(hv:bootBuiltins x=some (.type T))(ha:JA X (e::es) f)(hn:x≠"__name__":=by decide)(hdb:(x==("__debug__":Str))=false:=by decide)
  (he:starEach (e::es) X.env=(false,eval e X.env)::starEach es X.env:=by rfl) (hpl:(backTo pos (starEach es X.env)).any (·.1)=false:=by rfl):JE X (.Call (.Name x p) (e::es) [] pos) (eCB g f) :=
 ⟨PE.imp (K5 hc hg hm hv ha.pa hn hdb he hpl) fun _ _ _ h=>iI hsm h⟩
end
section
variable{X:Cx}{st:Stmt}{sts:List Stmt}{f g:BX}{fa:Az}{a:Expr}{pos:Pos}{K:U0a}
theorem rW{E:Ends}{σ:St}{H:Hp}{fl:Fl}(h:wpS K (fun env S=>some (fl,env,S)) E σ H):∃Γ μ,FlQ Γ μ E σ H fl:=by
 obtain⟨Γ,μ,env,S,fl',env',S',hK,R,e,q⟩:=h
 cases e
 exact⟨Γ,μ,q μ σ H (Ext.refl _ _) R⟩
theorem Es:JSs X [] FW:=⟨PSs.imp jY fun E σ H h=>let ⟨_,_,q⟩:=rW (fl:=.nx) h;q⟩
theorem W7:JS X st RZ:=⟨PS.imp eX fun E σ H h=>by obtain⟨_,_,_,_,_,_,_,_,_,e,_⟩:=h;cases e⟩
theorem Av(h1:JS X st f)(h2:JSs X sts g):JSs X (st::sts) (Bq f g):=⟨PSs.imp (eV h1.ps h2.ps) fun E σ H h=>by
 obtain⟨Γ,μ,env,S,fl,env',S',hK,R,e,q⟩:=h
 obtain⟨⟨fl1,env1,S1⟩,e1,e⟩:=bind_some e
 refine⟨Γ,μ,env,S,fl1,env1,S1,hK,R,e1,fun μ1 σ1 H1 x1 R1=>?_⟩
 dsimp only at e
 cases fl1 with
 |nx=>exact⟨Γ,μ1,env1,S1,fl,env',S',hK,R1,e,fun μ' σ' H' x' R'=>q μ' σ' H' (x1.trans x') R'⟩
 |brk=>cases e;exact q μ1 σ1 H1 x1 R1
 |cnt=>cases e;exact q μ1 σ1 H1 x1 R1
 |ret d=>cases e;exact q μ1 σ1 H1 x1 R1⟩
theorem Ax(h1:JS X st f):JSs X [st] f:=⟨jX h1.ps⟩
theorem JX(he:JE X a fa)(hs:swapsWith a none pos.line X.env=pure false:=by rfl):JS X (.Expr a pos) (Ig fa):=⟨PS.imp (jc he.pe hs) fun E σ H h=>by
 obtain⟨Γ,μ,env,S,fl,env',S',hK,R,e,q⟩:=h
 obtain⟨⟨x,S1⟩,e1,e⟩:=bind_some e
 cases e
 exact⟨Γ,μ,env,S,x,S1,hK,R,e1,fun v1 μ1 H1 x1 R1 r1=>q μ1 σ H1 x1 R1⟩⟩
theorem Ca(he:JE X a fa):JS X (.Return (some a) pos) (Cy fa):=⟨PS.imp (p7 he.pe) fun E σ H h=>by
 obtain⟨Γ,μ,env,S,fl,env',S',hK,R,e,q⟩:=h
 obtain⟨⟨x,S1⟩,e1,e⟩:=bind_some e
 cases e
 exact⟨Γ,μ,env,S,x,S1,hK,R,e1,fun v1 μ1 H1 x1 R1 r1=>q μ1 σ H1 x1 R1 v1 r1⟩⟩
theorem G8{c:Expr}{A B:List Stmt}{tc:Ec}(hc:JT X c tc)(ha:JSs X A f)(hb:JSs X B g):JS X (.If c A B pos) (sIf tc f g):=⟨PS.imp (sX hc.pt ha.ps hb.ps) fun E σ H h=>by
 obtain⟨Γ,μ,env,S,fl,env',S',hK,R,e,q⟩:=h
 obtain⟨⟨x,S1⟩,e1,e⟩:=bind_some e
 refine⟨Γ,μ,env,S,x,S1,hK,R,e1,fun μ1 H1 x1 R1=>?_⟩
 dsimp only at e
 by_cases hx:x=true
 .rw[if_pos hx] at e ⊢
  exact⟨Γ,μ1,env,S1,fl,env',S',hK,R1,e,fun μ' σ' H' x' R'=>q μ' σ' H' (x1.trans x') R'⟩
 .rw[if_neg hx] at e ⊢
  exact⟨Γ,μ1,env,S1,fl,env',S',hK,R1,e,fun μ' σ' H' x' R'=>q μ' σ' H' (x1.trans x') R'⟩⟩
theorem DQ{i:Nat}{x:Str}{pos':Pos}(hN:X.N.Nodup)(he:JE X a fa)(hi:X.N[i]?=some x:=by rfl)(hx:Loc X.env.scope x:=by first|exact Or.inl rfl|exact Or.inr rfl)(hs:swapsWith a (some (.Name x pos')) pos.line X.env=pure false:=by rfl)
  (hf:X.fn x=true∨X.env.scope.names.lookup x=some .local:=by first|exact .inl rfl|exact .inr rfl|assumption):JS X (.Assign [.Name x pos'] a pos) (Bx i fa):=⟨PS.imp (ou hN hi hx he.pe hs hf) fun E σ H h=>by
 obtain⟨Γ,μ,env,S,fl,env',S',hK,R,e,q⟩:=h
 obtain⟨⟨y,S1⟩,e1,e⟩:=bind_some e
 cases e
 exact⟨Γ,μ,env,S,y,S1,hK,R,e1,fun v1 μ1 H1 x1 R1 r1=>q μ1 _ H1 x1 (R1.cQ i r1)⟩⟩
theorem Ci{i:Nat}{x:Str}(hN:X.N.Nodup)(hi:X.N[i]?=some x:=by rfl)(hx:Loc X.env.scope x:=by first|exact Or.inl rfl|exact Or.inr rfl)
  (hf:X.fn x=true∨X.env.scope.names.lookup x=some .local:=by first|exact .inl rfl|exact .inr rfl|assumption):JG X (.Name x pos) (.nm i):=⟨by rw[Pat.raw];exact ji hN hi hx hf⟩
theorem Jl:JGs X [] []:=⟨by rw[J3];exact jh⟩
theorem Ej{e:Expr}{es:List Expr}{t:Pat}{u:List Pat}(h1:JG X e t)(h2:JGs X es u)
  (hs:(assignEach (e::es) X.env).map (·.2)=assign e X.env::(assignEach es X.env).map (·.2):=by rfl):JGs X (e::es) (t::u):=⟨by rw[J3];exact eZ h1.pg h2.pg hs⟩
theorem LK{es:List Expr}{k:Nat}{gs:List Pat}(hc:X.calm=true)(h:JGs X es gs)(hn:(assignEach es X.env).length=gs.length:=by rfl)(hst:(assignEach es X.env).findIdx? (·.1)=none:=by rfl):JG X (.Tuple es k pos) (.tp gs) :=
 ⟨by rw[Pat.raw];exact pD hc h.pg hn hst⟩
theorem qR{tg:Expr}{gg:Pat}(he:JE X a fa)(hg:JG X tg gg)(hs:swapsWithSole [tg] a pos.line X.env=pure false:=by rfl)(hw:swappedStores [tg] a X.env=pure none:=by rfl)
  (h1:(assignEach [tg] X.env).map (·.2)=[assign tg X.env]:=by rfl):JS X (.Assign [tg] a pos) (Ye fa gg.sem):=⟨PS.imp (Zr he.pe hg.pg hs hw h1) fun E σ H h=>by
 obtain⟨Γ,μ,env,S,fl,env',S',hK,R,e,q⟩:=h
 obtain⟨⟨y,S1⟩,e1,e⟩:=bind_some e
 obtain⟨env1,e2,e⟩:=bind_some e
 cases e
 exact⟨Γ,μ,env,S,y,S1,hK,R,e1,fun v1 μ1 H1 x1 R1 r1=>gg.run X.K R1 r1 e2 fun σ' R'=>q μ1 σ' H1 x1 R'⟩⟩
theorem Ik{tg iter:Expr}{body:List Stmt}{it:Ji}{gg:Pat}(hc:X.calm=true)(hi:JI X tg iter it)(hg:JG X tg gg)(hb:JSs X body f)(hp:PassesOwn (model X.prog X.w) X.A X.env X.xe)
  (hs:∀x,foldedSetIterable iter X.env x=pure x:=by intro _;rfl):JS X (.For tg iter body [] pos) (K7 it gg.sem f):=⟨PS.imp (pA hp hc hi.pi hg.pg hb.ps hs) fun E σ H h=>by
 obtain⟨Γ,μ,env,S,fl,env',S',hK,R,e,q⟩:=h
 obtain⟨⟨⟨ds,w⟩,S1⟩,e1,e⟩:=bind_some e
 refine⟨Γ,μ,env,S,ds,w,S1,hK,R,e1,fun J μ1 H1 x1 R1 ok=>?_⟩
 refine⟨fun i m σ2 H2=>∃μ2 env2 S2,m=ds.length-i/\i<=ds.length/\Ext μ1 H1 μ2 H2/\Rep Γ μ2 σ2 H2 env2 S2/\loop w gg.sem f (ds.drop i) env2 S2=some (fl,env',S'),⟨ds.length,μ1,env,S1,rfl,U2y _,Ext.refl _ _,R1,by rw[U7b];exact e⟩,?_⟩
 rintro i m σ2 H2 ⟨μ2,env2,S2,rfl,hi,x2,R2,el⟩
 by_cases hlt:i<ds.length
 .rw[U21 hlt] at el
  unfold loop at el
  by_cases hcm:calm w S2
  .rw[if_pos hcm] at el
   obtain⟨env3,e3,el⟩:=bind_some el
   obtain⟨⟨fl4,env4,S4⟩,e4,el⟩:=bind_some el
   obtain⟨go,yl⟩:=ok.step i ds[i] μ2 H2 σ2 env2 S2 (U0q hlt) x2 R2 hcm
   refine .inr ⟨go,fun σ5 H5=>∃μ5 env5 S5,Ext μ1 H1 μ5 H5/\Rep Γ μ5 σ5 H5 env5 S5/\loop w gg.sem f (ds.drop (i+1)) env5 S5=some (fl,env',S'),fun σ5 H5 ⟨μ5,env5,S5,x5,R5,e5⟩=>⟨ds.length-(i+1),by omega,μ5,env5,S5,rfl,hlt,x5,R5,e5⟩,fun x H3 y=>?_⟩
   obtain⟨sm,rx⟩:=yl x H3 y
   obtain⟨R3,x3⟩:=R2.grow sm
   refine gg.run X.K R3 rx e3 fun σ3 R3'=>?_
   refine⟨Γ,μ2,env3,S2,fl4,env4,S4,hK,R3',e4,fun μ4 σ4 H4 x4 R4=>?_⟩
   have x14:=x2.trans (x3.trans x4)
   dsimp only at el
   cases fl4 with
   |nx=>exact⟨μ4,env4,S4,x14,R4,el⟩
   |cnt=>exact⟨μ4,env4,S4,x14,R4,el⟩
   |brk=>cases el;exact q μ4 σ4 H4 (x1.trans x14) R4
   |ret d=>cases el;exact q μ4 σ4 H4 (x1.trans x14) R4
  .rw[if_neg hcm] at el;cases el
 .have hi':i=ds.length:=by omega
  subst hi'
  rw[List.drop_length] at el
  unfold loop at el
  by_cases hcm:calm w S2
  .rw[if_pos hcm] at el
   cases el
   exact .inl ⟨ok.stop μ2 H2 σ2 _ _ x2 R2 hcm,q μ2 σ2 H2 (x1.trans x2) R2⟩
  .rw[if_neg hcm] at el;cases el⟩
end
end VS
end
section
namespace VS
open PySem PySem.Spec L2
theorem Rep.cap{Γ:Fr}{μ:Mu}{σ:St}{H:Hp}{env:Env}{S:Store}(R:Rep Γ μ σ H env S)(k:Nat)(caps:List Nat):Rep Γ μ (Ih k caps σ) H (JM k caps env) S:=by
 refine⟨fun i d h=>?_,?_,R.sto,R.liv,R.inj,R.slen,R.ent,R.new⟩
 .unfold JM at h
  by_cases hi:i<k
  .rw[U1b (by simpa using hi),U4f,if_pos hi] at h
   cases h
  .rw[U1v (by simpa using hi),U1y,U05] at h
   cases e:caps[i-k]? with
   |none=>rw[e] at h;cases h
   |some a =>
    rw[e] at h
    have h':(env[a]?).join=some d:=U00 h
    have h2:env[a]?=some (some d):=by
     cases q:env[a]? with
     |none=>rw[q] at h';cases h'
     |some o=>rw[q] at h';exact congrArg some h'
    obtain⟨v,h3,h4⟩:=R.vals a d h2
    refine⟨v,?_,h4⟩
    unfold Ih
    rw[U1v (by simpa using hi),U1y,U05,e]
    show some (σ[a]?).join=some (some v)
    rw[h3];rfl
 .unfold Ih JM
  rw[U0n,U0n,U0i,U0i,U1y,U1y]
section
variable{X:Cx}
theorem Xy{K:U0a}{k:Nat}{caps:List Nat}{it:Ji}{p:Pat}{t:Ec}{f:Az}{σ:St}{H:Hp}{Q:VK} (h:∃Γ μ env S ys S',Γ.K=K/\Rep Γ μ σ H env S/\Ef k caps it p.sem t f env S=some (ys,S') /\
  ∀xs μ' H',Ext μ H μ' H'->Rep Γ μ' σ H' env S'->VRs Γ μ' H' xs ys->∀q,H' q=none->Q (.ref q) (upd H' q (.lst xs))):Yr k caps (wpI K it) (p.raw K) (wpT K t) (wpE K f) σ H Q:=by
 obtain⟨Γ,μ,env,S,ys,S',hK,R,e,q⟩:=h
 obtain⟨⟨⟨ds,w⟩,S1⟩,e1,e⟩:=bind_some e
 refine⟨Γ,μ,env,S,ds,w,S1,hK,R,e1,fun J μ1 H1 x1 R1 ok=>?_⟩
 refine⟨fun i m zs H2=>∃μ2 S2 dzs,m=ds.length-i/\i<=ds.length/\Ext μ1 H1 μ2 H2/\Rep Γ μ2 σ H2 env S2/\VRs Γ μ2 H2 zs dzs/\FP w (JM k caps env) p.sem t f (ds.drop i) dzs S2=some (ys,S'),
  ⟨ds.length,μ1,S1,[],rfl,U2y _,Ext.refl _ _,R1,.nil,by rw[U7b];exact e⟩,?_⟩
 rintro i m zs H2 ⟨μ2,S2,dzs,rfl,hi,x2,R2,rz,el⟩
 by_cases hlt:i<ds.length
 .rw[U21 hlt] at el
  unfold FP at el
  by_cases hcm:calm w S2/\dzs.length<=1000000
  .rw[if_pos hcm] at el
   obtain⟨env3,e3,el⟩:=bind_some el
   obtain⟨⟨b,S4⟩,e4,el⟩:=bind_some el
   have R2c:=R2.cap k caps
   obtain⟨go,yl⟩:=ok.step i ds[i] μ2 H2 _ _ S2 (U0q hlt) x2 R2c hcm.1
   refine .inr ⟨go,by rw[rz.length];exact big hcm.2,fun x H3 y=>?_⟩
   obtain⟨sm,rx⟩:=yl x H3 y
   obtain⟨R3,x3⟩:=R2c.grow sm
   obtain⟨R3o,_⟩:=R2.grow sm
   refine p.run K R3 rx e3 fun σ3 R3'=>?_
   refine⟨Γ,μ2,env3,S2,b,S4,hK,R3',e4,fun μ4 H4 x4 R4=>?_⟩
   dsimp only at el
   by_cases hb:b=true
   .rw[if_pos hb] at el ⊢
    obtain⟨⟨d5,S5⟩,e5,el⟩:=bind_some el
    refine⟨Γ,μ4,env3,S4,d5,S5,hK,R4,e5,fun v μ5 H5 x5 R5 r5=>?_⟩
    exact⟨ds.length-(i+1),by omega,μ5,S5,dzs++[d5],rfl,hlt,x2.trans (x3.trans (x4.trans x5)),R3o.back (x4.trans x5) R5,((rz.ext (x3.trans (x4.trans x5)))).append (.cons r5 .nil),el⟩
   .rw[if_neg hb] at el ⊢
    exact⟨ds.length-(i+1),by omega,μ4,S4,dzs,rfl,hlt,x2.trans (x3.trans x4),R3o.back x4 R4,rz.ext (x3.trans x4),el⟩
  .rw[if_neg hcm] at el;cases el
 .have hi':i=ds.length:=by omega
  subst hi'
  rw[List.drop_length] at el
  unfold FP at el
  by_cases hcm:calm w S2/\dzs.length<=1000000
  .rw[if_pos hcm] at el
   cases el
   exact .inl ⟨ok.stop μ2 H2 σ env _ x2 R2 hcm.1,fun p hp=>q zs μ2 H2 (x1.trans x2) R2 rz p hp⟩
  .rw[if_neg hcm] at el;cases el
structure JC(X:Cx)(N2:List Str)(scope:Scope)(tg:Expr)(ifs:List Expr)(elt:Expr)(p:Pat)(t:Ec)(f:Az):Prop where
 all:∀(cl:List (Str×Addr))(C:Addr)(s:Shared)(H:Hp)(ex:List Addr),JG (Dc X N2 scope cl C s H ex) tg p/\JTs (Dc X N2 scope cl C s H ex) ifs t/\JE (Dc X N2 scope cl C s H ex) elt f
theorem Gn{elt tg iter:Expr}{ifs:List Expr}{scope:Scope}{pos:Pos}{N2:List Str}{k:Nat}{caps:List Nat}{it:Ji}{p:Pat}{t:Ec}{f:Az}
  (hc:X.calm=true) (hS:FZ X.env.scope X.N N2 k caps scope) (hlow:p.low k=true) (hi:JI X tg iter it) (hb:JC X N2 scope tg ifs elt p t f)
  (hs:∀x,foldedSetIterable iter X.env x=pure x:=by intro _;rfl):JE X (.ListComp elt [⟨tg,iter,ifs,0⟩] scope pos) (Bp (Ef k caps it p.sem t f)) :=
 ⟨PE.imp (jj hc hS (p.Yw X.K hlow) hi.pi (fun cl C s H ex=>let ⟨a,b,c⟩:=hb.all cl C s H ex;⟨a.pg,b.pt,c.pe⟩) hs) fun σ H Q h=>by
  obtain⟨Γ,μ,env,S,d,S',hK,R,e,q⟩:=h
  obtain⟨⟨ys,S1⟩,e1,e⟩:=bind_some e
  cases e
  refine Xy ⟨Γ,μ,env,S,ys,S1,hK,R,e1,fun xs μ1 H1 x1 R1 r1 z hz=>?_⟩
  obtain⟨R2,x2⟩:=R1.grow (Cw hz (.lst xs))
  exact q _ μ1 _ (x1.trans x2) R2 (.lst (R1.ok hz true) (R1.dead hz) Bk (r1.ext x2))⟩
theorem Xj{elt tg iter:Expr}{ifs:List Expr}{scope:Scope}{pos py spos:Pos}{N2:List Str}{k i:Nat}{y:Str}{caps:List Nat}{it:Ji}{p:Pat}{t:Ec}{f:Az}
  (hc:X.calm=true) (hN:X.N.Nodup) (hS:FZ X.env.scope X.N N2 k caps scope) (hlow:p.low k=true) (hi:JI X tg iter it) (hb:JC X N2 scope tg ifs elt p t f) (hi':X.N[i]?=some y:=by rfl)
  (hx:X.env.scope.names.lookup y=some .local:=by rfl) (hsw:swapsWith (.ListComp elt [⟨tg,iter,ifs,0⟩] scope pos) (some (.Name y py)) spos.line X.env=pure true:=by rfl)
  (hs:∀x,foldedSetIterable iter X.env x=pure x:=by intro _;rfl):JS X (.Assign [.Name y py] (.ListComp elt [⟨tg,iter,ifs,0⟩] scope pos) spos) (Bx i (Bp (Ef k caps it p.sem t f))) :=
 ⟨PS.imp (jZ hc hN hi' hS (p.Yw X.K hlow) hi.pi (fun cl C s H ex=>let ⟨a,b,c⟩:=hb.all cl C s H ex;⟨a.pg,b.pt,c.pe⟩) hx hsw hs) fun E σ H h=>by
  obtain⟨Γ,μ,env,S,fl,env',S',hK,R,e,q⟩:=h
  obtain⟨⟨d,S1⟩,e1,e⟩:=bind_some e
  cases e
  obtain⟨⟨ys,S2⟩,e2,e1⟩:=bind_some e1
  cases e1
  refine Xy ⟨Γ,μ,env,S,ys,_,hK,R,e2,fun xs μ1 H1 x1 R1 r1 z hz=>?_⟩
  obtain⟨R2,x2⟩:=R1.grow (Cw hz (.lst xs))
  exact q μ1 _ _ (x1.trans x2) (R2.cQ i (.lst (R1.ok hz true) (R1.dead hz) Bk (r1.ext x2)))⟩
end
def listOf(S:Store):D->Option (List D)
 |.lst _ ds=>some ds
 |.ref i=>(S[i]?).join
 |_=>none
def Cg(S:Store):D->Option (List D)
 |.tup ds=>some ds
 |.scr ns=>some (ns.map .int)
 |d=>listOf S d
def idOf(ds:List D):D->List (Nat×List D)
 |.ref i=>[(i,ds)]
 |_=>[]
section
variable{Γ:Fr}{μ:Mu}{σ:St}{H:Hp}{env:Env}{S:Store}{v:V}{d:D}{ds:List D}
theorem join_some{α:Type}{a:Option (Option α)}{b:α}(h:a.join=some b):a=some (some b):=by
 cases a with
 |none=>cases h
 |some o=>exact congrArg some h
theorem VR.list(R:Rep Γ μ σ H env S)(r:VR Γ μ H v d)(h:listOf S d=some ds):∃a xs,v=.ref a/\H a=some (.lst xs)/\VRs Γ μ H xs ds:=by
 cases r with
 |lst o n hb rs=>cases h;exact⟨_,_,rfl,hb,rs⟩
 |@ref i v hi f =>
  obtain⟨a,h1,hc⟩:=R.sto i ds (join_some h)
  obtain⟨f1,f2⟩:=f a h1
  obtain⟨xs,h2,h3⟩:=hc.list f2
  exact⟨a,xs,f1,h2,h3⟩
 |_=>cases h
theorem VR.seq(hK:Γ.K=K)(R:Rep Γ μ σ H env S)(r:VR Γ μ H v d)(h:Cg S d=some ds):∃a xs,v=.ref a/\(SqL K H a xs∨SqT K H a xs)/\VRs Γ μ H xs ds:=by
 subst hK
 cases d with
 |tup es=>cases r with|tup hb rs=>cases h;exact⟨_,_,rfl,.inr (SqT.of hb),rs⟩
 |scr ns =>
  cases h
  cases r with
  |scrK hk=>exact⟨_,_,rfl,.inl (hk H),VRs.ints ns⟩
  |scrR n hb=>exact⟨_,_,rfl,.inl (.inl (.inr ⟨_,hb⟩)),VRs.ints ns⟩
 |lst m es=>obtain⟨a,xs,e1,e2,e3⟩:=VR.list R r h;exact⟨a,xs,e1,.inl (SqL.of e2),e3⟩
 |ref i=>obtain⟨a,xs,e1,e2,e3⟩:=VR.list R r h;exact⟨a,xs,e1,.inl (SqL.of e2),e3⟩
 |_=>cases h
end
def Ez(a:Az):Ji:=fun env S=>(a env S).bind fun p=>(Cg p.2 p.1).map fun ds=>((ds,idOf ds p.1),p.2)
section
variable{X:Cx}{tg:Expr}
def rZ(K:U0a)(tl:TE):TI:=fun σ H R=>tl σ H fun x H1=>∃a,x=.ref a/\(((∃xs,SqL K H1 a xs)/\R (Itl K a) H1)∨((∃xs,SqT K H1 a xs)/\R (Itt K a) H1))
theorem pC{l:Expr}{tl:TE}(hl:PE X l tl):PI X tg l (rZ X.K tl):=by
 intro pins s σ H R I h
 refine thn (hl pins s σ H _ I h) fun v s1 ⟨x,H1,I1,r1,q1⟩=>?_
 obtain⟨a,e,⟨⟨xs,hq⟩,q⟩|⟨⟨xs,hq⟩,q⟩⟩:=q1
 .subst e
  cases r1
  obtain⟨its,rv,p,hz⟩:=I1.list hq
  refine U5t p.isList ?_
  refine⟨s1.heap.objs.size,[s1.heap.objs.size],_,_,H1,rfl,I1.kept (t':=s1.toks) fun b o e=>U0b _ e,aL a _,⟨_,U0s _ rfl,rfl,rfl⟩,fun b hb=>?_,q⟩
  have e:b=s1.heap.objs.size:=by simpa using hb
  subst e
  exact I1.Yj (U0k _) (I1.hok.fresh (U0k _))
 .subst e
  cases r1
  obtain⟨its,rv,p,hz⟩:=I1.tuple hq
  refine U5l (show s1.heap.IsTuple a its.toArray from p) ?_
  refine⟨s1.heap.objs.size,[s1.heap.objs.size],_,_,H1,rfl,I1.kept (t':=s1.toks) fun b o e=>U0b _ e,Z2 a _,⟨_,U0s _ rfl,rfl,rfl⟩,fun b hb=>?_,q⟩
  have e:b=s1.heap.objs.size:=by simpa using hb
  subst e
  exact I1.Yj (U0k _) (I1.hok.fresh (U0k _))
theorem aQ{d:D}{ds:List D}{S S':Store}(h:Cg S d=some ds)(c:calm (idOf ds d) S'):Cg S' d=some ds:=by
 cases d with
 |ref i =>
  have c':S'[i]?=some (some ds):=c (i,ds) (U0w.mpr rfl)
  show(S'[i]?).join=some ds
  rw[c'];rfl
 |_=>exact h
theorem VR.Yd{K:U0a}{Γ:Fr}{μ:Mu}{σ:St}{H:Hp}{env:Env}{S:Store}{v:V}{d:D}{ds:List D}(hK:Γ.K=K)(R:Rep Γ μ σ H env S)(r:VR Γ μ H v d)(h:Cg S d=some ds):(∃es,d=.tup es)∨∃a xs,v=.ref a/\SqL K H a xs/\VRs Γ μ H xs ds:=by
 subst hK
 cases d with
 |tup es=>exact .inl ⟨es,rfl⟩
 |scr ns =>
  cases h
  cases r with
  |scrK hk=>exact .inr ⟨_,_,rfl,hk H,VRs.ints ns⟩
  |scrR n hb=>exact .inr ⟨_,_,rfl,.inl (.inr ⟨_,hb⟩),VRs.ints ns⟩
 |lst m es=>obtain⟨a,xs,e1,e2,e3⟩:=VR.list R r h;exact .inr ⟨a,xs,e1,SqL.of e2,e3⟩
 |ref i=>obtain⟨a,xs,e1,e2,e3⟩:=VR.list R r h;exact .inr ⟨a,xs,e1,SqL.of e2,e3⟩
 |_=>cases h
theorem lC{Γ:Fr}{μ:Mu}{H:Hp}{a:Addr}{ds:List D}{K:U0a}{w:List (Nat×List D)}(hr:∀μ' H' σ' env' S',Ext μ H μ' H'->Rep Γ μ' σ' H' env' S'->calm w S'->∃xs,SqL K H' a xs/\VRs Γ μ' H' xs ds):VJ Γ μ H (Itl K a) ds w:=by
 refine⟨fun i d μ' H' σ' env' S' hi x R c=>?_,fun μ' H' σ' env' S' x R c=>?_⟩
 .obtain⟨xs,h1,h2⟩:=hr μ' H' σ' env' S' x R c
  obtain⟨y,e1,e2⟩:=h2.get hi
  refine⟨⟨xs,y,h1,e1⟩,fun z H'' yl=>?_⟩
  obtain⟨e,f⟩:=yl
  subst e
  have:=f xs h1
  rw[e1] at this;cases this
  exact⟨Same.refl _,e2⟩
 .obtain⟨xs,h1,h2⟩:=hr μ' H' σ' env' S' x R c
  exact⟨xs,h1,by rw[h2.length];exact U0k _⟩
theorem Zw{Γ:Fr}{μ:Mu}{H:Hp}{a:Addr}{ds:List D}{K:U0a}{w:List (Nat×List D)}(hr:∀μ' H' σ' env' S',Ext μ H μ' H'->Rep Γ μ' σ' H' env' S'->calm w S'->∃xs,SqT K H' a xs/\VRs Γ μ' H' xs ds):VJ Γ μ H (Itt K a) ds w:=by
 refine⟨fun i d μ' H' σ' env' S' hi x R c=>?_,fun μ' H' σ' env' S' x R c=>?_⟩
 .obtain⟨xs,h1,h2⟩:=hr μ' H' σ' env' S' x R c
  obtain⟨y,e1,e2⟩:=h2.get hi
  refine⟨⟨xs,y,h1,e1⟩,fun z H'' yl=>?_⟩
  obtain⟨e,f⟩:=yl
  subst e
  have:=f xs h1
  rw[e1] at this;cases this
  exact⟨Same.refl _,e2⟩
 .obtain⟨xs,h1,h2⟩:=hr μ' H' σ' env' S' x R c
  exact⟨xs,h1,by rw[h2.length];exact U0k _⟩
theorem Gg{l:Expr}{f:Az}(hl:JE X l f):JI X tg l (Ez f):=⟨PI.imp (pC hl.pe) fun σ H Q h=>by
 obtain⟨Γ,μ,env,S,ds,w,S',hK,R,e,q⟩:=h
 obtain⟨⟨d,S1⟩,e1,e⟩:=bind_some e
 obtain⟨ds',e2,e⟩:=map_some e
 cases e
 refine⟨Γ,μ,env,S,d,S1,hK,R,e1,fun v μ1 H1 x1 R1 r1=>?_⟩
 rcases VR.Yd hK R1 r1 e2 with ⟨es,rfl⟩|⟨a,xs,rfl,hq,rs⟩
 .cases r1 with
  |@tup a xs _ hb rs =>
   refine⟨a,rfl,.inr ⟨⟨xs,SqT.of hb⟩,q _ μ1 H1 x1 R1 (Zw fun μ' H' σ' env' S' x' R' c=>?_)⟩⟩
   have e2':es=ds:=U00 e2
   subst e2'
   exact⟨xs,SqT.of (x'.tups _ _ hb),rs.ext x'⟩
 .by_cases ht:∃es,d=.tup es
  .obtain⟨es,rfl⟩:=ht
   cases r1 with
   |@tup b ys _ hb rs' =>
    refine⟨a,rfl,.inr ⟨⟨ys,SqT.of hb⟩,q _ μ1 H1 x1 R1 (Zw fun μ' H' σ' env' S' x' R' c=>?_)⟩⟩
    have e2':es=ds:=U00 e2
    subst e2'
    exact⟨ys,SqT.of (x'.tups _ _ hb),rs'.ext x'⟩
  .refine⟨a,rfl,.inl ⟨⟨xs,hq⟩,q _ μ1 H1 x1 R1 (lC fun μ' H' σ' env' S' x' R' c=>?_)⟩⟩
   rcases VR.Yd hK R' (r1.ext x') (aQ e2 c) with z|⟨b,ys,e,h1,h2⟩
   .exact absurd z ht
   .cases e
    exact⟨ys,h1,h2⟩⟩
def upD(lo:Int)(n:Nat):List D:=(U0p n).map fun(i:Nat)=>.int (lo+i)
theorem WD{Γ:Fr}{μ:Mu}{H:Hp}(lo:Int)(n:Nat):VJ Γ μ H (Itr lo n) (upD lo n) []:=by
 have len:(upD lo n).length=n:=by unfold upD;rw[U0i,U4y]
 refine⟨fun i d μ' H' σ' env' S' hi x R c=>?_,fun μ' H' σ' env' S' x R c=>?_⟩
 .have hi':i<n:=by rw[←len];exact(U0l.mp hi).1
  refine⟨hi',fun y H'' yl=>?_⟩
  obtain⟨e1,e2⟩:=yl
  subst e1 e2
  unfold upD at hi
  rw[U05,List.getElem?_range hi'] at hi
  cases hi
  exact⟨Same.refl _,.int _⟩
 .show n<=(upD lo n).length
  rw[len];exact U0k _
def r62(j:Int):Prop:=-(2^62)<=j/\j<2^62
instance(j:Int):Decidable (r62 j):=by unfold r62;infer_instance
def Ht(a:Bh):Ji:=fun env S=>(a env S).bind fun p=>match p.1 with|[.int j]=>if r62 j then some ((upD 0 j.toNat,[]),p.2) else none|_=>none
def Hs(a:Bh):Ji:=fun env S=>(a env S).bind fun p=>match p.1 with|[.int i,.int j]=>if r62 i/\r62 j then some ((upD i (j-i).toNat,[]),p.2) else none|_=>none
theorem VRs.one{Γ:Fr}{μ:Mu}{H:Hp}{vs:List V}{d:D}(h:VRs Γ μ H vs [d]):∃v,vs=[v]/\VR Γ μ H v d:=by
 cases h with|cons r t=>cases t;exact⟨_,rfl,r⟩
theorem VRs.two{Γ:Fr}{μ:Mu}{H:Hp}{vs:List V}{d e:D}(h:VRs Γ μ H vs [d,e]):∃v u,vs=[v,u]/\VR Γ μ H v d/\VR Γ μ H u e:=by
 cases h with|cons r t=>cases t with|cons r' t=>cases t;exact⟨_,_,rfl,r,r'⟩
theorem Oq{a:Expr}{f:Bh}{p pos:Pos}(hg:Gl X "range")(hm:X.mg "range"=none)(ha:JA X [a] f)(hs:starEach [a] X.env=[(false,eval a X.env)]:=by rfl):JI X tg (.Call (.Name "range" p) [a] [] pos) (Ht f) :=
 ⟨PI.imp (bC hg hm ha.pa hs) fun σ H Q h=>by
  obtain⟨Γ,μ,env,S,ds,w,S',hK,R,e,q⟩:=h
  obtain⟨⟨d,S1⟩,e1,e⟩:=bind_some e
  refine⟨Γ,μ,env,S,d,S1,hK,R,e1,fun v μ1 H1 x1 R1 r1=>?_⟩
  dsimp only at e
  split at e
  .rename_i j
   by_cases hj:r62 j
   .rw[if_pos hj] at e
    cases e
    obtain⟨v,rfl,r⟩:=r1.one
    cases r
    exact⟨j,rfl,hj.1,hj.2,q _ μ1 H1 x1 R1 (WD 0 _)⟩
   .rw[if_neg hj] at e;cases e
  .cases e⟩
theorem Oo{a b:Expr}{f:Bh}{p pos:Pos}(hg:Gl X "range")(hm:X.mg "range"=none)(ha:JA X [a,b] f)(hs:starEach [a,b] X.env=[(false,eval a X.env),(false,eval b X.env)]:=by rfl)(hs2:starEach [b] X.env=[(false,eval b X.env)]:=by rfl) :
  JI X tg (.Call (.Name "range" p) [a,b] [] pos) (Hs f) :=
 ⟨PI.imp (bB hg hm ha.pa hs hs2) fun σ H Q h=>by
  obtain⟨Γ,μ,env,S,ds,w,S',hK,R,e,q⟩:=h
  obtain⟨⟨d,S1⟩,e1,e⟩:=bind_some e
  refine⟨Γ,μ,env,S,d,S1,hK,R,e1,fun v μ1 H1 x1 R1 r1=>?_⟩
  dsimp only at e
  split at e
  .rename_i i j
   by_cases hj:r62 i/\r62 j
   .rw[if_pos hj] at e
    cases e
    obtain⟨v,u,rfl,r,r'⟩:=r1.two
    cases r
    cases r'
    exact⟨i,j,rfl,⟨hj.1.1,hj.1.2,hj.2.1,hj.2.2⟩,q _ μ1 H1 x1 R1 (WD i _)⟩
   .rw[if_neg hj] at e;cases e
  .cases e⟩
end
end VS
end
section
namespace VS
open PySem PySem.Spec L2
section
variable{X:Cx}{tg:Expr}
def DW:List D->List D->List D
 |x::xs,y::ys=>.tup [x,y]::DW xs ys
 |_,_=>[]
theorem Vo:∀{xs ys:List D} {i:Nat} {d:D},(DW xs ys)[i]?=some d->∃x y,xs[i]?=some x/\ys[i]?=some y/\d=.tup [x,y]
 |[],_,_,_,h=>by simp[DW] at h
 |_::_,[],_,_,h=>by simp[DW] at h
 |x::xs,y::ys,0,d,h=>by simp[DW] at h;exact⟨x,y,rfl,rfl,h.symm⟩
 |x::xs,y::ys,i+1,d,h=>by
  simp[DW] at h
  obtain⟨a,b,h1,h2,h3⟩:=Vo h
  exact⟨a,b,by simpa using h1,by simpa using h2,h3⟩
theorem Vn:∀(xs ys:List D),((DW xs ys).length=xs.length/\xs.length<=ys.length)∨((DW xs ys).length<xs.length/\(DW xs ys).length=ys.length)
 |[],_=>.inl ⟨rfl,U2y _⟩
 |_::_,[]=>.inr ⟨by simp[DW],rfl⟩
 |x::xs,y::ys=>by
  rcases Vn xs ys with ⟨h1,h2⟩|⟨h1,h2⟩
  .left;simp[DW];omega
  .right;simp[DW];omega
def V5(a:Bh):Ji:=fun env S=>(a env S).bind fun p=>match p.1 with
 |[.tup xs,.tup ys]=>some ((DW xs ys,[]),p.2)
 |[x,.tup ys]=>(listOf p.2 x).bind fun xs=>some ((DW xs ys,idOf xs x),p.2)
 |[x,y]=>(listOf p.2 x).bind fun xs=>(listOf p.2 y).bind fun ys=>some ((DW xs ys,idOf xs x++idOf ys y),p.2)
 |_=>none
theorem Nq{d:D}{ds:List D}{S S':Store}(h:listOf S d=some ds)(c:calm (idOf ds d) S'):listOf S' d=some ds:=by
 cases d with
 |ref i =>
  have c':S'[i]?=some (some ds):=c (i,ds) (U0w.mpr rfl)
  show(S'[i]?).join=some ds
  rw[c'];rfl
 |_=>exact h
theorem Vh{Γ:Fr}{μ:Mu}{H:Hp}{L M:Bool}{a b:Addr}{xs ys:List D}{w:List (Nat×List D)}(hr:∀μ' H' σ' env' S',Ext μ H μ' H'->Rep Γ μ' σ' H' env' S'->calm w S'->∃us vs,H' a=some (HB L us)/\VRs Γ μ' H' us xs/\H' b=some (HB M vs)/\VRs Γ μ' H' vs ys) :
  VJ Γ μ H (Itz L M a b) (DW xs ys) w:=by
 refine⟨fun i d μ' H' σ' env' S' hi x R c=>?_,fun μ' H' σ' env' S' x R c=>?_⟩
 .obtain⟨us,vs,h1,h2,h3,h4⟩:=hr μ' H' σ' env' S' x R c
  obtain⟨p,q,e1,e2,e3⟩:=Vo hi
  obtain⟨u,f1,f2⟩:=h2.get e1
  obtain⟨v,g1,g2⟩:=h4.get e2
  refine⟨⟨us,vs,u,v,h1,h3,f1,g1⟩,fun z H'' yl=>?_⟩
  obtain⟨t,u',v',ht,rfl,rfl,k1,k2⟩:=yl
  have k1':=k1 us h1
  have k2':=k2 vs h3
  rw[f1] at k1';cases k1'
  rw[g1] at k2';cases k2'
  subst e3
  have sm:=Cw ht (.tup [u,v])
  obtain⟨_,x2⟩:=R.grow sm
  exact⟨sm,.tup Bk (.cons (f2.ext x2) (.cons (g2.ext x2) .nil))⟩
 .obtain⟨us,vs,h1,h2,h3,h4⟩:=hr μ' H' σ' env' S' x R c
  refine⟨us,vs,h1,h3,?_⟩
  rw[h2.length,h4.length]
  rcases Vn xs ys with z|z
  .exact .inl z.1
  .exact .inr z
theorem PI.or{e:Expr}{t u:TI}(h:PI X tg e t)(k:PI X tg e u):PI X tg e (fun σ H R=>t σ H R∨u σ H R):=fun pins s σ H R I q=>q.elim (fun z=>h pins s σ H R I z) fun z=>k pins s σ H R I z
theorem qT{a b:Expr}{f:Bh}{p pos:Pos}{elts:List Expr}{x1:Nat}{tpos:Pos}(hg:Gl X "zip")(hm:X.mg "zip"=none)(ha:JA X [a,b] f)(hs:starEach [a,b] X.env=[(false,eval a X.env),(false,eval b X.env)]:=by rfl)(hs2:starEach [b] X.env=[(false,eval b X.env)]:=by rfl) :
  JI X (.Tuple elts x1 tpos) (.Call (.Name "zip" p) [a,b] [] pos) (V5 f) :=
 ⟨PI.imp (PI.or (Vd true true (.inl rfl) hg hm ha.pa hs hs2) (PI.or (Vd false false (.inl rfl) hg hm ha.pa hs hs2) (Vd true false (.inr ⟨rfl,rfl⟩) hg hm ha.pa hs hs2))) fun σ H Q h=>by
  obtain⟨Γ,μ,env,S,ds,w,S',hK,R,e,q⟩:=h
  obtain⟨⟨d,S1⟩,e1,e⟩:=bind_some e
  dsimp only at e
  split at e
  .rename_i xs ys
   cases e
   refine .inr (.inl ⟨Γ,μ,env,S,_,_,hK,R,e1,fun v μ1 H1 x1 R1 r1=>?_⟩)
   obtain⟨u,v,rfl,r,r'⟩:=r1.two
   cases r with
   |@tup a us _ ha ra =>
    cases r' with
    |@tup b vs _ hb rb =>
     exact⟨a,b,us,vs,rfl,ha,hb,q _ μ1 H1 x1 R1 (Vh fun μ' H' σ' env' S' x' R' c=>⟨us,vs,x'.tups _ _ ha,ra.ext x',x'.tups _ _ hb,rb.ext x'⟩)⟩
  .rename_i x ys _
   obtain⟨xs,e2,e⟩:=bind_some e
   cases e
   refine .inr (.inr ⟨Γ,μ,env,S,_,_,hK,R,e1,fun v μ1 H1 x1 R1 r1=>?_⟩)
   obtain⟨u,v,rfl,r,r'⟩:=r1.two
   obtain⟨a,us,rfl,ha,ra⟩:=VR.list R1 r e2
   cases r' with
   |@tup b vs _ hb rb =>
    refine⟨a,b,us,vs,rfl,ha,hb,q _ μ1 H1 x1 R1 (Vh fun μ' H' σ' env' S' x' R' c=>?_)⟩
    obtain⟨a',us',e4,ha',ra'⟩:=VR.list R' (r.ext x') (Nq e2 c)
    cases e4
    exact⟨us',vs,ha',ra',x'.tups _ _ hb,rb.ext x'⟩
  .rename_i x y _ _
   obtain⟨xs,e2,e⟩:=bind_some e
   obtain⟨ys,e3,e⟩:=bind_some e
   cases e
   refine .inl ⟨Γ,μ,env,S,_,_,hK,R,e1,fun v μ1 H1 x1 R1 r1=>?_⟩
   obtain⟨u,v,rfl,r,r'⟩:=r1.two
   obtain⟨a,us,rfl,ha,ra⟩:=VR.list R1 r e2
   obtain⟨b,vs,rfl,hb,rb⟩:=VR.list R1 r' e3
   refine⟨a,b,us,vs,rfl,ha,hb,q _ μ1 H1 x1 R1 (Vh fun μ' H' σ' env' S' x' R' c=>?_)⟩
   obtain⟨a',us',e4,ha',ra'⟩:=VR.list R' (r.ext x') (Nq e2 fun p hp=>c p (U27 _ hp))
   obtain⟨b',vs',e5,hb',rb'⟩:=VR.list R' (r'.ext x') (Nq e3 fun p hp=>c p (U01 _ hp))
   cases e4
   cases e5
   exact⟨us',vs',ha',ra',hb',rb'⟩
  .cases e⟩
def Sw(K:U0a)(r:V->List V->Hp->VK->Prop)(g:Store->D->List D->Option (D×Store)):Prop:=∀(Γ:Fr)(μ:Mu)(σ:St)(H:Hp)(env:Env)(S:Store)(x:V)(xs:List V)(dx:D)(ds:List D)(d:D)(S':Store),Γ.K=K->Rep Γ μ σ H env S->VR Γ μ H x dx->VRs Γ μ H xs ds->g S dx ds=some (d,S') ->
 ∀Q:VK,(∀v μ' H',Ext μ H μ' H'->Rep Γ μ' σ H' env S'->VR Γ μ' H' v d->Q v H')->r x xs H Q
def GZ(g:Store->D->List D->Option (D×Store))(o:Az)(a:Bh):Az:=fun env S=>(o env S).bind fun p=>if (listOf p.2 p.1).isSome then (a env p.2).bind fun q=>g q.2 p.1 q.1 else none
theorem jA{K:U0a}{r:V->List V->Hp->VK->Prop}{g:Store->D->List D->Option (D×Store)}{o:Az}{a:Bh}(hs:Sw K r g){σ:St}{H:Hp}{Q:VK}(h:wpE K (GZ g o a) σ H Q):tBM K "list" r (wpE K o) (wpA K a) σ H Q:=by
 obtain⟨Γ,μ,env,S,d,S',hK,R,e,q⟩:=h
 obtain⟨⟨x,S1⟩,e1,e⟩:=bind_some e
 refine⟨Γ,μ,env,S,x,S1,hK,R,e1,fun v1 μ1 H1 x1 R1 r1=>?_⟩
 dsimp only at e
 by_cases hl:(listOf S1 x).isSome=true
 .rw[if_pos hl] at e
  obtain⟨⟨ds,S2⟩,e2,e⟩:=bind_some e
  obtain⟨xs,hx⟩:=U4a.mp hl
  obtain⟨b,us,rfl,hb,rb⟩:=VR.list R1 r1 hx
  refine⟨.inl ⟨rfl,us,SqL.of hb⟩,Γ,μ1,env,S1,ds,S2,hK,R1,e2,fun vs μ2 H2 x2 R2 r2=>?_⟩
  exact hs Γ μ2 σ H2 env S2 _ vs x ds d S' hK R2 (r1.ext x2) r2 e Q fun v μ' H' x' R' rv=>q v μ' H' (x1.trans (x2.trans x')) R' rv
 .rw[if_neg hl] at e;cases e
theorem d9{K:U0a}{r:V->List V->Hp->VK->Prop}{g:Store->D->List D->Option (D×Store)}{o:Az}(hs:Sw K r g){σ:St}{H:Hp}{Q:VK}(h:wpE K (GZ g o Af) σ H Q):n6 K "list" r (wpE K o) σ H Q:=by
 obtain⟨Γ,μ,env,S,d,S',hK,R,e,q⟩:=h
 obtain⟨⟨x,S1⟩,e1,e⟩:=bind_some e
 refine⟨Γ,μ,env,S,x,S1,hK,R,e1,fun v1 μ1 H1 x1 R1 r1=>?_⟩
 dsimp only at e
 by_cases hl:(listOf S1 x).isSome=true
 .rw[if_pos hl] at e
  obtain⟨⟨ds,S2⟩,e2,e⟩:=bind_some e
  cases e2
  obtain⟨xs,hx⟩:=U4a.mp hl
  obtain⟨b,us,rfl,hb,rb⟩:=VR.list R1 r1 hx
  refine⟨.inl ⟨rfl,us,SqL.of hb⟩,?_⟩
  exact hs Γ μ1 σ H1 env _ _ [] x [] d S' hK R1 r1 .nil e Q fun v μ' H' x' R' rv=>q v μ' H' (x1.trans x') R' rv
 .rw[if_neg hl] at e;cases e
variable{o e:Expr}{es:List Expr}{fo:Az}{fa:Bh}{name:Str}{apos cpos:Pos}{id:String}{r:V->List V->Hp->VK->Prop}{g:Store->D->List D->Option (D×Store)}
theorem gG(pa:PlainAttrs "list")(slot:Slot "list" name id)(hty:typeOf (.builtin id)=pure (.type "method_descriptor"))(hm:MtR X id r)(hsm:Sw X.K r g)(ho:JE X o fo)
  (hbase:attributeBase o name X.env (eval o X.env)=eval o X.env:=by rfl) (hline:(apos.endLine==cpos.line)=true:=by rfl):JE X (.Call (.Attribute o name apos) [] [] cpos) (GZ g fo Af) :=
 ⟨PE.imp (pN pa slot hty hm ho.pe hbase hline) fun _ _ _ h=>d9 hsm h⟩
theorem Ks(pa:PlainAttrs "list")(slot:Slot "list" name id)(hty:typeOf (.builtin id)=pure (.type "method_descriptor"))(hm:MtR X id r)(hsm:Sw X.K r g)(ho:JE X o fo)(ha:JA X (e::es) fa)
  (hbase:attributeBase o name X.env (eval o X.env)=eval o X.env:=by rfl)
  (hfew:((backTo cpos (starEach (e::es) X.env)).all (fun x=>!x.1)&&(backToKw cpos (keywordEach [] X.env)).all (fun x=>x.1.isSome)
   && decide ((e::es).length+([]:List Keyword).length+(if ([]:List Keyword).isEmpty then 0 else 1)<30))=true:=by rfl)
  (hline:(apos.endLine==cpos.line)=true:=by rfl) (hs:starEach (e::es) X.env=(false,eval e X.env)::starEach es X.env:=by rfl) (hplain:(backTo cpos (starEach es X.env)).any (·.1)=false:=by rfl) :
  JE X (.Call (.Attribute o name apos) (e::es) [] cpos) (GZ g fo fa) :=
 ⟨PE.imp (tD pa slot hty hm ho.pe ha.pa hbase hfew hline hs hplain) fun _ _ _ h=>jA hsm h⟩
theorem VR.Yg{Γ:Fr}{μ:Mu}{σ:St}{H:Hp}{env:Env}{S:Store}{v:V}{i:Nat}{ds:List D}(R:Rep Γ μ σ H env S)(r:VR Γ μ H v (.ref i))(h:S[i]?=some (some ds)):∃a xs,v=.ref a/\μ[i]?=some (some a)/\H a=some (.lst xs)/\VRs Γ μ H xs ds:=by
 cases r with
 |ref hi f =>
  obtain⟨a,h1,hc⟩:=R.sto i ds h
  obtain⟨f1,f2⟩:=f a h1
  obtain⟨xs,h2,h3⟩:=hc.list f2
  exact⟨a,xs,f1,h1,h2,h3⟩
def GC(S:Store):D->List D->Option (D×Store)
 |.ref i,[d]=>match S[i]? with
  |some (some ds)=>if ds.length<1000000 then some (.non,S.set i (some (ds++[d]))) else none
  |_=>none
 |_,_=>none
theorem JF{K:U0a}:Sw K YD GC:=by
 intro Γ μ σ H env S x xs dx ds d S' hK R rx rs e Q q
 unfold GC at e
 split at e
 .rename_i i d1
  split at e
  .rename_i es he
   by_cases hl:es.length<1000000
   .rw[if_pos hl] at e
    cases e
    obtain⟨a,us,rfl,h1,h2,h3⟩:=VR.Yg R rx he
    obtain⟨y,rfl,ry⟩:=rs.one
    obtain⟨R2,x2⟩:=R.put h1 ⟨_,h2⟩ (h3.append (.cons ry .nil))
    exact⟨a,us,y,rfl,rfl,h2,by rw[h3.length];exact big (U2b hl),q _ μ _ x2 R2 .non⟩
   .rw[if_neg hl] at e;cases e
  .cases e
 .cases e
def Ob(S:Store):D->List D->Option (D×Store)
 |.ref i,[]=>match S[i]? with
  |some (some _)=>some (.non,S.set i (some []))
  |_=>none
 |_,_=>none
theorem dU{K:U0a}:Sw K Zq Ob:=by
 intro Γ μ σ H env S x xs dx ds d S' hK R rx rs e Q q
 unfold Ob at e
 split at e
 .rename_i i
  split at e
  .rename_i es he
   cases e
   obtain⟨a,us,rfl,h1,h2,h3⟩:=VR.Yg R rx he
   cases rs
   obtain⟨R2,x2⟩:=R.put h1 ⟨_,h2⟩ (xs:=[]) (ds:=[]) .nil
   exact⟨a,us,rfl,rfl,h2,q _ μ _ x2 R2 .non⟩
  .cases e
 .cases e
def vd(S:Store):D->List D->Option (D×Store)
 |.ref i,[.int k]=>match S[i]? with
  |some (some ds)=>if -(2^63)<=k/\k<2^63 then (PySem.seqIndex? k ds.length).bind fun j=>(ds[j]?).bind fun d=>some (d,S.set i (some (ds.eraseIdx j))) else none
  |_=>none
 |_,_=>none
def Ky(v o i:Az):BX:=fun env S=>(v env S).bind fun p=>(o env p.2).bind fun q=>(i env q.2).bind fun r=>match q.1,r.1 with
 |.ref j,.int k=>(match r.2[j]? with
  |some (some ds)=>(ixN ds.length k).bind fun n=>some (.nx,env,r.2.set j (some (ds.set n p.1)))
  |_=>none)
 |_,_=>none
theorem Nh{a i:Expr}{fv fi:Az}{pos tpos:Pos}(he:JE X a fv)(ho:JE X o fo)(hi:JE X i fi)
  (ha:∀v,assign (.Subscript o i tpos) X.env v=(do
   let ov ←holding [v] (eval o X.env)
   let iv ←holding [v,ov] (eval i X.env)
   standAt tpos
   holding [v,ov,iv] (setItem ov iv v)
   release [v,ov,iv] []):=by intro _;rfl)
  (hs:swapsWithSole [.Subscript o i tpos] a pos.line X.env=pure false:=by rfl) (hw:swappedStores [.Subscript o i tpos] a X.env=pure none:=by rfl)
  (h1:(assignEach [.Subscript o i tpos] X.env).map (·.2)=[assign (.Subscript o i tpos) X.env]:=by rfl):JS X (.Assign [.Subscript o i tpos] a pos) (Ky fv fo fi) :=
 ⟨PS.imp (Zr he.pe (pF ho.pe hi.pe set_list ha) hs hw h1) fun E σ H h=>by
  obtain⟨Γ,μ,env,S,fl,env',S',hK,R,e,q⟩:=h
  obtain⟨⟨x,S1⟩,e1,e⟩:=bind_some e
  obtain⟨⟨y,S2⟩,e2,e⟩:=bind_some e
  obtain⟨⟨z,S3⟩,e3,e⟩:=bind_some e
  refine⟨Γ,μ,env,S,x,S1,hK,R,e1,fun v1 μ1 H1 x1 R1 r1=>?_⟩
  refine⟨Γ,μ1,env,S1,y,S2,hK,R1,e2,fun v2 μ2 H2 x2 R2 r2=>?_⟩
  refine⟨Γ,μ2,env,S2,z,S3,hK,R2,e3,fun v3 μ3 H3 x3 R3 r3=>?_⟩
  dsimp only at e
  split at e
  .rename_i j k
   split at e
   .rename_i ds hd
    obtain⟨n,e4,e⟩:=bind_some e
    cases e
    obtain⟨b,us,rfl,g1,g2,g3⟩:=VR.Yg R3 (r2.ext x3) hd
    cases r3
    have r1':=r1.ext (x2.trans x3)
    obtain⟨R4,x4⟩:=R3.put g1 ⟨_,g2⟩ (g3.set r1' n)
    exact⟨b,us,_,n,rfl,rfl,g2,by rw[g3.length];exact e4,q μ3 σ _ (x1.trans (x2.trans (x3.trans x4))) R4⟩
   .cases e
  .cases e⟩
end
end VS
end
section
namespace VS
open PySem PySem.Spec L2
mutual
def Bb:D->Bool
 |.ref _=>false
 |.dref _=>false
 |.dcm _=>false
 |.tup ds=>Ay ds
 |.lst _ ds=>Ay ds
 |_=>true
def Ay:List D->Bool
 |[]=>true
 |d::r=>Bb d&&Ay r
end
mutual
def CJ:D->Bool
 |.ref _=>false
 |.dref _=>false
 |.dcf _=>false
 |.dcm _=>false
 |.lst _ _=>false
 |.scr _=>false
 |.emp=>false
 |.tup ds=>Dn ds
 |_=>true
def Dn:List D->Bool
 |[]=>true
 |d::r=>CJ d&&Dn r
end
mutual
def newD:D->Bool
 |.ref _=>false
 |.dref _=>false
 |.dcf _=>false
 |.dcm _=>false
 |.lst m ds=>m&&newL ds
 |.scr _=>false
 |.emp=>false
 |.tup ds=>newL ds
 |_=>true
def newL:List D->Bool
 |[]=>true
 |d::r=>newD d&&newL r
end
mutual
def den(k:Nat)(S:Store):D->Option D
 |.tup ds=>(CG k S ds).map .tup
 |.lst m ds=>(CG k S ds).map (.lst m)
 |.ref i=>if i<k then none else match S[i]? with|some (some ds)=>if Ay ds=true then some (.lst true ds) else none|_=>none
 |.non=>some .non
 |.bl b=>some (.bl b)
 |.int i=>some (.int i)
 |.str x=>some (.str x)
 |.ty n=>some (.ty n)
 |.scr ns=>some (.scr ns)
 |.emp=>some .emp
 |.dref i=>if i<k then none else match S[i]? with|some (some [.dcm kvs])=>some (.dcf kvs)|_=>none
 |.dcf kvs=>some (.dcf kvs)
 |.dcm _=>none
def CG(k:Nat)(S:Store):List D->Option (List D)
 |[]=>some []
 |d::r=>(den k S d).bind fun x=>(CG k S r).bind fun xs=>some (x::xs)
end
mutual
def age:D->D
 |.tup ds=>.tup (Br ds)
 |.lst _ ds=>.lst false (Br ds)
 |.ref i=>.ref i
 |.non=>.non
 |.bl b=>.bl b
 |.int i=>.int i
 |.str x=>.str x
 |.ty n=>.ty n
 |.scr ns=>.scr ns
 |.emp=>.emp
 |.dref i=>.dref i
 |.dcf kvs=>.dcf kvs
 |.dcm kvs=>.dcm kvs
def Br:List D->List D
 |[]=>[]
 |d::r=>age d::Br r
end
mutual
theorem Hl:∀{d:D},CJ d=true->Bb d=true
 |.ref _,h=>by simp[CJ] at h
 |.lst _ _,h=>by simp[CJ] at h
 |.scr _,h=>by simp[CJ] at h
 |.emp,h=>by simp[CJ] at h
 |.dref _,h=>by simp[CJ] at h
 |.dcf _,h=>by simp[CJ] at h
 |.dcm _,h=>by simp[CJ] at h
 |.tup ds,h=>by rw[CJ] at h;rw[Bb];exact Bt h
 |.non,_=>rfl
 |.bl _,_=>rfl
 |.int _,_=>rfl
 |.str _,_=>rfl
 |.ty _,_=>rfl
theorem Bt:∀{ds:List D},Dn ds=true->Ay ds=true
 |[],_=>rfl
 |d::r,h=>by
  rw[Dn,U0y] at h
  rw[Ay,Hl h.1,Bt h.2];rfl
end
mutual
theorem Ni:∀{d:D},CJ d=true->newD d=true
 |.ref _,h=>by simp[CJ] at h
 |.lst _ _,h=>by simp[CJ] at h
 |.scr _,h=>by simp[CJ] at h
 |.emp,h=>by simp[CJ] at h
 |.dref _,h=>by simp[CJ] at h
 |.dcf _,h=>by simp[CJ] at h
 |.dcm _,h=>by simp[CJ] at h
 |.tup ds,h=>by rw[CJ] at h;rw[newD];exact K6 h
 |.non,_=>rfl
 |.bl _,_=>rfl
 |.int _,_=>rfl
 |.str _,_=>rfl
 |.ty _,_=>rfl
theorem K6:∀{ds:List D},Dn ds=true->newL ds=true
 |[],_=>rfl
 |d::r,h=>by
  rw[Dn,U0y] at h
  rw[newL,Ni h.1,K6 h.2];rfl
end
mutual
theorem Jo(k:Nat)(S:Store):∀{d:D},Bb d=true->den k S d=some d
 |.ref _,h=>by simp[Bb] at h
 |.lst m ds,h=>by rw[Bb] at h;rw[den,Ck k S h];rfl
 |.tup ds,h=>by rw[Bb] at h;rw[den,Ck k S h];rfl
 |.non,_=>by rw[den]
 |.bl _,_=>by rw[den]
 |.int _,_=>by rw[den]
 |.str _,_=>by rw[den]
 |.ty _,_=>by rw[den]
 |.scr _,_=>by rw[den]
 |.emp,_=>by rw[den]
 |.dref _,h=>by simp[Bb] at h
 |.dcf _,_=>by rw[den]
 |.dcm _,h=>by simp[Bb] at h
theorem Ck(k:Nat)(S:Store):∀{ds:List D},Ay ds=true->CG k S ds=some ds
 |[],_=>by rw[CG]
 |d::r,h=>by
  rw[Ay,U0y] at h
  rw[CG,Jo k S h.1,Ck k S h.2];rfl
end
mutual
theorem Qy:∀{d:D},CJ d=true->age d=d
 |.ref _,h=>by simp[CJ] at h
 |.lst _ _,h=>by simp[CJ] at h
 |.scr _,h=>by simp[CJ] at h
 |.emp,h=>by simp[CJ] at h
 |.dref _,h=>by simp[CJ] at h
 |.dcf _,h=>by simp[CJ] at h
 |.dcm _,h=>by simp[CJ] at h
 |.tup ds,h=>by rw[CJ] at h;rw[age,Gj h]
 |.non,_=>by rw[age]
 |.bl _,_=>by rw[age]
 |.int _,_=>by rw[age]
 |.str _,_=>by rw[age]
 |.ty _,_=>by rw[age]
theorem Gj:∀{ds:List D},Dn ds=true->Br ds=ds
 |[],_=>by rw[Br]
 |d::r,h=>by
  rw[Dn,U0y] at h
  rw[Br,Qy h.1,Gj h.2]
end
section
variable{Γ Γ':Fr}{μ μ':Mu}{H:Hp}
mutual
theorem VR.age(hK:Γ'.K=Γ.K)(hN:∀a,¬CV μ a->Γ.N a∨Γ.H0 a=none->Γ'.N a)(hl:∀a o,H a=some o->¬CV μ a->¬CV μ' a):∀{v:V} {d:D},Bb d=true->VR Γ μ H v d->VR Γ' μ' H v (VS.age d)
 |_,_,_,.non=>by rw[VS.age];exact .non
 |_,_,_,.bl b=>by rw[VS.age];exact .bl b
 |_,_,_,.int i=>by rw[VS.age];exact .int i
 |_,_,_,.str x=>by rw[VS.age];exact .str x
 |_,_,_,.ty n=>by rw[VS.age];exact .ty n
 |_,_,h,.tup hb t=>by rw[Bb] at h;rw[VS.age];exact .tup hb (VRs.age hK hN hl h t)
 |_,_,h,.lst o n hb t=>by rw[Bb] at h;rw[VS.age];exact .lst ⟨fun z=>(by cases z),.inl (hN _ n o.2)⟩ (hl _ _ hb n) hb (VRs.age hK hN hl h t)
 |_,_,h,.ref _ _=>by simp[Bb] at h
 |_,_,_,.scrK k=>by rw[VS.age];exact .scrK (by rw[hK];exact k)
 |_,_,_,.scrR n hb=>by rw[VS.age];exact .scrR (hl _ _ hb n) hb
 |_,_,_,.emp o n hb=>by rw[VS.age];exact .emp ⟨fun z=>(by cases z),.inl (hN _ n o.2)⟩ (hl _ _ hb n) hb
 |_,_,h,.dref _ _=>by simp[Bb] at h
 |_,_,_,.dcf o n hb=>by rw[VS.age];exact .dcf ⟨fun z=>(by cases z),.inl (hN _ n o.2)⟩ (hl _ _ hb n) hb
theorem VRs.age(hK:Γ'.K=Γ.K)(hN:∀a,¬CV μ a->Γ.N a∨Γ.H0 a=none->Γ'.N a)(hl:∀a o,H a=some o->¬CV μ a->¬CV μ' a):∀{v:List V} {d:List D},Ay d=true->VRs Γ μ H v d->VRs Γ' μ' H v (Br d)
 |_,_,_,.nil=>by rw[Br];exact .nil
 |_,_,h,.cons r t=>by
  rw[Ay,U0y] at h
  rw[Br];exact .cons (VR.age hK hN hl h.1 r) (VRs.age hK hN hl h.2 t)
end
mutual
theorem VR.pure(hK:Γ'.K=Γ.K)(hN:∀m a xs,¬CV μ a->Γ.Ok m a->H a=some xs->Γ'.Ok m a/\¬CV μ' a)(ho:∀a o,H a=some o->¬CV μ a->(∀xs,o≠.lst xs)->(∀xs,o≠.dK xs)->¬CV μ' a):∀{v:V} {d:D},Bb d=true->VR Γ μ H v d->VR Γ' μ' H v d
 |_,_,_,.non=>.non
 |_,_,_,.bl b=>.bl b
 |_,_,_,.int i=>.int i
 |_,_,_,.str x=>.str x
 |_,_,_,.ty n=>.ty n
 |_,_,h,.tup hb t=>by rw[Bb] at h;exact .tup hb (VRs.pure hK hN ho h t)
 |_,_,h,.lst o n hb t=>by rw[Bb] at h;exact .lst (hN _ _ _ n o hb).1 (hN _ _ _ n o hb).2 hb (VRs.pure hK hN ho h t)
 |_,_,h,.ref _ _=>by simp[Bb] at h
 |_,_,_,.scrK k=>.scrK (by rw[hK];exact k)
 |_,_,_,.scrR n hb=>.scrR (ho _ _ hb n (fun _ z=>by cases z) fun _ z=>by cases z) hb
 |_,_,_,.emp o n hb=>.emp (hN _ _ _ n o hb).1 (hN _ _ _ n o hb).2 hb
 |_,_,h,.dref _ _=>by simp[Bb] at h
 |_,_,_,.dcf o n hb=>.dcf (hN _ _ _ n o hb).1 (hN _ _ _ n o hb).2 hb
theorem VRs.pure(hK:Γ'.K=Γ.K)(hN:∀m a xs,¬CV μ a->Γ.Ok m a->H a=some xs->Γ'.Ok m a/\¬CV μ' a)(ho:∀a o,H a=some o->¬CV μ a->(∀xs,o≠.lst xs)->(∀xs,o≠.dK xs)->¬CV μ' a):∀{v:List V} {d:List D},Ay d=true->VRs Γ μ H v d->VRs Γ' μ' H v d
 |_,_,_,.nil=>.nil
 |_,_,h,.cons r t=>by
  rw[Ay,U0y] at h
  exact .cons (VR.pure hK hN ho h.1 r) (VRs.pure hK hN ho h.2 t)
end
mutual
theorem VR.den{σ:St}{env:Env}{S S0:Store}{k:Nat}(R:Rep Γ μ σ H env S)(hK:Γ'.K=Γ.K)(h0:∀(i:Nat)(ds:List D)(a:Addr),k<=i->S0[i]?=some (some ds)->S[i]?=some (some ds)/\(μ[i]?=some (some a)->¬CV μ' a/\Γ'.Ok true a))
  (hN:∀m a,¬CV μ a->Γ.Ok m a->Γ'.Ok m a) (hl:∀a o,H a=some o->¬CV μ a->¬CV μ' a):∀{v:V} {d e:D},VR Γ μ H v d->VS.den k S0 d=some e->VR Γ' μ' H v e
 |_,_,_,.non,h=>by rw[VS.den] at h;cases h;exact .non
 |_,_,_,.bl b,h=>by rw[VS.den] at h;cases h;exact .bl b
 |_,_,_,.int i,h=>by rw[VS.den] at h;cases h;exact .int i
 |_,_,_,.str x,h=>by rw[VS.den] at h;cases h;exact .str x
 |_,_,_,.ty n,h=>by rw[VS.den] at h;cases h;exact .ty n
 |_,_,_,.tup hb t,h=>by
  rw[VS.den] at h
  obtain⟨es,e1,e2⟩:=map_some h
  subst e2
  exact .tup hb (VRs.den R hK h0 hN hl t e1)
 |_,_,_,.lst o n hb t,h=>by
  rw[VS.den] at h
  obtain⟨es,e1,e2⟩:=map_some h
  subst e2
  exact .lst (hN _ _ n o) (hl _ _ hb n) hb (VRs.den R hK h0 hN hl t e1)
 |_,.ref i,_,.ref hi f,h=>by
  rw[VS.den] at h
  by_cases hk:i<k
  .rw[if_pos hk] at h;cases h
  .rw[if_neg hk] at h
   split at h
   .rename_i ds hd
    by_cases hp:Ay ds=true
    .rw[if_pos hp] at h
     cases h
     have hS:=(h0 i ds 0 (by omega) hd).1
     obtain⟨a,h1,hc⟩:=R.sto i ds hS
     obtain⟨hv,f2⟩:=f a h1
     obtain⟨xs,h2,h3⟩:=hc.list f2
     subst hv
     obtain⟨z1,z2⟩:=(h0 i ds a (by omega) hd).2 h1
     exact .lst z2 z1 h2 (VRs.pure hK (fun m b ys n o hb=>⟨hN m b n o,hl b _ hb n⟩) (fun b o hb n _ _=>hl b o hb n) hp h3)
    .rw[if_neg hp] at h;cases h
   .cases h
 |_,_,_,.scrK k,h=>by rw[VS.den] at h;cases h;exact .scrK (by rw[hK];exact k)
 |_,_,_,.scrR n hb,h=>by rw[VS.den] at h;cases h;exact .scrR (hl _ _ hb n) hb
 |_,_,_,.emp o n hb,h=>by rw[VS.den] at h;cases h;exact .emp (hN _ _ n o) (hl _ _ hb n) hb
 |_,.dref i,_,.dref hi f,h=>by
  rw[VS.den] at h
  by_cases hk:i<k
  .rw[if_pos hk] at h;cases h
  .rw[if_neg hk] at h
   split at h
   .rename_i kvs hd
    cases h
    have hS:=(h0 i _ 0 (by omega) hd).1
    obtain⟨a,h1,hc⟩:=R.sto i _ hS
    obtain⟨hv,f2⟩:=f a h1
    obtain⟨kvs',q1,h2⟩:=hc.dict f2
    cases q1
    subst hv
    have z:=(h0 i _ a (by omega) hd).2 h1
    exact .dcf ⟨fun z=>(by cases z),z.2.2⟩ z.1 h2
   .cases h
 |_,_,_,.dcf o n hb,h=>by rw[VS.den] at h;cases h;exact .dcf (hN _ _ n o) (hl _ _ hb n) hb
theorem VRs.den{σ:St}{env:Env}{S S0:Store}{k:Nat}(R:Rep Γ μ σ H env S)(hK:Γ'.K=Γ.K)(h0:∀(i:Nat)(ds:List D)(a:Addr),k<=i->S0[i]?=some (some ds)->S[i]?=some (some ds)/\(μ[i]?=some (some a)->¬CV μ' a/\Γ'.Ok true a))
  (hN:∀m a,¬CV μ a->Γ.Ok m a->Γ'.Ok m a) (hl:∀a o,H a=some o->¬CV μ a->¬CV μ' a):∀{v:List V} {d e:List D},VRs Γ μ H v d->VS.CG k S0 d=some e->VRs Γ' μ' H v e
 |_,_,_,.nil,h=>by rw[CG] at h;cases h;exact .nil
 |_,_,_,.cons r t,h=>by
  rw[CG] at h
  obtain⟨x,e1,h⟩:=bind_some h
  obtain⟨xs,e2,h⟩:=bind_some h
  cases h
  exact .cons (VR.den R hK h0 hN hl r e1) (VRs.den R hK h0 hN hl t e2)
end
mutual
theorem VR.new(hN:∀a xs,¬CV μ a->Γ.Ok true a->H a=some (.lst xs)->Γ'.Ok true a/\¬CV μ' a):∀{v:V} {d:D},newD d=true->VR Γ μ H v d->VR Γ' μ' H v d
 |_,_,_,.non=>.non
 |_,_,_,.bl b=>.bl b
 |_,_,_,.int i=>.int i
 |_,_,_,.str x=>.str x
 |_,_,_,.ty n=>.ty n
 |_,_,h,.tup hb t=>by rw[newD] at h;exact .tup hb (VRs.new hN h t)
 |_,.lst m ds,h,.lst o n hb t=>by
  rw[newD,U0y] at h
  obtain⟨rfl,h⟩:=h
  exact .lst (hN _ _ n o hb).1 (hN _ _ n o hb).2 hb (VRs.new hN h t)
 |_,_,h,.ref _ _=>by simp[newD] at h
 |_,_,h,.scrK _=>by simp[newD] at h
 |_,_,h,.scrR _ _=>by simp[newD] at h
 |_,_,h,.emp _ _ _=>by simp[newD] at h
 |_,_,h,.dref _ _=>by simp[newD] at h
 |_,_,h,.dcf _ _ _=>by simp[newD] at h
theorem VRs.new(hN:∀a xs,¬CV μ a->Γ.Ok true a->H a=some (.lst xs)->Γ'.Ok true a/\¬CV μ' a):∀{v:List V} {d:List D},newL d=true->VRs Γ μ H v d->VRs Γ' μ' H v d
 |_,_,_,.nil=>.nil
 |_,_,h,.cons r t=>by
  rw[newL,U0y] at h
  exact .cons (VR.new hN h.1 r) (VRs.new hN h.2 t)
end
mutual
theorem VR.flat:∀{v:V} {d:D},CJ d=true->VR Γ μ H v d->VR Γ' μ' H v d
 |_,_,_,.non=>.non
 |_,_,_,.bl b=>.bl b
 |_,_,_,.int i=>.int i
 |_,_,_,.str x=>.str x
 |_,_,_,.ty n=>.ty n
 |_,_,h,.tup hb t=>by rw[CJ] at h;exact .tup hb (VRs.flat h t)
 |_,_,h,.lst _ _ _ _=>by simp[CJ] at h
 |_,_,h,.ref _ _=>by simp[CJ] at h
 |_,_,h,.scrK _=>by simp[CJ] at h
 |_,_,h,.scrR _ _=>by simp[CJ] at h
 |_,_,h,.emp _ _ _=>by simp[CJ] at h
 |_,_,h,.dref _ _=>by simp[CJ] at h
 |_,_,h,.dcf _ _ _=>by simp[CJ] at h
theorem VRs.flat:∀{v:List V} {d:List D},Dn d=true->VRs Γ μ H v d->VRs Γ' μ' H v d
 |_,_,_,.nil=>.nil
 |_,_,h,.cons r t=>by
  rw[Dn,U0y] at h
  exact .cons (VR.flat h.1 r) (VRs.flat h.2 t)
end
mutual
theorem R8{k:Nat}{S:Store}:∀{d e:D},den k S d=some e->Bb e=true
 |.tup ds,e,h=>by
  rw[den] at h
  obtain⟨es,e1,e2⟩:=map_some h
  subst e2
  rw[Bb];exact M5 e1
 |.lst m ds,e,h=>by
  rw[den] at h
  obtain⟨es,e1,e2⟩:=map_some h
  subst e2
  rw[Bb];exact M5 e1
 |.ref i,e,h=>by
  rw[den] at h
  by_cases hk:i<k
  .rw[if_pos hk] at h;cases h
  .rw[if_neg hk] at h
   split at h
   .rename_i ds hd
    by_cases hp:Ay ds=true
    .rw[if_pos hp] at h;cases h;rw[Bb];exact hp
    .rw[if_neg hp] at h;cases h
   .cases h
 |.non,e,h=>by rw[den] at h;cases h;rfl
 |.bl _,e,h=>by rw[den] at h;cases h;rfl
 |.int _,e,h=>by rw[den] at h;cases h;rfl
 |.str _,e,h=>by rw[den] at h;cases h;rfl
 |.ty _,e,h=>by rw[den] at h;cases h;rfl
 |.scr _,e,h=>by rw[den] at h;cases h;rfl
 |.emp,e,h=>by rw[den] at h;cases h;rfl
 |.dref i,e,h=>by
  rw[den] at h
  by_cases hk:i<k
  .rw[if_pos hk] at h;cases h
  .rw[if_neg hk] at h
   split at h
   .cases h;rfl
   .cases h
 |.dcf _,e,h=>by rw[den] at h;cases h;rfl
 |.dcm _,e,h=>by rw[den] at h;cases h
theorem M5{k:Nat}{S:Store}:∀{d e:List D},CG k S d=some e->Ay e=true
 |[],e,h=>by rw[CG] at h;cases h;rfl
 |d::r,e,h=>by
  rw[CG] at h
  obtain⟨x,e1,h⟩:=bind_some h
  obtain⟨xs,e2,h⟩:=bind_some h
  cases h
  rw[Ay,R8 e1,M5 e2];rfl
end
end
end VS
end
section
namespace VS
open PySem PySem.Spec L2
abbrev Cu:=List D->Option D
abbrev Kw:=List Int->List D->Option (D×List Int)
def intsOf:List D->Option (List Int)
 |[]=>some []
 |.int i::r=>(intsOf r).map (i::·)
 |_=>none
theorem Il:∀{ds:List D} {ns:List Int},intsOf ds=some ns->ds=ns.map D.int
 |[],_,h=>by cases h;rfl
 |.int i::r,ns,h=>by
  obtain⟨ms,e1,e2⟩:=map_some h
  subst e2
  rw[U0t,Il e1]
 |.non::_,_,h=>by cases h
 |.bl _::_,_,h=>by cases h
 |.str _::_,_,h=>by cases h
 |.ty _::_,_,h=>by cases h
 |.tup _::_,_,h=>by cases h
 |.lst _ _::_,_,h=>by cases h
 |.ref _::_,_,h=>by cases h
 |.scr _::_,_,h=>by cases h
 |.emp::_,_,h=>by cases h
 |.dref _::_,_,h=>by cases h
 |.dcf _::_,_,h=>by cases h
 |.dcm _::_,_,h=>by cases h
@[simp] theorem Rw(ns:List Int):intsOf (ns.map D.int)=some ns:=by
 induction ns with
 |nil=>rfl
 |cons n r ih=>rw[U0t,intsOf,ih];rfl
def Eu(np n:Nat)(f:BX):Cu:=fun ds=>if ds.length=np then (f (ds.map some++U03 (n-ds.length) none) []).bind fun p=>match p.1 with|.ret d=>den 0 p.2.2 d|.nx=>some .non|_=>none else none
def runM(np n:Nat)(f:BX):Kw:=fun ns ds=>if ds.length+1=np then (f (some (.ref 0)::(ds.map some++U03 (n-1-ds.length) none)) [some (ns.map D.int)]).bind fun p=>match p.2.2[0]? with
 |some (some cs)=>(intsOf cs).bind fun ms=>(match p.1 with|.ret d=>(den 1 p.2.2 d).map fun r=>(r,ms)|.nx=>some (.non,ms)|_=>none)
 |_=>none
 else none
def spP(K:U0a)(sem:Cu)(n:Nat):Sp:=fun vs H Q _=>∃(N:Addr->Prop)(ds:List D)(r:D),vs.length=n/\VRs ⟨K,H,N,[]⟩ [] H vs ds/\sem ds=some r/\∀v H',Same H H'->VR ⟨K,H,N,[]⟩ [] H' v r->Q v H'
def spM(K:U0a)(sem:Kw)(n:Nat):Sp:=fun vs H Q _=>∃(N:Addr->Prop)(a:Addr)(us:List V)(ns:List Int)(ds:List D)(r:D)(ms:List Int),vs=.ref a::us/\vs.length=n/\H a=some (.lst (ns.map V.int))/\VRs ⟨K,H,N,[a]⟩ [some a] H us ds/\sem ns ds=some (r,ms) /\
 ∀v H',(∀b o,b≠a->H b=some o->H' b=some o)->H' a=some (.lst (ms.map V.int))->VR ⟨K,H,N,[a]⟩ [some a] H' v r->Q v H'
section
variable{P:Program}{w:World}{K:U0a}{mg:Str->Option Value}{base:Heap}
theorem U8{N:List Str}{vs:List V}{ds:List D}{Γ:Fr}{μ:Mu}{H:Hp}(r:VRs Γ μ H vs ds){i:Nat}{d:D}{n:Nat}(h:(ds.map some++U03 n none:Env)[i]?=some (some d)):∃v,(vs.map some++U03 (N.length-vs.length) none:St)[i]?=some (some v)/\VR Γ μ H v d:=by
 have hi:i<ds.length:=by
  by_cases hi:i<ds.length
  .exact hi
  .rw[U1v (by simpa using hi),U4f] at h
   split at h<;>cases h
 rw[U1b (by simpa using hi),U05] at h
 have h2:ds[i]?=some d:=by
  cases q:ds[i]? with
  |none=>rw[q] at h;cases h
  |some e=>rw[q] at h;cases h;rfl
 obtain⟨v,e1,e2⟩:=r.get h2
 refine⟨v,?_,e2⟩
 rw[U1b (by rw[U0i,r.length];exact hi),U05,e1]
 rfl
theorem Hf{a:Addr}:¬CV [] a:=fun z=>by simp[CV] at z
theorem NZ{a b:Addr}:CV [some b] a↔a=b:=by simp[CV]
theorem fnP{x qual:Str}{st:Stmt}{f:Addr}{fd:FuncData}{N ps:List Str}{k:Nat}{fs:BX}(F:Fun K x qual st f fd)(Sc:CT N ps (Ak st))
  (hb:∀(cdv:Value)(A:Around)(outer:List PySem.Env)(s:Shared)(H:Hp)(E:XK),Dz k (A.deeper (PyProof.Rows.envOfC qual (Ak st) s.heap.objs.size f cdv))->JSs (O8 CX0 P w K mg base N qual (Ak st) f cdv A outer s H E).nox (Bu st) fs) :
  DG P w K mg base CX0 (k+1) f fd ps (spP K (Eu ps.length N.length fs) ps.length):=by
 refine F.ok Sc (fun vs H Q E h=>?_) (fun cdv A outer s H vs Q E hr h=>?_)
 .obtain⟨_,_,_,hl,_⟩:=h;exact hl
 obtain⟨Nn,ds,r,hl,rs,e,q⟩:=h
 refine⟨_,(hb cdv A outer s H E hr).ps,?_⟩
 have hdl:=rs.length
 unfold Eu at e
 rw[if_pos (by omega)] at e
 obtain⟨⟨fl,env',S'⟩,e1,e⟩:=bind_some e
 have hpl:ps.length<=N.length:=by have:=congrArg U46 Sc.pre;rw[U2r] at this;omega
 refine⟨⟨K,H,Nn,[]⟩,[],_,[],fl,env',S',rfl,⟨fun i d h=>U8 rs h,?_,fun i ds h=>by simp at h,fun i a h=>by simp at h,fun i j a h=>by simp at h,rfl,Ext.refl _ _,fun i a _ h=>by simp at h⟩,e1,fun μ' σ' H' x' R'=>?_⟩
 .unfold L2.start
  rw[U0n,U0i,U1y,U0n,U0i,U1y,hdl]
 have sm:Same H H':=fun b o hb=>(x'.keep b o hb Hf).1
 dsimp only at e
 cases fl with
 |nx=>cases e;exact q _ H' sm .non
 |brk=>cases e
 |cnt=>cases e
 |ret d =>
  intro v rv
  refine q v H' sm (VR.den R' rfl (fun i ds a _ hs=>⟨hs,fun hm=>⟨Hf,?_⟩⟩) (fun m a _ o=>o) (fun a o _ _=>Hf) rv e)
  have hn:=R'.new i a (U2y _) hm
  exact⟨fun _=>hn,.inr hn⟩
theorem fnM{x qual:Str}{st:Stmt}{f:Addr}{fd:FuncData}{N ps:List Str}{k:Nat}{fs:BX}(F:Fun K x qual st f fd)(Sc:CT N ps (Ak st))
  (hb:∀(cdv:Value)(A:Around)(outer:List PySem.Env)(s:Shared)(H:Hp)(E:XK),Dz k (A.deeper (PyProof.Rows.envOfC qual (Ak st) s.heap.objs.size f cdv))->JSs (O8 CX0 P w K mg base N qual (Ak st) f cdv A outer s H E).nox (Bu st) fs) :
  DG P w K mg base CX0 (k+1) f fd ps (spM K (runM ps.length N.length fs) ps.length):=by
 refine F.ok Sc (fun vs H Q E h=>?_) (fun cdv A outer s H vs Q E hr h=>?_)
 .obtain⟨_,_,_,_,_,_,_,_,hl,_⟩:=h;exact hl
 obtain⟨Nn,a,us,ns,ds,r,ms,rfl,hl,ha,rs,e,q⟩:=h
 refine⟨_,(hb cdv A outer s H E hr).ps,?_⟩
 have hdl:=rs.length
 rw[U0e] at hl
 unfold runM at e
 rw[if_pos (by omega)] at e
 obtain⟨⟨fl,env',S'⟩,e1,e⟩:=bind_some e
 have hpl:ps.length<=N.length:=by have:=congrArg U46 Sc.pre;rw[U2r] at this;omega
 refine⟨⟨K,H,Nn,[a]⟩,[some a],_,[some (ns.map D.int)],fl,env',S',rfl,⟨fun i d h=>?_,?_,fun i es h=>?_,fun i b h=>?_,fun i j b h1 h2=>?_,rfl,Ext.refl _ _,fun i b hi h=>?_⟩,e1,fun μ' σ' H' x' R'=>?_⟩
 .cases i with
  |zero =>
   simp at h
   subst h
   refine⟨.ref a,by simp[L2.start],.ref (by simp) fun b hb=>?_⟩
   simp at hb;rw[←hb];exact⟨rfl,⟨_,ha⟩⟩
  |succ i =>
   rw[List.getElem?_cons_succ] at h
   obtain⟨v,e1,e2⟩:=U8 (N:=U03 (N.length-1) "") rs h
   refine⟨v,?_,e2⟩
   unfold L2.start
   rw[U0t,U2k,List.getElem?_cons_succ,U0e]
   rw[U1y] at e1
   rw[show N.length-(us.length+1)=N.length-1-us.length by omega]
   exact e1
 .unfold L2.start
  rw[U0n,U0i,U1y,U0e,U0e,U0n,U0i,U1y,hdl]
  omega
 .cases i with
  |zero=>simp at h;subst h;exact⟨a,by simp,.inl ⟨_,ha,VRs.ints ns⟩⟩
  |succ i=>simp at h
 .cases i with
  |zero=>exact⟨_,rfl⟩
  |succ i=>simp at h
 .cases i with
  |zero=>cases j with
   |zero=>rfl
   |succ j=>simp at h2
  |succ i=>simp at h1
 .cases i with
  |zero=>simp at hi
  |succ i=>simp at h
 have sm:∀b o,b≠a->H b=some o->H' b=some o:=fun b o hb h=>(x'.keep b o h fun z=>hb (NZ.mp z)).1
 dsimp only at e
 split at e
 .rename_i cs hc
  obtain⟨ms',e3,e5⟩:=bind_some e
  clear e
  obtain⟨a',g1,gc⟩:=R'.sto 0 cs hc
  obtain⟨xs',g2,g3⟩:∃xs,H' a'=some (.lst xs)/\VRs _ μ' H' xs cs:=by
   rcases gc with z|⟨kvs,q,_⟩
   .exact z
   .rw[q] at e3;cases e3
  have ea:a'=a:=by
   have:=x'.ids 0 a' (by simp) g1
   simp at this;exact this.symm
  subst ea
  have ec:=Il e3
  subst ec
  have ex:=g3.RQ
  subst ex
  cases fl with
  |nx=>cases e5;exact q _ H' sm g2 .non
  |brk=>cases e5
  |cnt=>cases e5
  |ret d =>
   intro v rv
   dsimp only at e5
   obtain⟨r',e4,e6⟩:=map_some e5
   cases e6
   refine q v H' sm g2 (VR.den R' rfl (fun i es b hi hs=>⟨hs,fun hm=>⟨fun z=>?_,?_⟩⟩) (fun m b _ o=>o) (fun b o _ n z=>n ?_) rv e4)
   .have:b=a':=NZ.mp z
    subst this
    have:=R'.inj 0 i b g1 hm
    omega
   .have hn:=R'.new i b hi hm
    exact⟨fun _=>hn,.inr hn⟩
   .have:b=a':=NZ.mp z
    subst this
    exact U1l g1
 .cases e
end
theorem DY{np n:Nat}{f:BX}{ds:List D}{r:D}(h:Eu np n f ds=some r):ds.length=np/\Bb r=true:=by
 unfold Eu at h
 by_cases hl:ds.length=np
 .rw[if_pos hl] at h
  obtain⟨⟨fl,env',S'⟩,e1,e⟩:=bind_some h
  refine⟨hl,?_⟩
  dsimp only at e
  cases fl with
  |nx=>cases e;rfl
  |brk=>cases e
  |cnt=>cases e
  |ret d=>exact R8 e
 .rw[if_neg hl] at h;cases h
theorem Pu{np n:Nat}{f:BX}{ns:List Int}{ds:List D}{r:D×List Int}(h:runM np n f ns ds=some r):ds.length+1=np/\Bb r.1=true:=by
 unfold runM at h
 by_cases hl:ds.length+1=np
 .rw[if_pos hl] at h
  obtain⟨⟨fl,env',S'⟩,e1,e⟩:=bind_some h
  refine⟨hl,?_⟩
  dsimp only at e
  split at e
  .rename_i cs hc
   obtain⟨ms',e3,e⟩:=bind_some e
   cases fl with
   |nx=>cases e;rfl
   |brk=>cases e
   |cnt=>cases e
   |ret d =>
    dsimp only at e
    obtain⟨r',e4,e⟩:=map_some e
    cases e
    exact R8 e4
  .cases e
 .rw[if_neg hl] at h;cases h
end VS
end
section
namespace VS
open PySem PySem.Spec L2
structure CW(P:Program)(w:World)(K:U0a)(mg:Str->Option Value)(base:Heap)(x:Str)(k:Nat)(sem:Cu):Prop where
 cal:∃ps,Cal P w K mg base x k ps (spP K sem ps.length)/\∀ds r,sem ds=some r->ds.length=ps.length/\Bb r=true
structure KC(P:Program)(w:World)(K:U0a)(mg:Str->Option Value)(base:Heap)(x:Str)(k:Nat)(sem:Kw):Prop where
 cal:∃ps,Cal P w K mg base x k ps (spM K sem ps.length)/\∀ns ds r,sem ns ds=some r->ds.length+1=ps.length/\Bb r.1=true
def BL(sem:Cu)(a:Bh):Az:=fun env S=>(a env S).bind fun p=>(CG 0 p.2 p.1).bind fun ds=>(sem (Br ds)).bind fun r=>if (Ay p.1||newD r)=true then some (r,p.2) else none
def Bj(sem:Kw)(a:Bh):Az:=fun env S=>(a env S).bind fun p=>match p.1 with
 |.ref i::rest=>(match p.2[i]? with
  |some (some cs)=>(intsOf cs).bind fun ns=>(CG 0 (p.2.set i none) rest).bind fun ds=>(sem ns (Br ds)).bind fun r=>if (Ay rest||newD r.1)=true then some (r.1,p.2.set i (some (r.2.map D.int))) else none
  |_=>none)
 |_=>none
def V4(n:Nat):List D->Option (List D×List D)
 |[]=>none
 |d::r=>if CJ d=true then (V4 n r).map fun p=>(d::p.1,p.2) else match d with
  |.lst true ds=>if (Dn ds&&Dn r)=true then some (.ref n::r,ds) else none
  |_=>none
def N5(n:Nat):D->Option (D×List D)
 |.lst true ds=>if Dn ds=true then some (.ref n,ds) else none
 |.tup es=>(V4 n es).map fun p=>(.tup p.1,p.2)
 |_=>none
def HX(sem:Cu)(a:Bh):Az:=fun env S=>(BL sem a env S).bind fun p=>(N5 p.2.length p.1).bind fun q=>some (q.1,p.2++[some q.2])
section
variable{Γ:Fr}{μ:Mu}{σ:St}{H H':Hp}{env:Env}{S:Store}
theorem lend{K:U0a}(hK:Γ.K=K)(R:Rep Γ μ σ H env S){S0:Store}{m0:List Addr}{vs:List V}{ds es:List D}(r:VRs Γ μ H vs ds)(e:CG 0 S0 ds=some es)(h0:∀(i:Nat)(ds:List D)(a:Addr),S0[i]?=some (some ds)->S[i]?=some (some ds)/\(μ[i]?=some (some a)->¬CV (m0.map some) a))(hm:∀a∈m0,CV μ a)
  (c:Bool) (hc:(Ay ds||c)=true):∃N:Addr->Prop,VRs ⟨K,H,N,m0⟩ (m0.map some) H vs (Br es)/\(c=true∨∀a,N a->¬CV μ a/\(Γ.N a∨Γ.H0 a=none)):=by
 subst hK
 have hl:∀a o,H a=some o->¬CV μ a->¬CV (m0.map some) a:=fun a o _ n z=>n (hm a (by simpa [CV] using z))
 by_cases hp:Ay ds=true
 .rw[Ck 0 S0 hp] at e
  cases e
  exact⟨fun a=>¬CV μ a/\(Γ.N a∨Γ.H0 a=none),VRs.age (Γ:=Γ) (Γ':=⟨Γ.K,H,fun a=>¬CV μ a/\(Γ.N a∨Γ.H0 a=none),m0⟩) rfl (fun a n o=>⟨n,o⟩) hl hp r,.inr fun a z=>z⟩
 .have hc':c=true:=by simpa [hp] using hc
  refine⟨fun _=>True,?_,.inl hc'⟩
  have r1:VRs ⟨Γ.K,fun _=>none,fun _=>True,m0⟩ (m0.map some) H vs es:=VRs.den (Γ':=⟨Γ.K,fun _=>none,fun _=>True,m0⟩) R rfl (fun i ds a _ hs=>⟨(h0 i ds a hs).1,fun z=>⟨(h0 i ds a hs).2 z,⟨fun _=>rfl,.inl trivial⟩⟩⟩) (fun m a _ _=>⟨fun _=>rfl,.inl trivial⟩) hl r e
  exact VRs.age (Γ:=⟨Γ.K,fun _=>none,fun _=>True,m0⟩) (Γ':=⟨Γ.K,H,fun _=>True,m0⟩) (μ:=m0.map some) rfl (fun a _ _=>trivial) (fun a o _ n=>n) (M5 e) r1
theorem home{K:U0a}(hK:Γ.K=K)(R:Rep Γ μ σ H env S){N:Addr->Prop}{m0:List Addr}{v:V}{r:D}(lv:∀a,CV μ a->IsL H' a∨IsK H' a)(hp:Bb r=true)(c:newD r=true∨∀a,N a->¬CV μ a/\(Γ.N a∨Γ.H0 a=none))
  (rv:VR ⟨K,H,N,m0⟩ (m0.map some) H' v r):VR Γ μ H' v r:=by
 subst hK
 rcases c with c|c
 .exact VR.new (fun a xs n o hb=>⟨R.ok (o.1 rfl) true,R.dead (o.1 rfl)⟩) c rv
 .refine VR.pure (Γ:=⟨Γ.K,H,N,m0⟩) (Γ':=Γ) rfl (fun m a xs n o hb=>?_) (fun a o hb n hx hy z=>?_) hp rv
  .rcases o.2 with z|z
   .refine⟨⟨fun hm=>R.fresh (o.1 hm),(c a z).2⟩,(c a z).1⟩
   .exact⟨R.ok z m,R.dead z⟩
  .rcases lv a z with ⟨xs,q⟩|⟨xs,q⟩
   .rw[q] at hb
    exact hx xs (U00 hb).symm
   .rw[q] at hb
    exact hy xs (U00 hb).symm
theorem Rep.adopt(R:Rep Γ μ σ H env S)(sm:Same H H'){a:Addr}{xs:List V}{ds:List D}(hn:H a=none)(ha:H' a=some (.lst xs))(hf:Dn ds=true){Γ':Fr}{μ':Mu}(rs:VRs Γ' μ' H' xs ds) :
  Rep Γ (μ++[some a]) σ H' env (S++[some ds])/\Ext μ H (μ++[some a]) H':=by
 have ne:∀b o,H b=some o->b≠a:=fun b o h z=>by rw[z,hn] at h;cases h
 have x:Ext μ H (μ++[some a]) H':=by
  refine⟨fun b o h n=>⟨sm b o h,fun z=>?_⟩,fun b ys h=>sm b _ h,fun b h=>sm.free h,fun i b hi h=>?_,by rw[U0n];omega,fun b _ ⟨ys,h⟩=>⟨ys,sm b _ h⟩,fun b _ ⟨ys,h⟩=>⟨ys,sm b _ h⟩⟩
  .rcases U1w.mp z with z|z
   .exact n z
   .have z':b=a:=by simpa using z
    exact ne b o h z'
  .rw[U1b hi] at h;exact h
 have idx:∀i b,(μ++[some a])[i]?=some (some b)->(i<μ.length/\μ[i]?=some (some b))∨(i=μ.length/\b=a):=fun i b h=>by
  by_cases hi:i<μ.length
  .rw[U1b hi] at h;exact .inl ⟨hi,h⟩
  .rw[U1v (by omega)] at h
   have hl:=(U0l.mp h).1
   have hi':i=μ.length:=by simp at hl;omega
   subst hi'
   simp at h
   exact .inr ⟨rfl,h.symm⟩
 have no:∀i,μ[i]?=some (some a)->False:=fun i h=>R.dead hn (U1l h)
 refine⟨⟨fun i d h=>?_,R.len,fun i es h=>?_,fun i b h=>?_,fun i j b h1 h2=>?_,by rw[U0n,U0n,R.slen];rfl,R.ent.trans x,fun i b hi h=>?_⟩,x⟩
 .obtain⟨v,h1,h2⟩:=R.vals i d h
  exact⟨v,h1,h2.ext x⟩
 .by_cases hi:i<S.length
  .rw[U1b hi] at h
   obtain⟨b,h1,h2⟩:=R.sto i es h
   exact⟨b,by rw[U1b (by rw[←R.slen];exact hi)];exact h1,h2.to x fun o q=>sm _ _ q⟩
  .rw[U1v (by omega)] at h
   have hl:=(U0l.mp h).1
   have hi':i=S.length:=by simp at hl;omega
   subst hi'
   simp at h
   subst h
   exact⟨a,by rw[R.slen];simp,.inl ⟨xs,ha,VRs.flat hf rs⟩⟩
 .rcases idx i b h with ⟨hi,h⟩|⟨rfl,rfl⟩
  .obtain⟨ds',q⟩:=R.liv i b h
   exact⟨ds',by rw[U1b (by rw[R.slen];exact hi)];exact q⟩
  .exact⟨ds,by rw[←R.slen];simp⟩
 .rcases idx i b h1 with ⟨_,g1⟩|⟨e1,e2⟩
  .rcases idx j b h2 with ⟨_,g2⟩|⟨e3,e4⟩
   .exact R.inj i j b g1 g2
   .exact(no i (e4 ▸ g1)).elim
  .rcases idx j b h2 with ⟨_,g2⟩|⟨e3,_⟩
   .exact(no j (e2 ▸ g2)).elim
   .rw[e1,e3]
 .rcases idx i b h with ⟨_,h⟩|⟨rfl,rfl⟩
  .exact R.new i b hi h
  .exact R.fresh hn
end
theorem Vu{Γ:Fr}{μ:Mu}{H:Hp}{n:Nat}:∀{vs:List V} {ds:List D} {p:List D×List D},V4 n ds=some p->VRs Γ μ H vs ds ->
  ∃a xs,Γ.Ok true a/\H a=some (.lst xs)/\VRs Γ μ H xs p.2/\Dn p.2=true/\∀(Γ':Fr)(μ':Mu),μ'[n]?=some (some a)->VRs Γ' μ' H vs p.1
 |_,[],_,h,_=>by cases h
 |_,d::r,p,h,.cons (xs:=vr) rd rr=>by
  unfold V4 at h
  by_cases hf:CJ d=true
  .rw[if_pos hf] at h
   obtain⟨q,e1,e2⟩:=map_some h
   subst e2
   obtain⟨a,xs,h1,h2,h3,h4,h5⟩:=Vu e1 rr
   exact⟨a,xs,h1,h2,h3,h4,fun Γ' μ' z=>.cons (VR.flat hf rd) (h5 Γ' μ' z)⟩
  .rw[if_neg hf] at h
   split at h
   .rename_i ds
    by_cases hg:(Dn ds&&Dn r)=true
    .rw[if_pos hg] at h
     cases h
     rw[U0y] at hg
     cases rd with
     |@lst _ a xs _ o nl hb t =>
      refine⟨a,xs,o,hb,t,hg.1,fun Γ' μ' z=>.cons (.ref (U0l.mp z).1 fun b hb'=>?_) (VRs.flat hg.2 rr)⟩
      rw[z] at hb';cases hb';exact⟨rfl,⟨_,hb⟩⟩
    .rw[if_neg hg] at h;cases h
   .cases h
theorem jG{Γ:Fr}{μ:Mu}{H:Hp}{n:Nat}{v:V}{d:D}{p:D×List D}(h:N5 n d=some p)(r:VR Γ μ H v d) :
  ∃a xs,Γ.Ok true a/\H a=some (.lst xs)/\VRs Γ μ H xs p.2/\Dn p.2=true/\∀(Γ':Fr)(μ':Mu),μ'[n]?=some (some a)->VR Γ' μ' H v p.1:=by
 unfold N5 at h
 split at h
 .rename_i ds
  by_cases hg:Dn ds=true
  .rw[if_pos hg] at h
   cases h
   cases r with
   |@lst _ a xs _ o nl hb t =>
    refine⟨a,xs,o,hb,t,hg,fun Γ' μ' z=>.ref (U0l.mp z).1 fun b hb'=>?_⟩
    rw[z] at hb';cases hb';exact⟨rfl,⟨_,hb⟩⟩
  .rw[if_neg hg] at h;cases h
 .rename_i es
  obtain⟨q,e1,e2⟩:=map_some h
  subst e2
  cases r with
  |@tup b xs _ hb t =>
   obtain⟨a,ys,h1,h2,h3,h4,h5⟩:=Vu e1 t
   exact⟨a,ys,h1,h2,h3,h4,fun Γ' μ' z=>.tup hb (h5 Γ' μ' z)⟩
 .cases h
section
variable{X:Cx}{x:Str}{k k':Nat}{e:Expr}{es:List Expr}{f:Bh}{p pos:Pos}
theorem CK{sem:Cu}(c:CW X.prog X.w X.K X.mg X.base x k sem)(hr:Dz k' X.A)(hk:k<=k')(hg:Gl X x)(ha:JA X (e::es) f)
  (hdb:(x==("__debug__":Str))=false:=by decide) (he:starEach (e::es) X.env=(false,eval e X.env)::starEach es X.env:=by rfl) (hpl:(backTo pos (starEach es X.env)).any (·.1)=false:=by rfl) :
  JE X (.Call (.Name x p) (e::es) [] pos) (BL sem f):=by
 obtain⟨ps,c,hok⟩:=c.cal
 refine⟨PE.imp (Qq c hr hk hg ha.pa hdb he hpl) fun σ H Q h=>?_⟩
 obtain⟨Γ,μ,env,S,d,S',hK,R,e,q⟩:=h
 obtain⟨⟨as,S1⟩,e1,e⟩:=bind_some e
 obtain⟨ds,e2,e⟩:=bind_some e
 obtain⟨r,e3,e⟩:=bind_some e
 refine⟨Γ,μ,env,S,as,S1,hK,R,e1,fun vs μ1 H1 x1 R1 r1=>?_⟩
 show spP X.K sem ps.length (vs++[]) H1 Q E0
 rw[U3c]
 dsimp only at e e2
 by_cases hc:(Ay as||newD r)=true
 .rw[if_pos hc] at e
  cases e
  obtain⟨hl,hp⟩:=hok _ _ e3
  obtain⟨N,rs,cN⟩:=lend hK R1 (m0:=[]) r1 e2 (fun i ds a hs=>⟨hs,fun _=>Hf⟩) (fun a z=>by simp at z) (newD d) hc
  refine⟨N,_,d,?_,rs,e3,fun v H' sm rv=>?_⟩
  .rw[rs.length,hl]
  obtain⟨R2,x2⟩:=R1.grow sm
  exact q v μ1 H' (x1.trans x2) R2 (home hK R1 (fun a z=>R2.live z) hp cN rv)
 .rw[if_neg hc] at e;cases e
theorem Qv{sem:Cu}(c:CW X.prog X.w X.K X.mg X.base x k sem)(hr:Dz k' X.A)(hk:k<=k')(hg:Gl X x)(ha:JA X (e::es) f)
  (hdb:(x==("__debug__":Str))=false:=by decide) (he:starEach (e::es) X.env=(false,eval e X.env)::starEach es X.env:=by rfl) (hpl:(backTo pos (starEach es X.env)).any (·.1)=false:=by rfl) :
  JE X (.Call (.Name x p) (e::es) [] pos) (HX sem f):=by
 obtain⟨ps,c,hok⟩:=c.cal
 refine⟨PE.imp (Qq c hr hk hg ha.pa hdb he hpl) fun σ H Q h=>?_⟩
 obtain⟨Γ,μ,env,S,d,S',hK,R,e,q⟩:=h
 obtain⟨⟨d0,S0⟩,e0,e⟩:=bind_some e
 obtain⟨t,et,e⟩:=bind_some e
 cases e
 obtain⟨⟨as,S1⟩,e1,e⟩:=bind_some e0
 obtain⟨ds,e2,e⟩:=bind_some e
 obtain⟨r,e3,e⟩:=bind_some e
 refine⟨Γ,μ,env,S,as,S1,hK,R,e1,fun vs μ1 H1 x1 R1 r1=>?_⟩
 show spP X.K sem ps.length (vs++[]) H1 Q E0
 rw[U3c]
 dsimp only at e e2
 by_cases hc:(Ay as||newD r)=true
 .rw[if_pos hc] at e
  cases e
  obtain⟨hl,hp⟩:=hok _ _ e3
  obtain⟨N,rs,cN⟩:=lend hK R1 (m0:=[]) r1 e2 (fun i ds a hs=>⟨hs,fun _=>Hf⟩) (fun a z=>by simp at z) (newD d0) hc
  refine⟨N,_,d0,?_,rs,e3,fun v H' sm rv=>?_⟩
  .rw[rs.length,hl]
  obtain⟨a,xs,h1,h2,h3,h4,h5⟩:=jG et rv
  obtain⟨R2,x2⟩:=R1.adopt sm (h1.1 rfl) h2 h4 h3
  exact q v _ H' (x1.trans x2) R2 (h5 _ _ (by rw[R1.slen];simp))
 .rw[if_neg hc] at e;cases e
theorem Ek{sem:Kw}(c:KC X.prog X.w X.K X.mg X.base x k sem)(hr:Dz k' X.A)(hk:k<=k')(hg:Gl X x)(ha:JA X (e::es) f)
  (hdb:(x==("__debug__":Str))=false:=by decide) (he:starEach (e::es) X.env=(false,eval e X.env)::starEach es X.env:=by rfl) (hpl:(backTo pos (starEach es X.env)).any (·.1)=false:=by rfl) :
  JE X (.Call (.Name x p) (e::es) [] pos) (Bj sem f):=by
 obtain⟨ps,c,hok⟩:=c.cal
 refine⟨PE.imp (Qq c hr hk hg ha.pa hdb he hpl) fun σ H Q h=>?_⟩
 obtain⟨Γ,μ,env,S,d,S',hK,R,e,q⟩:=h
 obtain⟨⟨as,S1⟩,e1,e⟩:=bind_some e
 refine⟨Γ,μ,env,S,as,S1,hK,R,e1,fun vs μ1 H1 x1 R1 r1=>?_⟩
 show spM X.K sem ps.length (vs++[]) H1 Q E0
 rw[U3c]
 dsimp only at e
 split at e
 .rename_i i rest
  split at e
  .rename_i cs hcs
   obtain⟨ns,e4,e⟩:=bind_some e
   obtain⟨ds,e2,e⟩:=bind_some e
   obtain⟨⟨r,ms⟩,e3,e⟩:=bind_some e
   dsimp only at e
   by_cases hc:(Ay rest||newD r)=true
   .rw[if_pos hc] at e
    cases e
    obtain⟨hl,hp⟩:=hok _ _ _ e3
    have ecs:=Il e4
    subst ecs
    cases r1 with
    |@cons v0 _ us _ r0 rr =>
     obtain⟨a,xs,rfl,h1,h2,h3⟩:=VR.Yg R1 r0 hcs
     have ex:=h3.RQ
     subst ex
     have hi:i<S1.length:=(U0l.mp hcs).1
     obtain⟨N,rs,cN⟩:=lend hK R1 (S0:=S1.set i none) (m0:=[a]) rr e2 (fun j es b hs=>by
      have hj:i≠j:=fun z=>by
       subst z
       rw[U2x hi] at hs;cases hs
      rw[U28 hj] at hs
      exact⟨hs,fun hm z=>hj (R1.inj i j a h1 (by rw[show a=b from (NZ.mp z).symm];exact hm))⟩) (fun b z=>by
       have:b=a:=by simpa using z
       rw[this];exact U1l h1) (newD d) hc
     refine⟨N,a,us,ns,_,d,ms,rfl,?_,h2,rs,e3,fun v H' sm ha' rv=>?_⟩
     .rw[U0e,rs.length,hl]
     obtain⟨R2,x2⟩:=R1.put h1 ⟨_,h2⟩ (VRs.ints ms)
     have sm2:Same (upd H1 a (.lst (ms.map V.int))) H':=fun b o hb=>by
      by_cases z:b=a
      .rw[z,Bk] at hb;cases hb;rw[z];exact ha'
      .rw[BZ z] at hb;exact sm b o z hb
     obtain⟨R3,x3⟩:=R2.grow sm2
     exact q v μ1 H' (x1.trans (x2.trans x3)) R3 (home hK R1 (fun a z=>R3.live z) hp cN rv)
   .rw[if_neg hc] at e;cases e
  .cases e
 .cases e
end
end VS
end
section
namespace VS
open PySem PySem.Spec L2
theorem OpR.or{X:Cx}{f:Value->Value->Sem Value}{r r':R2}(h:OpR X f r)(h':OpR X f r'):OpR X f (fun x y H Q=>r x y H Q∨r' x y H Q):=fun pins s σ H x y v u Q I rx ry q=>q.elim (fun z=>h pins s σ H x y v u Q I rx ry z) fun z=>h' pins s σ H x y v u Q I rx ry z
theorem DK.or{X:Cx}{f:Value}{r r':List V->Hp->VK->Prop}(h:DK X f r)(h':DK X f r'):DK X f (fun xs H Q=>r xs H Q∨r' xs H Q):=fun pins s σ H xs us Q I rs q=>q.elim (fun z=>h pins s σ H xs us Q I rs z) fun z=>h' pins s σ H xs us Q I rs z
def oI(c:Int->Int->Bool)(g:Int->Int->D)(_:Store):D->D->Option D
 |.int i,.int j=>if c i j=true then some (g i j) else none
 |_,_=>none
def Gk(_ _:Int):Bool:=true
theorem Ys{K:U0a}{C:Int->Int->Prop}{c:Int->Int->Bool}(g:Int->Int->Int)(hc:∀i j,c i j=true->C i j):FJ K (rI C fun i j=>.int (g i j)) (oI c fun i j=>.int (g i j)):=by
 intro Γ μ σ H env S x y dx dy d hK R rx ry e Q q
 unfold oI at e
 split at e
 .rename_i i j
  by_cases h:c i j=true
  .rw[if_pos h] at e;cases e;cases rx;cases ry
   exact⟨i,j,rfl,rfl,hc i j h,q _ H (Same.refl H) (.int _)⟩
  .rw[if_neg h] at e;cases e
 .cases e
theorem oK{K:U0a}(g:Int->Int->Int):FJ K (rI0 fun i j=>.int (g i j)) (oI Gk fun i j=>.int (g i j)):=by
 intro Γ μ σ H env S x y dx dy d hK R rx ry e Q q
 unfold oI at e
 split at e
 .rename_i i j
  rw[if_pos (show Gk i j=true from rfl)] at e;cases e;cases rx;cases ry
  exact⟨i,j,rfl,rfl,q _ H (Same.refl H) (.int _)⟩
 .cases e
theorem RX{K:U0a}(g:Int->Int->Bool):FJ K (rI0 fun i j=>.bl (g i j)) (oI Gk fun i j=>.bl (g i j)):=by
 intro Γ μ σ H env S x y dx dy d hK R rx ry e Q q
 unfold oI at e
 split at e
 .rename_i i j
  rw[if_pos (show Gk i j=true from rfl)] at e;cases e;cases rx;cases ry
  exact⟨i,j,rfl,rfl,q _ H (Same.refl H) (.bl _)⟩
 .cases e
def Jg:=oI Gk fun i j=>.int (i-j)
def N7(i j:Int):Bool:=(decide (-(2^64)<i)&&decide (i<2^64))||(decide (-(2^64)<j)&&decide (j<2^64))
def Sv(_ j:Int):Bool:=decide (0<j)&&decide (j<2^64)
def Ss(_ j:Int):Bool:=decide (0<j)
def Qi(i j:Int):Bool:=decide (0<=j)&&decide (j<=1000000)&&decide (i.natAbs<2^64)
def oDiv:=oI Sv fun i j=>.int (i/j)
def oMod:=oI Ss fun i j=>.int (i%j)
def K8:=oI Qi fun i j=>.int (i^j.toNat)
def oLt:=oI Gk fun i j=>.bl (decide (i<j))
def oLe:=oI Gk fun i j=>.bl (decide (i<=j))
def oGt:=oI Gk fun i j=>.bl (decide (j<i))
def oGe:=oI Gk fun i j=>.bl (decide (j<=i))
theorem Pr{K:U0a}:FJ K (rI0 fun i j=>.int (i-j)) Jg:=oK _
theorem Y8{K:U0a}:FJ K (rI (fun _ j=>0<j/\j<2^64) fun i j=>.int (i/j)) oDiv:=Ys _ fun i j h=>by simpa [Sv] using h
theorem Kp{K:U0a}:FJ K (rI (fun _ j=>0<j) fun i j=>.int (i%j)) oMod:=Ys _ fun i j h=>by simpa [Ss] using h
theorem Sy{K:U0a}:FJ K (rI cu fun i j=>.int (i^j.toNat)) K8:=Ys _ fun i j h=>by simpa [Qi,cu,and_assoc] using h
theorem Zn{K:U0a}:FJ K (rI0 fun i j=>.bl (decide (i<j))) oLt:=RX _
theorem oJ{K:U0a}:FJ K (rI0 fun i j=>.bl (decide (i<=j))) oLe:=RX _
theorem Mf{K:U0a}:FJ K (rI0 fun i j=>.bl (decide (j<i))) oGt:=RX _
theorem Zo{K:U0a}:FJ K (rI0 fun i j=>.bl (decide (j<=i))) oGe:=RX _
def Dp(_:Store):D->Option D
 |.int i=>some (.int (-i))
 |_=>none
theorem G3{K:U0a}:o7 K (rU fun i=>.int (-i)) Dp:=by
 intro Γ μ σ H env S x dx d hK R rx e Q q
 unfold Dp at e
 split at e
 .cases e;cases rx;exact⟨_,rfl,q _ H (Same.refl H) (.int _)⟩
 .cases e
def Bw(S:Store):D->D->Option D
 |.int i,.int j=>some (.int (i+j))
 |.tup a,.tup b=>if a.length+b.length<=1000000 then some (.tup (a++b)) else none
 |.str x,.str y=>if x.length+y.length<=1000000 then some (.str (x++y)) else none
 |x,y=>(listOf S x).bind fun a=>(listOf S y).bind fun b=>if a.length+b.length<=1000000 then some (.lst true (a++b)) else none
def iU:R2:=fun x y H Q=>∃(a b:Addr)(xs ys:List V),x=.ref a/\y=.ref b/\H a=some (.tup xs)/\H b=some (.tup ys)/\xs.length+ys.length<=sizeLine/\∀p H',Same H H'->H' p=some (.tup (xs++ys))->Q (.ref p) H'
def sV:R2:=fun x y H Q=>∃i j,x=.str i/\y=.str j/\i.length+j.length<=sizeLine/\Q (.str (i++j)) H
def iV:R2:=fun x y H Q=>(rI0 fun i j=>.int (i+j)) x y H Q∨iU x y H Q∨sV x y H Q∨nW x y H Q
theorem Dl{X:Cx}:OpR X (binaryOp .Add) iV:=OpR.or pY (OpR.or jr (OpR.or ZC pX))
theorem Dk{K:U0a}:FJ K iV Bw:=by
 intro Γ μ σ H env S x y dx dy d hK R rx ry e Q q
 unfold Bw at e
 split at e
 .cases e;cases rx;cases ry;exact .inl ⟨_,_,rfl,rfl,q _ H (Same.refl H) (.int _)⟩
 .rename_i a b
  by_cases h:a.length+b.length<=1000000
  .rw[if_pos h] at e;cases e
   cases rx with
   |@tup p xs _ hp rp =>
    cases ry with
    |@tup p2 ys _ hp2 rp2 =>
     refine .inr (.inl ⟨p,p2,xs,ys,rfl,rfl,hp,hp2,by rw[rp.length,rp2.length];exact U2b (big h),fun t H' sm ht=>?_⟩)
     obtain⟨R2,x2⟩:=R.grow sm
     exact q _ H' sm (.tup ht ((rp.append rp2).ext x2))
  .rw[if_neg h] at e;cases e
 .rename_i a b
  by_cases h:a.length+b.length<=1000000
  .rw[if_pos h] at e;cases e;cases rx;cases ry
   exact .inr (.inr (.inl ⟨_,_,rfl,rfl,U2b (big h),q _ H (Same.refl H) (.str _)⟩))
  .rw[if_neg h] at e;cases e
 .obtain⟨a,e1,e⟩:=bind_some e
  obtain⟨b,e2,e⟩:=bind_some e
  by_cases h:a.length+b.length<=1000000
  .rw[if_pos h] at e;cases e
   obtain⟨p,xs,rfl,hp,rp⟩:=VR.list R rx e1
   obtain⟨p2,ys,rfl,hp2,rp2⟩:=VR.list R ry e2
   refine .inr (.inr (.inr ⟨p,p2,xs,ys,rfl,rfl,hp,hp2,by rw[rp.length,rp2.length];exact U2b (big h),fun t ht=>?_⟩))
   obtain⟨R2,x2⟩:=R.grow (Cw ht (.lst (xs++ys)))
   exact q _ _ (Cw ht _) (.lst (R.ok ht true) (R.dead ht) Bk ((rp.append rp2).ext x2))
  .rw[if_neg h] at e;cases e
def J4(S:Store):D->D->Option D
 |.int i,.int j=>if N7 i j=true then some (.int (i*j)) else none
 |.tup a,.int k=>if a≠[]/\1<=k/\k<2^60/\a.length*k.toNat<=1000000 then some (.tup (U03 k.toNat a).flatten) else none
 |x,.int k=>(listOf S x).bind fun a=>if -(2^63)<=k/\k<2^63/\a.length*k.toNat<=1000000 then some (.lst true (U03 k.toNat a).flatten) else none
 |_,_=>none
def iT:R2:=fun x y H Q=>(rI VP fun i j=>.int (i*j)) x y H Q∨iR x y H Q∨nO x y H Q
theorem Jk{X:Cx}:OpR X (binaryOp .Mult) iT:=OpR.or pU (OpR.or jo pQ)
theorem Jj{K:U0a}:FJ K iT J4:=by
 intro Γ μ σ H env S x y dx dy d hK R rx ry e Q q
 unfold J4 at e
 split at e
 .rename_i i j
  by_cases h:N7 i j=true
  .rw[if_pos h] at e;cases e;cases rx;cases ry
   exact .inl ⟨_,_,rfl,rfl,by simpa [N7,VP] using h,q _ H (Same.refl H) (.int _)⟩
  .rw[if_neg h] at e;cases e
 .rename_i a k
  by_cases h:a≠[]/\1<=k/\k<2^60/\a.length*k.toNat<=1000000
  .rw[if_pos h] at e;cases e
   cases ry
   cases rx with
   |@tup p xs _ hp rp =>
    have hl:=rp.length
    refine .inr (.inl ⟨p,k,xs,rfl,rfl,hp,fun z=>h.1 (U4g.mp (by rw[←hl,z];rfl)),h.2.1,h.2.2.1,by rw[hl];exact U2b (big h.2.2.2),fun t H' sm ht=>?_⟩)
    obtain⟨R2,x2⟩:=R.grow sm
    exact q _ H' sm (.tup ht ((rp.rep _).ext x2))
  .rw[if_neg h] at e;cases e
 .rename_i k _ _
  obtain⟨a,e1,e⟩:=bind_some e
  by_cases h:-(2^63)<=k/\k<2^63/\a.length*k.toNat<=1000000
  .rw[if_pos h] at e;cases e
   cases ry
   obtain⟨p,xs,rfl,hp,rp⟩:=VR.list R rx e1
   refine .inr (.inr ⟨p,k,xs,rfl,rfl,hp,h.1,h.2.1,by rw[rp.length];exact U2b (big h.2.2),fun t ht=>?_⟩)
   obtain⟨R2,x2⟩:=R.grow (Cw ht (.lst (U03 k.toNat xs).flatten))
   exact q _ _ (Cw ht _) (.lst (R.ok ht true) (R.dead ht) Bk ((rp.rep _).ext x2))
  .rw[if_neg h] at e;cases e
 .cases e
def oIx(S:Store):D->D->Option D
 |x,.int i=>(Cg S x).bind fun ds=>atI ds i
 |_,_=>none
theorem lu{Γ:Fr}{μ:Mu}{H:Hp}{xs:List V}{ds:List D}{i:Int}{d:D}(r:VRs Γ μ H xs ds)(h:atI ds i=some d):∃x,atI xs i=some x/\VR Γ μ H x d:=by
 unfold atI at h ⊢
 obtain⟨j,e1,e2⟩:=bind_some h
 obtain⟨x,f1,f2⟩:=r.get e2
 exact⟨x,by rw[r.length,e1];exact f1,f2⟩
theorem BJ{K:U0a}:FJ K (rIx K) oIx:=by
 intro Γ μ σ H env S x y dx dy d hK R rx ry e Q q
 unfold oIx at e
 split at e
 .rename_i i
  obtain⟨ds,e1,e⟩:=bind_some e
  cases ry
  obtain⟨a,xs,rfl,hq,rs⟩:=VR.seq hK R rx e1
  obtain⟨v,f1,f2⟩:=lu rs e
  rcases hq with hq|hq
  .exact .inl ⟨a,xs,i,v,rfl,rfl,hq,f1,q _ H (Same.refl H) f2⟩
  .exact .inr (.inl ⟨a,xs,i,v,rfl,rfl,hq,f1,q _ H (Same.refl H) f2⟩)
 .cases e
def cut(xs:List D)(lo hi:Option Int):List D:=(xs.drop (HT.sIx xs.length 0 lo)).take (HT.sIx xs.length xs.length hi-HT.sIx xs.length 0 lo)
def oSl(S:Store)(x:D)(lo hi:Option Int):Option D:=match x with
 |.tup ds=>some (.tup (cut ds lo hi))
 |x=>(Cg S x).map fun ds=>.lst true (cut ds lo hi)
def nJ:V->Option Int->Option Int->Hp->VK->Prop:=fun x lo hi H Q=>∃(a:Addr)(xs:List V),x=.ref a/\H a=some (.tup xs)/\∀p H',Same H H'->H' p=some (.tup (JL xs lo hi))->Q (.ref p) H'
def nM(K:U0a):V->Option Int->Option Int->Hp->VK->Prop:=fun x lo hi H Q=>nJ x lo hi H Q∨nH K x lo hi H Q
theorem OD{X:Cx}:SlR X (nM X.K):=SlR.or jJ jK
theorem OJ{K:U0a}:iz K (nM K) oSl:=by
 intro Γ μ σ H env S x dx d l h hK R rx e Q q
 have key:∀{xs:List V} {ds:List D} {H':Hp},VRs Γ μ H' xs ds->VRs Γ μ H' (JL xs l h) (cut ds l h):=fun r=>by
  unfold JL cut
  rw[r.length]
  exact(r.drop _).take _
 unfold oSl at e
 split at e
 .cases e
  cases rx with
  |@tup p xs _ hp rp =>
   refine .inl ⟨p,xs,rfl,hp,fun t H' sm ht=>?_⟩
   obtain⟨R2,x2⟩:=R.grow sm
   exact q _ H' sm (.tup ht (key (rp.ext x2)))
 .rename_i ht
  obtain⟨ds,e1,e2⟩:=map_some e
  subst e2
  rcases VR.Yd hK R rx e1 with ⟨es,z⟩|⟨a,xs,rfl,hq,rs⟩
  .exact absurd z (ht es)
  .refine .inr ⟨a,xs,rfl,hq,fun t htt=>?_⟩
   obtain⟨R2,x2⟩:=R.grow (Cw htt (.lst (JL xs l h)))
   exact q _ _ (Cw htt _) (.lst (R.ok htt true) (R.dead htt) Bk (key (rs.ext x2)))
def Ew(S:Store):List D->Option D
 |[x]=>(Cg S x).map fun ds=>.int ds.length
 |_=>none
theorem Gq{K:U0a}:Jh K (uh K) Ew:=by
 intro Γ μ σ H env S xs ds d hK R rs e Q q
 unfold Ew at e
 split at e
 .obtain⟨es,e1,e2⟩:=map_some e
  subst e2
  obtain⟨v,rfl,r⟩:=rs.one
  obtain⟨a,xs,rfl,hq,rx⟩:=VR.seq hK R r e1
  refine⟨a,xs,rfl,hq,?_⟩
  rw[rx.length]
  exact q _ H (Same.refl H) (.int _)
 .cases e
def Ym(S:Store):List D->Option D
 |[x]=>(Cg S x).map fun ds=>.tup ds
 |_=>none
theorem aR{K:U0a}:Jh K (eG K) Ym:=by
 intro Γ μ σ H env S xs ds d hK R rs e Q q
 unfold Ym at e
 split at e
 .rename_i x
  obtain⟨es,e1,e2⟩:=map_some e
  subst e2
  obtain⟨v,rfl,r⟩:=rs.one
  rcases VR.Yd hK R r e1 with ⟨fs,rfl⟩|⟨a,xs,rfl,hq,rx⟩
  .cases r with
   |@tup p xs _ hp rp=>cases e1;exact⟨p,xs,rfl,.inr ⟨SqT.of hp,q _ H (Same.refl H) (.tup hp rp)⟩⟩
  .refine⟨a,xs,rfl,.inl ⟨hq,fun l hl=>?_⟩⟩
   obtain⟨R2,x2⟩:=R.grow (Cw hl (.tup xs))
   exact q _ _ (Cw hl _) (.tup Bk (rx.ext x2))
 .cases e
def Kv(S:Store):List D->Option D
 |[x]=>(listOf S x).bind fun ds=>(boolsOf ds).map fun bs=>.bl (bs.all id)
 |_=>none
where boolsOf:List D->Option (List Bool)
 |[]=>some []
 |.bl b::r=>(boolsOf r).map (b::·)
 |_=>none
@[simp] theorem Xp(bs:List Bool):Kv.boolsOf (bs.map D.bl)=some bs:=by
 induction bs with
 |nil=>rfl
 |cons b r ih=>rw[U0t,Kv.boolsOf,ih];rfl
theorem Qc{Γ:Fr}{μ:Mu}{H:Hp}:∀{xs:List V} {ds:List D} {bs:List Bool},VRs Γ μ H xs ds->Kv.boolsOf ds=some bs->xs=bs.map V.bl
 |_,[],_,.nil,h=>by cases h;rfl
 |_,.bl b::r,bs,.cons q t,h=>by
  rw[Kv.boolsOf] at h
  obtain⟨cs,e1,e2⟩:=map_some h
  subst e2
  cases q
  rw[U0t,Qc t e1]
 |_,.non::_,_,_,h=>by cases h
 |_,.int _::_,_,_,h=>by cases h
 |_,.str _::_,_,_,h=>by cases h
 |_,.ty _::_,_,_,h=>by cases h
 |_,.tup _::_,_,_,h=>by cases h
 |_,.lst _ _::_,_,_,h=>by cases h
 |_,.ref _::_,_,_,h=>by cases h
 |_,.scr _::_,_,_,h=>by cases h
 |_,.emp::_,_,_,h=>by cases h
def uq(K:U0a):List V->Hp->VK->Prop:=fun xs H Q=>∃(p:Addr)(bs:List Bool),xs=[.ref p]/\SqL K H p (bs.map V.bl)/\Q (.bl (bs.all id)) H
theorem YB{K:U0a}:Jh K (uq K) Kv:=by
 intro Γ μ σ H env S xs ds d hK R rs e Q q
 unfold Kv at e
 split at e
 .obtain⟨es,e1,e⟩:=bind_some e
  obtain⟨bs,e2,e3⟩:=map_some e
  subst e3
  obtain⟨v,rfl,r⟩:=rs.one
  obtain⟨a,xs,rfl,ha,rx⟩:=VR.list R r e1
  have:=Qc rx e2
  subst this
  exact⟨a,bs,rfl,SqL.of ha,q _ H (Same.refl H) (.bl _)⟩
 .cases e
def V8(_:Store):List D->Option D
 |[.int i,.int j]=>some (.int (if j>i then j else i))
 |_=>none
def V7(_:Store):List D->Option D
 |[.int i,.int j]=>some (.int (if j<i then j else i))
 |_=>none
def N8(_:Store):List D->Option D
 |[.int i]=>some (.int i)
 |[.bl k]=>some (.int (if k then 1 else 0))
 |_=>none
theorem dX{K:U0a}:Jh K (fun xs H Q=>∃i j,xs=[.int i,.int j]/\Q (.int (if j>i then j else i)) H) V8:=by
 intro Γ μ σ H env S xs ds d hK R rs e Q q
 unfold V8 at e
 split at e
 .cases e
  obtain⟨v,u,rfl,r1,r2⟩:=rs.two
  cases r1;cases r2
  exact⟨_,_,rfl,q _ H (Same.refl H) (.int _)⟩
 .cases e
theorem dW{K:U0a}:Jh K (fun xs H Q=>∃i j,xs=[.int i,.int j]/\Q (.int (if j<i then j else i)) H) V7:=by
 intro Γ μ σ H env S xs ds d hK R rs e Q q
 unfold V7 at e
 split at e
 .cases e
  obtain⟨v,u,rfl,r1,r2⟩:=rs.two
  cases r1;cases r2
  exact⟨_,_,rfl,q _ H (Same.refl H) (.int _)⟩
 .cases e
theorem Y7{K:U0a}:Jh K (fun xs H Q=>(∃i,xs=[.int i]/\Q (.int i) H)∨∃k,xs=[.bl k]/\Q (.int (if k then 1 else 0)) H) N8:=by
 intro Γ μ σ H env S xs ds d hK R rs e Q q
 unfold N8 at e
 split at e
 .cases e
  obtain⟨v,rfl,r1⟩:=rs.one
  cases r1
  exact .inl ⟨_,rfl,q _ H (Same.refl H) (.int _)⟩
 .cases e
  obtain⟨v,rfl,r1⟩:=rs.one
  cases r1
  exact .inr ⟨_,rfl,q _ H (Same.refl H) (.int _)⟩
 .cases e
def cg(K:U0a)(r:List V->Hp->VK->Prop)(g:Store->List D->Option (List D)):Prop:=∀(Γ:Fr)(μ:Mu)(σ:St)(H:Hp)(env:Env)(S:Store)(xs:List V)(ds es:List D),Γ.K=K->Rep Γ μ σ H env S->VRs Γ μ H xs ds->g S ds=some es ->
 ∀Q:VK,(∀l ys,H l=none->VRs Γ μ H ys es->Q (.ref l) (upd H l (.lst ys)))->r xs H Q
def RT(g:Store->List D->Option (List D))(a:Bh):Az:=fun env S=>(a env S).bind fun p=>(g p.2 p.1).map fun es=>(.lst true es,p.2)
theorem j9{K:U0a}{r:List V->Hp->VK->Prop}{g:Store->List D->Option (List D)}{f:Bh}(hs:cg K r g){σ:St}{H:Hp}{Q:VK}(h:wpE K (RT g f) σ H Q):tCB r (wpA K f) σ H Q:=by
 obtain⟨Γ,μ,env,S,d,S',hK,R,e,q⟩:=h
 obtain⟨⟨x,S1⟩,e1,e⟩:=bind_some e
 obtain⟨z,e4,e⟩:=map_some e
 cases e
 refine⟨Γ,μ,env,S,x,S1,hK,R,e1,fun v1 μ1 H1 x1 R1 r1=>?_⟩
 refine hs Γ μ1 σ H1 env S1 v1 x _ hK R1 r1 e4 Q fun l ys hl ry=>?_
 obtain⟨R4,x4⟩:=R1.grow (Cw hl (.lst ys))
 exact q _ μ1 _ (x1.trans x4) R4 (.lst (R1.ok hl true) (R1.dead hl) Bk (ry.ext x4))
section
variable{X:Cx}{x:Str}{p pos:Pos}{e:Expr}{es:List Expr}{T:String}{f:Bh}{r:List V->Hp->VK->Prop}{g:Store->List D->Option (List D)}
theorem kh(hc:DK X (.type T) r)(hsm:cg X.K r g)(hg:Gl X x)(hm:X.mg x=none)(hv:bootBuiltins x=some (.type T))(ha:JA X (e::es) f)(hn:x≠"__name__":=by decide)(hdb:(x==("__debug__":Str))=false:=by decide)
  (he:starEach (e::es) X.env=(false,eval e X.env)::starEach es X.env:=by rfl) (hpl:(backTo pos (starEach es X.env)).any (·.1)=false:=by rfl):JE X (.Call (.Name x p) (e::es) [] pos) (RT g f) :=
 ⟨PE.imp (K5 hc hg hm hv ha.pa hn hdb he hpl) fun _ _ _ h=>j9 hsm h⟩
end
def nList(S:Store):List D->Option (List D)
 |[x]=>Cg S x
 |_=>none
theorem dY{K:U0a}:cg K (jR K) nList:=by
 intro Γ μ σ H env S xs ds es hK R rs e Q q
 unfold nList at e
 split at e
 .obtain⟨v,rfl,r⟩:=rs.one
  obtain⟨a,ys,rfl,hq,ry⟩:=VR.seq hK R r e
  exact⟨a,ys,rfl,hq,fun l hl=>q l ys hl ry⟩
 .cases e
end VS
end
section
namespace VS
open PySem PySem.Spec L2
mutual
def toP:D->Option PyData
 |.non=>some .none
 |.bl b=>some (.bool b)
 |.int i=>some (.int i)
 |.str x=>some (.str x)
 |.tup ds=>(G7 ds).map .tuple
 |.lst _ ds=>(G7 ds).map .list
 |.emp=>some (.dict [])
 |.ref _=>none
 |.scr _=>none
 |.ty _=>none
 |.dref _=>none
 |.dcf _=>none
 |.dcm _=>none
def G7:List D->Option (List PyData)
 |[]=>some []
 |d::r=>(toP d).bind fun x=>(G7 r).bind fun xs=>some (x::xs)
end
mutual
theorem VR.tr{Γ:Fr}{μ:Mu}{H:Hp}:∀{v:V} {d:D} {p:PyData},VR Γ μ H v d->toP d=some p->Tr (fun _=>True) H v p
 |_,_,_,.non,h=>by rw[toP] at h;cases h;exact .non
 |_,_,_,.bl b,h=>by rw[toP] at h;cases h;exact .bl b
 |_,_,_,.int i,h=>by rw[toP] at h;cases h;exact .int i
 |_,_,_,.str x,h=>by rw[toP] at h;cases h;exact .str x
 |_,_,_,.ty _,h=>by rw[toP] at h;cases h
 |_,_,_,.tup hb t,h=>by
  rw[toP] at h
  obtain⟨ps,e1,e2⟩:=map_some h
  subst e2
  exact .tup trivial hb (VRs.tr t e1)
 |_,_,_,.lst _ _ hb t,h=>by
  rw[toP] at h
  obtain⟨ps,e1,e2⟩:=map_some h
  subst e2
  exact .lst trivial hb (VRs.tr t e1)
 |_,_,_,.ref _ _,h=>by rw[toP] at h;cases h
 |_,_,_,.scrK _,h=>by rw[toP] at h;cases h
 |_,_,_,.scrR _ _,h=>by rw[toP] at h;cases h
 |_,_,_,.emp _ _ hb,h=>by rw[toP] at h;cases h;exact .dct trivial hb
 |_,_,_,.dref _ _,h=>by rw[toP] at h;cases h
 |_,_,_,.dcf _ _ _,h=>by rw[toP] at h;cases h
theorem VRs.tr{Γ:Fr}{μ:Mu}{H:Hp}:∀{v:List V} {d:List D} {p:List PyData},VRs Γ μ H v d->G7 d=some p->JV (fun _=>True) H v p
 |_,_,_,.nil,h=>by rw[G7] at h;cases h;exact .nil
 |_,_,_,.cons r t,h=>by
  rw[G7] at h
  obtain⟨x,e1,h⟩:=bind_some h
  obtain⟨xs,e2,h⟩:=bind_some h
  cases h
  exact .cons (VR.tr r e1) (VRs.tr t e2)
end
def Ce(S:Store)(d:D):Option PyData:=(den 0 S d).bind toP
theorem VR.see{Γ:Fr}{μ:Mu}{σ:St}{H:Hp}{env:Env}{S:Store}{v:V}{d:D}{p:PyData}(R:Rep Γ μ σ H env S)(r:VR Γ μ H v d)(h:Ce S d=some p):Tr (fun _=>True) H v p:=by
 obtain⟨e,e1,e2⟩:=bind_some h
 have r1:VR ⟨Γ.K,fun _=>none,fun _=>True,[]⟩ [] H v e:=VR.den (Γ':=⟨Γ.K,fun _=>none,fun _=>True,[]⟩) R rfl (fun i ds a _ hs=>⟨hs,fun z=>⟨Hf,⟨fun _=>rfl,.inl trivial⟩⟩⟩) (fun m a _ _=>⟨fun _=>rfl,.inl trivial⟩) (fun a o _ _=>Hf) r e1
 exact r1.tr e2
def eqP(neg:Bool)(S:Store)(x y:D):Option D:=(Ce S x).bind fun p=>(Ce S y).bind fun q=>if (U2j p&&U2j q)=true then some (.bl (neg ^^ U7d p q)) else none
def oEq(neg:Bool)(S:Store):D->D->Option D
 |.int i,.int j=>some (.bl (neg ^^ decide (i=j)))
 |x,y=>eqP neg S x y
def uo:R2:=fun x y H Q=>∃(N N':Addr->Prop)(d e:PyData),Tr N H x d/\Tr N' H y e/\U2j d=true/\U2j e=true/\Q (.bl (U7d d e)) H
def ug:R2:=fun x y H Q=>∃(N N':Addr->Prop)(d e:PyData),Tr N H x d/\Tr N' H y e/\U2j d=true/\U2j e=true/\Q (.bl (!PyData.eqv d e)) H
def nT:R2:=fun x y H Q=>rEq x y H Q∨uo x y H Q
def cT:R2:=fun x y H Q=>rNe x y H Q∨ug x y H Q
theorem Jz{X:Cx}{k:Nat}(hr:Dz k X.A):OpR X (compareOp .Eq) nT:=OpR.or tM (pW hr)
theorem Jy{X:Cx}{k:Nat}(hr:Dz k X.A):OpR X (compareOp .NotEq) cT:=OpR.or tK (pR hr)
theorem Jw{K:U0a}:FJ K nT (oEq false):=by
 intro Γ μ σ H env S x y dx dy d hK R rx ry e Q q
 unfold oEq at e
 split at e
 .rename_i i j
  cases e;cases rx;cases ry
  refine .inl ⟨rfl,?_⟩
  have:decide (V.int i=V.int j)=decide (i=j):=by simp
  rw[this]
  exact q _ H (Same.refl H) (by simpa using VR.bl (decide (i=j)))
 .unfold eqP at e
  obtain⟨p,e1,e⟩:=bind_some e
  obtain⟨p2,e2,e⟩:=bind_some e
  by_cases h:(U2j p&&U2j p2)=true
  .rw[if_pos h] at e
   cases e
   rw[U0y] at h
   exact .inr ⟨_,_,p,p2,rx.see R e1,ry.see R e2,h.1,h.2,q _ H (Same.refl H) (by simpa using VR.bl (U7d p p2))⟩
  .rw[if_neg h] at e;cases e
theorem Ma{K:U0a}:FJ K cT (oEq true):=by
 intro Γ μ σ H env S x y dx dy d hK R rx ry e Q q
 unfold oEq at e
 split at e
 .rename_i i j
  cases e;cases rx;cases ry
  refine .inl ⟨rfl,?_⟩
  have:decide (V.int i=V.int j)=decide (i=j):=by simp
  rw[this]
  exact q _ H (Same.refl H) (by simpa using VR.bl (!decide (i=j)))
 .unfold eqP at e
  obtain⟨p,e1,e⟩:=bind_some e
  obtain⟨p2,e2,e⟩:=bind_some e
  by_cases h:(U2j p&&U2j p2)=true
  .rw[if_pos h] at e
   cases e
   rw[U0y] at h
   exact .inr ⟨_,_,p,p2,rx.see R e1,ry.see R e2,h.1,h.2,q _ H (Same.refl H) (by simpa using VR.bl (!PyData.eqv p p2))⟩
  .rw[if_neg h] at e;cases e
def VD(D:List (PyData×PyData))(_:Store):VS.D->Option VS.D
 |.int i=>some (.bl (lookup (.int i) D).isSome)
 |_=>none
def Rc(D:List (PyData×PyData))(_:Store):VS.D->Option VS.D
 |.int i=>match lookup (.int i) D with|some (.int j)=>some (.int j)|_=>none
 |_=>none
section
variable{X:Cx}{a:Expr}{fa:Az}{x:Str}{p pos:Pos}{dM:Addr}{D:List (PyData×PyData)}
theorem oE{K:U0a}{σ:St}{H:Hp}{Q:VK}(h:wpE K (eUn (VD D) fa) σ H Q):tOp (fun x y H Q=>∃(i:Int),x=.int i/\y=.ref dM/\Q (.bl (lookup (.int i) D).isSome) H) (wpE K fa) (tC (.ref dM)) σ H Q:=by
 obtain⟨Γ,μ,env,S,d,S',hK,R,e,q⟩:=h
 obtain⟨⟨y,S1⟩,e1,e⟩:=bind_some e
 obtain⟨z,e3,e⟩:=map_some e
 cases e
 refine⟨Γ,μ,env,S,y,S1,hK,R,e1,fun v1 μ1 H1 x1 R1 r1=>?_⟩
 dsimp only at e3
 unfold VD at e3
 split at e3
 .cases e3;cases r1;exact⟨_,rfl,rfl,q _ μ1 H1 x1 R1 (.bl _)⟩
 .cases e3
theorem gJ(hT:∀h,X.K.In h->U5a X.prog X.w h dM D)(ha:JE X a fa)(hg:Gl X x)(hm:X.mg x=some (.ref dM))(hk:behindInMarks .In (.Name x p)=false:=by with_unfolding_all rfl)(hd:(x==("__debug__":Str))=false:=by decide):JE X (.Compare a [.In] [.Name x p] pos) (eUn (VD D) fa) :=
 ⟨PE.imp (YH (fH hT) ha.pe (YG (v:=.ref dM) hg hm rfl hd) hk) fun _ _ _ h=>oE h⟩
theorem gH(hT:∀h,X.K.In h->U5a X.prog X.w h dM D)(hb:JE X a fa)(hg:Gl X x)(hm:X.mg x=some (.ref dM))(hs:QB a)(hd:(x==("__debug__":Str))=false:=by decide)
  (hgo:∀r,letTemporaryGo (.Name x p) (.ref dM) r=pure ():=by intro _;with_unfolding_all rfl):JE X (.Subscript (.Name x p) a pos) (eUn (Rc D) fa) :=
 ⟨PE.imp (fC hT (YG (v:=.ref dM) hg hm rfl hd) hb.pe hs hgo) fun σ H Q h=>by
  obtain⟨Γ,μ,env,S,d,S',hK,R,e,q⟩:=h
  obtain⟨⟨y,S1⟩,e1,e⟩:=bind_some e
  obtain⟨z,e3,e⟩:=map_some e
  cases e
  refine⟨Γ,μ,env,S,y,S1,hK,R,e1,fun v1 μ1 H1 x1 R1 r1=>?_⟩
  dsimp only at e3
  unfold Rc at e3
  split at e3
  .split at e3
   .rename_i hl
    cases e3;cases r1;exact⟨_,_,rfl,rfl,hl,q _ μ1 H1 x1 R1 (.int _)⟩
   .cases e3
  .cases e3⟩
end
def isT(T:String)(d:PyData):Bool:=match T with
 |"str"=>(match d with|.str _=>true|_=>false)
 |T=>VG T d
theorem kJ{K:U0a}(d:PyData):U29 K (.type (tyName d)) (.type "str")=some (isT "str" d):=by
 cases d with
 |none=>exact CZ (a:="NoneType") (r:=false) (by decide +kernel)
 |bool _=>exact CZ (a:="bool") (r:=false) (by decide +kernel)
 |int _=>exact CZ (a:="int") (r:=false) (by decide +kernel)
 |str _=>exact CZ (a:="str") (r:=true) (by decide +kernel)
 |list _=>exact CZ (a:="list") (r:=false) (by decide +kernel)
 |tuple _=>exact CZ (a:="tuple") (r:=false) (by decide +kernel)
 |dict _=>exact CZ (a:="dict") (r:=false) (by decide +kernel)
def JN(S:Store):List D->Option D
 |[x,.ty "int"]=>(Ce S x).map fun p=>.bl (isT "int" p)
 |[x,.ty "bool"]=>(Ce S x).map fun p=>.bl (isT "bool" p)
 |[x,.ty "tuple"]=>(Ce S x).map fun p=>.bl (isT "tuple" p)
 |[x,.ty "list"]=>(Ce S x).map fun p=>.bl (isT "list" p)
 |[x,.ty "str"]=>(Ce S x).map fun p=>.bl (isT "str" p)
 |[x,.tup [.ty "tuple",.ty "list"]]=>(Ce S x).bind fun p=>if noDict p=true then some (.bl (isSeq p)) else none
 |_=>none
def um(K:U0a):List V->Hp->VK->Prop:=fun xs H Q=>∃(x:V)(T:String)(t:Value)(b:Bool),xs=[x,.ty T]/\J5 K H x t/\U29 K t (.type T)=some b/\Q (.bl b) H
def sS:List V->Hp->VK->Prop:=fun xs H Q=>∃(N:Addr->Prop)(x:V)(d:PyData)(p:Addr),xs=[x,.ref p]/\H p=some (.tup [.ty "tuple",.ty "list"])/\Tr N H x d/\noDict d=true/\Q (.bl (isSeq d)) H
def Yt(K:U0a):List V->Hp->VK->Prop:=fun xs H Q=>um K xs H Q∨sS xs H Q
theorem Jp{X:Cx}:DK X (.builtin "isinstance") (Yt X.K):=DK.or Xo V2
theorem Kq{K:U0a}:Jh K (Yt K) JN:=by
 intro Γ μ σ H env S xs ds d hK R rs e Q q
 have go:∀(T:String)(x:D),(∀p:PyData,U29 K (.type (tyName p)) (.type T)=some (isT T p))->ds=[x,.ty T]->((Ce S x).map fun p=>D.bl (isT T p))=some d->Yt K xs H Q:=fun T x hk hd e'=>by
  subst hd
  obtain⟨p,e1,e2⟩:=map_some e'
  subst e2
  obtain⟨v,u,rfl,r1,r2⟩:=rs.two
  cases r2
  exact .inl ⟨v,T,_,_,rfl,(r1.see R e1).ty,hk p,q _ H (Same.refl H) (.bl _)⟩
 unfold JN at e
 split at e
 .exact go "int" _ kO rfl e
 .exact go "bool" _ gD rfl e
 .exact go "tuple" _ kit_tuple rfl e
 .exact go "list" _ gC rfl e
 .exact go "str" _ kJ rfl e
 .obtain⟨p,e1,e⟩:=bind_some e
  by_cases h:noDict p=true
  .rw[if_pos h] at e
   cases e
   obtain⟨v,u,rfl,r1,r2⟩:=rs.two
   cases r2 with
   |@tup a ys _ ha ry =>
    cases ry with
    |cons q1 t1 =>
     cases t1 with
     |cons q2 t2 =>
      cases t2;cases q1;cases q2
      exact .inr ⟨_,v,p,a,rfl,ha,r1.see R e1,h,q _ H (Same.refl H) (.bl _)⟩
  .rw[if_neg h] at e;cases e
 .cases e
def Eb(S:Store):List D->Option D
 |[x]=>(Ce S x).bind fun p=>if (p.showable&&decide (p.depth<=60)&&decide (p.shown.length<=1000000))=true then some (.str p.shown) else none
 |_=>none
def sO:List V->Hp->VK->Prop:=fun xs H Q=>∃(N:Addr->Prop)(v:V)(d:PyData),xs=[v]/\Tr N H v d/\d.showable=true/\d.depth<=60/\d.shown.length<=sizeLine/\Q (.str d.shown) H
theorem NQ{K:U0a}:Jh K sO Eb:=by
 intro Γ μ σ H env S xs ds d hK R rs e Q q
 unfold Eb at e
 split at e
 .obtain⟨p,e1,e⟩:=bind_some e
  by_cases h:(p.showable&&decide (p.depth<=60)&&decide (p.shown.length<=1000000))=true
  .rw[if_pos h] at e
   cases e
   simp only[U0y,decide_eq_true_eq] at h
   obtain⟨v,rfl,r1⟩:=rs.one
   exact⟨_,v,p,rfl,r1.see R e1,h.1.1,h.1.2,U2b (big h.2),q _ H (Same.refl H) (.str _)⟩
  .rw[if_neg h] at e;cases e
 .cases e
def FN(ns:List Int):List Int:=(SetP.once ns).mergeSort fun a b=>decide (a<=b)
theorem Rk{ns ms:List Int}(h:ms.Perm (SetP.once ns))(s:ms.Pairwise (·<=·)):ms=FN ns:=by
 have h2:(FN ns).Perm (SetP.once ns):=U5b _ _
 have s2:(FN ns).Pairwise (·<=·):=by
  have:=List.pairwise_mergeSort (le:=fun a b:Int=>decide (a<=b)) (by intro a b c h1 h2;simp at *;omega) (by intro a b;simp;omega) (SetP.once ns)
  exact this.imp fun h=>by simpa using h
 exact U4p.eq_of_pairwise (fun a b _ _ h1 h2=>U65 h1 h2) s s2 (h.trans h2.symm)
def R6(a:Az):Az:=fun env S=>(a env S).bind fun p=>(listOf p.2 p.1).bind fun ds=>(intsOf ds).bind fun ns=>if ns.length<1000/\(SetP.once ns).length<64 then some (.lst true ((FN ns).map .int),p.2) else none
theorem ZV{X:Cx}{a:Expr}{f:Az}{p p2 pos pos2:Pos}(hc:X.calm=true)(ha:JE X a f)(hg:Gl X "sorted")(hm:X.mg "sorted"=none)(hg2:Gl X "set")(hm2:X.mg "set"=none) 
  (he:starEach [a] X.env=[(false,eval a X.env)]:=by rfl) (he2:starEach [.Call (.Name "set" p2) [a] [] pos2] X.env=[(false,eval (.Call (.Name "set" p2) [a] [] pos2) X.env)]:=by rfl):JE X (.Call (.Name "sorted" p) [.Call (.Name "set" p2) [a] [] pos2] [] pos) (R6 f) :=
 ⟨PE.imp (W2 (Tn hc) hg hm cJ (Pz (K5 (gq hc) hg2 hm2 qp (Pz ha.pe Ra he) (he:=he) (hpl:=rfl)) Ra he2) (he:=he2) (hpl:=rfl)) fun σ H Q h=>by
  obtain⟨Γ,μ,env,S,d,S',hK,R,e,q⟩:=h
  obtain⟨⟨y,S1⟩,e1,e⟩:=bind_some e
  obtain⟨ds,e2,e⟩:=bind_some e
  obtain⟨ns,e3,e⟩:=bind_some e
  by_cases hl:ns.length<1000/\(SetP.once ns).length<64
  .rw[if_pos hl] at e
   cases e
   refine⟨Γ,μ,env,S,y,_,hK,R,e1,fun v1 μ1 H1 x1 R1 r1=>?_⟩
   obtain⟨b,xs,rfl,hb,rb⟩:=VR.list R1 r1 e2
   have:=Il e3
   subst this
   have:=rb.RQ
   subst this
   refine⟨b,ns,rfl,SqL.of hb,hl.1,fun s hs=>?_⟩
   obtain⟨R2,x2⟩:=R1.grow (Cw hs (VB X.prog X.w s (SetP.once ns)))
   refine⟨s,_,rfl,Bk,hl.2,fun l ms hl' hp hsrt=>?_⟩
   have:=Rk hp hsrt
   subst this
   obtain⟨R3,x3⟩:=R2.grow (Cw hl' (.lst ((FN ns).map V.int)))
   exact q _ μ1 _ (x1.trans (x2.trans x3)) R3 (.lst (R2.ok hl' true) (R2.dead hl') Bk (VRs.ints _))
  .rw[if_neg hl] at e;cases e⟩
def JZ(a:Bh):Az:=fun env S=>(a env S).bind fun p=>match p.1 with
 |[.int j]=>if r62 j/\j.toNat<=1000 then some (.lst true (upD 0 j.toNat),p.2) else none
 |[.int i,.int j]=>if r62 i/\r62 j/\(j-i).toNat<=1000 then some (.lst true (upD i (j-i).toNat),p.2) else none
 |_=>none
theorem jD{Γ:Fr}{μ:Mu}{H:Hp}(lo:Int)(n:Nat):VRs Γ μ H ((upTo lo n).map V.int) (upD lo n):=by
 have:upD lo n=(upTo lo n).map D.int:=by unfold upD L2.upTo;rw[U0f];rfl
 rw[this];exact VRs.ints _
def W0:List V->Hp->VK->Prop:=fun xs H Q=>(∃(n:Int),xs=[.int n]/\∀p,H p=none->Q (.ref p) (upd H p (.rng 0 n)))∨∃(a b:Int),xs=[.int a,.int b]/\∀p,H p=none->Q (.ref p) (upd H p (.rng a b))
theorem X6{X:Cx}:DK X (.type "range") W0:=DK.or Xn Xm
theorem Wi{K:U0a}{f:Bh}{σ:St}{H:Hp}{Q:VK} (h:∃Γ μ env S ds S',Γ.K=K/\Rep Γ μ σ H env S/\f env S=some (ds,S')/\∃lo n,((∃j,ds=[.int j]/\r62 j/\j.toNat<=1000/\lo=0/\n=j.toNat)∨∃i j,ds=[.int i,.int j]/\r62 i/\r62 j/\(j-i).toNat<=1000/\lo=i/\n=(j-i).toNat) /\
   ∀μ' H',Ext μ H μ' H'->Rep Γ μ' σ H' env S'->∀l,H' l=none->Q (.ref l) (upd H' l (.lst ((upTo lo n).map V.int)))) :
  tCB (fun xs H Q=>∃(r:Addr)(lo hi:Int),xs=[.ref r]/\H r=some (.rng lo hi)/\-(2^62)<=lo/\lo<2^62/\-(2^62)<=hi/\hi<2^62/\(hi-lo).toNat<=1000/\∀l,H l=none->Q (.ref l) (upd H l (.lst ((upTo lo (hi-lo).toNat).map V.int)))) (iK (tCB W0 (wpA K f)) mz) σ H Q:=by
 obtain⟨Γ,μ,env,S,ds,S',hK,R,e1,lo,n,hc,q⟩:=h
 refine⟨Γ,μ,env,S,ds,S',hK,R,e1,fun vs μ1 H1 x1 R1 r1=>?_⟩
 rcases hc with ⟨j,rfl,h1,h2,rfl,rfl⟩|⟨i,j,rfl,h1,h2,h3,rfl,rfl⟩
 .obtain⟨v,rfl,r⟩:=r1.one
  cases r
  refine .inl ⟨j,rfl,fun p hp=>⟨p,0,j,rfl,Bk,by decide,by decide,h1.1,h1.2,by simpa using h2,fun l hl=>?_⟩⟩
  obtain⟨R2,x2⟩:=R1.grow (Cw hp (.rng 0 j))
  have:=q μ1 _ (x1.trans x2) R2 l hl
  simpa using this
 .obtain⟨v,u,rfl,r,r'⟩:=r1.two
  cases r
  cases r'
  refine .inr ⟨lo,j,rfl,fun p hp=>⟨p,lo,j,rfl,Bk,h1.1,h1.2,h2.1,h2.2,h3,fun l hl=>?_⟩⟩
  obtain⟨R2,x2⟩:=R1.grow (Cw hp (.rng lo j))
  exact q μ1 _ (x1.trans x2) R2 l hl
section
variable{X:Cx}{a:Expr}{as:List Expr}{f:Bh}{p p2 pos pos2:Pos}
theorem X3(hc:X.calm=true)(ha:JA X (a::as) f)(hg:Gl X "list")(hm:X.mg "list"=none)(hg2:Gl X "range")(hm2:X.mg "range"=none)
  (he:starEach (a::as) X.env=(false,eval a X.env)::starEach as X.env:=by rfl) (hpl:(backTo pos2 (starEach as X.env)).any (·.1)=false:=by rfl) (he2:starEach [.Call (.Name "range" p2) (a::as) [] pos2] X.env=[(false,eval (.Call (.Name "range" p2) (a::as) [] pos2) X.env)]:=by rfl) :
  JE X (.Call (.Name "list" p) [.Call (.Name "range" p2) (a::as) [] pos2] [] pos) (JZ f) :=
 ⟨PE.imp (K5 (Tp hc) hg hm TY (Pz (K5 X6 hg2 hm2 iC ha.pa (he:=he) (hpl:=hpl)) Ra he2) (he:=he2) (hpl:=rfl)) fun σ H Q h=>by
  obtain⟨Γ,μ,env,S,d,S',hK,R,e,q⟩:=h
  obtain⟨⟨ds,S1⟩,e1,e⟩:=bind_some e
  refine Wi ⟨Γ,μ,env,S,ds,S1,hK,R,e1,?_⟩
  have fin:∀lo n,d=.lst true (upD lo n)->S1=S'->∀μ' H',Ext μ H μ' H'->Rep Γ μ' σ H' env S1->∀l,H' l=none->Q (.ref l) (upd H' l (.lst ((upTo lo n).map V.int))):=fun lo n hd hs μ' H' x' R' l hl=>by
   subst hd hs
   obtain⟨R2,x2⟩:=R'.grow (Cw hl (.lst ((upTo lo n).map V.int)))
   exact q _ μ' _ (x'.trans x2) R2 (.lst (R'.ok hl true) (R'.dead hl) Bk (jD lo n))
  dsimp only at e
  split at e
  .rename_i j
   by_cases hj:r62 j/\j.toNat<=1000
   .rw[if_pos hj] at e;cases e
    exact⟨0,_,.inl ⟨j,rfl,hj.1,hj.2,rfl,rfl⟩,fin _ _ rfl rfl⟩
   .rw[if_neg hj] at e;cases e
  .rename_i i j
   by_cases hj:r62 i/\r62 j/\(j-i).toNat<=1000
   .rw[if_pos hj] at e;cases e
    exact⟨i,_,.inr ⟨i,j,rfl,hj.1,hj.2.1,hj.2.2,rfl,rfl⟩,fin _ _ rfl rfl⟩
   .rw[if_neg hj] at e;cases e
  .cases e⟩
end
end VS
end
section
namespace VS
open PySem PySem.Spec L2
def RW(K:U0a):Sp:=fun vs H Q _=>∃(l:Addr)(ns:List Int),vs=[.ref l]/\Only H/\ns.length<=63/\SqL K H l (ns.map V.int)/\∀H',Q (.bl true) H'
theorem qL{K:U0a}{sem:Cu}(h:∀ns:List Int,ns.length<=63->sem [.scr ns]=some (.bl true)):∀vs H Q E,RW K vs H Q E->spP K sem 1 vs H Q E:=by
 intro vs H Q E ⟨l,ns,e,hO,hl,hq,q⟩
 subst e
 refine⟨fun _=>False,[.scr ns],.bl true,rfl,.cons ?_ .nil,h ns hl,fun v H' sm rv=>?_⟩
 .rcases hq with hq|hq
  .rcases hq with hq|⟨o,hq⟩
   .rcases hO l with z|⟨o,xs,z⟩
    .rw[z] at hq;cases hq
    .rw[z] at hq;cases hq
   .exact .scrR Hf hq
  .exact .scrK fun H'=>.inr hq
 .cases rv;exact q H'
theorem lR{P:Program}{w:World}{K:U0a}{mg:Str->Option Value}{base:Heap}{k:Nat}{f:Addr}{fd:FuncData}{ps:List Str}{n:Nat}(hn:n=ps.length):DG P w K mg base CX0 k f fd ps (spP K (fun _=>none) n) :=
 ⟨fun vs H Q E ⟨_,_,_,hl,_⟩=>hl.trans hn,fun A outer s H args us vs Q E hr e0 hb hv ⟨_,_,_,_,_,e,_⟩=>by cases e⟩
end VS
end
section
namespace VS
open PySem L2
theorem G9(a b:BX)(env:VS.Env)(S:Store):VS.Bq a b env S=(a env S).bind fun p=>match p.1 with|.nx=>b p.2.1 p.2.2|f=>some (f,p.2.1,p.2.2):=rfl
theorem DX(i:Nat)(a:Az)(env:VS.Env)(S:Store):VS.Bx i a env S=(a env S).bind fun p=>some (.nx,env.set i (some p.1),p.2):=rfl
theorem Cq(a:Az)(env:VS.Env)(S:Store):VS.Cy a env S=(a env S).bind fun p=>some (.ret p.1,env,p.2):=rfl
theorem HW(c:Ec)(a b:BX)(env:VS.Env)(S:Store):VS.sIf c a b env S=(c env S).bind fun p=>if p.1=true then a env p.2 else b env p.2:=rfl
theorem jO(a:Az)(g:JQ)(env:VS.Env)(S:Store):VS.Ye a g env S=(a env S).bind fun p=>(g p.1 env).bind fun e=>some (.nx,e,p.2):=rfl
theorem JB(a:Az)(env:VS.Env)(S:Store):VS.Ig a env S=(a env S).bind fun p=>some (.nx,env,p.2):=rfl
theorem Gs(env:VS.Env)(S:Store):VS.FW  env S=some (.nx,env,S):=rfl
theorem aY(env:VS.Env)(S:Store):VS.RZ  env S=none:=rfl
theorem Gu(it:Ji)(g:JQ)(b:BX)(env:VS.Env)(S:Store):VS.K7 it g b env S=(it env S).bind fun p=>loop p.1.2 g b p.1.1 env p.2:=rfl
theorem Lx(v o i:Az)(env:VS.Env)(S:Store):VS.Ky v o i env S=(v env S).bind fun p=>(o env p.2).bind fun q=>(i env q.2).bind fun r=>match q.1,r.1 with
 |.ref j,.int k=>(match r.2[j]? with
  |some (some ds)=>(ixN ds.length k).bind fun n=>some (.nx,env,r.2.set j (some (ds.set n p.1)))
  |_=>none)
 |_,_=>none:=rfl
theorem BP(i:Nat)(env:VS.Env)(S:Store):VS.Ab i env S=(env[i]?.join).map fun d=>(d,S):=rfl
theorem Ed(d:D)(env:VS.Env)(S:Store):VS.eC d env S=some (d,S):=rfl
theorem BW(g:Store->D->D->Option D)(a b:Az)(env:VS.Env)(S:Store):VS.eOp g a b env S=(a env S).bind fun p=>(b env p.2).bind fun q=>(g q.2 p.1 q.1).map fun d=>(d,q.2):=rfl
theorem qd(g:Store->D->Option D)(a:Az)(env:VS.Env)(S:Store):VS.eUn g a env S=(a env S).bind fun p=>(g p.2 p.1).map fun d=>(d,p.2):=rfl
theorem CQ(env:VS.Env)(S:Store):VS.Af  env S=some ([],S):=rfl
theorem Ao(a:Az)(r:Bh)(env:VS.Env)(S:Store):VS.Aa a r env S=(a env S).bind fun p=>(r env p.2).bind fun q=>some (p.1::q.1,q.2):=rfl
theorem Ey(g:Store->List D->Option D)(a:Bh)(env:VS.Env)(S:Store):VS.eCB g a env S=(a env S).bind fun p=>(g p.2 p.1).map fun d=>(d,p.2):=rfl
theorem Q8(a b:Az)(env:VS.Env)(S:Store):VS.Qh a b env S=(a env S).bind fun p=>match p.1 with|.bl true=>b env p.2|.bl false=>some (.bl false,p.2)|_=>none:=rfl
theorem lW(a:Az)(env:VS.Env)(S:Store):VS.cY a env S=(a env S).bind fun p=>match p.1 with|.bl c=>some (.bl (!c),p.2)|_=>none:=rfl
theorem bZ(g g':Store->D->D->Option D)(a b c:Az)(env:VS.Env)(S:Store):VS.Ri g g' a b c env S=(a env S).bind fun p=>(b env p.2).bind fun q=>(g q.2 p.1 q.1).bind fun z=>match z with
 |.bl true=>(c env q.2).bind fun r=>(g' r.2 q.1 r.1).map fun d=>(d,r.2)
 |.bl false=>some (.bl false,q.2)
 |_=>none:=rfl
theorem Df(a:Az)(env:VS.Env)(S:Store):VS.Bo a env S=(a env S).bind fun p=>match p.1 with|.bl c=>some (c,p.2)|_=>none:=rfl
theorem Y0(a b:Ec)(env:VS.Env)(S:Store):VS.Sh a b env S=(a env S).bind fun p=>if p.1=true then b env p.2 else some (false,p.2):=rfl
theorem RV(a b:Ec)(env:VS.Env)(S:Store):VS.tOr a b env S=(a env S).bind fun p=>if p.1=true then some (true,p.2) else b env p.2:=rfl
theorem Sx(a:Ec)(env:VS.Env)(S:Store):VS.JK a env S=(a env S).bind fun p=>some (!p.1,p.2):=rfl
theorem fK(env:VS.Env)(S:Store):VS.GX  env S=some (none,S):=rfl
theorem fJ(a:Az)(env:VS.Env)(S:Store):VS.GR a env S=(a env S).bind fun p=>match p.1 with|.int i=>some (some i,p.2)|_=>none:=rfl
theorem aA(g:Store->D->Option Int->Option Int->Option D)(a:Az)(l h:Qk)(env:VS.Env)(S:Store):VS.eSl g a l h env S=(a env S).bind fun p=>(l env p.2).bind fun q=>(h env q.2).bind fun r=>(g r.2 p.1 q.1 r.1).map fun d=>(d,r.2):=rfl
theorem Dm(a:Bh)(env:VS.Env)(S:Store):VS.Bp a env S=(a env S).bind fun p=>some (.lst true p.1,p.2):=rfl
theorem TV(a:Bh)(env:VS.Env)(S:Store):VS.K9 a env S=(a env S).bind fun p=>some (.ref p.2.length,p.2++[some p.1]):=rfl
theorem G4(a:Bh)(env:VS.Env)(S:Store):VS.BR a env S=(a env S).bind fun p=>some (.tup p.1,p.2):=rfl
theorem Fb(sem:Cu)(a:Bh)(env:VS.Env)(S:Store):VS.BL sem a env S=(a env S).bind fun p=>(CG 0 p.2 p.1).bind fun ds=>(sem (Br ds)).bind fun r=>if (Ay p.1||newD r)=true then some (r,p.2) else none:=rfl
theorem Uk(sem:Kw)(a:Bh)(env:VS.Env)(S:Store):VS.Bj sem a env S=(a env S).bind fun p=>match p.1 with
 |.ref i::rest=>(match p.2[i]? with
  |some (some cs)=>(intsOf cs).bind fun ns=>(CG 0 (p.2.set i none) rest).bind fun ds=>(sem ns (Br ds)).bind fun r=>if (Ay rest||newD r.1)=true then some (r.1,p.2.set i (some (r.2.map D.int))) else none
  |_=>none)
 |_=>none:=rfl
theorem bY(sem:Cu)(a:Bh)(env:VS.Env)(S:Store):VS.HX sem a env S=(BL sem a env S).bind fun p=>(N5 p.2.length p.1).bind fun q=>some (q.1,p.2++[some q.2]):=rfl
theorem WX(g:Store->D->List D->Option (D×Store))(o:Az)(a:Bh)(env:VS.Env)(S:Store):VS.GZ g o a env S=(o env S).bind fun p=>if (listOf p.2 p.1).isSome then (a env p.2).bind fun q=>g q.2 p.1 q.1 else none:=rfl
theorem gY(g:Store->List D->Option (List D))(a:Bh)(env:VS.Env)(S:Store):VS.RT g a env S=(a env S).bind fun p=>(g p.2 p.1).map fun es=>(.lst true es,p.2):=rfl
theorem V0(a:Bh)(env:VS.Env)(S:Store):VS.JZ a env S=(a env S).bind fun p=>match p.1 with
 |[.int j]=>if r62 j/\j.toNat<=1000 then some (.lst true (upD 0 j.toNat),p.2) else none
 |[.int i,.int j]=>if r62 i/\r62 j/\(j-i).toNat<=1000 then some (.lst true (upD i (j-i).toNat),p.2) else none
 |_=>none:=rfl
theorem Xk(a:Az)(env:VS.Env)(S:Store):VS.R6 a env S=(a env S).bind fun p=>(listOf p.2 p.1).bind fun ds=>(intsOf ds).bind fun ns=>if ns.length<1000/\(SetP.once ns).length<64 then some (.lst true ((FN ns).map .int),p.2) else none:=rfl
theorem Gv(a:Az)(env:VS.Env)(S:Store):VS.Ez a env S=(a env S).bind fun p=>(Cg p.2 p.1).map fun ds=>((ds,idOf ds p.1),p.2):=rfl
theorem gQ(a:Bh)(env:VS.Env)(S:Store):VS.V5 a env S=(a env S).bind fun p=>match p.1 with
 |[.tup xs,.tup ys]=>some ((DW xs ys,[]),p.2)
 |[x,.tup ys]=>(VS.listOf p.2 x).bind fun xs=>some ((DW xs ys,VS.idOf xs x),p.2)
 |[x,y]=>(listOf p.2 x).bind fun xs=>(listOf p.2 y).bind fun ys=>some ((DW xs ys,idOf xs x++idOf ys y),p.2)
 |_=>none:=rfl
theorem Dg(np n:Nat)(f:BX)(ds:List D):VS.Eu np n f ds=if ds.length=np then (f (ds.map some++U03 (n-ds.length) none) []).bind fun p=>match p.1 with|.ret d=>den 0 p.2.2 d|.nx=>some .non|_=>none else none:=rfl
theorem Kr(np n:Nat)(f:BX)(ns:List Int)(ds:List D):VS.runM np n f ns ds=if ds.length+1=np then (f (some (.ref 0)::(ds.map some++U03 (n-1-ds.length) none)) [some (ns.map D.int)]).bind fun p=>match p.2.2[0]? with
 |some (some cs)=>(intsOf cs).bind fun ms=>(match p.1 with|.ret d=>(den 1 p.2.2 d).map fun r=>(r,ms)|.nx=>some (.non,ms)|_=>none)
 |_=>none
 else none:=rfl
theorem Eh(i:Nat)(d:D)(env:VS.Env):Pat.sem (.nm i) d env=some (env.set i (some d)):=by rw[Pat.sem]
theorem Kz(ps:List Pat)(ds:List D)(env:VS.Env):Pat.sem (.tp ps) (.tup ds) env=Gm ps ds env:=by rw[Pat.sem]
theorem J8(env:VS.Env):Gm [] [] env=some env:=by rw[Gm]
theorem Hj(p:Pat)(ps:List Pat)(d:D)(ds:List D)(env:VS.Env):Gm (p::ps) (d::ds) env=(Pat.sem p d env).bind fun e=>Gm ps ds e:=by rw[Gm]
@[simp] theorem vO(S:Store):calm [] S=True:=by simp[calm]
@[simp] theorem vN(i:Nat)(ds:List D)(S:Store):calm [(i,ds)] S=(S[i]?=some (some ds)):=by simp[calm]
@[simp] theorem vf{α:Type}(S:List α)(a:α):(S++[a])[S.length]?=some a:=by simp
@[simp] theorem vX{α:Type}(S:List α)(a b:α):(S++[a]).set S.length b=S++[b]:=by simp
theorem Q6{n k:Nat}(h:k<n):ixN n (k:Int)=some k:=by
 unfold ixN
 rw[if_pos (by omega),if_pos (by omega)];simp
@[simp] theorem tX{n:Nat}:ixN (n+1) 0=some 0:=Q6 (k:=0) (by omega)
@[simp] theorem tW{n:Nat}:ixN (n+2) 1=some 1:=Q6 (k:=1) (by omega)
@[simp] theorem tV{n:Nat}:ixN (n+3) 2=some 2:=Q6 (k:=2) (by omega)
@[simp] theorem tU{n:Nat}:ixN (n+4) 3=some 3:=Q6 (k:=3) (by omega)
@[simp] theorem w6{α:Type}(a:α)(l:List α):atI (a::l) 0=some a:=by unfold atI;rw[U0e,tX];rfl
@[simp] theorem vq{α:Type}(a b:α)(l:List α):atI (a::b::l) 1=some b:=by unfold atI;rw[U0e,U0e,tW];rfl
@[simp] theorem vp{α:Type}(a b c:α)(l:List α):atI (a::b::c::l) 2=some c:=by unfold atI;rw[U0e,U0e,U0e,tV];rfl
@[simp] theorem vo{α:Type}(a b c d:α)(l:List α):atI (a::b::c::d::l) 3=some d:=by unfold atI;rw[U0e,U0e,U0e,U0e,tU];rfl
theorem kE{w:List (Nat×List D)}{g:JQ}{b:BX}(I:Nat->Env->Store->Prop)(R:D->Store->Prop){ds:List D}{env:Env}{S:Store}(h0:I 0 env S)(hc:∀i env S,I i env S->calm w S)
  (step:∀i d env S,ds[i]?=some d->I i env S->∃env1,g d env=some env1/\((∃env2 S2,(b env1 S=some (.nx,env2,S2)∨b env1 S=some (.cnt,env2,S2))/\I (i+1) env2 S2)∨∃r env2 S2,b env1 S=some (.ret r,env2,S2)/\R r S2)) :
  (∃env' S',loop w g b ds env S=some (.nx,env',S')/\I ds.length env' S')∨∃r env' S',loop w g b ds env S=some (.ret r,env',S')/\R r S':=by
 have key:∀(l:List D)(i:Nat)(env:Env)(S:Store),ds.drop i=l->i<=ds.length->I i env S->(∃env' S',loop w g b l env S=some (.nx,env',S')/\I ds.length env' S')∨∃r env' S',loop w g b l env S=some (.ret r,env',S')/\R r S':=by
  intro l
  induction l with
  |nil =>
   intro i env S hd hi h
   have:i=ds.length:=by
    have:=congrArg U46 hd
    simp at this;omega
   subst this
   exact .inl ⟨env,S,by unfold loop;rw[if_pos (hc _ _ _ h)],h⟩
  |cons d r ih =>
   intro i env S hd hi h
   have hlt:i<ds.length:=by
    have:=congrArg U46 hd
    simp at this;omega
   have e:ds[i]?=some d:=by
    rw[U21 hlt] at hd
    rw[U0q hlt,(U6n hd).1]
   have hr:ds.drop (i+1)=r:=by
    rw[U21 hlt] at hd
    exact(U6n hd).2
   obtain⟨env1,e1,q⟩:=step i d env S e h
   rcases q with ⟨env2,S2,e2,q⟩|⟨v,env2,S2,e2,q⟩
   .have e3:loop w g b (d::r) env S=loop w g b r env2 S2:=by
     rcases e2 with e2|e2<;>(rw[loop,if_pos (hc _ _ _ h),e1];show(b env1 S).bind _=_;rw[e2];rfl)
    rw[e3]
    exact ih (i+1) env2 S2 hr hlt q
   .refine .inr ⟨v,env2,S2,?_,q⟩
    rw[loop,if_pos (hc _ _ _ h),e1]
    show(b env1 S).bind _=_
    rw[e2];rfl
 exact key ds 0 env S (by simp) (U2y _) h0
theorem GQ{w:List (Nat×List D)}{g:JQ}{b:BX}(I:Nat->Env->Store->Prop){ds:List D}{env:Env}{S:Store}(h0:I 0 env S)(hc:∀i env S,I i env S->calm w S)
  (step:∀i d env S,ds[i]?=some d->I i env S->∃env1,g d env=some env1/\∃env2 S2,b env1 S=some (.nx,env2,S2)/\I (i+1) env2 S2) :
  ∃env' S',loop w g b ds env S=some (.nx,env',S')/\I ds.length env' S':=by
 rcases kE I (fun _ _=>False) h0 hc (fun i d env S e h=>by
  obtain⟨env1,e1,env2,S2,e2,q⟩:=step i d env S e h
  exact⟨env1,e1,.inl ⟨env2,S2,.inl e2,q⟩⟩) with h|⟨_,_,_,_,h⟩
 .exact h
 .exact h.elim
theorem comp_map{w:List (Nat×List D)}{e0:Env}{g:JQ}{t:Ec}{f:Az}{S:Store}(hc:calm w S)(p:D->Bool)(F:D->D):∀(ds ys:List D),ys.length+ds.length<=1000000 ->
  (∀d∈ds,∃e1,g d e0=some e1/\t e1 S=some (p d,S)/\(p d=true->f e1 S=some (F d,S)))->FP w e0 g t f ds ys S=some (ys++(ds.filter p).map F,S)
 |[],ys,hl,_=>by unfold FP;rw[if_pos ⟨hc,by simpa using hl⟩];simp
 |d::r,ys,hl,h=>by
  rw[U0e] at hl
  obtain⟨e1,h1,h2,h3⟩:=h d U0g
  unfold FP
  rw[if_pos ⟨hc,by omega⟩,h1]
  show(t e1 S).bind _=_
  rw[h2]
  show(if p d=true then _ else _)=_
  have hr:∀x∈r,_:=fun x hx=>h x (U0z _ hx)
  by_cases hp:p d=true
  .rw[if_pos hp,h3 hp]
   show FP w e0 g t f r (ys++[F d]) S=_
   rw[comp_map hc p F r (ys++[F d]) (by rw[U0n];simp;omega) hr,List.filter_cons_of_pos hp]
   simp
  .rw[if_neg hp,List.filter_cons_of_neg hp]
   exact comp_map hc p F r ys (by omega) hr
theorem WY{w:List (Nat×List D)}{e0:Env}{g:JQ}{f:Az}{S:Store}(hc:calm w S)(F:D->D)(ds:List D)(hl:ds.length<=1000000)(h:∀d∈ds,∃e1,g d e0=some e1/\f e1 S=some (F d,S)):FP w e0 g Ga f ds [] S=some (ds.map F,S):=by
 have:=comp_map (t:=Ga) hc (fun _=>true) F ds [] (by simpa using hl) (fun d hd=>let ⟨e1,h1,h2⟩:=h d hd;⟨e1,h1,rfl,fun _=>h2⟩)
 rw[this,U11,U5c.mpr (by simp)]
theorem gj{w:List (Nat×List D)}{e0:Env}{g:JQ}{f:Az}(I:Nat->List D->Store->Prop){ds:List D}{S:Store}(h0:I 0 [] S)(hc:∀i ys S,I i ys S->calm w S/\ys.length<=1000000)
  (step:∀i d ys S,ds[i]?=some d->I i ys S->∃e1 y S2,g d e0=some e1/\f e1 S=some (y,S2)/\I (i+1) (ys++[y]) S2):∃ys S',FP w e0 g Ga f ds [] S=some (ys,S')/\I ds.length ys S':=by
 have key:∀(l:List D)(i:Nat)(ys:List D)(S:Store),ds.drop i=l->i<=ds.length->I i ys S->∃ys' S',FP w e0 g Ga f l ys S=some (ys',S')/\I ds.length ys' S':=by
  intro l
  induction l with
  |nil =>
   intro i ys S hd hi h
   have:i=ds.length:=by
    have:=congrArg U46 hd
    simp at this;omega
   subst this
   exact⟨ys,S,by unfold FP;rw[if_pos (hc _ _ _ h)],h⟩
  |cons d r ih =>
   intro i ys S hd hi h
   have hlt:i<ds.length:=by
    have:=congrArg U46 hd
    simp at this;omega
   have e:ds[i]?=some d:=by
    rw[U21 hlt] at hd
    rw[U0q hlt,(U6n hd).1]
   have hr:ds.drop (i+1)=r:=by
    rw[U21 hlt] at hd
    exact(U6n hd).2
   obtain⟨e1,y,S2,h1,h2,h3⟩:=step i d ys S e h
   obtain⟨ys',S',h4,h5⟩:=ih (i+1) (ys++[y]) S2 hr hlt h3
   refine⟨ys',S',?_,h5⟩
   unfold FP
   rw[if_pos (hc _ _ _ h),h1]
   simp only[U0c,Ga,if_true,h2]
   exact h4
 exact key ds 0 [] S (by simp) (U2y _) h0
theorem Mw{α:Type}{w:List (Nat×List D)}{e0:VS.Env}{g:JQ}{t:Ec}{f:Az}{S:Store}(hc:calm w S)(enc:α->D)(p:α->Bool)(F:α->D):∀(l:List α)(ys:List D),ys.length+l.length<=1000000 ->
  (∀a∈l,∃e1,g (enc a) e0=some e1/\t e1 S=some (p a,S)/\(p a=true->f e1 S=some (F a,S)))->FP w e0 g t f (l.map enc) ys S=some (ys++(l.filter p).map F,S)
 |[],ys,hl,_=>by rw[U1u,FP,if_pos ⟨hc,by simpa using hl⟩];simp
 |d::r,ys,hl,h=>by
  rw[U0e] at hl
  obtain⟨e1,h1,h2,h3⟩:=h d U0g
  have hr:∀x∈r,_:=fun x hx=>h x (U0z _ hx)
  rw[U0t,FP,if_pos ⟨hc,by omega⟩,h1]
  simp only[U0c,h2]
  by_cases hp:p d=true
  .simp only[hp,if_true,h3 hp,U0c]
   rw[Mw hc enc p F r (ys++[F d]) (by rw[U0n];simp;omega) hr,List.filter_cons_of_pos hp]
   simp
  .rw[if_neg hp,List.filter_cons_of_neg hp]
   exact Mw hc enc p F r ys (by omega) hr
theorem Mv{α:Type}{w:List (Nat×List D)}{e0:VS.Env}{g:JQ}{f:Az}{S:Store}(hc:calm w S)(enc F:α->D)(l:List α)(hl:l.length<=1000000)(h:∀a∈l,∃e1,g (enc a) e0=some e1/\f e1 S=some (F a,S)):FP w e0 g VS.Ga f (l.map enc) [] S=some (l.map F,S):=by
 have:=Mw (t:=VS.Ga) hc enc (fun _=>true) F l [] (by simpa using hl) (fun d hd=>let ⟨e1,h1,h2⟩:=h d hd;⟨e1,h1,rfl,fun _=>h2⟩)
 rw[this,U11,U5c.mpr (by simp)]
theorem Ko(lo:Int)(n:Nat):(upD lo n).length=n:=by unfold upD;rw[U0i,U4y]
theorem Ml{lo:Int}{n i:Nat}{d:D}(h:(upD lo n)[i]?=some d):i<n/\d=.int (lo+i):=by
 have hi:i<n:=by rw[←Ko lo n];exact(U0l.mp h).1
 unfold upD at h
 rw[U05,List.getElem?_range hi] at h
 cases h
 exact⟨hi,rfl⟩
theorem aj{j:Int}(h0:-1000000<=j)(h1:j<=1000000):r62 j:=⟨Int.le_trans (by decide) h0,Int.lt_of_le_of_lt h1 (by decide)⟩
theorem Vc{f:Bh}{env:VS.Env}{S S':Store}{j:Int}(n:Nat)(hf:f env S=some ([.int j],S'))(hn:j.toNat=n)(h0:-1000000<=j)(h1:j<=1000000):Ht f env S=some ((upD 0 n,[]),S'):=by
 unfold Ht
 rw[hf,U0c]
 show(if r62 j then some ((upD 0 j.toNat,([]:List (Nat×List D))),S') else none)=_
 rw[if_pos (aj h0 h1),hn]
theorem Vb{f:Bh}{env:VS.Env}{S S':Store}{i j:Int}(n:Nat)(hf:f env S=some ([.int i,.int j],S'))(hn:(j-i).toNat=n)(h0:r62 i)(h1:r62 j):Hs f env S=some ((upD i n,[]),S'):=by
 unfold Hs
 rw[hf,U0c]
 show(if r62 i/\r62 j then some ((upD i (j-i).toNat,([]:List (Nat×List D))),S') else none)=_
 rw[if_pos ⟨h0,h1⟩,hn]
theorem Ox{S:Store}{ds:List D}(h:Dn ds=true):CG 0 S ds=some ds:=Ck 0 S (Bt h)
theorem Dq{α:Type}{F:α->D}(l:List α)(h:∀a∈l,CJ (F a)=true):Dn (l.map F)=true:=by
 induction l with
 |nil=>rfl
 |cons a r ih=>rw[U0t,Dn,h a U0g,ih fun b hb=>h b (U0z _ hb)];rfl
theorem Vt{α:Type}{F:α->D}{G:α->PyData}(l:List α)(h:∀a∈l,toP (F a)=some (G a)):G7 (l.map F)=some (l.map G):=by
 induction l with
 |nil=>rw[U1u,G7];rfl
 |cons a r ih=>rw[U0t,G7,h a U0g,ih fun b hb=>h b (U0z _ hb)];rfl
abbrev St2:=Int×Int
def Ad(p:St2):D:=.tup [.int p.1,.int p.2]
def Ag(b:List St2):D:=.tup (b.map Ad)
def Al(m:Bool)(n:Nat)(bs:List (List St2)):D:=.tup [.int n,.lst m (bs.map Ag)]
@[simp] theorem Dd(p:St2):CJ (Ad p)=true:=rfl
@[simp] theorem Ho(b:List St2):CJ (Ag b)=true:=by rw[Ag,CJ];exact Dq b fun p _=>Dd p
theorem DN(bs:List (List St2)):Dn (bs.map Ag)=true:=Dq bs fun b _=>Ho b
def pS(p:St2):PyData:=.tuple [.int p.1,.int p.2]
def pB(b:List St2):PyData:=.tuple (b.map pS)
theorem Qn(p:St2):toP (Ad p)=some (pS p):=by simp[Ad,toP,G7,pS]
theorem Vs(b:List St2):toP (Ag b)=some (pB b):=by rw[Ag,toP,Vt b fun p _=>Qn p];rfl
theorem Z5(bs:List (List St2)):G7 (bs.map Ag)=some (bs.map pB):=Vt bs fun b _=>Vs b
@[simp] theorem vR(S:Store)(x:D):JN S [x,.ty "int"]=(Ce S x).map fun p=>.bl (isT "int" p):=rfl
@[simp] theorem rF:isT "int" (.none)=false:=rfl
@[simp] theorem rJ(b:Bool):isT "int" (.bool b)=true:=rfl
@[simp] theorem rQ(i:Int):isT "int" (.int i)=true:=rfl
@[simp] theorem rP(s:Str):isT "int" (.str s)=false:=rfl
@[simp] theorem rG(l:List PyData):isT "int" (.list l)=false:=rfl
@[simp] theorem mV(l:List PyData):isT "int" (.tuple l)=false:=rfl
@[simp] theorem rH(l:List (PyData×PyData)):isT "int" (.dict l)=false:=rfl
@[simp] theorem uQ(S:Store)(x:D):JN S [x,.ty "bool"]=(Ce S x).map fun p=>.bl (isT "bool" p):=rfl
@[simp] theorem mW:isT "bool" (.none)=false:=rfl
@[simp] theorem mZ(b:Bool):isT "bool" (.bool b)=true:=rfl
@[simp] theorem rM(i:Int):isT "bool" (.int i)=false:=rfl
@[simp] theorem rK(s:Str):isT "bool" (.str s)=false:=rfl
@[simp] theorem mX(l:List PyData):isT "bool" (.list l)=false:=rfl
@[simp] theorem mH(l:List PyData):isT "bool" (.tuple l)=false:=rfl
@[simp] theorem mY(l:List (PyData×PyData)):isT "bool" (.dict l)=false:=rfl
@[simp] theorem uK(S:Store)(x:D):JN S [x,.ty "tuple"]=(Ce S x).map fun p=>.bl (isT "tuple" p):=rfl
@[simp] theorem m9:isT "tuple" (.none)=false:=rfl
@[simp] theorem mF(b:Bool):isT "tuple" (.bool b)=false:=rfl
@[simp] theorem mK(i:Int):isT "tuple" (.int i)=false:=rfl
@[simp] theorem mJ(s:Str):isT "tuple" (.str s)=false:=rfl
@[simp] theorem mC(l:List PyData):isT "tuple" (.list l)=false:=rfl
@[simp] theorem j4(l:List PyData):isT "tuple" (.tuple l)=true:=rfl
@[simp] theorem mD(l:List (PyData×PyData)):isT "tuple" (.dict l)=false:=rfl
@[simp] theorem uP(S:Store)(x:D):JN S [x,.ty "list"]=(Ce S x).map fun p=>.bl (isT "list" p):=rfl
@[simp] theorem mO:isT "list" (.none)=false:=rfl
@[simp] theorem mU(b:Bool):isT "list" (.bool b)=false:=rfl
@[simp] theorem rE(i:Int):isT "list" (.int i)=false:=rfl
@[simp] theorem rD(s:Str):isT "list" (.str s)=false:=rfl
@[simp] theorem mQ(l:List PyData):isT "list" (.list l)=true:=rfl
@[simp] theorem mG(l:List PyData):isT "list" (.tuple l)=false:=rfl
@[simp] theorem mR(l:List (PyData×PyData)):isT "list" (.dict l)=false:=rfl
@[simp] theorem vP(S:Store)(x:D):JN S [x,.ty "str"]=(Ce S x).map fun p=>.bl (isT "str" p):=rfl
@[simp] theorem qz:isT "str" (.none)=false:=rfl
@[simp] theorem rC(b:Bool):isT "str" (.bool b)=false:=rfl
@[simp] theorem rO(i:Int):isT "str" (.int i)=false:=rfl
@[simp] theorem rN(s:Str):isT "str" (.str s)=true:=rfl
@[simp] theorem rA(l:List PyData):isT "str" (.list l)=false:=rfl
@[simp] theorem mL(l:List PyData):isT "str" (.tuple l)=false:=rfl
@[simp] theorem rB(l:List (PyData×PyData)):isT "str" (.dict l)=false:=rfl
@[simp] theorem vQ(S:Store)(x:D):JN S [x,.tup [.ty "tuple",.ty "list"]]=(Ce S x).bind fun p=>if noDict p=true then some (.bl (isSeq p)) else none:=rfl
@[simp] theorem dg(S:Store)(i:Int):Ce S (.int i)=some (.int i):=by simp[Ce,den,toP]
@[simp] theorem vY(S:Store)(b:Bool):Ce S (.bl b)=some (.bool b):=by simp[Ce,den,toP]
@[simp] theorem vG(S:Store):Ce S .non=some .none:=by simp[Ce,den,toP]
@[simp] theorem vD(S:Store)(x:Str):Ce S (.str x)=some (.str x):=by simp[Ce,den,toP]
@[simp] theorem aU(S:Store)(p:St2):Ce S (Ad p)=some (pS p):=by rw[Ce,Jo 0 S (Hl (Dd p))];exact Qn p
@[simp] theorem aV(S:Store)(b:List St2):Ce S (Ag b)=some (pB b):=by rw[Ce,Jo 0 S (Hl (Ho b))];exact Vs b
theorem Nm(S:Store)(m:Bool)(bs:List (List St2)):Ce S (.lst m (bs.map Ag))=some (.list (bs.map pB)):=by
 rw[Ce,den,Ox (DN bs)]
 show toP (.lst m (bs.map Ag))=_
 rw[toP,Z5];rfl
theorem Oi(S:Store)(m:Bool)(n:Nat)(bs:List (List St2)):Ce S (Al m n bs)=some (.tuple [.int n,.list (bs.map pB)]):=by
 have h:=Nm S m bs
 rw[Ce,den,Ox (DN bs)] at h
 have h':toP (.lst m (bs.map Ag))=some (.list (bs.map pB)):=h
 simp[Ce,Al,den,CG,Ox (DN bs),toP,G7]
 rw[toP] at h'
 obtain⟨ps,e1,e2⟩:=map_some h'
 rw[e1]
 cases e2
 rfl
@[simp] theorem Kg(ns:List Int):Dn (ns.map D.int)=true:=Dq ns fun _ _=>rfl
@[simp] theorem bf(k:Nat)(S:Store)(ns:List Int):CG k S (ns.map D.int)=some (ns.map D.int):=Ck k S (Bt (Kg ns))
@[simp] theorem cL(ns:List Int):Br (ns.map D.int)=ns.map D.int:=Gj (Kg ns)
@[simp] theorem Ro(ns:List Int):Ay (ns.map D.int)=true:=Bt (Kg ns)
@[simp] theorem uO(ns:List Int):newL (ns.map D.int)=true:=K6 (Kg ns)
theorem Vr(lo:Int)(n:Nat):upD lo n=((U0p n).map fun(i:Nat)=>lo+(i:Int)).map D.int:=by unfold upD;rw[U0f];rfl
@[simp] theorem vM(k:Nat)(S:Store)(lo:Int)(n:Nat):CG k S (upD lo n)=some (upD lo n):=by rw[Vr];exact bf ..
@[simp] theorem uN(lo:Int)(n:Nat):Ay (upD lo n)=true:=by rw[Vr];exact Ro _
@[simp] theorem uJ(k:Nat)(S:Store)(bs:List (List St2)):CG k S (bs.map Ag)=some (bs.map Ag):=Ck k S (Bt (DN bs))
@[simp] theorem Zi(bs:List (List St2)):Br (bs.map Ag)=bs.map Ag:=Gj (DN bs)
@[simp] theorem XR(bs:List (List St2)):Ay (bs.map Ag)=true:=Bt (DN bs)
@[simp] theorem uI(bs:List (List St2)):newL (bs.map Ag)=true:=K6 (DN bs)
@[simp] theorem rR(bs:List (List St2)):Dn (bs.map Ag)=true:=DN bs
@[simp] theorem vJ(k:Nat)(S:Store)(p:St2):den k S (Ad p)=some (Ad p):=Jo k S (Hl (Dd p))
@[simp] theorem vL(k:Nat)(S:Store)(b:List St2):den k S (Ag b)=some (Ag b):=Jo k S (Hl (Ho b))
@[simp] theorem vU(p:St2):age (Ad p)=Ad p:=Qy (Dd p)
@[simp] theorem vW(b:List St2):age (Ag b)=Ag b:=Qy (Ho b)
@[simp] theorem uL(p:St2):Bb (Ad p)=true:=Hl (Dd p)
@[simp] theorem ao(b:List St2):Bb (Ag b)=true:=Hl (Ho b)
@[simp] theorem vH(p:St2):newD (Ad p)=true:=Ni (Dd p)
@[simp] theorem vI(b:List St2):newD (Ag b)=true:=Ni (Ho b)
@[simp] theorem vK(k:Nat)(S:Store)(m:Bool)(n:Nat)(bs:List (List St2)):den k S (Al m n bs)=some (Al m n bs):=by simp[Al,den,CG,Ck k S (Bt (DN bs))]
@[simp] theorem vV(m:Bool)(n:Nat)(bs:List (List St2)):age (Al m n bs)=Al false n bs:=by simp[Al,age,Br,Gj (DN bs)]
@[simp] theorem uM(m:Bool)(n:Nat)(bs:List (List St2)):Bb (Al m n bs)=true:=by simp[Al,Bb,Ay,Bt (DN bs)]
structure Good(n:Nat)(bs:List (List St2)):Prop where
 ways:n=1∨n=2∨n=3
 most:bs.length<=[0,20,10,6].getD n 0
 box:∀b∈bs,b.length=n/\∀p∈b,p.1<p.2/\-1000000000<=p.1/\p.2<=1000000000
theorem Good.n3{n:Nat}{bs:List (List St2)}(g:Good n bs):1<=n/\n<=3:=by have:=g.ways;omega
theorem Good.few{n:Nat}{bs:List (List St2)}(g:Good n bs):bs.length<=20:=by
 have:=g.most
 rcases g.ways with h|h|h<;>subst h<;>simp at this<;>omega
theorem qy{α:Type}{l:List α}{i:Int}{j:Nat}(e:i=(j:Int))(h:j<l.length):atI l i=some l[j]:=by
 subst e
 exact Mx (U0q h)
theorem Tc{α β:Type}{F:α->β}{l:List α}{i:Int}(h0:0<=i)(h1:i<l.length):∃a,atI (l.map F) i=some (F a)/\l[i.toNat]?=some a:=by
 have hj:i.toNat<l.length:=by omega
 refine⟨l[i.toNat],?_,U0q hj⟩
 rw[qy (j:=i.toNat) (by omega) (by simpa using hj)];simp
theorem Vy{n d:Nat}{a:Int}(h0:0<=a)(h1:a<=n):HT.sIx n d (some a)=a.toNat:=by
 show(if a<0 then (a+(n:Int)).toNat else min a.toNat n)=a.toNat
 rw[if_neg (by omega)]
 omega
theorem qj{xs:List D}{a:Int}(h0:0<=a)(h1:a<=xs.length):cut xs none (some a)=xs.take a.toNat:=by
 unfold cut
 rw[Vy h0 h1]
 simp[HT.sIx]
theorem R9{xs:List D}{a:Int}(h0:0<=a)(h1:a<=xs.length):cut xs (some a) none=xs.drop a.toNat:=by
 unfold cut
 rw[Vy h0 h1]
 simp only[HT.sIx]
 rw[U5y]
 simp
def lev:Nat->PyData->Bool
 |_,.none=>true
 |_,.bool _=>true
 |_,.int _=>true
 |k+1,.list xs=>xs.all (lev k)
 |k+1,.tuple xs=>xs.all (lev k)
 |_,_=>false
theorem T6{k:Nat}(ih:∀d,lev k d=true->U4 d=true/\d.depth<=k):∀xs:List PyData,xs.all (lev k)=true->U5u xs=true/\U3z xs<=k
 |[],_=>⟨by rw[U5u],by rw[U3z];omega⟩
 |x::xs,h=>by
  rw[U6m,U0y] at h
  obtain⟨h1,h2⟩:=ih x h.1
  obtain⟨h3,h4⟩:=T6 ih xs h.2
  exact⟨by rw[U5u,h1,h3];rfl,by rw[U3z];omega⟩
theorem Rf:∀(k:Nat)(d:PyData),lev k d=true->U4 d=true/\d.depth<=k
 |k,.none,_=>⟨by rw[U4],by rw[U24];omega⟩
 |k,.bool _,_=>⟨by rw[U4],by rw[U24];omega⟩
 |k,.int _,_=>⟨by rw[U4],by rw[U24];omega⟩
 |0,.list _,h=>by simp[lev] at h
 |0,.tuple _,h=>by simp[lev] at h
 |k,.str _,h=>by cases k<;>simp[lev] at h
 |k,.dict _,h=>by cases k<;>simp[lev] at h
 |k+1,.list xs,h=>by
  rw[lev] at h
  obtain⟨h1,h2⟩:=T6 (Rf k) xs h
  exact⟨by rw[U4];exact h1,by rw[U24];omega⟩
 |k+1,.tuple xs,h=>by
  rw[lev] at h
  obtain⟨h1,h2⟩:=T6 (Rf k) xs h
  exact⟨by rw[U4];exact h1,by rw[U24];omega⟩
theorem Rp{k:Nat}{d:PyData}(h:lev k d=true)(hk:k<=60):U2j d=true:=by
 obtain⟨h1,h2⟩:=Rf k d h
 unfold U2j
 rw[h1,Bool.true_and]
 exact decide_eq_true (by omega)
theorem R0{neg:Bool}{S:Store}{x y:D}{p:PyData}(k:Nat)(hx:Ce S x=some p)(hy:Ce S y=some p)(h:lev k p=true)(hk:k<=60):eqP neg S x y=some (.bl (neg ^^ true)):=by
 unfold eqP
 rw[hx,hy]
 simp only[U0c]
 rw[Rp h hk,SeqAt.eqv_refl _ (Rf k p h).1];rfl
theorem lU{neg:Bool}{S:Store}{x:D}{m:Bool}{l:List PyData}(k:Nat)(hx:Ce S x=some (.list l))(h:lev k (.list l)=true)(hk:k<=60):eqP neg S x (.lst m [])=some (.bl (neg ^^ l.isEmpty)):=by
 unfold eqP
 have hy:Ce S (.lst m [])=some (.list []):=by simp[Ce,den,CG,toP,G7]
 rw[hx,hy]
 simp only[U0c]
 rw[Rp h hk]
 cases l with
 |nil=>rfl
 |cons a r=>rfl
theorem Zv(k:Nat)(p:St2):lev (k+1) (pS p)=true:=by simp[pS,lev]
theorem qI(k:Nat)(b:List St2):lev (k+2) (pB b)=true:=by
 rw[pB,lev,List.all_map,U3j]
 exact fun p _=>Zv k p
theorem Uc(k:Nat)(bs:List (List St2)):lev (k+3) (.list (bs.map pB))=true:=by
 rw[lev,List.all_map,U3j]
 exact fun p _=>qI k p
theorem fZ(k:Nat)(n:Nat)(bs:List (List St2)):lev (k+4) (.tuple [.int n,.list (bs.map pB)])=true:=by
 rw[lev,U6m,U6m,Uc k bs]
 rfl
theorem Bl{a b:BX}{env env1:VS.Env}{S S1:Store}(h:a env S=some (.nx,env1,S1)):Bq a b env S=b env1 S1:=by rw[G9,h];rfl
theorem Mi{c:Ec}{a b:BX}{env:VS.Env}{S S1:Store}(h:c env S=some (true,S1)):sIf c a b env S=a env S1:=by rw[HW,h];rfl
theorem JR{c:Ec}{a b:BX}{env:VS.Env}{S S1:Store}(h:c env S=some (false,S1)):sIf c a b env S=b env S1:=by rw[HW,h];rfl
end VS
end
section
namespace VS
open PySem PySem.Spec L2
end VS
namespace HT
open PySem PySem.Spec PyProof PyProof.Rows
end HT
namespace L2
open PySem PySem.Spec PyProof PyProof.Rows
end L2
namespace VS
open PySem PySem.Spec L2
end VS
end
section
set_option maxRecDepth 100000
namespace HT
open PySem PySem.Spec PyProof.Rows
section
variable{prog:Program}{w:World}{A:Around}{E:Value->Shared->Prop}{s:Shared}
theorem X8{a:Addr}{o:Obj}{Q:Option Obj->Shared->Prop}(e:s.heap.get? a=some o)(q:Q (some o) s):wpAny (model prog w) A (loadIfAlive a) Q E s:=by
 intro Γ p _
 unfold loadIfAlive
 rw[Sem.wp_loadIfAlive,e]
 exact(Sem.wp_pure ..).mpr q
abbrev LQ(h:Heap)(z TI TO T:Addr)(c:Bool):Prop:=h.get? z=some { cls:=.type "zip",dict:=none,data:=.fields #[rawInt T,.bool c,.bool false,.ref TI,.ref TO],slots:=#[] }
variable{z TI TO i1 i2 T:Addr}{fp1 fp2:List Addr}{n1 n2 k:Nat}{P1 P2:Nat->Value->Prop}{S1 S2:Nat->Heap->Prop}{c:Bool}
theorem Xw{Q:Bool->Shared->Prop}(hZ:LQ s.heap z TI TO T c)(hT:∃o,s.heap.get? T=some o)(q:∀h',LQ h' z TI TO T true->U02 z s.heap h'->Q false { s with heap:=h' }) :
  wpAny (model prog w) A (U1p (.ref z)) Q E s:=by
 obtain⟨o,hT⟩:=hT
 unfold U1p
 refine U0 (U13 hZ rfl (x:=rawInt T) rfl ?_)
 show wpAny _ _ (loadIfAlive (Int.toNat (T:Int)) >>= _) _ _ _
 rw[U3b]
 refine U0 (X8 hT ?_)
 simp only[Option.isNone_some,U1z,if_false]
 refine U0 (U13 hZ rfl (x:=.bool c) rfl ?_)
 cases c with
 |false =>
  rw[if_pos (by decide)]
  refine U0 (U3n hZ (by simp) fun g z' m=>?_)
  exact U0d (q g z' m)
 |true =>
  rw[if_neg (by decide)]
  exact U0d (q s.heap hZ (U02.refl ..))
theorem uR{Q:Value->Shared->Prop}(D1:Draws prog w A i1 fp1 n1 P1 S1)(D2:Draws prog w A i2 fp2 n2 P2 S2)(D:Apart z TI TO i1 i2 fp1 fp2)(hZ:LQ s.heap z TI TO T c)(hI:IsPair s.heap TI (.ref i1) (.ref i2))(hT:∃o,s.heap.get? T=some o)
  (s1:S1 k s.heap) (s2:S2 k s.heap) (k1:k<n1) (k2:k<n2)
  (q:∀x y h' tk,P1 k x->P2 k y->LQ h' z TI TO T true->S1 (k+1) h'->S2 (k+1) h'->IsPair h' s.heap.objs.size x y->h'.objs.size=s.heap.objs.size+1 ->
   (∀c o,c≠z->c≠i1->c≠i2->s.heap.get? c=some o->h'.get? c=some o)->Q (.ref s.heap.objs.size) { s with heap:=h',toks:=tk }) :
  wpAny (model prog w) A (Builtin.«zip.__next__» ⟨[.ref z],[]⟩) (fun fin s'=>∃v,fin=.done (.ret v)/\Q v s') E s:=by
 obtain⟨hp,g,d,tk0,os⟩:=s
 refine(show wpAny _ _ (field (.ref z) 2 >>= _) _ _ _ from U0 (U13 hZ rfl (x:=.bool false) rfl ?_))
 refine(show wpAny _ _ (field (.ref z) 3 >>= _) _ _ _ from U0 (U13 hZ rfl (x:=.ref TI) rfl (U0 (U2o hI rfl ?_))))
 refine(show wpAny _ _ (U1p (.ref z) >>= _) _ _ _ from U0 (Xw hZ hT fun g1 z1 m1=>?_))
 replace m1:U02 z hp g1:=m1
 simp only[U1z,if_false]
 have t1:S1 k g1:=D1.frame _ _ _ s1 fun c hc o e=>m1.extBut _ _ (D.b1 c hc).1 e
 have u1:S2 k g1:=D2.frame _ _ _ s2 fun c hc o e=>m1.extBut _ _ (D.b2 c hc).1 e
 refine U0 ?_
 simp only[List.forIn_toArray,U3y,U5o]
 refine U0 (U0 (U2f (show wpAny _ _ (U1e (.ref i1) >>= _) _ _ _ from U0 (D1.item k ⟨g1,g,d,tk0,os⟩ _ _ k1 t1 fun x g2 tk1 px t2 m2=>U0d ?_))))
 replace m2:U02 i1 g1 g2:=m2
 have u2:S2 k g2:=D2.frame _ _ _ u1 fun c hc o e=>m2.extBut _ _ (D.b2 c hc).2.2 e
 refine U0d ?_
 refine U0 (U0 (U2f (show wpAny _ _ (U1e (.ref i2) >>= _) _ _ _ from U0 (D2.item k ⟨g2,g,d,tk1,os⟩ _ _ k2 u2 fun y g3 tk2 py u3 m3=>U0d ?_))))
 replace m3:U02 i2 g2 g3:=m3
 refine U0d (U0d ?_)
 refine U0 (wpAny_newTuple ?_ (by simp[sizeLine]))
 have sz:g3.objs.size=hp.objs.size:=by rw[m3.1,m2.1,m1.1]
 refine U0d ⟨_,rfl,?_⟩
 show Q (.ref g3.objs.size) _
 have z3:LQ g3 z TI TO T true:=m3.extBut _ _ (U1m D.c2.1) (m2.extBut _ _ (U1m D.c1.1) z1)
 have q3:=q x y (g3.push { cls:=.type "tuple",data:=.seq #[x,y] }) tk2 px py (U0b _ z3)
  (D1.frame _ _ _ t2 fun c hc o e=>U0b _ (m3.extBut _ _ (D.b1 c hc).2.2 e)) (D2.frame _ _ _ u3 fun c hc o e=>U0b _ e)
  (by show IsPair _ hp.objs.size x y;rw[←sz];exact U0s _ rfl) (by rw[U18,sz])
  fun c o n1 n3 n4 e=>U0b _ (m3.extBut _ _ n4 (m2.extBut _ _ n3 (m1.extBut _ _ n1 e)))
 rw[sz]
 exact q3
theorem rT{Q:PySem.Fin->Shared->Prop}(D1:Draws prog w A i1 fp1 n1 P1 S1)(D2:Draws prog w A i2 fp2 n2 P2 S2)(D:Apart z TI TO i1 i2 fp1 fp2)(hZ:LQ s.heap z TI TO T c)(hI:IsPair s.heap TI (.ref i1) (.ref i2))(hT:∃o,s.heap.get? T=some o)
  (s1:S1 k s.heap) (s2:S2 k s.heap) (ke:k=n1∨(k<n1/\k=n2))
  (q:∀h' e tk,(∀c o,c≠z->c≠i1->c≠i2->s.heap.get? c=some o->h'.get? c=some o)->(∃o,h'.get? e=some o/\o.cls=.type "StopIteration")->E (.ref e) { s with heap:=h',toks:=tk }) :
  wpAny (model prog w) A (Builtin.«zip.__next__» ⟨[.ref z],[]⟩) Q E s:=by
 obtain⟨hp,g,d,tk0,os⟩:=s
 refine(show wpAny _ _ (field (.ref z) 2 >>= _) _ _ _ from U0 (U13 hZ rfl (x:=.bool false) rfl ?_))
 refine(show wpAny _ _ (field (.ref z) 3 >>= _) _ _ _ from U0 (U13 hZ rfl (x:=.ref TI) rfl (U0 (U2o hI rfl ?_))))
 refine(show wpAny _ _ (U1p (.ref z) >>= _) _ _ _ from U0 (Xw hZ hT fun g1 z1 m1=>?_))
 replace m1:U02 z hp g1:=m1
 simp only[U1z,if_false]
 have t1:S1 k g1:=D1.frame _ _ _ s1 fun c hc o e=>m1.extBut _ _ (D.b1 c hc).1 e
 have u1:S2 k g1:=D2.frame _ _ _ s2 fun c hc o e=>m1.extBut _ _ (D.b2 c hc).1 e
 refine U0 ?_
 simp only[List.forIn_toArray,U3y,U5o]
 rcases ke with ke|⟨k1,ke⟩
 .subst ke
  refine U0 (U0 (U2f (show wpAny _ _ (U1e (.ref i1) >>= _) _ _ _ from U0 (D1.done ⟨g1,g,d,tk0,os⟩ _ _ t1 fun g2 e m2 he=>?_))))
  replace m2:U48 i1 g1 g2:=m2
  exact q g2 e tk0 (fun c o n1 n3 _ x=>m2 _ _ n3 (m1.extBut _ _ n1 x)) he
 .refine U0 (U0 (U2f (show wpAny _ _ (U1e (.ref i1) >>= _) _ _ _ from U0 (D1.item k ⟨g1,g,d,tk0,os⟩ _ _ k1 t1 fun x g2 tk1 px t2 m2=>U0d ?_))))
  replace m2:U02 i1 g1 g2:=m2
  have u2:S2 k g2:=D2.frame _ _ _ u1 fun c hc o e=>m2.extBut _ _ (D.b2 c hc).2.2 e
  rw[ke] at u2
  refine U0d ?_
  refine U0 (U0 (U2f (show wpAny _ _ (U1e (.ref i2) >>= _) _ _ _ from U0 (D2.done ⟨g2,g,d,tk1,os⟩ _ _ u2 fun g3 e m3 he=>?_))))
  replace m3:U48 i2 g2 g3:=m3
  exact q g3 e tk1 (fun c o n1 n3 n4 x=>m3 _ _ n4 (m2.extBut _ _ n3 (m1.extBut _ _ n1 x))) he
def ZS(z TI TO i1 i2:Addr)(S1 S2:Nat->Heap->Prop)(k:Nat)(h:Heap):Prop :=
 IsPair h TI (.ref i1) (.ref i2)/\S1 k h/\S2 k h/\((∃a b,IsZip h z TI TO .none/\IsPair h TO a b)∨∃T c o,LQ h z TI TO T c/\h.get? T=some o/\T≠z/\T≠i1/\T≠i2)
theorem ZS.type(st:ZS z TI TO i1 i2 S1 S2 k s.heap):s.TypeIs (.ref z) "zip":=by
 obtain⟨_,_,_,⟨_,_,h,_⟩|⟨_,_,_,h,_⟩⟩:=st
 .exact⟨_,h,rfl⟩
 .exact⟨_,h,rfl⟩
theorem ZS.lt{h:Heap}(st:ZS z TI TO i1 i2 S1 S2 k h):z<h.objs.size:=by
 obtain⟨_,_,_,⟨_,_,h,_⟩|⟨_,_,_,h,_⟩⟩:=st
 .exact U0j h
 .exact U0j h
theorem ZS.frame{h h':Heap}(D1:Draws prog w A i1 fp1 n1 P1 S1)(D2:Draws prog w A i2 fp2 n2 P2 S2)(st:ZS z TI TO i1 i2 S1 S2 k h){S:Addr}(f1:S ∉ fp1)(f2:S ∉ fp2)(n1:S≠z)(n2:S≠TI)(n3:S≠TO)(lv:∃o,h'.get? S=some o)(m:∀c o,c≠S->h.get? c=some o->h'.get? c=some o):ZS z TI TO i1 i2 S1 S2 k h':=by
 obtain⟨a1,a2,a3,a4⟩:=st
 refine⟨m _ _ (U1m n2) a1,D1.frame _ _ _ a2 fun c hc o e=>m c o (fun q=>f1 (q ▸ hc)) e,D2.frame _ _ _ a3 fun c hc o e=>m c o (fun q=>f2 (q ▸ hc)) e,?_⟩
 rcases a4 with ⟨a,b,b1,b2⟩|⟨T,c,o,b1,b2,b3⟩
 .exact .inl ⟨a,b,m _ _ (U1m n1) b1,m _ _ (U1m n3) b2⟩
 .by_cases q:T=S
  .obtain⟨o',e⟩:=lv
   exact .inr ⟨T,c,o',m _ _ (U1m n1) b1,q ▸ e,b3⟩
  .exact .inr ⟨T,c,o,m _ _ (U1m n1) b1,m _ _ q b2,b3⟩
theorem o9{Q:Option Value->Shared->Prop}(D1:Draws prog w A.in1 i1 fp1 n1 P1 S1)(D2:Draws prog w A.in1 i2 fp2 n2 P2 S2)(D:Apart z TI TO i1 i2 fp1 fp2)(st:ZS z TI TO i1 i2 S1 S2 k s.heap)(k1:k<n1)(k2:k<n2)
  (q:∀x y h' tk,P1 k x->P2 k y->ZS z TI TO i1 i2 S1 S2 (k+1) h'->IsPair h' s.heap.objs.size x y->h'.objs.size=s.heap.objs.size+1->(∀c o,c≠z->c≠TO->c≠i1->c≠i2->s.heap.get? c=some o->h'.get? c=some o)->Q (some (.ref s.heap.objs.size)) { s with heap:=h',toks:=tk }) :
  wpAny (model prog w) A (pyNext (.ref z)) Q E s:=by
 have T:=st.type
 have lz:=st.lt
 obtain⟨a1,a2,a3,a4⟩:=st
 obtain⟨_,l1⟩:=D1.live _ _ a2
 obtain⟨_,l2⟩:=D2.live _ _ a3
 rcases a4 with ⟨a,b,b1,b2⟩|⟨T',c,o,b1,b2,b3,b4,b5⟩
 .refine Xv D1 D2 D b1 a1 b2 a2 a3 k1 k2 fun x y h' tk p1 p2 c1 c2 c3 c4 c5 c6 c7=>q x y h' tk p1 p2 ⟨c7 _ _ D.a1 D.a3 (U1m D.c1.2.2) (U1m D.c2.2.2) a1,c3,c4,.inr ⟨_,false,_,c1,c5,U1q lz,U1q (U0j l1),U1q (U0j l2)⟩⟩ c5 c6 c7
 .unfold pyNext
  refine U0 (U45 (wpAny_callSpecial?_slot (name:=U23 "__next__") T U2l (U17 U2l T U4v (uR D1 D2 D b1 a1 ⟨o,b2⟩ a2 a3 k1 k2 fun x y h' tk p1 p2 c1 c3 c4 c5 c6 c7=>U0d (q x y h' tk p1 p2 ?_ c5 c6 fun c o n1 _ n3 n4 e=>c7 c o n1 n3 n4 e)) (U4h _))))
  exact⟨c7 _ _ D.a1 (U1m D.c1.2.2) (U1m D.c2.2.2) a1,c3,c4,.inr ⟨T',true,o,c1,c7 _ _ b3 b4 b5 b2,b3,b4,b5⟩⟩
theorem j5{Q:Option Value->Shared->Prop}(D1:Draws prog w A.in1 i1 fp1 n1 P1 S1)(D2:Draws prog w A.in1 i2 fp2 n2 P2 S2)(D:Apart z TI TO i1 i2 fp1 fp2)(st:ZS z TI TO i1 i2 S1 S2 k s.heap)(ke:k=n1∨(k<n1/\k=n2))
  (q:∀h' tk,(∀c o,c≠z->c≠TO->c≠i1->c≠i2->s.heap.get? c=some o->h'.get? c=some o)->Q none { s with heap:=h',toks:=tk }):wpAny (model prog w) A (pyNext (.ref z)) Q E s:=by
 have T:=st.type
 obtain⟨a1,a2,a3,a4⟩:=st
 rcases a4 with ⟨a,b,b1,b2⟩|⟨T',c,o,b1,b2,b3,b4,b5⟩
 .exact Xu D1 D2 D b1 a1 b2 a2 a3 ke q
 .unfold pyNext
  refine U0 (U45 (wpAny_callSpecial?_slot (name:=U23 "__next__") T U2l (U17 U2l T U4v (rT D1 D2 D b1 a1 ⟨o,b2⟩ a2 a3 ke fun h' e tk kk he=>?_) (U4h _))))
  obtain⟨o,e1,e2⟩:=he
  exact U0 (U42 (T:="StopIteration") (b:=true) ⟨o,e1,e2⟩ isSubtype_stop (U0d (q h' tk fun c o n1 _ n3 n4 e=>kk c o n1 n3 n4 e)))
def Laid(P1 P2:Nat->Value->Prop)(t0 k:Nat)(h:Heap):Prop:=∀j,j<k->∃x y,P1 j x/\P2 j y/\IsPair h (t0+j) x y
theorem j8{R:Result->Shared->Prop}(D1:Draws prog w A.in1.in1 i1 fp1 n1 P1 S1)(D2:Draws prog w A.in1.in1 i2 fp2 n2 P2 S2)(D:Apart z TI TO i1 i2 fp1 fp2){m t0:Nat}(hm:∀k,k<m->k<n1/\k<n2)(he:m=n1∨(m<n1/\m=n2))(hs:m<=1000000)(S:Addr)(f1:S ∉ fp1)(f2:S ∉ fp2)(e1:S≠z)(e2:S≠TI)(e3:S≠TO)(e4:S≠i1)(e5:S≠i2)(e6:S<t0)
  (far:z<t0/\TO<t0/\i1<t0/\i2<t0) (res:Value) :
  ∀(j k:Nat)(s:Shared)(acc:Array Value)(c:Nat),m-k=j->k<=m->ZS z TI TO i1 i2 S1 S2 k s.heap->s.heap.get? S=some { cls:=.type "list",dict:=none,data:=.seq acc c,slots:=#[] }->acc=((U0p k).map fun j=>U1x (t0+j)).toArray->s.heap.objs.size=t0+k->Laid P1 P2 t0 k s.heap ->
  (∀h' tk c',(∀b o,b≠z->b≠TO->b≠i1->b≠i2->b≠S->s.heap.get? b=some o->h'.get? b=some o)->h'.get? S=some { cls:=.type "list",dict:=none,data:=.seq ((U0p m).map fun j=>U1x (t0+j)).toArray c',slots:=#[] }->Laid P1 P2 t0 m h'->R (.ok (.ret res)) { s with heap:=h',toks:=tk }) ->
  codeAny (model prog w) A (.builtin "list.extend.loop" ⟨[.ref S,.ref z,res],[]⟩) R s:=by
 have aw:∀j:Nat,t0+j≠z/\t0+j≠TO/\t0+j≠i1/\t0+j≠i2/\t0+j≠S:=fun j=>⟨U1q (U0m far.1 (U1g _ _)),U1q (U0m far.2.1 (U1g _ _)),U1q (U0m far.2.2.1 (U1g _ _)),U1q (U0m far.2.2.2 (U1g _ _)),U1q (U0m e6 (U1g _ _))⟩
 have hs2:m<=sizeLine:=U06 hs (by decide)
 intro j
 induction j with
 |zero =>
  intro k s acc c hj hk st hS ha hz hl q
  have hkm:k=m:=by omega
  subst hkm
  refine codeAny_builtin PySem.F.entry_extend_loop ?_
  rw[U3 U38 _]
  show wpAny _ A.in1 (pyNext (.ref z) >>= _) _ _ s
  refine U0 (j5 D1 D2 D st he fun h' tk kk=>U0d (q h' tk c (fun b o n1 n2 n3 n4 _ e=>kk b o n1 n2 n3 n4 e) ?_ ?_))
  .rw[←ha];exact kk _ _ e1 e3 e4 e5 hS
  .intro j hj
   obtain⟨x,y,p1,p2,t⟩:=hl j hj
   exact⟨x,y,p1,p2,kk _ _ (aw j).1 (aw j).2.1 (aw j).2.2.1 (aw j).2.2.2.1 t⟩
 |succ j ih =>
  intro k s acc c hj hk st hS ha hz hl q
  have hlt:k<m:=by omega
  refine codeAny_builtin PySem.F.entry_extend_loop ?_
  rw[U3 U38 _]
  show wpAny _ A.in1 (pyNext (.ref z) >>= _) _ _ s
  refine U0 (o9 D1 D2 D st (hm k hlt).1 (hm k hlt).2 fun x y h' tk p1 p2 st' tp sz kk=>?_)
  have hS':=kk _ _ e1 e3 e4 e5 hS
  have hlen:acc.size=k:=by rw[ha];simp
  show wpAny _ A.in1 (updateSeq S (·.push (.ref s.heap.objs.size)) >>= _) _ _ _
  refine U0 ?_
  have oth:∀b o,b≠S->h'.get? b=some o->(h'.update S (U15 (·.push (U1x s.heap.objs.size)))).get? b=some o:=fun b o n e=>(U1d _ _ (U1m n)).trans e
  have hS2:=U14 (U15 (·.push (U1x s.heap.objs.size))) hS' rfl
  have szu:(h'.update S (U15 (·.push (U1x s.heap.objs.size)))).objs.size=h'.objs.size:=(U1n ..).1
  refine U4q hS' rfl (U0d ⟨plainId_quiet U38 _,ih (k+1) _ (acc.push (.ref s.heap.objs.size)) _ (by omega) hlt (ZS.frame D1 D2 st' f1 f2 e1 e2 e3 ⟨_,hS2⟩ oth) hS2 ?_ ?_ ?_ fun h'' tk'' c'' kk2 hS3 hl3=>?_⟩)
   (by rw[hlen];omega) (by show(acc.push _).size<=sizeLine+1;rw[Array.size_push,hlen];omega)
  .rw[ha,hz,U66];simp
  .rw[show(U6j _).objs.size=_ from szu,sz,hz];omega
  .intro j hj
   by_cases q':j=k
   .subst q'
    refine⟨x,y,p1,p2,oth _ _ (aw _).2.2.2.2 ?_⟩
    rw[←hz];exact tp
   .obtain⟨x',y',r1,r2,t⟩:=hl j (by omega)
    exact⟨x',y',r1,r2,oth _ _ (aw j).2.2.2.2 (kk _ _ (aw j).1 (aw j).2.1 (aw j).2.2.1 (aw j).2.2.2.1 t)⟩
  .exact q h'' tk'' c'' (fun b o n1 n2 n3 n4 n5 e=>kk2 b o n1 n2 n3 n4 n5 (oth b o n5 (kk b o n1 n2 n3 n4 e))) hS3 hl3
theorem d8:typeLookup (.type "zip") "__len__"=pure none:=by rw[typeLookup_type,builtinLookup_eq_fast];kernel_rfl
theorem aK:typeLookup (.type "zip") "__length_hint__"=pure none:=by rw[typeLookup_type,builtinLookup_eq_fast];kernel_rfl
theorem ZS.push{h:Heap}(D1:Draws prog w A i1 fp1 n1 P1 S1)(D2:Draws prog w A i2 fp2 n2 P2 S2)(st:ZS z TI TO i1 i2 S1 S2 k h)(o:Obj):ZS z TI TO i1 i2 S1 S2 k (h.push o):=by
 obtain⟨a1,a2,a3,a4⟩:=st
 refine⟨U0b _ a1,D1.frame _ _ _ a2 fun c hc o e=>U0b _ e,D2.frame _ _ _ a3 fun c hc o e=>U0b _ e,?_⟩
 rcases a4 with ⟨a,b,b1,b2⟩|⟨T,c,o,b1,b2,b3⟩
 .exact .inl ⟨a,b,U0b _ b1,U0b _ b2⟩
 .exact .inr ⟨T,c,o,U0b _ b1,U0b _ b2,b3⟩
theorem lB{Q:Value->Shared->Prop}(T:s.TypeIs (.ref z) "zip")(q:Q (.ref z) s):wpAny (model prog w) A (pyIter (.ref z)) Q E s :=
 U6s T PySem.F.slot_zip_iter (U17 PySem.F.slot_zip_iter T PySem.F.entry_zip_iter (show wpAny _ _ (ret (.ref z)) _ _ s from U0d ⟨_,rfl,"zip",_,T,U2l.lookup,q⟩) (PySem.F.args_zip_iter_1 _))
theorem kI{Q:Value->Shared->Prop}(D1:Draws prog w A.in1.in1.in1 i1 fp1 n1 P1 S1)(D2:Draws prog w A.in1.in1.in1 i2 fp2 n2 P2 S2)(D:Apart z TI TO i1 i2 fp1 fp2){m:Nat}(hm:∀k,k<m->k<n1/\k<n2)(he:m=n1∨(m<n1/\m=n2))(hs:m<=1000000)(st:ZS z TI TO i1 i2 S1 S2 0 s.heap)
  (l1:∀b∈fp1,b<s.heap.objs.size) (l2:∀b∈fp2,b<s.heap.objs.size) (l3:z<s.heap.objs.size/\TI<s.heap.objs.size/\TO<s.heap.objs.size/\i1<s.heap.objs.size/\i2<s.heap.objs.size)
  (q:∀h' tk c',(∀b o,b≠z->b≠TO->b≠i1->b≠i2->s.heap.get? b=some o->h'.get? b=some o)->h'.get? s.heap.objs.size=some { cls:=.type "list",dict:=none,data:=.seq ((U0p m).map fun j=>U1x (s.heap.objs.size+1+j)).toArray c',slots:=#[] } ->
   Laid P1 P2 (s.heap.objs.size+1) m h'->Q (.ref s.heap.objs.size) { s with heap:=h',toks:=tk }):wpAny (model prog w) A (call (.type "list") [.ref z]) Q E s:=by
 refine callType_codes (Q₁:=fun obj s₁=>obj=.ref s.heap.objs.size/\s₁={ s with heap:=s.heap.push { cls:=.type "list",data:=.seq #[] } }) PySem.F.called_list (PySem.F.typeCall_list_1 _) PySem.F.entry_list_init (code_list_new _ ⟨rfl,rfl⟩) fun obj s₁ h₁=>?_
 obtain⟨rfl,rfl⟩:=h₁
 have g0:(s.heap.push { cls:=.type "list",data:=.seq #[] }).get? s.heap.objs.size=some { cls:=.type "list",data:=.seq #[] }:=U0s _ rfl
 refine⟨⟨_,g0,rfl⟩,PySem.F.args_list_init_2 _ _,?_⟩
 generalize hS:s.heap.objs.size=S at *
 have st0:=ZS.push D1 D2 st { cls:=.type "list",data:=.seq #[] }
 have sz0:(s.heap.push { cls:=.type "list",data:=.seq #[] }).objs.size=S+1:=by rw[U18,hS]
 have k0:∀b o,s.heap.get? b=some o->(s.heap.push { cls:=.type "list",data:=.seq #[] }).get? b=some o:=fun b o e=>U0b _ e
 generalize s.heap.push { cls:=.type "list",data:=.seq #[] }=h0 at *
 have ne1:S≠z:=U1q l3.1
 have ne2:S≠TI:=U1q l3.2.1
 have ne3:S≠TO:=U1q l3.2.2.1
 have ne4:S≠i1:=U1q l3.2.2.2.1
 have ne5:S≠i2:=U1q l3.2.2.2.2
 have nf1:S ∉ fp1:=fun z=>U3p _ (l1 _ z)
 have nf2:S ∉ fp2:=fun z=>U3p _ (l2 _ z)
 -- one write of the new list after the other
 have wr:∀(h:Heap)(f:Array Value->Array Value)(xs:Array Value)(c:Nat),h.get? S=some { cls:=.type "list",data:=.seq xs c }->(∀b o,b≠S->h.get? b=some o->(h.update S (U15 f)).get? b=some o)/\(h.update S (U15 f)).objs.size=h.objs.size:=fun h f xs c e=>⟨fun b o n e=>(U1d _ _ (U1m n)).trans e,(U1n ..).1⟩
 refine(show wpAny _ _ (do let old ←Builtin.List.listItems (.ref S);Builtin.List.listUpdate (.ref S) (fun _=>#[]);letGo old.toList.reverse;U3d (.ref S) (.ref z) .none) _ _ _ from U0 ?_)
 unfold Builtin.List.listItems
 refine U0 (U2o g0 rfl (U0d (show wpAny _ _ (updateSeq S (fun _=>#[]) >>= fun _=>letGo (#[]:Array Value).toList.reverse >>= fun _=>U3d (.ref S) (.ref z) .none) _ _ _ from U0 (U4q g0 rfl (U0 (U69 ?_))))))
 have g1:=U14 (U15 (fun _=>(#[]:Array Value))) g0 rfl
 obtain⟨o1,z1⟩:=wr h0 (fun _=>#[]) _ _ g0
 have st1:=ZS.frame D1 D2 st0 nf1 nf2 ne1 ne2 ne3 ⟨_,g1⟩ o1
 unfold U3d
 refine U0 (U5i (st1.type (s:={ s with heap:=_ })) ?_)
 have b1:U4e (.ref S) (.ref z)=false:=by simp[U4e,ne1]
 rw[if_neg (by rw[b1];decide)]
 have ty1:U51 { s with heap:=h0.update S (U15 (fun _=>(#[]:Array Value))) } (.ref z) "zip":=st1.type (s:={ s with heap:=_ })
 refine U0 (lB ty1 ?_)
 refine U0 (U2f ?_)
 unfold U40
 refine U0 (U63 ty1 d8 ?_)
 refine(show wpAny _ _ (specialOf (U1x z) (U23 "__length_hint__") >>= _) _ _ _ from U0 (U63 ty1 aK (U0d ?_)))
 refine(show wpAny _ _ (rule "list.extend.makes-room" >>= fun _=>Builtin.List.listTouch (.ref S) >>= fun _=>again (.builtin "list.extend.loop" ⟨[.ref S,.ref z,.none],[]⟩)) _ _ _ from U0 (U41 (U0 ?_)))
 refine(show wpAny _ _ (updateSeq S (·.push .none) >>= fun _=>updateSeq S (·.pop)) _ _ _ from U0 (U4q g1 rfl ?_))
 have g2:=U14 (U15 (·.push U2g)) g1 rfl
 obtain⟨o2,z2⟩:=wr _ (·.push U2g) _ _ g1
 have g3:=U14 (U15 (·.pop)) g2 rfl
 obtain⟨o3,z3⟩:=wr _ (·.pop) _ _ g2
 refine U4q (hz:=by seq_fits) g2 rfl ?_
 have st3:=ZS.frame D1 D2 (ZS.frame D1 D2 st1 nf1 nf2 ne1 ne2 ne3 ⟨_,g2⟩ o2) nf1 nf2 ne1 ne2 ne3 ⟨_,g3⟩ o3
 refine U0d ⟨plainId_quiet U38 _,j8 D1 D2 D (t0:=S+1) hm he hs S nf1 nf2 ne1 ne2 ne3 ne4 ne5 (U53 _) ⟨U20 l3.1,U20 l3.2.2.1,U20 l3.2.2.2.1,U20 l3.2.2.2.2⟩ _ m 0 _ _ _ rfl (U2y _) st3 g3 ?_ ?_ (fun j hj=>absurd hj (U62 _)) fun h' tk c' kk hS' hl=>⟨rfl,q h' tk c' (fun b o n1 n2 n3 n4 e=>?_) hS' hl⟩⟩
 .simp
 .show(Heap.update _ _ _).objs.size=_
  rw[z3,z2,z1,sz0]
 .have nb:b≠S:=U0v (hS ▸ U0j e)
  exact kk b o n1 n2 n3 n4 nb (o3 b o nb (o2 b o nb (o1 b o nb (k0 b o e))))
end
end HT
end
section
namespace L2
open PySem PySem.Spec PyProof.Rows
section
variable{X:Cx}{pins:List (Addr×Obj)}{σ:St}{H:Hp}{s:Shared}
theorem Inv.tR{H':Hp}{h':Heap}{d':Drawn}{t':Nat}(I:Inv X pins σ H s)(k:∀b u,s.heap.get? b=some u->h'.get? b=some u)(old:∀b,b<s.heap.objs.size->H' b=H b)(ext:∀b o,H b=some o->H' b=some o)
  (new:∀b o,H' b=some o->H b=none->Cr X.prog X.w H' h' b o):Inv X pins σ H' { s with heap:=h',drawn:=d',toks:=t' }:=by
 refine I.step (g':=s.gens) (ch:=[]) (fun _ z=>nomatch z) (fun b u _ _ _ e _=>k b u e) (fun b u _ _ _ e _=>⟨u.slots,k b u e⟩) (fun b u _ e n=>by rw[old b (U0j e)];exact n) (fun b u _ e=>⟨u,k b u e⟩)
  (fun b xs e=>ext _ _ e) (fun b u xs e=>ext _ _ e) (fun b ps e=>⟨#[],by rw[ext _ _ e];simp⟩) (fun m hm=>?_) (fun b u e=>?_) I.bare (fun n=>by rw[old _ I.Yl];exact n)
 .obtain⟨ob,es,ep,e,r⟩:=hm
  exact⟨ob,es,ep,k _ _ e,r⟩
 .cases q:H b with
  |none=>exact new b u e q
  |some o =>
   have:=ext b o q
   rw[this] at e
   cases e
   exact(I.hok b _ q).stay (fun c v _ q=>k c v q) (fun c q=>ext _ _ q) fun c xs q=>ext _ _ q
end
def dJ(L:Bool)(ta:TA):TE:=fun σ H Q=>ta σ H fun vs H1=>∃a b xs ys,vs=[.ref a,.ref b]/\H1 a=some (HB L xs)/\H1 b=some (HB L ys)/\(xs.zip ys).length<=1000000 /\
 ∀l t0 H2,H1 l=none->(∀c o,H1 c=some o->H2 c=some o)->H2 l=some (.lst ((U0p (xs.zip ys).length).map fun j=>V.ref (t0+j)))->(∀j p,(xs.zip ys)[j]?=some p->H2 (t0+j)=some (.tup [p.1,p.2]))->Q (.ref l) H2
section
variable{X:Cx}
theorem Z9(L:Bool){a b:Expr}{ta:TA}{p p2 pos pos2:Pos}(hc:X.calm=true)(hg:Gl X "list")(hm:X.mg "list"=none)(hg2:Gl X "zip")(hm2:X.mg "zip"=none)(ha:PA X [a,b] ta)(hs:starEach [a,b] X.env=[(false,eval a X.env),(false,eval b X.env)]:=by rfl)(hs2:starEach [b] X.env=[(false,eval b X.env)]:=by rfl)
  (he2:starEach [.Call (.Name "zip" p2) [a,b] [] pos2] X.env=[(false,eval (.Call (.Name "zip" p2) [a,b] [] pos2) X.env)]:=by rfl):PE X (.Call (.Name "list" p) [.Call (.Name "zip" p2) [a,b] [] pos2] [] pos) (dJ L ta):=by
 intro pins s σ H Q I h
 refine U5g (K1 I hg hm (by decide +kernel:bootBuiltins "list"=some (.type "list")) (U2u ?_ he2 rfl))
 rw[he2]
 refine(show wpAny _ _ (spliced ((false,eval (.Call (.Name "zip" p2) [a,b] [] pos2) X.env)::backTo pos (starEach [] X.env))) _ _ s from Calls.spliced_cons ?_)
 refine Call_ (K1 I hg2 hm2 (by decide +kernel:bootBuiltins "zip"=some (.type "zip")) (U2u (thn (ha pos2 pins s σ H _ I h) fun us s1 ⟨vs,H1,I1,r1,q1⟩=>?_) (by rw[hs,hs2]) (by rw[hs2];rfl)))
 obtain⟨l,m,xs,ys,e,e1,e2,hl,q⟩:=q1
 subst e
 obtain⟨us1,us2⟩:us=[.ref l,.ref m]/\True:=by
  cases r1 with
  |cons r rr =>
   cases rr with
   |cons r' rr =>
    cases rr
    cases r
    cases r'
    exact⟨rfl,trivial⟩
 subst us1
 obtain⟨its1,rv1,p1⟩:=I1.O7 e1
 obtain⟨its2,rv2,p2⟩:=I1.O7 e2
 have fin:∀h',IsZip h' (s1.heap.objs.size+4) (s1.heap.objs.size+2) (s1.heap.objs.size+3) .none->IsPair h' (s1.heap.objs.size+2) (.ref s1.heap.objs.size) (.ref (s1.heap.objs.size+1))->IsPair h' (s1.heap.objs.size+3) .none .none ->
   Ip L h' s1.heap.objs.size l 0->Ip L h' (s1.heap.objs.size+1) m 0->(∀c o,s1.heap.get? c=some o->h'.get? c=some o)->wpAny (model X.prog X.w) X.A (spliced (backTo pos (starEach [] X.env))) (fun us s2=>wpAny (model X.prog X.w) X.A (call (.type "list") (.ref (s1.heap.objs.size+4)::us)) (fun v s3=>∃x H',Inv X pins σ H' s3/\RelV x v/\Q x H') X.xe s2) X.xe { s1 with heap:=h' }:=fun h' c1 c2 c3 c4 c5 k=>by
  refine Calls.spliced_nil ?_
  generalize hn:s1.heap.objs.size=n at *
  have seqAt:∀(t:Addr)(ws:Array Value),Yo L s1.heap t ws->Yo L h' t ws/\t<n:=fun t ws x=>by
   cases L with
   |true =>
    refine⟨Heap.IsList.at x fun o e=>k _ _ e,?_⟩
    obtain⟨o,e,_⟩:=(show s1.heap.IsList t ws from x)
    exact hn ▸ U0j e
   |false =>
    refine⟨U5k.at x fun o e=>k _ _ e,?_⟩
    obtain⟨o,e,_⟩:=(show s1.heap.IsTuple t ws from x)
    exact hn ▸ U0j e
  obtain⟨q1,ll⟩:=seqAt _ _ p1
  obtain⟨q2,lm⟩:=seqAt _ _ p2
  have lz:n+4<h'.objs.size:=U0j c1
  have lz0:n<h'.objs.size:=U2p (Nat.lt_add_of_pos_right (by decide)) lz
  have lz1:n+1<h'.objs.size:=U2p (U6d (by decide) n) lz
  have lz2:n+2<h'.objs.size:=U2p (U6d (by decide) n) lz
  have lz3:n+3<h'.objs.size:=U2p (U6d (by decide) n) lz
  have hh:X.A.in1.in1.in1.handled=none:=I1.ok.hd hc
  have sl1:=rv1.length
  have sl2:=rv2.length
  have hlen:(xs.zip ys).length=min its1.length its2.length:=by rw[U6b,sl1,sl2]
  refine HT.kI (z:=n+4) (TI:=n+2) (TO:=n+3) (i1:=n) (i2:=n+1) (m:=(xs.zip ys).length) (Mj L hh n l (U0v ll) its1.toArray) (Mj L hh (n+1) m (U0v (U20 lm)) its2.toArray)
   (RD (by simp) (by simp) (by simp) ⟨by simp,by simp,by simp⟩ ⟨by simp,by simp,by simp⟩ (by simp) (by simp only[U0r,U12,or_false,not_or];exact⟨U0v (U0m ll (U1g _ _)),U0v (U0m ll (U1g _ _)),U0v (U0m ll (U1g _ _)),U0v ll,U0v (U0m ll (U1g _ _))⟩)
    (by simp only[U0r,U12,or_false,not_or];exact⟨U0v (U0m lm (U1g _ _)),U0v (U0m lm (U1g _ _)),U0v (U0m lm (U1g _ _)),U0v lm,U0v (U0m lm (U1g _ _))⟩))
   (fun j hj=>by rw[hlen] at hj;simp;omega) (by rw[hlen];simp;omega) hl ⟨c2,⟨c4,q1⟩,⟨c5,q2⟩,.inl ⟨_,_,c1,c3⟩⟩ ?_ ?_ ⟨lz,lz2,lz3,lz0,lz1⟩ fun h2 tk c' kk hS hL=>?_
  .intro b hb
   simp only[U0r,U12,or_false] at hb
   show b<h'.objs.size
   rcases hb with rfl|rfl
   .exact lz0
   .exact U2p ll lz0
  .intro b hb
   simp only[U0r,U12,or_false] at hb
   show b<h'.objs.size
   rcases hb with rfl|rfl
   .exact lz1
   .exact U2p lm lz0
  .generalize hS':h'.objs.size=S at *
   have up:∀b u,s1.heap.get? b=some u->b<n:=fun b u e=>hn ▸ U0j e
   have k2:∀b u,s1.heap.get? b=some u->h2.get? b=some u:=fun b u e=>by
    have:=up b u e
    exact kk b u (U0v (U0m this (U1g _ _))) (U0v (U0m this (U1g _ _))) (U0v this) (U0v (U0m this (U1g _ _))) (k b u e)
   let refs:List V:=(U0p (xs.zip ys).length).map fun j=>V.ref (S+1+j)
   let H2:Hp:=fun b=>if b=S then some (.lst refs) else match (if S+1<=b then (xs.zip ys)[b-(S+1)]? else none) with|some p=>some (.tup [p.1,p.2])|none=>H1 b
   have old:∀b,b<n->H2 b=H1 b:=fun b hb=>by
    have h1:b≠S:=U0v (U2p hb lz0)
    have h2:¬S+1<=b:=Nat.not_le_of_lt (U2p hb (U20 lz0))
    show(if b=S then _ else _)=_
    rw[if_neg h1,if_neg h2]
   have ext:∀b o,H1 b=some o->H2 b=some o:=fun b o e=>by
    obtain⟨ob,e'⟩:=(I1.hok b o e).obj
    rw[old b (up b ob e')];exact e
   have hpair:∀j p,(xs.zip ys)[j]?=some p->H2 (S+1+j)=some (.tup [p.1,p.2]):=fun j p e=>by
    show(if S+1+j=S then _ else _)=_
    rw[if_neg (by omega),if_pos (by omega),show S+1+j-(S+1)=j by omega,e]
   have hlst:H2 S=some (.lst refs):=by show(if S=S then _ else _)=_;rw[if_pos rfl]
   have fresh:∀b,n<=b->H1 b=none:=fun b hb=>I1.hok.fresh (hn ▸ hb)
   refine⟨.ref S,H2,I1.tR (h':=h2) (d':=s1.drawn) (t':=tk) k2 (hn ▸ old) ext fun b o e e'=>?_,rfl,q S (S+1) H2 (fresh S (U2b lz0)) ext hlst hpair⟩
   by_cases hb:b=S
   .subst hb
    rw[hlst] at e
    cases e
    refine⟨?_,(U0p (xs.zip ys).length).map (fun j=>U1x (b+1+j)),c',?_,hS⟩
    .show((U0p (xs.zip ys).length).map _).length<=_
     rw[U0i,U4y];exact U06 hl (by decide)
    .show Vals ((U0p (xs.zip ys).length).map _) _
     generalize U0p (xs.zip ys).length=r
     induction r with
     |nil=>exact .nil
     |cons j r ih=>exact .cons rfl ih
   .by_cases hb2:S+1<=b
    .obtain⟨j,rfl⟩:∃j,b=S+1+j:=⟨b-(S+1),(Nat.add_sub_cancel' hb2).symm⟩
     cases hz:(xs.zip ys)[j]? with
     |none =>
      have:H2 (S+1+j)=H1 (S+1+j):=by
       show(if S+1+j=S then _ else _)=_
       rw[if_neg hb,if_pos hb2,show S+1+j-(S+1)=j by omega,hz]
      rw[this,e'] at e;cases e
     |some p =>
      rw[hpair j p hz] at e
      cases e
      obtain⟨hj,_⟩:=U0l.mp hz
      obtain⟨x,y,r1,r2,t⟩:=hL j hj
      have z1:=List.getElem?_zip_eq_some.mp hz
      obtain⟨u,hu,ru⟩:=rv1.get z1.1
      obtain⟨v,hv,rv⟩:=rv2.get z1.2
      have g1:its1[j]?=some x:=by simpa using r1
      have g2:its2[j]?=some y:=by simpa using r2
      rw[hu] at g1
      rw[hv] at g2
      have g1':=U00 g1
      have g2':=U00 g2
      rw[g1'] at ru
      rw[g2'] at rv
      exact⟨(by decide:2<=sizeLine),[x,y],.cons ru (.cons rv .nil),⟨_,t,rfl,_,rfl⟩⟩
    .have:H2 b=H1 b:=by
      show(if b=S then _ else _)=_
      rw[if_neg hb,if_neg hb2]
     rw[this,e'] at e;cases e
 cases L with
 |true=>exact call_zip_2 p1 p2 fun h' c1 c2 c3 c4 c5 _ k=>fin h' c1 c2 c3 c4 c5 k
 |false=>exact HT.Wd p1 p2 fun h' c1 c2 c3 c4 c5 k=>fin h' c1 c2 c3 c4 c5 k
end
end L2
end
section
namespace VS
open PySem PySem.Spec L2 PyProof.Rows
theorem UL{Γ:Fr}{μ:Mu}{H:Hp}:∀{as bs:List V} {xs ys:List D} (t0:Nat),VRs Γ μ H as xs->VRs Γ μ H bs ys->(∀j p,(as.zip bs)[j]?=some p->H (t0+j)=some (.tup [p.1,p.2]))->VRs Γ μ H ((U7m t0 (as.zip bs).length).map V.ref) (DW xs ys)
 |[],_,_,_,_,.nil,_,_=>by simp[DW];exact .nil
 |_::_,[],_,_,_,.cons _ _,.nil,_=>by simp[DW];exact .nil
 |a::as,b::bs,_,_,t0,.cons ra rs,.cons rb rt,h=>by
  rw[List.zip_cons_cons,U0e,List.range'_succ,U0t,DW]
  refine .cons (.tup (h 0 (a,b) rfl) (.cons ra (.cons rb .nil))) (UL (t0+1) rs rt fun j p hp=>?_)
  have:=h (j+1) p (by simpa using hp)
  rw[show t0+1+j=t0+(j+1) by omega]
  exact this
theorem Tq:∀(xs ys:List D),(DW xs ys).length=(xs.zip ys).length
 |[],_=>by simp[DW]
 |_::_,[]=>by simp[DW]
 |_::xs,_::ys=>by simp[DW,Tq xs ys]
def R7(a:Bh):Az:=fun env S=>(a env S).bind fun p=>match p.1 with
 |[x,y]=>(listOf p.2 x).bind fun xs=>(listOf p.2 y).bind fun ys=>if (DW xs ys).length<=1000000 then some (.lst true (DW xs ys),p.2) else none
 |_=>none
theorem ZW{X:Cx}{a b:Expr}{f:Bh}{p p2 pos pos2:Pos}(hc:X.calm=true)(ha:JA X [a,b] f)(hg:Gl X "list")(hm:X.mg "list"=none)(hg2:Gl X "zip")(hm2:X.mg "zip"=none)(hs:starEach [a,b] X.env=[(false,eval a X.env),(false,eval b X.env)]:=by rfl)(hs2:starEach [b] X.env=[(false,eval b X.env)]:=by rfl)
  (he2:starEach [.Call (.Name "zip" p2) [a,b] [] pos2] X.env=[(false,eval (.Call (.Name "zip" p2) [a,b] [] pos2) X.env)]:=by rfl):JE X (.Call (.Name "list" p) [.Call (.Name "zip" p2) [a,b] [] pos2] [] pos) (R7 f) :=
 ⟨PE.imp (Z9 true hc hg hm hg2 hm2 ha.pa hs hs2 he2) fun σ H Q h=>by
  obtain⟨Γ,μ,env,S,d,S',hK,R,e,q⟩:=h
  obtain⟨⟨ds,S1⟩,e1,e⟩:=bind_some e
  dsimp only at e
  split at e
  .rename_i x y
   obtain⟨xs,e2,e⟩:=bind_some e
   obtain⟨ys,e3,e⟩:=bind_some e
   by_cases hl:(DW xs ys).length<=1000000
   .rw[if_pos hl] at e;cases e
    refine⟨Γ,μ,env,S,[x,y],_,hK,R,e1,fun vs μ1 H1 x1 R1 r1=>?_⟩
    obtain⟨v,u,rfl,ra,rb⟩:=r1.two
    obtain⟨pa,as,rfl,ha',rx⟩:=VR.list R1 ra e2
    obtain⟨pb,bs,rfl,hb',ry⟩:=VR.list R1 rb e3
    refine⟨pa,pb,as,bs,rfl,ha',hb',?_,fun l t0 H2 hn hx hl2 hp=>?_⟩
    .rw[Tq,U6b,←rx.length,←ry.length] at hl
     rw[U6b];exact hl
    .obtain⟨R2,x2⟩:=R1.grow (show Same H1 H2 from hx)
     have hr:(U0p (as.zip bs).length).map (fun j=>V.ref (t0+j))=(U7m t0 (as.zip bs).length).map V.ref:=by
      rw[List.range'_eq_map_range,U0f];rfl
     exact q _ μ1 H2 (x1.trans x2) R2 (.lst (R1.ok hn true) (R1.dead hn) hl2 (by rw[hr];exact UL t0 (rx.ext x2) (ry.ext x2) hp))
   .rw[if_neg hl] at e;cases e
  .cases e⟩
theorem Xl(a:Bh)(env:VS.Env)(S:Store):VS.R7 a env S=(a env S).bind fun p=>match p.1 with
 |[x,y]=>(listOf p.2 x).bind fun xs=>(listOf p.2 y).bind fun ys=>if (DW xs ys).length<=1000000 then some (.lst true (DW xs ys),p.2) else none
 |_=>none:=rfl
end VS
end
section
namespace VS
open PySem PySem.Spec L2
end VS
end
section
namespace HT
open PySem PySem.Spec PyProof PyProof.Rows
def half{α:Type}(a:Nat)(l:List α):List α:=(U0p ((l.length+1-a)/2)).filterMap fun k=>l[a+2*k]?
end HT
namespace L2
open PySem PySem.Spec PyProof PyProof.Rows
end L2
end
section
namespace VS
open PySem PySem.Spec L2
def MF(neg:Bool)(_:Store):D->D->Option D
 |.str a,.str b=>some (.bl (neg ^^ decide (a=b)))
 |_,_=>none
theorem Y6{K:U0a}:FJ K cT (MF true):=by
 intro Γ μ σ H env S x y dx dy d hK R rx ry e Q q
 unfold MF at e
 split at e
 .rename_i a b
  cases e;cases rx;cases ry
  refine .inl ⟨rfl,?_⟩
  have:decide (V.str a=V.str b)=decide (a=b):=by simp
  rw[this]
  exact q _ H (Same.refl H) (by simpa using VR.bl (!decide (a=b)))
 .cases e
end VS
end
section
namespace L2
open PySem PySem.Spec PyProof PyProof.Rows
section
variable{X:Cx}
def nG(K:U0a):List V->Hp->VK->Prop:=fun xs H Q=>∃(p:Addr)(ns:List Int),xs=[.ref p]/\SqL K H p (ns.map V.int)/\Q (.int ns.sum) H
theorem cC(hc:X.calm=true):DK X (.builtin "sum") (nG X.K):=by
 intro pins s σ H xs us Q I r h
 obtain⟨p,ns,rfl,hq,q⟩:=h
 obtain⟨u,rfl,rx⟩:=vals1 r
 cases rx
 obtain⟨its,rv,pl,hz⟩:=I.list hq
 have hi:IntsAre its ns:=intsAre_of rv
 obtain⟨ys,hy⟩:=hi.allInts.items
 have hn:=hi.numsOf
 have hl:=pl.isList
 rw[hy] at hl
 refine sum_intListG (I.ok.hd hc) hl fun h' tk t' hk=>⟨.int ns.sum,H,I.kept (h':=h') (t':=tk) hk,⟨t',?_⟩,q⟩
 have e:its=(intItems ys).toList:=by rw[←hy]
 rw[e,nums_intItems] at hn
 rw[preSum_eq,U5y (by simp),hn]
end
end L2
end
section
namespace HT
open PySem PySem.Spec PyProof PyProof.Rows
section
variable{P0:Program}{wd:World}{Ar:Around}{Er:Value->Shared->Prop}{sh:Shared}
variable{J:Addr}{fp wr:List Addr}{n:Nat}{P:Nat->Value->Prop}{St:Nat->Heap->Prop}{Rr:Result->Shared->Prop}{dv:Value}
end
end HT
namespace L2
open PySem PySem.Spec PyProof PyProof.Rows
section
variable{X:Cx}
end
end L2
end
section
namespace VS
open PySem PySem.Spec L2
theorem qm:bootBuiltins "sum"=some (.builtin "sum"):=by decide +kernel
def Yn(S:Store):List D->Option D
 |[x]=>(listOf S x).bind fun ds=>(intsOf ds).map fun ns=>.int ns.sum
 |_=>none
theorem jN{K:U0a}:Jh K (nG K) Yn:=by
 intro Γ μ σ H env S xs ds d hK R rs e Q q
 unfold Yn at e
 split at e
 .obtain⟨es,e1,e⟩:=bind_some e
  obtain⟨ns,e2,e4⟩:=map_some e
  subst e4
  obtain⟨v,rfl,r⟩:=rs.one
  obtain⟨a,ys,rfl,ha,rx⟩:=VR.list R r e1
  have:=Il e2
  subst this
  have:=rx.RQ
  subst this
  exact⟨a,ns,rfl,SqL.of ha,q _ H (Same.refl H) (.int _)⟩
 .cases e
end VS
end
section
namespace VS
open PySem PySem.Spec L2
end VS
end
section
set_option maxRecDepth 100000
namespace HT
open PySem PySem.Spec PyProof.Rows
section
variable{prog:Program}{w:World}{A:Around}{E:Value->Shared->Prop}{s:Shared}
structure vh(z TI TO i1 i2 i3:Addr)(fp1 fp2 fp3:List Addr):Prop where
 a1:TI≠z
 a2:TO≠z
 a3:TI≠TO
 b1:∀b∈fp1,b≠z/\b≠TO/\b≠i2/\b≠i3
 b2:∀b∈fp2,b≠z/\b≠TO/\b≠i1/\b≠i3
 b3:∀b∈fp3,b≠z/\b≠TO/\b≠i1/\b≠i2
 c1:i1≠z/\i1≠TO/\i1≠TI
 c2:i2≠z/\i2≠TO/\i2≠TI
 c3:i3≠z/\i3≠TO/\i3≠TI
section
variable{z TI TO i1 i2 i3:Addr}{fp1 fp2 fp3:List Addr}{n1 n2 n3 k:Nat}{P1 P2 P3:Nat->Value->Prop}{S1 S2 S3:Nat->Heap->Prop}{a b c:Value}
end
set_option maxHeartbeats 4000000 in
end
end HT
end
section
namespace HT
open PySem PySem.Spec PyProof.Rows
section
variable{prog:Program}{w:World}{A:Around}{E:Value->Shared->Prop}{s:Shared}
end
end HT
namespace L2
open PySem PySem.Spec PyProof.Rows
end L2
end
section
namespace L2
open PySem PySem.Spec PyProof.Rows
section
variable{X:Cx}
end
end L2
end
section
namespace VS
open PySem PySem.Spec L2
section
variable{X:Cx}
end
end VS
end
section
set_option maxRecDepth 100000
namespace L2
open PySem PySem.Spec PyProof.Rows
section
variable{κ:Type}[DecidableEq κ]
def HS(kvs:List (κ×V))(k:κ):Option V:=(kvs.find? fun kv=>decide (kv.1=k)).map (·.2)
def putK(kvs:List (κ×V))(k:κ)(v:V):List (κ×V) :=
 if (kvs.any fun kv=>decide (kv.1=k))=true then kvs.map (fun kv=>if kv.1=k then (kv.1,v) else kv) else kvs++[(k,v)]
theorem Ql{p:κ×V}{r:List (κ×V)}{k:κ}(e:p.1=k):HS (p::r) k=some p.2:=by simp[HS,U4t,e]
theorem Qm{p:κ×V}{r:List (κ×V)}{k:κ}(e:¬p.1=k):HS (p::r) k=HS r k:=by simp[HS,U4t,e]
theorem Vq(k:κ):∀kvs:List (κ×V),(kvs.any fun kv=>decide (kv.1=k))=(HS kvs k).isSome
 |[]=>rfl
 |p::r=>by
  rw[U7f]
  by_cases e:p.1=k
  .simp only[Ql e,decide_eq_true e,U7j,Option.isSome_some]
  .rw[Qm e,decide_eq_false e,Bool.false_or];exact Vq k r
theorem QL(kvs:List (κ×V))(k:κ)(v:V):(putK kvs k v).length<=kvs.length+1:=by
 unfold putK
 split
 .rw[U0i];omega
 .rw[U0n,U0e,U1h];omega
theorem Qj.Ov{o:Option V}{u:Option Value}(r:Qj o u):o.isSome=u.isSome:=by
 cases o with
 |none=>cases u with
  |none=>rfl
  |some _=>exact(show False from r).elim
 |some _=>cases u with
  |none=>exact(show False from r).elim
  |some _=>rfl
theorem KV.val{kvs:List (κ×V)}{vs:List (κ×Value)}(r:KV kvs vs)(k:κ):Qj (HS kvs k) (valueAt vs k):=by
 unfold KV at r
 induction r with
 |nil=>exact U4l
 |@cons p q ps qs h t ih =>
  obtain⟨h1,h2⟩:=h
  by_cases e:p.1=k
  .have e':q.1=k:=h1.symm.trans e
   have b:valueAt (q::qs) k=some q.2:=by simp[valueAt,U4t,e']
   rw[Ql e,b];exact h2
  .have e':¬q.1=k:=fun z=>e (h1.trans z)
   have b:valueAt (q::qs) k=valueAt qs k:=by simp[valueAt,U4t,e']
   rw[Qm e,b];exact ih
theorem KV.any{kvs:List (κ×V)}{vs:List (κ×Value)}(r:KV kvs vs)(k:κ):(kvs.any fun kv=>decide (kv.1=k))=vs.any fun kv=>decide (kv.1=k):=by
 unfold KV at r
 induction r with
 |nil=>rfl
 |cons h t ih=>rw[U7f,U7f,ih,h.1]
theorem KV.repl{kvs:List (κ×V)}{vs:List (κ×Value)}(r:KV kvs vs)(k:κ){y:V}{u:Value}(ry:RelV y u) :
  KV (kvs.map fun kv=>if kv.1=k then (kv.1,y) else kv) (vs.map fun kv=>if kv.1=k then (kv.1,u) else kv):=by
 unfold KV at r ⊢
 induction r with
 |nil=>exact .nil
 |@cons p q ps qs h t ih =>
  rw[U0t,U0t]
  refine .cons ?_ ih
  obtain⟨h1,h2⟩:=h
  by_cases e:p.1=k
  .rw[if_pos e,if_pos (h1.symm.trans e)];exact⟨h1,ry⟩
  .rw[if_neg e,if_neg (fun z=>e (h1.trans z))];exact⟨h1,h2⟩
theorem KV.put{kvs:List (κ×V)}{vs:List (κ×Value)}(r:KV kvs vs)(k:κ){y:V}{u:Value}(ry:RelV y u):KV (putK kvs k y) (stored vs k u):=by
 unfold putK stored
 rw[r.any k]
 by_cases e:(vs.any fun kv=>decide (kv.1=k))=true
 .rw[if_pos e,if_pos e];exact r.repl k ry
 .rw[if_neg e,if_neg e];exact Paired.snoc r ⟨rfl,ry⟩
theorem KV.length{kvs:List (κ×V)}{vs:List (κ×Value)}(r:KV kvs vs):kvs.length=vs.length:=Paired.length r
end
theorem Yv{P:Program}{w:World}{k:Key}{u:Value}(r:RelV (kV k) u):(Fq P w).is k u=true:=by
 cases k with
 |inl i=>obtain⟨t,e⟩:=(show ∃t,u=U3s i t from r);subst e;exact Xh P w i t
 |inr x=>obtain⟨t,e⟩:=(show ∃t,u=U6z x t from r);subst e;exact Xg P w x t
theorem Ue{P:Program}{w:World}:∀{ks:List Key} {us:List Value},Vals (ks.map kV) us->ItemsAre (Fq P w) ks us
 |[],_,r=>by rw[U1u] at r;cases r;exact .nil
 |k::ks,_,r=>by
  rw[U0t] at r
  cases r with
  |cons h t=>exact .cons (Yv h) (Ue t)
abbrev KT(H:Hp):List (List Key×V)->List (List Key×Addr×Value)->Prop:=Paired fun p q=>p.1=q.1/\H q.2.1=some (.tup (p.1.map kV))/\RelV p.2 q.2.2
theorem KT.val{H:Hp}{kvs:List (List Key×V)}{xs:List (List Key×Addr×Value)}(r:KT H kvs xs)(k:List Key):Qj (HS kvs k) ((atKey xs k).map (·.2)):=by
 induction r with
 |nil=>exact U4l
 |@cons p q ps qs h t ih =>
  obtain⟨h1,_,h2⟩:=h
  by_cases e:p.1=k
  .have e':q.1=k:=h1.symm.trans e
   have b:atKey (q::qs) k=some q.2:=by simp[atKey,U4t,e']
   rw[Ql e,b];exact h2
  .have e':¬q.1=k:=fun z=>e (h1.trans z)
   have b:atKey (q::qs) k=atKey qs k:=by simp[atKey,U4t,e']
   rw[Qm e,b];exact ih
theorem KT.repl{H:Hp}{kvs:List (List Key×V)}{xs:List (List Key×Addr×Value)}(r:KT H kvs xs)(k:List Key){y:V}{u:Value}(ry:RelV y u) :
  KT H (kvs.map fun kv=>if kv.1=k then (kv.1,y) else kv) (xs.map (putAt k u)):=by
 induction r with
 |nil=>exact .nil
 |@cons p q ps qs h t ih =>
  rw[U0t,U0t]
  refine .cons ?_ ih
  obtain⟨h1,h2,h3⟩:=h
  unfold putAt
  by_cases e:p.1=k
  .rw[if_pos e,if_pos (h1.symm.trans e)];exact⟨h1,h2,ry⟩
  .rw[if_neg e,if_neg (fun z=>e (h1.trans z))];exact⟨h1,h2,h3⟩
theorem KT.put{H:Hp}{kvs:List (List Key×V)}{xs:List (List Key×Addr×Value)}(r:KT H kvs xs)(k:List Key){b:Addr}{y:V}{u:Value}(hb:H b=some (.tup (k.map kV)))(ry:RelV y u) :
  KT H (putK kvs k y) (storedH xs k b u):=by
 have e:(kvs.any fun kv=>decide (kv.1=k))=(atKey xs k).isSome:=by
  rw[Vq,(r.val k).Ov,U6t]
 unfold putK storedH
 rw[e]
 by_cases q:(atKey xs k).isSome=true
 .rw[if_pos q,if_pos q];exact r.repl k ry
 .rw[if_neg q,if_neg q];exact Paired.snoc r ⟨rfl,hb,ry⟩
theorem KT.keeps{H H':Hp}{kvs:List (List Key×V)}{xs:List (List Key×Addr×Value)}(r:KT H kvs xs)(ht:∀b ys,H b=some (.tup ys)->H' b=some (.tup ys)):KT H' kvs xs :=
 Paired.cV r fun _ _ z=>⟨z.1,ht _ _ z.2.1,z.2.2⟩
section
variable{P:Program}{w:World}{H:Hp}{h:Heap}{a:Addr}
theorem iQ{u:HO}(ok:HOk P w H h)(e:Rd H a u):Cr P w H h a u:=e.ok ok
theorem Z1{kvs:List (Key×V)}(ok:HOk P w H h)(e:Rd H a (.dK kvs)):kvs.length<=sizeLine/\(a==sysModules)=false/\∃vs,KV kvs vs/\h.DictOf (Fq P w) a vs :=
 show Cr P w H h a (.dK kvs) from iQ ok e
theorem uE{kvs:List (Key×V)}(ok:HOk P w H h)(e:H a=some (.dK kvs)):kvs.length<=sizeLine/\(a==sysModules)=false/\∃vs,KV kvs vs/\h.DictOf (Fq P w) a vs:=Z1 ok (.inl e)
theorem Vg{ks:List Key}(ok:HOk P w H h)(e:H a=some (.tup (ks.map kV))):(tupleKind (Fq P w)).is h ks a:=by
 obtain⟨_,its,r,o,h1,h2,n,h3⟩:=(show Cr P w H h a (.tup (ks.map kV)) from ok a _ e)
 exact⟨o,its.toArray,n,h1,h2,h3,by simpa using Ue r⟩
theorem iw{kvs:List (List Key×V)}(ok:HOk P w H h)(e:Rd H a (.dT kvs)):kvs.length<=sizeLine/\(a==sysModules)=false /\
  ∃xs,KT H kvs xs/\h.DictOfH (tupleKind (Fq P w)) a xs:=by
 obtain⟨z,y,xs,r,o,es,ep,h1,h2,h3,h4,h5⟩:=(show Cr P w H h a (.dT kvs) from iQ ok e)
 refine⟨z,y,xs,r,o,es,ep,h1,h2,h3,h4,fun x hx=>?_,h5⟩
 have all:∀{l:List (List Key×V)} {m:List (List Key×Addr×Value)},KT H l m->∀x∈m,(tupleKind (Fq P w)).is h x.1 x.2.1:=by
  intro l m q
  induction q with
  |nil=>intro x hx;exact nomatch hx
  |@cons p q ps qs hq t ih =>
   intro x hx
   rcases U0r.mp hx with e|hx
   .subst e
    exact Vg ok (by rw[←hq.1];exact hq.2.1)
   .exact ih x hx
 exact all r x hx
theorem uD{kvs:List (List Key×V)}(ok:HOk P w H h)(e:H a=some (.dT kvs)):kvs.length<=sizeLine/\(a==sysModules)=false /\
  ∃xs,KT H kvs xs/\h.DictOfH (tupleKind (Fq P w)) a xs:=iw ok (.inl e)
end
def VN(H:Hp)(a:Addr)(y:V)(r:Option V):Prop :=
 (∃kvs k,Rd H a (.dK kvs)/\y=kV k/\r=HS kvs k)∨∃kvs k b,Rd H a (.dT kvs)/\y=.ref b/\H b=some (.tup (k.map kV))/\r=HS kvs k
def VL(H:Hp)(a:Addr)(y v:V)(H':Hp):Prop :=
 (∃kvs k,H a=some (.dK kvs)/\y=kV k/\kvs.length<sizeLine/\H'=upd H a (.dK (putK kvs k v))) ∨
 ∃kvs k b,H a=some (.dT kvs)/\y=.ref b/\H b=some (.tup (k.map kV))/\kvs.length<sizeLine/\H'=upd H a (.dT (putK kvs k v))
theorem VN.k{H:Hp}{a:Addr}{kvs:List (Key×V)}{k:Key}(e:H a=some (.dK kvs)):VN H a (kV k) (HS kvs k):=.inl ⟨kvs,k,.inl e,rfl,rfl⟩
theorem VL.k{H:Hp}{a:Addr}{kvs:List (Key×V)}{k:Key}{v:V}(e:H a=some (.dK kvs))(hl:kvs.length<sizeLine):VL H a (kV k) v (upd H a (.dK (putK kvs k v))):=.inl ⟨kvs,k,e,rfl,hl,rfl⟩
section
variable{X:Cx}{pins:List (Addr×Obj)}{σ:St}{H:Hp}{s:Shared}{a:Addr}{y v:V}{u r:Value}{o:Option V}{A:Around}{E:Value->Shared->Prop}
theorem v7{Q:Value->Shared->Prop}(hu:A.units+1<cLine)(I:Inv X pins σ H s)(g:VN H a y o)(ry:RelV y u)(h:∀s',Inv X pins σ H s'->Q (.bool o.isSome) s') :
  wpAny (model X.prog X.w) A (compareOp .In u (.ref a)) Q E s:=by
 rcases g with ⟨kvs,k,e,ey,l⟩|⟨kvs,k,b,e,ey,eb,l⟩
 .subst ey
  obtain⟨z,hd,vs,rel,dd⟩:=Z1 I.hok e
  refine wpAny_in_of (Yv ry) hd dd.mapOf ?_
  rw[←(rel.val k).Ov,←l]
  exact h _ (I.tok _)
 .subst ey
  cases (show u=U1x b from ry)
  obtain⟨z,hd,xs,rel,dd⟩:=iw I.hok e
  refine wpAny_in_heap (tupleKind_room_in1 hu) (Vg I.hok eb) hd dd ?_
  have q:=(rel.val k).Ov
  rw[U6t] at q
  rw[←q,←l]
  exact h _ (I.tok _)
theorem YZ{h':Heap}{t':Nat}{ob:HO}(I:Inv X pins σ H s)(mu:Mut (H a))(hs:U02 a s.heap h')(he:∃q,h'.get? a=some q)(new:Cr X.prog X.w (upd H a ob) h' a ob) :
  Inv X pins σ (upd H a ob) { s with heap:=h',toks:=t' } :=
 I.write (x:=a) (e:=a) mu (.inl rfl) (fun b q hb z=>(hs.2 b hb).trans z) he new
theorem qg{P:Program}{w:World}{H':Hp}{h':Heap}{kvs:List (Key×V)}{vs:List (Key×Value)}(z:kvs.length<=sizeLine)(hd:(a==sysModules)=false)(rel:KV kvs vs)(dd:h'.DictOf (Fq P w) a vs) :
  Cr P w H' h' a (.dK kvs):=⟨z,hd,vs,rel,dd⟩
theorem bh{H':Hp}{Q:Unit->Shared->Prop}(hu:A.units+1<cLine)(I:Inv X pins σ H s)(g:VL H a y v H')(ry:RelV y u)(rv:RelV v r)(h:∀s',Inv X pins σ H' s'->Q () s') :
  wpAny (model X.prog X.w) A (setItem (.ref a) u r) Q E s:=by
 rcases g with ⟨kvs,k,e,ey,l,eH⟩|⟨kvs,k,b,e,ey,eb,l,eH⟩
 .subst ey eH
  obtain⟨z,hd,vs,rel,dd⟩:=uE I.hok e
  have hz:vs.length<=sizeLine:=by rw[←rel.length];exact z
  have hl:(putK kvs k v).length<=sizeLine:=by have:=QL kvs k v;omega
  refine wpAny_setItem_pairs (hsz:=hz) (Yv ry) dd fun h' dd' hs=>h _ ?_
  have he:∃q,h'.get? a=some q:=let ⟨q,_,_,hq,_⟩:=dd';⟨q,hq⟩
  exact YZ I (by rw[e];exact U4l) hs he (qg hl hd (rel.put k rv) dd')
 .subst ey eH
  cases (show u=U1x b from ry)
  obtain⟨z,hd,xs,rel,dd⟩:=uD I.hok e
  have hz:xs.length<=sizeLine:=by rw[←Paired.length rel];exact z
  have hl:(putK kvs k v).length<=sizeLine:=by have:=QL kvs k v;omega
  refine wpAny_setItem_heap (hsz:=hz) (tupleKind_room_in1 hu) (Vg I.hok eb) dd fun h' dd' hs=>h _ ?_
  obtain⟨q,es,ep,hq,h2,h3,h4,_,h5⟩:=dd'
  refine YZ I (by rw[e];exact U4l) hs ⟨q,hq⟩ ⟨hl,hd,_,(rel.put k eb rv).keeps fun c ys ec=>?_,q,es,ep,hq,h2,h3,h4,h5⟩
  rw[BZ (tQ ec e (fun z=>nomatch z))]
  exact ec
end
section
variable{X:Cx}{pins:List (Addr×Obj)}{σ:St}{H:Hp}{s:Shared}{a:Addr}{kvs:List (Key×V)}{k:Key}{u:Value}{A:Around}{E:Value->Shared->Prop}
theorem uF{Q:Value->Shared->Prop}(I:Inv X pins σ H s)(e:Rd H a (.dK kvs))(h:∀t s',Inv X pins σ H s'->Q (.int kvs.length t) s'):wpAny (model X.prog X.w) A (call (.builtin "len") [.ref a]) Q E s:=by
 obtain⟨z,hd,vs,rel,dd⟩:=Z1 I.hok e
 refine call_len_dict hd dd (by rw[←rel.length];rw[sizeLine_eq] at z;omega) ?_
 rw[←rel.length]
 exact h _ _ (I.tok _)
end
def RN(td ty tv:TE):TS:=fun D σ H=>tv σ H fun v H1=>td σ H1 fun x H2=>ty σ H2 fun y H3=>∃a H4,x=.ref a/\VL H3 a y v H4/\D.nx σ H4
section
variable{X:Cx}{o i e value:Expr}{pos pos' tpos:Pos}{td ty tv:TE}
theorem jd(hu:X.A.units+1<cLine)(ho:PE X o td)(hi:PE X i ty)(hv:PE X value tv)(hs:swapsWith value (some (.Subscript o i pos')) pos.line X.env=pure false) :
  PS X (.Assign [.Subscript o i pos'] value pos) (RN td ty tv):=by
 intro pins s σ H D I h
 refine wpAny_Assign_Subscript (thn (hv pins s σ H _ I h) fun r s1 ⟨v,H1,I1,rv,q1⟩=>thn (ho pins s1 σ H1 _ I1 q1) fun u s2 ⟨x,H2,I2,rx,q2⟩=>thn (hi pins s2 σ H2 _ I2 q2) fun iv s3 ⟨y,H3,I3,ry,a,H4,ex,g,q3⟩=>?_) hs
 subst ex
 obtain rfl:u=U1x a:=rx
 exact bh hu I3 g ry rv fun s4 I4=>⟨σ,H4,I4,q3⟩
end
theorem gZ{P:Program}{w:World}{H:Hp}(h:Heap)(hb:sysModules<h.objs.size):Cr P w H (h.push { cls:=.type "dict",data:=.dict #[] }) h.objs.size (.dK []) :=
 ⟨U2y _,beq_eq_false_iff_ne.mpr (U1m (U0v hb)),[],.nil,Heap.DictOf.new h⟩
def oG:TE:=fun _ H Q=>∀p,H p=none->Q (.ref p) (upd H p (.dK []))
section
variable{X:Cx}{pos:Pos}
theorem fD:PE X (.Dict [] [] pos) oG:=fun pins s σ H Q I h =>
 wpAny_Dict_empty ⟨.ref s.heap.objs.size,_,I.laid (a:=s.heap.objs.size) (o:=.dK []) (t':=s.toks) (fun _ _ q=>U0b _ q) (U0k _) (gZ s.heap I.big),rfl,h _ (I.hok.fresh (U0k _))⟩
end
structure M1(X:Cx)(o:Expr)(m:Str)(apos:Pos)(e:Expr)(cpos:Pos):Prop where
 base:attributeBase o m X.env (eval o X.env)=eval o X.env
 few:((backTo cpos (starEach [e] X.env)).all (fun x=>!x.1)&&(backToKw cpos (keywordEach [] X.env)).all (fun x=>x.1.isSome)
  && decide (([e]:List Expr).length+([]:List Keyword).length+(if ([]:List Keyword).isEmpty then 0 else 1)<30))=true
 line:(apos.endLine==cpos.line)=true
 trees:backTo cpos (starEach [e] X.env)=[(false,eval e X.env)]
structure M2(X:Cx)(o:Expr)(m:Str)(apos:Pos)(e f:Expr)(cpos:Pos):Prop where
 base:attributeBase o m X.env (eval o X.env)=eval o X.env
 few:((backTo cpos (starEach [e,f] X.env)).all (fun x=>!x.1)&&(backToKw cpos (keywordEach [] X.env)).all (fun x=>x.1.isSome)
  && decide (([e,f]:List Expr).length+([]:List Keyword).length+(if ([]:List Keyword).isEmpty then 0 else 1)<30))=true
 line:(apos.endLine==cpos.line)=true
 trees:backTo cpos (starEach [e,f] X.env)=[(false,eval e X.env),(false,eval f X.env)]
section
variable{X:Cx}{pins:List (Addr×Obj)}{σ:St}{H:Hp}{s:Shared}{a:Addr}{y d:V}{u r:Value}{o:Option V}{A:Around}{E:Value->Shared->Prop}
end
section
variable{X:Cx}{o e f:Expr}{apos cpos:Pos}{td ty tx:TE}
end
section
variable{X:Cx}{pins:List (Addr×Obj)}{σ:St}{H:Hp}{s:Shared}{a:Addr}{kvs:List (Key×V)}{A:Around}{E:Value->Shared->Prop}
end
section
variable{X:Cx}{pins:List (Addr×Obj)}{σ:St}{H:Hp}{s:Shared}{a:Addr}{y:V}{u:Value}{A:Around}{E:Value->Shared->Prop}
end
section
variable{X:Cx}
theorem cH:DK X (.builtin "len") (fun xs H Q=>∃a kvs,xs=[V.ref a]/\H a=some (.dK kvs)/\Q (.int kvs.length) H):=by
 intro pins s σ H xs us Q I r h
 obtain⟨a,kvs,rfl,ha,q⟩:=h
 obtain⟨u,rfl,ru⟩:=vals1 r
 cases ru
 exact uF I (.inl ha) fun t s' I'=>⟨.int kvs.length,H,I',⟨t,rfl⟩,q⟩
end
section
variable{κ:Type}[DecidableEq κ]
end
end L2
end
section
namespace VS
open PySem PySem.Spec L2
def ofV:V->Option D
 |.int i=>some (.int i)
 |.bl b=>some (.bl b)
 |.non=>some .non
 |.str x=>some (.str x)
 |_=>none
def toV:D->Option V
 |.int i=>some (.int i)
 |.bl b=>some (.bl b)
 |.non=>some .non
 |.str x=>some (.str x)
 |_=>none
def dictOf(S:Store):D->Option (List (Key×V))
 |.dref i=>match S[i]? with|some (some [.dcm kvs])=>some kvs|_=>none
 |.dcf kvs=>some kvs
 |.emp=>some []
 |_=>none
section
variable{Γ:Fr}{μ:Mu}{σ:St}{H:Hp}{env:Env}{S:Store}{v:V}{d:D}
theorem VR.toV{w:V}(r:VR Γ μ H v d)(h:VS.toV d=some w):v=w:=by
 cases r with
 |int i=>cases h;rfl
 |bl b=>cases h;rfl
 |non=>cases h;rfl
 |str x=>cases h;rfl
 |_=>cases h
theorem VR.iy{i:Nat}{kvs:List (Key×V)}(R:Rep Γ μ σ H env S)(r:VR Γ μ H v (.dref i))(h:S[i]?=some (some [.dcm kvs])):∃a,v=.ref a/\μ[i]?=some (some a)/\H a=some (.dK kvs):=by
 cases r with
 |dref hi f =>
  obtain⟨a,h1,hc⟩:=R.sto i _ h
  obtain⟨f1,f2⟩:=f a h1
  obtain⟨kvs',q,h2⟩:=hc.dict f2
  cases q
  exact⟨a,f1,h1,h2⟩
theorem VR.dict{kvs:List (Key×V)}(R:Rep Γ μ σ H env S)(r:VR Γ μ H v d)(h:dictOf S d=some kvs):∃a,v=.ref a/\H a=some (.dK kvs):=by
 cases d with
 |dref i =>
  simp only[dictOf] at h
  split at h
  .rename_i e
   cases h
   obtain⟨a,h1,_,h2⟩:=VR.iy R r e
   exact⟨a,h1,h2⟩
  .cases h
 |dcf k=>cases h;cases r with|dcf o n hb=>exact⟨_,rfl,hb⟩
 |emp=>cases h;cases r with|emp o n hb=>exact⟨_,rfl,hb⟩
 |_=>cases h
theorem Rep.dput(R:Rep Γ μ σ H env S){i:Nat}{a:Addr}{kvs kvs':List (Key×V)}(hi:μ[i]?=some (some a))(ha:H a=some (.dK kvs)) :
  Rep Γ μ σ (upd H a (.dK kvs')) env (S.set i (some [.dcm kvs']))/\Ext μ H μ (upd H a (.dK kvs')) :=
 R.nY hi (fun⟨_,q⟩=>by rw[ha] at q;cases q) (fun _=>⟨kvs',Bk⟩) fun _ _ q=>.inr ⟨kvs',rfl,q⟩
end
def Z0:Az:=fun _ S=>some (.dref S.length,S++[some [.dcm []]])
def vm(o i:Az):Az:=fun env S=>(o env S).bind fun p=>(i env p.2).bind fun q=>match q.1 with
 |.int k=>(dictOf q.2 p.1).bind fun kvs=>(HS kvs (.inl k)).bind fun w=>(ofV w).map fun d=>(d,q.2)
 |_=>none
def Sq(neg:Bool)(S:Store):D->D->Option D
 |.int k,d=>(dictOf S d).map fun kvs=>.bl (neg ^^ (HS kvs (.inl k)).isSome)
 |_,_=>none
def KZ(S:Store):List D->Option D
 |[d]=>(dictOf S d).map fun kvs=>.int kvs.length
 |_=>none
def RN(v o i:Az):BX:=fun env S=>(v env S).bind fun p=>(o env p.2).bind fun q=>(i env q.2).bind fun r=>match q.1,r.1 with
 |.dref j,.int k=>(match r.2[j]? with
  |some (some [.dcm kvs])=>if kvs.length<1000000 then (toV p.1).bind fun w=>some (.nx,env,r.2.set j (some [.dcm (putK kvs (.inl k) w)])) else none
  |_=>none)
 |_,_=>none
section
variable{X:Cx}{o i e f value:Expr}{pos pos' apos cpos:Pos}{fo fi fe fv ft:Az}
theorem kj:JE X (.Dict [] [] pos) Z0:=⟨PE.imp fD fun σ H Q w=>by
 obtain⟨Γ,μ,env,S,d,S',hK,R,e,q⟩:=w
 cases e
 intro p hp
 obtain⟨R2,x2⟩:=R.iZ (o:=.dK []) (ds:=[.dcm []]) hp fun _ _ _ q=>.inr ⟨[],rfl,q⟩
 exact q _ _ _ x2 R2 (.dref (by rw[U0n,R.slen];simp) fun a h=>by
  rw[R.slen] at h
  simp at h
  rw[←h]
  exact⟨rfl,⟨_,Bk⟩⟩)⟩
def nU(neg:Bool):R2:=fun y x H Q=>∃a o,x=.ref a/\VN H a y o/\Q (.bl (neg ^^ o.isSome)) H
theorem Zu(hu:X.A.units+1<cLine):OpR X (compareOp .In) (nU false):=by
 intro pins s σ H x y v u Q I rx ry h
 obtain⟨a,o,rfl,g,q⟩:=h
 obtain rfl:u=U1x a:=ry
 rw[U6i] at q
 exact v7 hu I g rx fun s3 I3=>⟨.bl o.isSome,H,I3,rfl,q⟩
theorem Y9{K:U0a}{neg:Bool}:FJ K (nU neg) (Sq neg):=by
 intro Γ μ σ H env S x y dx dy d hK R rx ry e Q q
 unfold Sq at e
 split at e
 .rename_i k
  obtain⟨kvs,e1,e2⟩:=map_some e
  subst e2
  obtain⟨a,rfl,ha⟩:=VR.dict R ry e1
  cases rx
  exact⟨a,_,rfl,VN.k (k:=(.inl k:Key)) ha,q _ H (fun _ _ h=>h) (.bl _)⟩
 .cases e
theorem dZ{K:U0a}:Jh K (fun xs H Q=>∃a kvs,xs=[V.ref a]/\H a=some (.dK kvs)/\Q (.int kvs.length) H) KZ:=by
 intro Γ μ σ H env S xs ds d hK R rs e Q q
 unfold KZ at e
 split at e
 .rename_i dx
  obtain⟨kvs,e1,e2⟩:=map_some e
  subst e2
  obtain⟨y,rfl,ry⟩:=rs.one
  obtain⟨a,rfl,ha⟩:=VR.dict R ry e1
  exact⟨a,kvs,rfl,ha,q _ H (fun _ _ h=>h) (.int _)⟩
 .cases e
theorem kY(hu:X.A.units+1<cLine)(hv:JE X value fv)(ho:JE X o fo)(hi:JE X i fi)(hs:swapsWith value (some (.Subscript o i pos')) pos.line X.env=pure false:=by rfl) :
  JS X (.Assign [.Subscript o i pos'] value pos) (VS.RN fv fo fi):=⟨PS.imp (jd hu ho.pe hi.pe hv.pe hs) fun E σ H h=>by
 obtain⟨Γ,μ,env,S,fl,env',S',hK,R,e,q⟩:=h
 obtain⟨⟨x,S1⟩,e1,e⟩:=bind_some e
 obtain⟨⟨y,S2⟩,e2,e⟩:=bind_some e
 obtain⟨⟨z,S3⟩,e3,e⟩:=bind_some e
 refine⟨Γ,μ,env,S,x,S1,hK,R,e1,fun v1 μ1 H1 x1 R1 r1=>?_⟩
 refine⟨Γ,μ1,env,S1,y,S2,hK,R1,e2,fun v2 μ2 H2 x2 R2 r2=>?_⟩
 refine⟨Γ,μ2,env,S2,z,S3,hK,R2,e3,fun v3 μ3 H3 x3 R3 r3=>?_⟩
 dsimp only at e
 split at e
 .rename_i j k _
  split at e
  .rename_i kvs hd
   by_cases hl:kvs.length<1000000
   .rw[if_pos hl] at e
    obtain⟨w,e4,e⟩:=bind_some e
    cases e
    obtain⟨b,rfl,g1,g2⟩:=VR.iy R3 (r2.ext x3) hd
    cases r3
    have hw:=r1.toV e4
    subst hw
    obtain⟨R4,x4⟩:=R3.dput (kvs':=putK kvs (.inl k) v1) g1 g2
    exact⟨b,_,rfl,VL.k (k:=(.inl k:Key)) g2 (big (U2b hl)),q μ3 σ _ (x1.trans (x2.trans (x3.trans x4))) R4⟩
   .rw[if_neg hl] at e;cases e
  .cases e
 .cases e⟩
theorem dh(v o i:Az)(env:VS.Env)(S:Store):VS.RN v o i env S=(v env S).bind fun p=>(o env p.2).bind fun q=>(i env q.2).bind fun r=>match q.1,r.1 with
 |.dref j,.int k=>(match r.2[j]? with
  |some (some [.dcm kvs])=>if kvs.length<1000000 then (toV p.1).bind fun w=>some (.nx,env,r.2.set j (some [.dcm (putK kvs (.inl k) w)])) else none
  |_=>none)
 |_,_=>none:=rfl
end
end VS
end
section
namespace VS
def at1(bs:List (List St2))(i w:Nat):St2:=(bs.getD i []).getD w (0,0)
def inS(p:St2)(x:Int):Bool:=decide (p.1<=x)&&decide (x<p.2)
def Dy(bs:List (List St2))(w:Nat)(x:Int)(ns:List Nat):List Nat:=ns.filter fun i=>inS (at1 bs i w) x
def steps(E:List Int):List St2:=E.zip E.tail
def Cj(bs:List (List St2))(w:Nat)(ns:List Nat):List Int:=FN (ns.map (fun i=>(at1 bs i w).1)++ns.map (fun i=>(at1 bs i w).2))
def Bg(bs:List (List St2)):Nat->Nat->List Nat->List (List St2×List Nat)
 |0,_,ns=>if ns=[] then [] else [([],ns)]
 |k+1,w,ns=>if ns=[] then [] else (steps (Cj bs w ns)).flatMap fun p=>(Bg bs k (w+1) (Dy bs w p.1 ns)).map fun c=>(p::c.1,c.2)
def Gd(g:Int->Int)(a:Int):Nat->Int
 |0=>0
 |n+1=>Gd g a n+g (a+n)
def canon(bs:List (List St2))(F:List Nat->Int)(A:Int)(N:Nat):Nat->Nat->List Nat->Int
 |0,_,ns=>F ns
 |k+1,w,ns=>Gd (fun x=>canon bs F A N k (w+1) (Dy bs w x ns)) A N
def RM:List St2->Int
 |[]=>1
 |p::r=>(p.2-p.1)*RM r
def csum(F:List Nat->Int)(cs:List (List St2×List Nat)):Int:=(cs.map fun c=>RM c.1*F c.2).sum
theorem Qw(g:Int->Int)(a:Int)(m:Nat):∀n:Nat,Gd g a (m+n)=Gd g a m+Gd g (a+m) n
 |0=>by simp[Gd]
 |n+1=>by
  rw[show m+(n+1)=m+n+1 by omega,Gd,Qw g a m n,Gd,show a+((m+n:Nat):Int)=a+m+n by omega]
  omega
theorem Ia(g:Int->Int)(a v:Int):∀n:Nat,(∀x,a<=x->x<a+n->g x=v)->Gd g a n=n*v
 |0,_=>by simp[Gd]
 |n+1,h=>by
  rw[Gd,Ia g a v n (fun x h1 h2=>h x h1 (by omega)),h (a+n) (by omega) (by omega)]
  rw[show((n+1:Nat):Int)=n+1 by omega,Int.add_mul,Int.one_mul]
theorem Hu(a b:Int)(r:List Int):steps (a::b::r)=(a,b)::steps (b::r):=rfl
theorem Lr:∀{E:List Int},E.Pairwise (·<·)->∀p∈steps E,p.1<p.2/\p.1∈E/\p.2∈E/\∀e∈E,e<=p.1∨p.2<=e
 |[],_,p,h=>by simp[steps] at h
 |[a],_,p,h=>by simp[steps] at h
 |a::b::r,hp,p,h=>by
  have hab:=(U1i.mp hp).1
  have ht:=(U1i.mp hp).2
  rw[Hu] at h
  rcases U0r.mp h with z|z
  .subst z
   refine⟨hab b U0g,by simp,by simp,fun e he=>?_⟩
   rcases U0r.mp he with q|q
   .left;show e<=a;omega
   .right
    show b<=e
    rcases U0r.mp q with q|q
    .omega
    .exact U7h ((U1i.mp ht).1 e q)
  .obtain⟨h1,h2,h3,h4⟩:=Lr ht p z
   refine⟨h1,U0z _ h2,U0z _ h3,fun e he=>?_⟩
   rcases U0r.mp he with q|q
   .left;rw[q];exact U7h (hab _ h2)
   .exact h4 e q
def Qg(E:List Int)(g:Int->Int):Int:=((steps E).map fun p=>(p.2-p.1)*g p.1).sum
theorem U9(g:Int->Int)(B:Int):∀(r:List Int)(a:Int),(a::r).Pairwise (·<·)->(∀p∈steps (a::r),∀x,p.1<=x->x<p.2->g x=g p.1)->(∀x,(∀e∈a::r,e<=x)->g x=0)->(∀e∈a::r,e<=B)->Qg (a::r) g=Gd g a (B-a).toNat
 |[],a,hp,hc,ho,hB=>by
  have:Gd g a (B-a).toNat=(B-a).toNat*0:=Ia g a 0 _ fun x h1 _=>ho x (by simpa using h1)
  rw[this];simp[Qg,steps]
 |b::r,a,hp,hc,ho,hB=>by
  have hab:=(U1i.mp hp).1 b U0g
  have ht:=(U1i.mp hp).2
  have hb:=hB b (by simp)
  have ih:=U9 g B r b ht (fun p h=>hc p (by rw[Hu];exact U0z _ h)) (fun x h=>ho x fun e he=>by
   rcases U0r.mp he with q|q
   .have:=h b U0g;omega
   .exact h e q) fun e he=>hB e (U0z _ he)
  have e1:(B-a).toNat=(b-a).toNat+(B-b).toNat:=by omega
  have e2:Gd g a (b-a).toNat=(b-a).toNat*g a:=Ia g a (g a) _ fun x h1 h2=>hc (a,b) (by rw[Hu];exact U0g) x h1 (by show x<b;omega)
  have e3:(((b-a).toNat:Nat):Int)=b-a:=by omega
  rw[e1,Qw,e2,e3,show a+(b-a)=b by omega,←ih]
  simp[Qg,Hu]
theorem aP{E:List Int}{g:Int->Int}{A:Int}{N:Nat}(hp:E.Pairwise (·<·))(hc:∀p∈steps E,∀x,p.1<=x->x<p.2->g x=g p.1)(h0:∀x,(∀e∈E,x<e)->g x=0)(h1:∀x,(∀e∈E,e<=x)->g x=0)(hb:∀e∈E,A<=e/\e<=A+N):Qg E g=Gd g A N:=by
 cases E with
 |nil =>
  have:Gd g A N=N*0:=Ia g A 0 _ fun x _ _=>h0 x fun e he=>by simp at he
  rw[this];simp[Qg,steps]
 |cons a r =>
  have ha:=hb a U0g
  rw[U9 g (A+N) r a hp hc h1 fun e he=>(hb e he).2]
  have e1:N=(a-A).toNat+(A+N-a).toNat:=by omega
  have e2:Gd g A (a-A).toNat=(a-A).toNat*0:=Ia g A 0 _ fun x _ h2=>h0 x fun e he=>by
   rcases U0r.mp he with q|q
   .omega
   .have:=(U1i.mp hp).1 e q;omega
  have e3:A+(((a-A).toNat:Nat):Int)=a:=by omega
  conv=>rhs;rw[e1,Qw,e2,e3]
  simp
theorem Vv{α:Type}(F:List Nat->Int)(f:α->List (List St2×List Nat)):∀l:List α,csum F (l.flatMap f)=(l.map fun p=>csum F (f p)).sum
 |[]=>rfl
 |a::l=>by
  rw[U5v,csum,U1s,List.sum_append_int,U0t,U4j,←Vv F f l];rfl
theorem Ul(F:List Nat->Int)(p:St2):∀cs:List (List St2×List Nat),csum F (cs.map fun c=>(p::c.1,c.2))=(p.2-p.1)*csum F cs
 |[]=>by simp[csum]
 |c::cs=>by
  have:=Ul F p cs
  simp only[csum,U0t,U4j] at this ⊢
  rw[this,RM,Int.mul_add,Int.mul_assoc]
theorem Ls{ns:List Int}{x:Int}:x∈FN ns↔x∈ns:=(U5b _ _).mem_iff.trans ((SetP.LR ns).2.2 x)
theorem Kc(ns:List Int):(FN ns).Pairwise (·<·):=by
 obtain⟨o1,o2,o3⟩:=SetP.LR ns
 have hp:(FN ns).Perm (SetP.once ns):=U5b _ _
 have hs:(FN ns).Pairwise (·<=·):=by
  have:=List.pairwise_mergeSort (le:=fun a b:Int=>decide (a<=b)) (by intro a b c h1 h2;simp at *;omega) (by intro a b;simp;omega) (SetP.once ns)
  exact this.imp fun h=>by simpa using h
 exact(hs.and (hp.nodup_iff.mpr o1)).imp fun⟨h,n⟩=>by omega
theorem Oh(ns:List Int):(FN ns).length<=ns.length:=by
 obtain⟨o1,o2,o3⟩:=SetP.LR ns
 have hp:(FN ns).Perm (SetP.once ns):=U5b _ _
 rw[hp.length_eq];omega
theorem Ft{p:St2}{x:Int}:inS p x=true↔p.1<=x/\x<p.2:=by simp[inS]
theorem Pb{bs:List (List St2)}{w:Nat}{ns:List Nat}{E:List Int}(hp:E.Pairwise (·<·))(hE:∀i∈ns,(at1 bs i w).1∈E/\(at1 bs i w).2∈E):∀p∈steps E,∀x,p.1<=x->x<p.2->Dy bs w x ns=Dy bs w p.1 ns:=fun p h x h1 h2=>by
 obtain⟨g1,g2,g3,g4⟩:=Lr hp p h
 unfold Dy
 refine List.filter_congr fun i hi=>?_
 rw[U2d,Ft,Ft]
 have a1:=g4 _ (hE i hi).1
 have a2:=g4 _ (hE i hi).2
 omega
theorem WQ{bs:List (List St2)}{w:Nat}{ns:List Nat}{x:Int}(h:∀i∈ns,x<(at1 bs i w).1∨(at1 bs i w).2<=x):Dy bs w x ns=[]:=by
 unfold Dy
 rw[List.filter_eq_nil_iff]
 intro i hi
 rw[Ft]
 have:=h i hi
 omega
theorem M7{bs:List (List St2)}{F:List Nat->Int}{A:Int}{N:Nat}(hF:F []=0):∀k w,canon bs F A N k w []=0
 |0,_=>hF
 |k+1,w=>by
  have:Gd (fun x=>canon bs F A N k (w+1) (Dy bs w x [])) A N=N*0:=Ia _ A 0 N fun x _ _=>M7 hF k (w+1)
  rw[canon,this];simp
def Wide(bs:List (List St2))(A:Int)(N:Nat)(w k:Nat)(ns:List Nat):Prop:=∀i∈ns,∀v,w<=v->v<w+k->(at1 bs i v).1<(at1 bs i v).2/\A<=(at1 bs i v).1/\(at1 bs i v).2<=A+N
theorem Wide.sub{bs:List (List St2)}{A:Int}{N w k:Nat}{ns ms:List Nat}(h:Wide bs A N w (k+1) ns)(hs:∀i∈ms,i∈ns):Wide bs A N (w+1) k ms:=fun i hi v h1 h2=>h i (hs i hi) v (by omega) (by omega)
theorem Zh{bs:List (List St2)}{F:List Nat->Int}{A:Int}{N k w:Nat}{ns:List Nat}(hF:F []=0)(hw:Wide bs A N w (k+1) ns){E:List Int}(hp:E.Pairwise (·<·))(hE:∀i∈ns,(at1 bs i w).1∈E/\(at1 bs i w).2∈E)(hb:∀e∈E,A<=e/\e<=A+N) :
  Qg E (fun x=>canon bs F A N k (w+1) (Dy bs w x ns))=canon bs F A N (k+1) w ns:=by
 rw[canon]
 refine aP hp (fun p h x h1 h2=>by rw[Pb hp hE p h x h1 h2]) (fun x h=>?_) (fun x h=>?_) hb
 .rw[WQ fun i hi=>.inl (h _ (hE i hi).1),M7 hF]
 .rw[WQ fun i hi=>.inr (h _ (hE i hi).2),M7 hF]
theorem Kl{bs:List (List St2)}{w:Nat}{ns:List Nat}:∀i∈ns,(at1 bs i w).1∈Cj bs w ns/\(at1 bs i w).2∈Cj bs w ns:=fun i hi =>
 ⟨Ls.mpr (U27 _ (List.mem_map_of_mem hi)),Ls.mpr (U01 _ (List.mem_map_of_mem hi))⟩
theorem Uj{bs:List (List St2)}{w:Nat}{ns:List Nat}{e:Int}(h:e∈Cj bs w ns):∃i∈ns,e=(at1 bs i w).1∨e=(at1 bs i w).2:=by
 rcases U1w.mp (Ls.mp h) with z|z
 .obtain⟨i,hi,e⟩:=U16.mp z;exact⟨i,hi,.inl e.symm⟩
 .obtain⟨i,hi,e⟩:=U16.mp z;exact⟨i,hi,.inr e.symm⟩
theorem MP{bs:List (List St2)}{A:Int}{N w k:Nat}{ns:List Nat}(hw:Wide bs A N w (k+1) ns):∀e∈Cj bs w ns,A<=e/\e<=A+N:=fun e he=>by
 obtain⟨i,hi,q⟩:=Uj he
 have:=hw i hi w (U0k _) (by omega)
 omega
theorem SJ{bs:List (List St2)}{F:List Nat->Int}{A:Int}{N:Nat}(hF:F []=0):∀(k w:Nat)(ns:List Nat),Wide bs A N w k ns->csum F (Bg bs k w ns)=canon bs F A N k w ns
 |0,w,ns,_=>by
  rw[Bg,canon]
  by_cases h:ns=[]
  .rw[if_pos h,h,hF];rfl
  .rw[if_neg h];simp[csum,RM]
 |k+1,w,ns,hw=>by
  rw[Bg]
  by_cases h:ns=[]
  .rw[if_pos h,h,M7 hF];rfl
  .rw[if_neg h,Vv,←Zh hF hw (Kc _) Kl (MP hw),Qg]
   refine congrArg List.sum (U6e fun p _=>?_)
   rw[Ul,SJ hF k (w+1) (Dy bs w p.1 ns) (hw.sub fun i hi=>(U2c.mp hi).1)]
end VS
end
section
namespace VS
end VS
end
section
namespace VS
def Bf(acc:List St2)(p:St2):List St2:=match acc.getLast? with
 |some q=>if q.2=p.1 then acc.dropLast++[(q.1,p.2)] else acc++[p]
 |none=>acc++[p]
def Gb(l:List St2):Int:=(l.map fun p=>p.2-p.1).sum
theorem Nf(a b:List St2):Gb (a++b)=Gb a+Gb b:=by unfold Gb;rw[U1s,List.sum_append]
theorem Nb(p:St2):Gb [p]=p.2-p.1:=by simp[Gb]
theorem Wz(acc:List St2)(p:St2):Gb (Bf acc p)=Gb acc+(p.2-p.1):=by
 rcases U30 acc with rfl|⟨l,q,rfl⟩
 .simp[Bf,Gb]
 .rw[U31]
  unfold Bf
  rw[List.getLast?_append]
  show Gb (if q.2=p.1 then _ else _)=_
  split
  .rename_i h
   rw[List.dropLast_concat,Nf,Nb,Nf,Nb]
   show _+(p.2-q.1)=_
   omega
  .rw[Nf,Nb]
theorem W8:∀(l acc:List St2),Gb (l.foldl Bf acc)=Gb acc+Gb l
 |[],acc=>by simp[Gb]
 |p::r,acc=>by
  rw[U2q,W8 r,Wz]
  show _=Gb acc+Gb ([p]++r)
  rw[Nf,Nb,Int.add_assoc]
def S1(vs:List St2):Int:=((steps (FN (vs.map (fun p=>p.1)++vs.map fun p=>p.2))).map fun p=>(p.2-p.1)*(if vs.any (fun v=>inS v p.1) then 1 else 0)).sum
def szs(cs:List (List St2×List Nat)):Int:=(cs.map fun c=>RM c.1).sum
end VS
end
section
namespace VS
structure Norm(l:List St2):Prop where
 pos:∀p∈l,p.1<p.2
 far:l.Pairwise fun p q=>p.2<q.1
def cov(l:List St2)(x:Int):Bool:=l.any fun p=>inS p x
theorem Ea{l:List St2}{x:Int}:cov l x=true↔∃p∈l,p.1<=x/\x<p.2:=by
 unfold cov
 rw[U6y]
 constructor
 .rintro⟨p,hp,h⟩;exact⟨p,hp,Ft.mp h⟩
 .rintro⟨p,hp,h⟩;exact⟨p,hp,Ft.mpr h⟩
theorem TX(a b:List St2)(x:Int):cov (a++b) x=(cov a x||cov b x):=by unfold cov;rw[List.any_append]
theorem J9(p:St2)(b:List St2)(x:Int):cov (p::b) x=(inS p x||cov b x):=rfl
theorem Norm.tail{p:St2}{l:List St2}(h:Norm (p::l)):Norm l:=⟨fun q hq=>h.pos q (U0z _ hq),(U1i.mp h.far).2⟩
theorem Ua:∀{a b:List St2},Norm a->Norm b->(∀x,cov a x=cov b x)->a=b
 |[],[],_,_,_=>rfl
 |[],q::b,_,hb,h=>by
  have h1:cov (q::b) q.1=true:=Ea.mpr ⟨q,U0g,U49 _,hb.pos q U0g⟩
  rw[←h] at h1;cases h1
 |p::a,[],ha,_,h=>by
  have h1:cov (p::a) p.1=true:=Ea.mpr ⟨p,U0g,U49 _,ha.pos p U0g⟩
  rw[h] at h1;cases h1
 |p::a,q::b,ha,hb,h=>by
  have pp:=ha.pos p U0g
  have qq:=hb.pos q U0g
  have fa:=(U1i.mp ha.far).1
  have fb:=(U1i.mp hb.far).1
  have half:∀{p q:St2} {a b:List St2},p.1<p.2->q.1<q.2->(∀r∈a,p.2<r.1)->(∀r∈b,q.2<r.1)->(∀x,cov (p::a) x=cov (q::b) x)->q.1<=p.1:=fun {p q a b} pp qq fa fb h=>by
   have h1:cov (p::a) p.1=true:=Ea.mpr ⟨p,U0g,U49 _,pp⟩
   rw[h] at h1
   obtain⟨r,hr,k1,k2⟩:=Ea.mp h1
   rcases U0r.mp hr with z|z
   .rw[z] at k1;exact k1
   .have:=fb r z;omega
  have e1:p.1=q.1:=U65 (half qq pp fb fa fun x=>(h x).symm) (half pp qq fa fb h)
  have le2:∀{p q:St2} {a b:List St2},p.1<p.2->p.1=q.1->(∀r∈a,p.2<r.1)->(∀x,cov (p::a) x=cov (q::b) x)->q.2<=p.2:=fun {p q a b} pp e1 fa h=>by
   by_cases z:q.2<=p.2
   .exact z
   .have h1:cov (q::b) p.2=true:=Ea.mpr ⟨q,U0g,by omega,by omega⟩
    rw[←h] at h1
    obtain⟨r,hr,k1,k2⟩:=Ea.mp h1
    rcases U0r.mp hr with z|z
    .rw[z] at k2;omega
    .have:=fa r z;omega
  have e2:p.2=q.2:=U65 (le2 qq e1.symm fb fun x=>(h x).symm) (le2 pp e1 fa h)
  have e:p=q:=Prod.ext e1 e2
  subst e
  congr 1
  refine Ua ha.tail hb.tail fun x=>?_
  have hx:=h x
  rw[J9,J9] at hx
  by_cases hp:inS p x=true
  .have hx2:=Ft.mp hp
   have no:∀{l:List St2},(∀r∈l,p.2<r.1)->cov l x=false:=fun {l} f=>by
    rw[U6u]
    intro z
    obtain⟨r,hr,k1,k2⟩:=Ea.mp z
    have:=f r hr;omega
   rw[no fa,no fb]
  .rw[U6u.mpr hp] at hx
   exact hx
structure Asc(l:List St2):Prop where
 pos:∀p∈l,p.1<p.2
 up:l.Pairwise fun p q=>p.2<=q.1
theorem Ng{α:Type}(l:List α)(a:α):(l++[a]).getLast?=some a:=by simp
theorem bH{l:List St2}{q p:St2}(h:Norm (l++[q]))(hp:p.1<p.2)(he:q.2=p.1):Norm (l++[(q.1,p.2)]):=by
 obtain⟨h1,h2⟩:=h
 rw[U3o] at h2
 refine⟨fun r hr=>?_,U3o.mpr ⟨h2.1,U5r ..,fun r hr s hs=>?_⟩⟩
 .rcases U1w.mp hr with z|z
  .exact h1 r (U27 _ z)
  .rw[U0w.mp z]
   have:=h1 q (U01 _ U0g)
   show q.1<p.2;omega
 .rw[U0w.mp hs]
  exact h2.2.2 r hr q U0g
theorem fO{l:List St2}{p:St2}(h:Norm l)(hp:p.1<p.2)(hl:∀q∈l,q.2<p.1):Norm (l++[p]):=by
 refine⟨fun r hr=>?_,U3o.mpr ⟨h.far,U5r ..,fun r hr s hs=>?_⟩⟩
 .rcases U1w.mp hr with z|z
  .exact h.pos r z
  .rw[U0w.mp z];exact hp
 .rw[U0w.mp hs];exact hl r hr
theorem gb{l:List St2}{q p:St2}(hq:q.1<q.2)(hp:p.1<p.2)(he:q.2=p.1)(x:Int):cov (l++[(q.1,p.2)]) x=(cov (l++[q]) x||inS p x):=by
 rw[TX,TX,Bool.or_assoc]
 congr 1
 rw[J9,J9,show cov ([]:List St2) x=false from rfl,U44,U44,U2d,U4o,Ft,Ft,Ft]
 simp only
 omega
theorem Tz{acc:List St2}{p:St2}(h:Norm acc)(hp:p.1<p.2)(hl:∀q∈acc,q.2<=p.1):Norm (Bf acc p)/\(∀x,cov (Bf acc p) x=(cov acc x||inS p x))/\∀q∈Bf acc p,q.2<=p.2:=by
 rcases U30 acc with z|⟨l,q,z⟩
 .subst z
  refine⟨⟨fun r hr=>?_,U5r ..⟩,(fun x=>by show(inS p x||false)=(false||inS p x);rw[U44,Bool.false_or]),fun r hr=>?_⟩
  .have:r=p:=U0w.mp hr
   rw[this];exact hp
  .have:r=p:=U0w.mp hr
   rw[this];exact U49 _
 .rw[U31] at z
  subst z
  have hq:=h.pos q (U01 _ U0g)
  have hql:=hl q (U01 _ U0g)
  by_cases he:q.2=p.1
  .have e:Bf (l++[q]) p=l++[(q.1,p.2)]:=by
    unfold Bf
    rw[Ng]
    simp[he]
   rw[e]
   refine⟨bH h hp he,gb hq hp he,fun r hr=>?_⟩
   rcases U1w.mp hr with z|z
   .have:=hl r (U27 _ z);omega
   .rw[U0w.mp z];exact U49 _
  .have e:Bf (l++[q]) p=l++[q]++[p]:=by
    unfold Bf
    rw[Ng]
    simp[he]
   rw[e]
   have lt:∀r∈l++[q],r.2<p.1:=fun r hr=>by
    rcases U1w.mp hr with z|z
    .have:=(U3o.mp h.far).2.2 r z q U0g
     omega
    .rw[U0w.mp z];omega
   refine⟨fO h hp lt,fun x=>by rw[TX (l++[q]),J9];simp[cov],fun r hr=>?_⟩
   rcases U1w.mp hr with z|z
   .have:=hl r z;omega
   .rw[U0w.mp z];exact U49 _
theorem Ud:∀(l acc:List St2),Norm acc->Asc l->(∀p∈acc,∀q∈l,p.2<=q.1)->Norm (l.foldl Bf acc)/\∀x,cov (l.foldl Bf acc) x=(cov acc x||cov l x)
 |[],acc,h,_,_=>⟨h,fun x=>by rw[List.foldl_nil,show cov [] x=false from rfl,U44]⟩
 |p::l,acc,h,ha,hl=>by
  obtain⟨s1,s2,s3⟩:=Tz h (ha.pos p U0g) fun q hq=>hl q hq p U0g
  have hu:=U1i.mp ha.up
  obtain⟨t1,t2⟩:=Ud l (Bf acc p) s1 ⟨fun q hq=>ha.pos q (U0z _ hq),hu.2⟩ fun r hr q hq=>by
   have:=s3 r hr
   have:=hu.1 q hq
   omega
  refine⟨t1,fun x=>?_⟩
  rw[U2q,t2,s2,J9,Bool.or_assoc]
def Dr(P:Int->Bool)(acc:List St2)(n:Int):List St2:=if P n=true then Bf acc (n,n+1) else acc
theorem Qp(P:Int->Bool)(a:Int):∀m:Nat,Norm (((U0p m).map fun(i:Nat)=>a+i).foldl (Dr P) [])/\(∀x,cov (((U0p m).map fun(i:Nat)=>a+i).foldl (Dr P) []) x=(decide (a<=x/\x<a+m)&&P x))/\∀q∈((U0p m).map fun(i:Nat)=>a+i).foldl (Dr P) [],q.2<=a+m
 |0=>⟨⟨fun p h=>by simp at h,.nil⟩,fun x=>by
   rw[show decide (a<=x/\x<a+(0:Nat))=false from decide_eq_false (by omega)];rfl,fun q h=>by simp at h⟩
 |m+1=>by
  obtain⟨h1,h2,h3⟩:=Qp P a m
  rw[U66,U1s,U35]
  simp only[U0t,U1u,U2q,List.foldl_nil]
  generalize ((U0p m).map fun(i:Nat)=>a+i).foldl (Dr P) []=acc at *
  unfold Dr
  by_cases hp:P (a+m)=true
  .rw[if_pos hp]
   obtain⟨s1,s2,s3⟩:=Tz (p:=(a+m,a+m+1)) h1 (by simp only;omega) fun q hq=>h3 q hq
   refine⟨s1,fun x=>?_,fun q hq=>by have:=s3 q hq;simp only at this;omega⟩
   rw[s2,h2,U2d,U4o,U0y,U0y,decide_eq_true_eq,decide_eq_true_eq,Ft]
   constructor
   .rintro(⟨z,y⟩|z)
    .exact⟨by omega,y⟩
    .have:x=a+m:=by simp only at z;omega
     exact⟨by omega,by rw[this];exact hp⟩
   .rintro⟨z,y⟩
    by_cases w:x=a+m
    .exact .inr (by simp only;omega)
    .exact .inl ⟨by omega,y⟩
  .rw[if_neg hp]
   refine⟨h1,fun x=>?_,fun q hq=>by have:=h3 q hq;omega⟩
   rw[h2,U2d,U0y,U0y,decide_eq_true_eq,decide_eq_true_eq]
   constructor
   .rintro⟨z,y⟩;exact⟨by omega,y⟩
   .rintro⟨z,y⟩
    refine⟨?_,y⟩
    have:x≠a+m:=fun w=>hp (by rw[←w];exact y)
    omega
theorem QG:∀{E:List Int},E.Pairwise (·<·)->∀{x:Int},(∃a∈E,a<=x)->(∃b∈E,x<b)->∃p∈steps E,p.1<=x/\x<p.2
 |[],_,x,⟨a,ha,_⟩,_=>by simp at ha
 |[a],_,x,⟨c,hc,h1⟩,⟨b,hb,h2⟩=>by
  rw[U0w.mp hc] at h1
  rw[U0w.mp hb] at h2
  omega
 |a::b::r,h,x,⟨c,hc,h1⟩,⟨d,hd,h2⟩=>by
  have hh:=U1i.mp h
  have ab:=hh.1 b U0g
  rw[Hu]
  by_cases z:x<b
  .refine⟨(a,b),U0g,?_,z⟩
   rcases U0r.mp hc with w|w
   .rw[w] at h1;exact h1
   .show a<=x
    have:=hh.1 c w;omega
  .obtain⟨p,hp,k⟩:=QG hh.2 (x:=x) ⟨b,U0g,by omega⟩ ⟨d,by
    rcases U0r.mp hd with w|w
    .omega
    .exact w,h2⟩
   exact⟨p,U0z _ hp,k⟩
theorem Tw:∀{E:List Int},E.Pairwise (·<·)->Asc (steps E)
 |[],_=>⟨fun p h=>by simp[steps] at h,by simp[steps]⟩
 |[a],_=>⟨fun p h=>by simp[steps] at h,by simp[steps]⟩
 |a::b::r,h=>by
  have hh:=U1i.mp h
  obtain⟨s1,s2⟩:=Tw hh.2
  rw[Hu]
  refine⟨fun p hp=>?_,U1i.mpr ⟨fun q hq=>?_,s2⟩⟩
  .rcases U0r.mp hp with z|z
   .rw[z];exact hh.1 b U0g
   .exact s1 p z
  .obtain⟨_,hm,_,_⟩:=Lr hh.2 q hq
   show b<=q.1
   rcases U0r.mp hm with z|z
   .omega
   .have:=(U1i.mp hh.2).1 _ z;omega
theorem Asc.filter{l:List St2}(h:Asc l)(f:St2->Bool):Asc (l.filter f):=⟨fun p hp=>h.pos p (U2c.mp hp).1,h.up.sublist List.filter_sublist⟩
def Jr(bs:List (List St2))(ns:List Nat)(k:Nat):List St2:=(steps (Cj bs 0 ns)).filter fun p=>decide (k<=(Dy bs 0 p.1 ns).length)
theorem gU{bs:List (List St2)}{ns:List Nat}{k:Nat}(hk:1<=k)(x:Int):cov (Jr bs ns k) x=decide (k<=(Dy bs 0 x ns).length):=by
 have hr:=Kc (ns.map (fun i=>(at1 bs i 0).1)++ns.map (fun i=>(at1 bs i 0).2))
 have fb:=Pb (bs:=bs) (w:=0) (ns:=ns) hr Kl
 rw[U2d,Ea,decide_eq_true_eq]
 unfold Jr
 constructor
 .rintro⟨p,hp,h1,h2⟩
  obtain⟨hp1,hp2⟩:=U2c.mp hp
  rw[fb p hp1 x h1 h2]
  exact of_decide_eq_true hp2
 .intro h
  have hne:Dy bs 0 x ns≠[]:=by intro z;rw[z] at h;simp at h;omega
  obtain⟨i,hi⟩:=List.exists_mem_of_ne_nil _ hne
  obtain⟨hi1,hi2⟩:=U2c.mp hi
  obtain⟨k1,k2⟩:=Ft.mp hi2
  obtain⟨p,hp,h1,h2⟩:=QG hr (x:=x) ⟨_,(Kl i hi1).1,k1⟩ ⟨_,(Kl i hi1).2,k2⟩
  refine⟨p,U2c.mpr ⟨hp,decide_eq_true ?_⟩,h1,h2⟩
  rw[←fb p hp x h1 h2]
  exact h
theorem Oz(bs:List (List St2))(ns:List Nat):Bg bs 1 0 ns=((steps (Cj bs 0 ns)).filter fun p=>decide (Dy bs 0 p.1 ns≠[])).map fun p=>([p],Dy bs 0 p.1 ns):=by
 rw[Bg]
 split
 .rename_i h
  subst h
  have:Cj bs 0 []=[]:=by
   cases q:Cj bs 0 [] with
   |nil=>rfl
   |cons e r =>
    have:e∈Cj bs 0 []:=by rw[q];exact U0g
    obtain⟨i,hi,_⟩:=Uj this
    simp at hi
  rw[this];rfl
 .generalize steps (Cj bs 0 ns)=l
  induction l with
  |nil=>rfl
  |cons p l ih =>
   rw[U5v,ih,Bg,List.filter_cons]
   by_cases h:Dy bs 0 p.1 ns=[]
   .rw[if_pos h]
    simp[h]
   .rw[if_neg h]
    simp[h]
theorem Zf(bs:List (List St2))(ns:List Nat)(k:Nat)(hk:1<=k):((Bg bs 1 0 ns).filter fun c=>decide (k<=c.2.length)).map (fun c=>c.1.getD 0 (0,0))=Jr bs ns k:=by
 rw[Oz,List.filter_map,U0f,List.filter_filter]
 unfold Jr
 have e:((fun c:List St2×List Nat=>c.1.getD 0 (0,0))∘fun p:St2=>([p],Dy bs 0 p.1 ns))=id:=rfl
 rw[e,List.map_id]
 refine List.filter_congr fun p _=>?_
 rw[U2d,U0y]
 simp only[Function.comp,decide_eq_true_eq]
 constructor
 .exact fun z=>z.1
 .exact fun z=>⟨z,fun w=>by rw[w] at z;simp at z;omega⟩
theorem Im(bs:List (List St2))(ns:List Nat):(Bg bs 1 0 ns).map (fun c=>c.1.getD 0 (0,0))=Jr bs ns 1:=by
 rw[←Zf bs ns 1 (U0k _)]
 congr 1
 symm
 rw[U5c,Oz]
 intro c hc
 obtain⟨p,hp,rfl⟩:=U16.mp hc
 have:=of_decide_eq_true (U2c.mp hp).2
 exact decide_eq_true (U3e.mpr this)
theorem QM(bs:List (List St2))(ns:List Nat)(k:Nat)(hk:1<=k):Norm ((Jr bs ns k).foldl Bf [])/\∀x,cov ((Jr bs ns k).foldl Bf []) x=decide (k<=(Dy bs 0 x ns).length):=by
 obtain⟨h1,h2⟩:=Ud (Jr bs ns k) [] ⟨fun p h=>by simp at h,.nil⟩ ((Tw (Kc _)).filter _) (fun p h=>by simp at h)
 exact⟨h1,fun x=>by rw[h2,gU hk];rfl⟩
theorem Xi{acc:List St2}{n:Int}(h:Norm acc)(he:∀q∈acc,q.2<=n):cov acc (n-1)=true↔∃l q,acc=l++[q]/\q.2=n:=by
 rw[Ea]
 constructor
 .rintro⟨p,hp,h1,h2⟩
  rcases U30 acc with z|⟨l,q,z⟩
  .rw[z] at hp;simp at hp
  .rw[U31] at z
   refine⟨l,q,z,?_⟩
   subst z
   have:=he q (U01 _ U0g)
   have hq:=h.pos q (U01 _ U0g)
   rcases U1w.mp hp with w|w
   .have:=(U3o.mp h.far).2.2 p w q U0g
    omega
   .rw[U0w.mp w] at h2;omega
 .rintro⟨l,q,rfl,hq⟩
  have:=h.pos q (U01 _ U0g)
  exact⟨q,U01 _ U0g,by omega,by omega⟩
theorem NT:∀{l m:List Int},l.Nodup->(∀x∈l,x∈m)->l.length<=m.length
 |[],_,_,_=>U2y _
 |a::l,m,h,hs=>by
  obtain⟨h1,h2⟩:=U4m.mp h
  have ha:=hs a U0g
  have ih:=NT (l:=l) (m:=m.erase a) h2 fun x hx=>(List.mem_erase_of_ne (show x≠a from fun z=>h1 (by rw[←z];exact hx))).mpr (hs x (U0z _ hx))
  rw[List.length_erase_of_mem ha] at ih
  have:=List.length_pos_of_mem ha
  rw[U0e]
  omega
theorem ZJ{l m:List Int}(h1:l.Nodup)(h2:m.Nodup)(h:∀x,x∈l↔x∈m):l.length=m.length:=Nat.le_antisymm (NT h1 fun x hx=>(h x).mp hx) (NT h2 fun x hx=>(h x).mpr hx)
def ups(a:Int)(n:Nat):List Int:=(U0p n).map fun(i:Nat)=>a+i
theorem Pq{a x:Int}{n:Nat}:x∈ups a n↔a<=x/\x<a+n:=by
 unfold ups
 rw[U16]
 constructor
 .rintro⟨i,hi,rfl⟩
  have:=U2n.mp hi
  omega
 .rintro⟨h1,h2⟩
  exact⟨(x-a).toNat,U2n.mpr (by omega),by omega⟩
theorem NK(a:Int)(n:Nat):ups a (n+1)=ups a n++[a+n]:=by
 unfold ups
 rw[U66,U1s];rfl
theorem Tt(a:Int):∀n:Nat,(ups a n).Nodup
 |0=>by simp[ups]
 |n+1=>by
  rw[NK,U6r]
  refine⟨Tt a n,by simp,fun x hx y hy z=>?_⟩
  rw[U0w.mp hy] at z
  have:=Pq.mp hx
  omega
theorem Rt(P:Int->Bool)(a:Int):∀n:Nat,Gd (fun x=>if P x=true then 1 else 0) a n=(((ups a n).filter P).length:Nat)
 |0=>rfl
 |n+1=>by
  rw[Gd,Rt P a n,NK,List.filter_append,U0n]
  by_cases h:P (a+n)=true
  .rw[if_pos h]
   have:[a+(n:Int)].filter P=[a+n]:=by simp[h]
   rw[this];simp
  .rw[if_neg h]
   have:[a+(n:Int)].filter P=[]:=by simp[h]
   rw[this];simp
end VS
end
section
namespace W07
open PySem L2 VS
def Rz:BX :=
 (Cy (Qh (eCB JN (Aa (Ab 0) (Aa (eC (.ty "int")) Af))) (cY (eCB JN (Aa (Ab 0) (Aa (eC (.ty "bool")) Af))))))
def El:Cu:=Eu 1 1 Rz
def S7:BX :=
 (Cy (Qh (BL El (Aa (Ab 0) Af)) (eUn (VD Bc.D3) (Ab 0))))
def Du:Cu:=Eu 1 1 S7
def Pg:BX :=
 (Bq (sIf (tOr (JK (Bo (eCB JN (Aa (Ab 0) (Aa (eC (.ty "tuple")) Af))))) (Bo (eOp (oEq true) (eCB Ew (Aa (Ab 0) Af)) (eC (.int 2)))))
  (Cy (eC (.bl false)))
  FW)
  (Cy (Qh (BL El (Aa (eOp oIx (Ab 0) (eC (.int 0))) Af)) (Qh (BL El (Aa (eOp oIx (Ab 0) (eC (.int 1))) Af)) (eOp oLt (eOp oIx (Ab 0) (eC (.int 0))) (eOp oIx (Ab 0) (eC (.int 1))))))))
def G5:Cu:=Eu 1 1 Pg
def Ou:Bh :=
 Ef 1 [] (Ez (Ab 1)) (Pat.sem (.nm 0)) Ga (BL G5 (Aa (Ab 0) Af))
def WT:BX :=
 (Bq (sIf (tOr (JK (Bo (BL Du (Aa (Ab 0) Af)))) (tOr (JK (Bo (eCB JN (Aa (Ab 1) (Aa (eC (.ty "tuple")) Af))))) (Bo (eOp (oEq true) (eCB Ew (Aa (Ab 1) Af)) (Ab 0)))))
  (Cy (eC (.bl false)))
  FW)
  (Cy (eCB Kv (Aa (Bp Ou) Af))))
def Hw:Cu:=Eu 2 2 WT
def Nr:Bh :=
 Ef 1 [1] (Ez (Ab 2)) (Pat.sem (.nm 0)) Ga (BL Hw (Aa (Ab 1) (Aa (Ab 0) Af)))
def Ug:BX :=
 (Bq (sIf (tOr (JK (Bo (eCB JN (Aa (Ab 0) (Aa (eC (.ty "tuple")) Af))))) (Bo (eOp (oEq true) (eCB Ew (Aa (Ab 0) Af)) (eC (.int 2)))))
  (Cy (eC (.bl false)))
  FW)
  (Bq (Bx 1 (eOp oIx (Ab 0) (eC (.int 0))))
  (Bq (Bx 2 (eOp oIx (Ab 0) (eC (.int 1))))
  (Bq (sIf (tOr (JK (Bo (BL Du (Aa (Ab 1) Af)))) (tOr (JK (Bo (eCB JN (Aa (Ab 2) (Aa (eC (.ty "list")) Af))))) (Bo (eOp oGt (eCB Ew (Aa (Ab 2) Af)) (eUn (Rc Bc.D3) (Ab 1))))))
  (Cy (eC (.bl false)))
  FW)
  (Cy (eCB Kv (Aa (Bp Nr) Af)))))))
def Gx:Cu:=Eu 1 3 Ug
def QV:BX :=
 (sIf (JK (Bo (BL Gx (Aa (Ab 0) Af))))
  RZ
  FW)
def Fw:Cu:=Eu 1 1 QV
def QT:BX :=
 (Bq (Ig (BL Fw (Aa (Ab 0) Af)))
  (sIf (Bo (eOp (oEq true) (eOp oIx (Ab 0) (eC (.int 0))) (Ab 1)))
  RZ
  FW))
def Fv:Cu:=Eu 2 2 QT
def KH:Bh :=
 Ef 1 [1] (Ez (Ab 0)) (Pat.sem (.nm 0)) Ga (eOp oIx (eOp oIx (Ab 0) (Ab 1)) (eC (.int 0)))
def KD:Bh :=
 Ef 1 [1] (Ez (Ab 0)) (Pat.sem (.nm 0)) Ga (eOp oIx (eOp oIx (Ab 0) (Ab 1)) (eC (.int 1)))
def Ph:BX :=
 (Cy (R6 (eOp Bw (Bp KH) (Bp KD))))
def G6:Cu:=Eu 2 2 Ph
def O1:BX :=
 (Bq (Bx 2 (BL G6 (Aa (Ab 0) (Aa (Ab 1) Af))))
  (Cy (R7 (Aa (Ab 2) (Aa (eSl oSl (Ab 2) (GR (eC (.int 1))) GX) Af)))))
def En:Cu:=Eu 2 3 O1
def Iv(rec:Cu):Bh :=
 Ef 1 [0] (Ez (Ab 1)) (Pat.sem (.nm 0)) Ga (eOp oIx (Ab 1) (Ab 0))
def Iu(rec:Cu):Bh :=
 Ef 1 [0,2,5] (Ez (Ab 1)) (Pat.sem (.nm 0)) (Bo (Ri oLe oLt (eOp oIx (eOp oIx (eOp oIx (Ab 1) (Ab 0)) (Ab 2)) (eC (.int 0))) (Ab 3) (eOp oIx (eOp oIx (eOp oIx (Ab 1) (Ab 0)) (Ab 2)) (eC (.int 1))))) (Ab 0)
def Iz(rec:Cu):BX :=
 (Ig (GZ GC (Ab 4) (Aa (BR (Aa (eOp Bw (BR (Aa (BR (Aa (Ab 5) (Aa (Ab 6) Af))) Af)) (Ab 8)) (Aa (Ab 9) Af))) Af)))
def KN(rec:Cu):BX :=
 K7 (Ez (BL rec (Aa (Ab 0) (Aa (Ab 7) (Aa (eOp Bw (Ab 2) (eC (.int 1))) (Aa (Ab 3) Af)))))) (Pat.sem (.tp [(.nm 8),(.nm 9)]))
  (Iz rec)
def Iw(rec:Cu):BX :=
 (Bq (Bx 7 (Bp (Iu rec)))
  (KN rec))
def KJ(rec:Cu):BX :=
 K7 (Ez (BL En (Aa (Bp (Iv rec)) (Aa (Ab 2) Af)))) (Pat.sem (.tp [(.nm 5),(.nm 6)]))
  (Iw rec)
def Je(rec:Cu):BX :=
 (Bq (sIf (Bo (eOp (oEq false) (eCB Ew (Aa (Ab 1) Af)) (eC (.int 0))))
  (Cy (Bp Af))
  FW)
  (Bq (sIf (Bo (eOp (oEq false) (Ab 2) (Ab 3)))
  (Cy (Bp (Aa (BR (Aa (BR Af) (Aa (Ab 1) Af))) Af)))
  FW)
  (Bq (Bx 4 (K9 Af))
  (Bq (KJ rec)
  (Cy (Ab 4))))))
def Bm:Nat->Cu
 |0=>fun _=>none
 |n+1=>Eu 4 10 (Je (Bm n))
def S6:BX :=
 (Cy (BL (Bm 4) (Aa (eOp oIx (Ab 0) (eC (.int 1))) (Aa (JZ (Aa (eCB Ew (Aa (eOp oIx (Ab 0) (eC (.int 1))) Af)) Af)) (Aa (eC (.int 0)) (Aa (eOp oIx (Ab 0) (eC (.int 0))) Af))))))
def Fg:Cu:=Eu 1 1 S6
def M4:BX :=
 (sIf (Sh (Bo (eOp oGt (eCB Ew (Aa (Ab 1) Af)) (eC (.int 0)))) (Bo (eOp (oEq false) (eOp oIx (eOp oIx (Ab 1) (eUn Dp (eC (.int 1)))) (eC (.int 1))) (Ab 2))))
  (Ky (BR (Aa (eOp oIx (eOp oIx (Ab 1) (eUn Dp (eC (.int 1)))) (eC (.int 0))) (Aa (Ab 3) Af))) (Ab 1) (eUn Dp (eC (.int 1))))
  (Ig (GZ GC (Ab 1) (Aa (BR (Aa (Ab 2) (Aa (Ab 3) Af))) Af))))
def Om:BX :=
 K7 (Ez (Ab 0)) (Pat.sem (.tp [(.nm 2),(.nm 3)]))
  M4
def WR:BX :=
 (Bq (Bx 1 (K9 Af))
  (Bq Om
  (Cy (Ab 1))))
def Hv:Cu:=Eu 1 4 WR
def Jq:Bh :=
 Ef 2 [1] (Ez (BL Fg (Aa (Ab 0) Af))) (Pat.sem (.tp [(.nm 0),(.nm 1)])) (Bo (eOp oGe (eCB Ew (Aa (Ab 1) Af)) (Ab 2))) (eOp oIx (Ab 0) (eC (.int 0)))
def O2:BX :=
 (Cy (BL Hv (Aa (Bp Jq) Af)))
def Eo:Cu:=Eu 2 2 O2
def QS:BX :=
 (Bq (Ig (BL Fv (Aa (Ab 0) (Aa (eC (.int 1)) Af))))
  (Cy (BL Eo (Aa (Ab 0) (Aa (eC (.int 1)) Af)))))
def Ba:Cu:=Eu 1 1 QS
def Nt:Bh :=
 Ef 2 [] (V5 (Aa (Ab 1) (Aa (eSl oSl (Ab 1) (GR (eC (.int 1))) GX) Af))) (Pat.sem (.tp [(.nm 0),(.nm 1)])) Ga (BR (Aa (eOp oIx (Ab 0) (eC (.int 1))) (Aa (eOp oIx (Ab 1) (eC (.int 0))) Af)))
def Uh:BX :=
 (Bq (Bx 1 (BL Ba (Aa (Ab 0) Af)))
  (Cy (Bp Nt)))
def DP:Cu:=Eu 1 2 Uh
def Ii:Bh :=
 Ef 2 [] (Ez (BL Ba (Aa (Ab 0) Af))) (Pat.sem (.tp [(.nm 0),(.nm 1)])) Ga (eOp Jg (Ab 1) (Ab 0))
def Lj:BX :=
 (Cy (eCB Yn (Aa (Bp Ii) Af)))
def Cm:Cu:=Eu 1 1 Lj
def QX:BX :=
 (Bq (Bx 2 (eOp oMod (eOp Bw (eOp Bw (eOp oMod (Ab 0) (eC (.int 2147483629))) (eOp J4 (eOp J4 (eC (.int 1000003)) (Ab 1)) (Ab 1))) (eOp J4 (eC (.int 7919)) (Ab 1))) (eC (.int 2147483629))))
  (Bq (Bx 2 (eOp oMod (eOp J4 (Ab 2) (Ab 2)) (eC (.int 2147483587))))
  (Cy (eOp oDiv (eOp oMod (eOp J4 (Ab 2) (eOp Bw (Ab 2) (eC (.int 40961)))) (eC (.int 2147483563))) (eC (.int 4))))))
def GD:Cu:=Eu 2 3 QX
def Nu:BX :=
 (Cy (Bp (Aa (eOp J4 (Ab 0) (eCB N8 (Aa (eOp oGe (Ab 0) (eOp K8 (eC (.int 10)) (eC (.int 18)))) Af))) (Aa (Ab 0) (Aa (eC (.int 0)) Af)))))
def Fd:Cu:=Eu 1 1 Nu
def Kh:BX :=
 (Bq (sIf (Bo (eOp oGt (eOp oIx (Ab 0) (eC (.int 0))) (eC (.int 0))))
  (Bq (Bx 2 (eOp oMod (eOp oIx (Ab 0) (eC (.int 0))) (Ab 1)))
  (Bq (Ky (eOp oDiv (eOp oIx (Ab 0) (eC (.int 0))) (Ab 1)) (Ab 0) (eC (.int 0)))
  (Cy (Ab 2))))
  FW)
  (Bq (Ky (eOp Bw (eOp oIx (Ab 0) (eC (.int 2))) (eC (.int 1))) (Ab 0) (eC (.int 2)))
  (Cy (eOp oMod (eOp J4 (BL GD (Aa (eOp oIx (Ab 0) (eC (.int 1))) (Aa (eOp oIx (Ab 0) (eC (.int 2))) Af))) (eOp oIx (Bp (Aa (eC (.int 1)) (Aa (eC (.int 8191)) Af))) (eCB N8 (Aa (eOp oGt (Ab 1) (eOp K8 (eC (.int 10)) (eC (.int 6)))) Af)))) (Ab 1)))))
def Am:Kw:=runM 2 3 Kh
def O4:BX :=
 (Bq (Bx 2 (eOp Bw (eOp oIx (Ab 1) (eC (.int 0))) (Bj Am (Aa (Ab 0) (Aa (eOp oIx (Ab 1) (eC (.int 1))) Af)))))
  (Bq (Bx 3 (eOp Bw (eOp oIx (Ab 1) (eC (.int 0))) (Bj Am (Aa (Ab 0) (Aa (eOp oIx (Ab 1) (eC (.int 1))) Af)))))
  (Bq (sIf (Bo (eOp (oEq false) (Ab 2) (Ab 3)))
  (Bx 3 (eOp Bw (Ab 2) (eC (.int 1))))
  FW)
  (Cy (BR (Aa (eCB V7 (Aa (Ab 2) (Aa (Ab 3) Af))) (Aa (eCB V8 (Aa (Ab 2) (Aa (Ab 3) Af))) Af)))))))
def Ep:Kw:=runM 2 4 O4
def Kf:Bh :=
 Ef 1 [0,2] (Ht (Aa (Ab 1) Af)) (Pat.sem (.nm 0)) Ga (Bj Ep (Aa (Ab 1) (Aa (Ab 2) Af)))
def Ow:BX :=
 (Bq (Bx 4 (eCB Ym (Aa (Bp Kf) Af)))
  (Bq (Bx 5 (Bj Am (Aa (Ab 0) (Aa (eC (.int 6)) Af))))
  (Bq (sIf (tOr (Bo (eOp (oEq false) (Ab 3) (Bp Af))) (Bo (eOp oGt (Ab 5) (eC (.int 3)))))
  (Cy (Ab 4))
  FW)
  (Bq (Bx 6 (eOp oIx (Ab 3) (Bj Am (Aa (Ab 0) (Aa (eCB Ew (Aa (Ab 3) Af)) Af)))))
  (Bq (Bx 7 (Bj Am (Aa (Ab 0) (Aa (Ab 1) Af))))
  (Bq (Ye (eOp oIx (Ab 6) (Ab 7)) (Pat.sem (.tp [(.nm 8),(.nm 9)])))
  (Bq (Bx 10 (Bp (Aa (eOp oIx (Ab 6) (Ab 7)) (Aa (eOp oIx (Ab 4) (Ab 7)) (Aa (BR (Aa (Ab 9) (Aa (eOp Bw (eOp Bw (Ab 9) (eC (.int 1))) (Bj Am (Aa (Ab 0) (Aa (eC (.int 4)) Af)))) Af))) (Aa (BR (Aa (Ab 8) (Aa (eOp Bw (eOp Bw (Ab 8) (eC (.int 1))) (Bj Am (Aa (Ab 0) (Aa (eOp Jg (Ab 9) (Ab 8)) Af)))) Af))) Af))))))
  (Bq (sIf (Bo (eOp oGt (eOp oIx (eOp oIx (Ab 10) (Ab 5)) (eC (.int 1))) (eOp K8 (eC (.int 10)) (eC (.int 9)))))
  (Cy (Ab 4))
  FW)
  (Cy (eOp Bw (eOp Bw (eSl oSl (Ab 6) GX (GR (Ab 7))) (BR (Aa (eOp oIx (Ab 10) (Ab 5)) Af))) (eSl oSl (Ab 6) (GR (eOp Bw (Ab 7) (eC (.int 1)))) GX)))))))))))
def FQ:Kw:=runM 4 11 Ow
def Jd:BX :=
 (Ig (GZ GC (Ab 5) (Aa (Bj FQ (Aa (Ab 0) (Aa (Ab 1) (Aa (Ab 2) (Aa (Ab 5) Af))))) Af)))
def Lh:BX :=
 K7 (Ht (Aa (Ab 4) Af)) (Pat.sem (.nm 6))
  Jd
def QZ:BX :=
 (Bq (Bx 4 (eOp oIx (Bp (Aa (Bj Am (Aa (Ab 0) (Aa (eC (.int 4)) Af))) (Aa (Bj Am (Aa (Ab 0) (Aa (eOp Bw (Ab 3) (eC (.int 1))) Af))) (Aa (Ab 3) Af)))) (Bj Am (Aa (Ab 0) (Aa (eC (.int 3)) Af)))))
  (Bq (Bx 5 (K9 Af))
  (Bq Lh
  (Cy (Ab 5)))))
def Et:Kw:=runM 4 7 QZ
def Ju:BX :=
 (sIf (Bo (eOp (Sq false) (Ab 2) (Ab 0)))
  (sIf (Bo (eOp (Sq false) (eOp Jg (Ab 2) (eC (.int 1))) (Ab 0)))
  (Ky (BR (Aa (eOp oIx (eOp oIx (Ab 1) (eUn Dp (eC (.int 1)))) (eC (.int 0))) (Aa (eOp Bw (Ab 2) (eC (.int 1))) Af))) (Ab 1) (eUn Dp (eC (.int 1))))
  (Ig (GZ GC (Ab 1) (Aa (BR (Aa (Ab 2) (Aa (eOp Bw (Ab 2) (eC (.int 1))) Af))) Af))))
  FW)
def MN:BX :=
 K7 (Hs (Aa (eUn Dp (eC (.int 25))) (Aa (eC (.int 110)) Af))) (Pat.sem (.nm 2))
  Ju
def Ry:BX :=
 (Bq (Bx 1 (K9 Af))
  (Bq MN
  (Cy (Ab 1))))
def Fe:Cu:=Eu 1 3 Ry
def Jc:BX :=
 (VS.RN (eC (.bl true)) (Ab 2) (Ab 4))
def Lg:BX :=
 K7 (Hs (Aa (eOp oIx (eOp oIx (Ab 3) (eC (.int 0))) (eC (.int 0))) (Aa (eOp oIx (eOp oIx (Ab 3) (eC (.int 0))) (eC (.int 1))) Af))) (Pat.sem (.nm 4))
  Jc
def PN:BX :=
 Lg
def Lf:BX :=
 K7 (Ez (Ab 0)) (Pat.sem (.nm 3))
  PN
def Jb:BX :=
 (Ig (GZ GC (Ab 6) (Aa (BR (Aa (eOp oIx (eOp oIx (Ab 5) (eOp Jg (Ab 7) (eC (.int 1)))) (eC (.int 1))) (Aa (eOp oIx (eOp oIx (Ab 5) (Ab 7)) (eC (.int 0))) Af))) Af)))
def Le:BX :=
 K7 (Hs (Aa (eC (.int 1)) (Aa (eCB Ew (Aa (Ab 5) Af)) Af))) (Pat.sem (.nm 7))
  Jb
def Hq:BX :=
 (Bq (Bx 9 (Bp (Aa (HX Ba (Aa (Ab 1) Af)) (Aa (HX DP (Aa (Ab 1) Af)) Af))))
  (Bq (sIf (tOr (Bo (eOp (MF true) (eCB Eb (Aa (Ab 9) Af)) (eCB Eb (Aa (Bp (Aa (Ab 5) (Aa (Ab 6) Af))) Af)))) (Bo (eOp (MF true) (eCB Eb (Aa (BL Cm (Aa (Ab 1) Af)) Af)) (eCB Eb (Aa (eCB KZ (Aa (Ab 2) Af)) Af)))))
  (Cy (eC (.bl false)))
  FW)
  (Bq (Ig (GZ GC (eOp oIx (Ab 9) (eC (.int 0))) (Aa (BR (Aa (eC (.int 0)) (Aa (eC (.int 1)) Af))) Af)))
  (Ig (GZ Ob (eOp oIx (Ab 9) (eC (.int 1))) Af)))))
def Ld:BX :=
 K7 (Ht (Aa (eC (.int 2)) Af)) (Pat.sem (.nm 8))
  Hq
def QW:BX :=
 (Bq (Bx 1 (BR (Aa (eC (.int 1)) (Aa (RT nList (Aa (Ab 0) Af)) Af))))
  (Bq (Bx 2 Z0)
  (Bq Lf
  (Bq (Bx 5 (BL Fe (Aa (Ab 2) Af)))
  (Bq (Bx 6 (K9 Af))
  (Bq Le
  (Bq Ld
  (Cy (eOp (oEq false) (Ab 1) (BR (Aa (eC (.int 1)) (Aa (Ab 0) Af))))))))))))
def Fx:Cu:=Eu 1 10 QW
def Rg:BX :=
 (Bq (Bx 2 (HX Fd (Aa (Ab 1) Af)))
  (Bq (Bx 3 (eOp oIx (Bp (Aa (BR (Aa (eC (.int 0)) (Aa (eC (.int 6)) Af))) (Aa (BR (Aa (eUn Dp (eC (.int 3))) (Aa (eC (.int 8)) Af))) (Aa (BR (Aa (eC (.int 0)) (Aa (eC (.int 13)) Af))) (Aa (BR (Aa (eUn Dp (eC (.int 20))) (Aa (eC (.int 41)) Af))) Af))))) (Bj Am (Aa (Ab 2) (Aa (eC (.int 4)) Af)))))
  (sIf (JK (Bo (BL Fx (Aa (Bj Et (Aa (Ab 2) (Aa (eC (.int 1)) (Aa (Ab 3) (Aa (eC (.int 20)) Af))))) Af))))
  (Cy (eC (.bl false)))
  FW)))
def Vf:BX :=
 K7 (Ez (eOp Bw (Bp (Aa (eC (.int 0)) Af)) (eSl oSl (Ab 0) GX (GR (eC (.int 15)))))) (Pat.sem (.nm 1))
  Rg
def iu:BX :=
 (Bq Vf
  (Bq (Bx 4 (BR (Aa (eC (.int 1)) (Aa (Bp (Aa (BR (Aa (BR (Aa (eC (.int 0)) (Aa (eC (.int 2)) Af))) Af)) (Aa (BR (Aa (BR (Aa (eC (.int 5)) (Aa (eC (.int 6)) Af))) Af)) (Aa (BR (Aa (BR (Aa (eC (.int 2)) (Aa (eC (.int 4)) Af))) Af)) (Aa (BR (Aa (BR (Aa (eUn Dp (eC (.int 3))) (Aa (eUn Dp (eC (.int 1))) Af))) Af)) Af))))) Af))))
  (Bq (sIf (tOr (Bo (eOp (oEq true) (BL Ba (Aa (Ab 4) Af)) (Bp (Aa (BR (Aa (eUn Dp (eC (.int 3))) (Aa (eUn Dp (eC (.int 1))) Af))) (Aa (BR (Aa (eC (.int 0)) (Aa (eC (.int 4)) Af))) (Aa (BR (Aa (eC (.int 5)) (Aa (eC (.int 6)) Af))) Af)))))) (Bo (eOp (oEq true) (BL DP (Aa (Ab 4) Af)) (Bp (Aa (BR (Aa (eUn Dp (eC (.int 1))) (Aa (eC (.int 0)) Af))) (Aa (BR (Aa (eC (.int 4)) (Aa (eC (.int 5)) Af))) Af))))))
  (Cy (eC (.bl false)))
  FW)
  (Cy (Qh (eOp (oEq false) (BL Ba (Aa (BR (Aa (eC (.int 1)) (Aa (Bp Af) Af))) Af)) (Bp Af)) (eOp (oEq false) (BL DP (Aa (BR (Aa (eC (.int 1)) (Aa (Bp Af) Af))) Af)) (Bp Af)))))))
def T3:Cu:=Eu 1 5 iu
end W07
end
section
namespace W07
open PySem PySem.Spec L2 VS
def top (i : Nat) : Stmt := PySem.Challenge.pw_boxcover_k07_pieces_and_gaps_one_by_one.main.body.getD i (.Pass ⟨0, 0, 0, 0⟩)
abbrev IK:Stmt:=top 6
abbrev IW:Stmt:=top 7
abbrev Gi:Stmt:=top 8
abbrev J7:Stmt:=top 9
abbrev Hh:Stmt:=top 10
abbrev HD:Stmt:=top 11
abbrev Gz:Stmt:=top 12
abbrev Fi:Stmt:=top 14
abbrev GF:Stmt:=top 15
abbrev Fj:Stmt:=top 16
abbrev IV:Stmt:=top 17
abbrev Jm:Stmt:=top 19
abbrev Fz:Stmt:=top 20
abbrev Gy:Stmt:=top 21
abbrev Hi:Stmt:=top 22
abbrev EY:Stmt:=top 23
abbrev HJ:Stmt:=top 25
abbrev Hx:Stmt:=top 26
abbrev Hz:Stmt:=top 27
abbrev GJ:Stmt:=top 29
abbrev Hg:Stmt:=top 30
abbrev HN:Stmt:=top 31
abbrev Hy:Stmt:=top 32
abbrev HF:Stmt:=top 33
abbrev KR:Stmt:=top 34
theorem XH:CT ["thing"] ["thing"] (Ak IK):=⟨rfl,rfl,rfl,by decide +kernel,rfl,by decide +kernel,by decide +kernel⟩
theorem XM:CT ["thing"] ["thing"] (Ak IW):=⟨rfl,rfl,rfl,by decide +kernel,rfl,by decide +kernel,by decide +kernel⟩
theorem Uv:CT ["thing"] ["thing"] (Ak Gi):=⟨rfl,rfl,rfl,by decide +kernel,rfl,by decide +kernel,by decide +kernel⟩
theorem aX:CT ["ways","thing"] ["ways","thing"] (Ak J7):=⟨rfl,rfl,rfl,by decide +kernel,rfl,by decide +kernel,by decide +kernel⟩
theorem Np:CT ["thing","ways","boxes"] ["thing"] (Ak Hh):=⟨rfl,rfl,rfl,by decide +kernel,rfl,by decide +kernel,by decide +kernel⟩
theorem Wn:CT ["heap"] ["heap"] (Ak HD):=⟨rfl,rfl,rfl,by decide +kernel,rfl,by decide +kernel,by decide +kernel⟩
theorem Wm:CT ["heap","ways"] ["heap","ways"] (Ak Gz):=⟨rfl,rfl,rfl,by decide +kernel,rfl,by decide +kernel,by decide +kernel⟩
theorem Uw:CT ["boxes","way"] ["boxes","way"] (Ak Fi):=⟨rfl,rfl,rfl,by decide +kernel,rfl,by decide +kernel,by decide +kernel⟩
theorem Mz:CT ["boxes","way","ends"] ["boxes","way"] (Ak GF):=⟨rfl,rfl,rfl,by decide +kernel,rfl,by decide +kernel,by decide +kernel⟩
theorem Fy:CT ["boxes","numbers","way","ways","cells","low","high","there","rest","held_by"] ["boxes","numbers","way","ways"] (Ak Fj):=⟨rfl,rfl,rfl,by decide +kernel,rfl,by decide +kernel,by decide +kernel⟩
theorem XJ:CT ["heap"] ["heap"] (Ak IV):=⟨rfl,rfl,rfl,by decide +kernel,rfl,by decide +kernel,by decide +kernel⟩
theorem Lw:CT ["stretches","pieces","low","high"] ["stretches"] (Ak Jm):=⟨rfl,rfl,rfl,by decide +kernel,rfl,by decide +kernel,by decide +kernel⟩
theorem Te:CT ["heap","least"] ["heap","least"] (Ak Fz):=⟨rfl,rfl,rfl,by decide +kernel,rfl,by decide +kernel,by decide +kernel⟩
theorem Wk:CT ["heap"] ["heap"] (Ak Gy):=⟨rfl,rfl,rfl,by decide +kernel,rfl,by decide +kernel,by decide +kernel⟩
theorem Rn:CT ["heap","pieces"] ["heap"] (Ak Hi):=⟨rfl,rfl,rfl,by decide +kernel,rfl,by decide +kernel,by decide +kernel⟩
theorem QC:CT ["heap"] ["heap"] (Ak EY):=⟨rfl,rfl,rfl,by decide +kernel,rfl,by decide +kernel,by decide +kernel⟩
theorem Lb:CT ["cell","k","number"] ["cell","k"] (Ak HJ):=⟨rfl,rfl,rfl,by decide +kernel,rfl,by decide +kernel,by decide +kernel⟩
theorem XF:CT ["cell"] ["cell"] (Ak Hx):=⟨rfl,rfl,rfl,by decide +kernel,rfl,by decide +kernel,by decide +kernel⟩
theorem QH:CT ["well","many","got"] ["well","many"] (Ak Hz):=⟨rfl,rfl,rfl,by decide +kernel,rfl,by decide +kernel,by decide +kernel⟩
theorem Ie:CT ["well","reach","one","other"] ["well","reach"] (Ak GJ):=⟨rfl,rfl,rfl,by decide +kernel,rfl,by decide +kernel,by decide +kernel⟩
theorem GP:CT ["well","ways","reach","boxes","found","kind","here","at","low","high","there"] ["well","ways","reach","boxes"] (Ak Hg):=⟨rfl,rfl,rfl,by decide +kernel,rfl,by decide +kernel,by decide +kernel⟩
theorem Ja:CT ["well","ways","reach","most","many","found","k"] ["well","ways","reach","most"] (Ak HN):=⟨rfl,rfl,rfl,by decide +kernel,rfl,by decide +kernel,by decide +kernel⟩
theorem MK:CT ["covered","found","number"] ["covered"] (Ak Hy):=⟨rfl,rfl,rfl,by decide +kernel,rfl,by decide +kernel,by decide +kernel⟩
theorem Dv:CT ["boxes","heap","covered","box","number","pieces","gaps","k","turn","told"] ["boxes"] (Ak HF):=⟨rfl,rfl,rfl,by decide +kernel,rfl,by decide +kernel,by decide +kernel⟩
theorem Oa:CT ["script","cell","well","reach","heap"] ["script"] (Ak KR):=⟨rfl,rfl,rfl,by decide +kernel,rfl,by decide +kernel,by decide +kernel⟩
section
variable{P:Program}{w:World}{K:U0a}{mg:Str->Option Value}{base:Heap}
set_option maxHeartbeats 4000000 in
theorem Xc{f:Addr}{fd:FuncData}(F:Fun K "is_whole" "is_whole" IK f fd)(B:Blt mg):DG P w K mg base CX0 1 f fd ["thing"] (spP K El 1) :=
 fnP F XH fun cdv A outer s H E hr =>
  (Ax (Ca (Od (Cd Jp Kq rfl (B.is "isinstance") GK (Ac (Ae 0) (Ac (Pn (n:="int") rfl (B.is "int") Vj) Ah))) (Rh (qU (Cd Jp Kq rfl (B.is "isinstance") GK (Ac (Ae 0) (Ac (Pn (n:="bool") rfl (B.is "bool") lZ) Ah))))))))
set_option maxHeartbeats 4000000 in
theorem Xe{f:Addr}{fd:FuncData}(F:Fun K "are_ways" "are_ways" IW f fd)(B:Blt mg){d_MOST_BOXES:Addr}(M_MOST_BOXES:mg "MOST_BOXES"=some (.ref d_MOST_BOXES))(T_MOST_BOXES:∀h,K.In h->U5a P w h d_MOST_BOXES Bc.D3)(c_is_whole:CW P w K mg base "is_whole" 1 El):DG P w K mg base CX0 2 f fd ["thing"] (spP K Du 1) :=
 fnP F XM fun cdv A outer s H E hr =>
  (Ax (Ca (Od (CK c_is_whole hr (by omega) rfl (Ac (Ae 0) Ah)) (Rh (gJ T_MOST_BOXES (Ae 0) rfl M_MOST_BOXES)))))
set_option maxHeartbeats 4000000 in
theorem Ux{f:Addr}{fd:FuncData}(F:Fun K "is_stretch" "is_stretch" Gi f fd)(B:Blt mg)(c_is_whole:CW P w K mg base "is_whole" 1 El):DG P w K mg base CX0 2 f fd ["thing"] (spP K G5 1) :=
 fnP F Uv fun cdv A outer s H E hr =>
  (Av (G8 (Lp (KY (K4 (K3 (Cd Jp Kq rfl (B.is "isinstance") GK (Ac (Ae 0) (Ac (Pn (n:="tuple") rfl (B.is "tuple") Nk) Ah))))) (LC (Dt (Jy hr) Ma (Cd Dw Gq rfl (B.is "len") HY (Ac (Ae 0) Ah)) Aj (Di _)))))
   (Ax (Ca Lq))
   Es)
   (Ax (Ca (Od (CK c_is_whole hr (by omega) rfl (Ac (Bd BK BJ (Ae 0) Aj (fun _ _=>rfl)) Ah)) (Od (CK c_is_whole hr (by omega) rfl (Ac (Bd BK BJ (Ae 0) Aj (fun _ _=>rfl)) Ah)) (Rh (Mh iW Zn (Bd BK BJ (Ae 0) Aj (fun _ _=>rfl)) (Bd BK BJ (Ae 0) Aj (fun _ _=>rfl)) (Di _))))))))
set_option maxHeartbeats 4000000 in
theorem bG{f:Addr}{fd:FuncData}(F:Fun K "is_box" "is_box" J7 f fd)(B:Blt mg)(c_are_ways:CW P w K mg base "are_ways" 2 Du)(c_is_stretch:CW P w K mg base "is_stretch" 2 G5):DG P w K mg base CX0 3 f fd ["ways","thing"] (spP K Hw 2) :=
 fnP F aX fun cdv A outer s H E hr =>
  (Av (G8 (Lp (KY (K4 (K3 (CK c_are_ways hr (by omega) rfl (Ac (Ae 0) Ah)))) (KY (K4 (K3 (Cd Jp Kq rfl (B.is "isinstance") GK (Ac (Ae 1) (Ac (Pn (n:="tuple") rfl (B.is "tuple") Nk) Ah))))) (LC (Dt (Jy hr) Ma (Cd Dw Gq rfl (B.is "len") HY (Ac (Ae 1) Ah)) (Ae 0) (Di _))))))
   (Ax (Ca Lq))
   Es)
   (Ax (Ca (Cd (Wc rfl) YB rfl (B.is "all") aD (Ac (Gn rfl (FZ.of (sc:=Ak J7) (N:=["ways","thing"]) (N2:=["part"]) (k:=1) (caps:=[]) (by decide +kernel)) rfl (Gg (Ae 1)) ⟨fun _ _ _ _ _=>⟨(Ci (i:=0) (show U3h (["part"]:List Str) by decide +kernel)),JD,(CK c_is_stretch hr (by omega) rfl (Ac (Ae 0) Ah))⟩⟩) Ah)))))
set_option maxHeartbeats 4000000 in
theorem ZF{f:Addr}{fd:FuncData}(F:Fun K "is_heap" "is_heap" Hh f fd)(B:Blt mg){d_MOST_BOXES:Addr}(M_MOST_BOXES:mg "MOST_BOXES"=some (.ref d_MOST_BOXES))(T_MOST_BOXES:∀h,K.In h->U5a P w h d_MOST_BOXES Bc.D3)(c_are_ways:CW P w K mg base "are_ways" 2 Du)(c_is_box:CW P w K mg base "is_box" 3 Hw):DG P w K mg base CX0 4 f fd ["thing"] (spP K Gx 1) :=
 fnP F Np fun cdv A outer s H E hr =>
  (Av (G8 (Lp (KY (K4 (K3 (Cd Jp Kq rfl (B.is "isinstance") GK (Ac (Ae 0) (Ac (Pn (n:="tuple") rfl (B.is "tuple") Nk) Ah))))) (LC (Dt (Jy hr) Ma (Cd Dw Gq rfl (B.is "len") HY (Ac (Ae 0) Ah)) Aj (Di _)))))
   (Ax (Ca Lq))
   Es)
   (Av (DQ (i:=1) Np.nd (Bd BK BJ (Ae 0) Aj (fun _ _=>rfl)))
   (Av (DQ (i:=2) Np.nd (Bd BK BJ (Ae 0) Aj (fun _ _=>rfl)))
   (Av (G8 (Lp (KY (K4 (K3 (CK c_are_ways hr (by omega) rfl (Ac (Ae 1) Ah)))) (KY (K4 (K3 (Cd Jp Kq rfl (B.is "isinstance") GK (Ac (Ae 2) (Ac (Pn (n:="list") rfl (B.is "list") TY) Ah))))) (LC (Dt Pj Mf (Cd Dw Gq rfl (B.is "len") HY (Ac (Ae 2) Ah)) (gH T_MOST_BOXES (Ae 1) rfl M_MOST_BOXES (fun _ _=>rfl)) (Di _))))))
   (Ax (Ca Lq))
   Es)
   (Ax (Ca (Cd (Wc rfl) YB rfl (B.is "all") aD (Ac (Gn rfl (FZ.of (sc:=Ak Hh) (N:=["thing","ways","boxes"]) (N2:=["box","ways"]) (k:=1) (caps:=[1]) (by decide +kernel)) rfl (Gg (Ae 2)) ⟨fun _ _ _ _ _=>⟨(Ci (i:=0) (show U3h (["box","ways"]:List Str) by decide +kernel)),JD,(CK c_is_box hr (by omega) rfl (Ac (Ae 1) (Ac (Ae 0) Ah)))⟩⟩) Ah))))))))
set_option maxHeartbeats 4000000 in
theorem Wt{f:Addr}{fd:FuncData}(F:Fun K "need_heap" "need_heap" HD f fd)(B:Blt mg)(c_is_heap:CW P w K mg base "is_heap" 4 Gx):DG P w K mg base CX0 5 f fd ["heap"] (spP K Fw 1) :=
 fnP F Wn fun cdv A outer s H E hr =>
  (Ax (G8 (K4 (K3 (CK c_is_heap hr (by omega) rfl (Ac (Ae 0) Ah))))
   (Ax W7)
   Es))
set_option maxHeartbeats 4000000 in
theorem Ws{f:Addr}{fd:FuncData}(F:Fun K "need_ways" "need_ways" Gz f fd)(B:Blt mg)(c_need_heap:CW P w K mg base "need_heap" 5 Fw):DG P w K mg base CX0 6 f fd ["heap","ways"] (spP K Fv 2) :=
 fnP F Wm fun cdv A outer s H E hr =>
  (Av (JX (CK c_need_heap hr (by omega) rfl (Ac (Ae 0) Ah)))
   (Ax (G8 (Dt (Jy hr) Ma (Bd BK BJ (Ae 0) Aj (fun _ _=>rfl)) (Ae 1) (Di _))
   (Ax W7)
   Es)))
set_option maxHeartbeats 4000000 in
theorem Uy{f:Addr}{fd:FuncData}(F:Fun K "ends_along" "ends_along" Fi f fd)(B:Blt mg):DG P w K mg base CX0 1 f fd ["boxes","way"] (spP K G6 2) :=
 fnP F Uw fun cdv A outer s H E hr =>
  (Ax (Ca (ZV rfl (CN Dl Dk (Gn rfl (FZ.of (sc:=Ak Fi) (N:=["boxes","way"]) (N2:=["box","way"]) (k:=1) (caps:=[1]) (by decide +kernel)) rfl (Gg (Ae 0)) ⟨fun _ _ _ _ _=>⟨(Ci (i:=0) (show U3h (["box","way"]:List Str) by decide +kernel)),JD,(Bd BK BJ (Bd BK BJ (Ae 0) (Ae 1) (fun _ _=>rfl)) Aj (fun _ _=>rfl))⟩⟩) (Gn rfl (FZ.of (sc:=Ak Fi) (N:=["boxes","way"]) (N2:=["box","way"]) (k:=1) (caps:=[1]) (by decide +kernel)) rfl (Gg (Ae 0)) ⟨fun _ _ _ _ _=>⟨(Ci (i:=0) (show U3h (["box","way"]:List Str) by decide +kernel)),JD,(Bd BK BJ (Bd BK BJ (Ae 0) (Ae 1) (fun _ _=>rfl)) Aj (fun _ _=>rfl))⟩⟩)) rfl (B.is "sorted") rfl (B.is "set"))))
set_option maxHeartbeats 4000000 in
theorem Tf{f:Addr}{fd:FuncData}(F:Fun K "steps_along" "steps_along" GF f fd)(B:Blt mg)(Bz:mg "zip"=none)(c_ends_along:CW P w K mg base "ends_along" 1 G6):DG P w K mg base CX0 2 f fd ["boxes","way"] (spP K En 2) :=
 fnP F Mz fun cdv A outer s H E hr =>
  (Av (DQ (i:=2) Mz.nd (CK c_ends_along hr (by omega) rfl (Ac (Ae 0) (Ac (Ae 1) Ah))))
   (Ax (Ca (ZW rfl (Ac (Ae 2) (Ac (La OD OJ (Ae 2) (Mr Aj) Ms) Ah)) rfl (B.is "list") rfl Bz))))
set_option maxHeartbeats 4000000 in
theorem Ir{f:Addr}{fd:FuncData}(F:Fun K "cells_from" "cells_from" Fj f fd)(B:Blt mg)(c_steps_along:CW P w K mg base "steps_along" 2 En){n k:Nat}(hk:2<=k)(c_cells_from:CW P w K mg base "cells_from" k (Bm n)):DG P w K mg base CX0 (k+1) f fd ["boxes","numbers","way","ways"] (spP K (Bm (n+1)) 4) :=
 fnP F Fy fun cdv A outer s H E hr =>
  (Av (G8 (Dt (Jz hr) Jw (Cd Dw Gq rfl (B.is "len") HY (Ac (Ae 1) Ah)) Aj (Di _))
   (Ax (Ca (Ds Ah Aw)))
   Es)
   (Av (G8 (Dt (Jz hr) Jw (Ae 2) (Ae 3) (Di _))
   (Ax (Ca (Ds (Ac (Bv (Ac (Bv Ah Aw) (Ac (Ae 1) Ah)) (Ai (Ai Aw))) Ah) (Ai Aw))))
   Es)
   (Av (DQ (i:=4) Fy.nd (Mt Ah Aw))
   (Av (Ik rfl (Gg (CK c_steps_along hr (by omega) rfl (Ac (Gn rfl (FZ.of (sc:=Ak Fj) (N:=["boxes","numbers","way","ways","cells","low","high","there","rest","held_by"]) (N2:=["number","boxes"]) (k:=1) (caps:=[0]) (by decide +kernel)) rfl (Gg (Ae 1)) ⟨fun _ _ _ _ _=>⟨(Ci (i:=0) (show U3h (["number","boxes"]:List Str) by decide +kernel)),JD,(Bd BK BJ (Ae 1) (Ae 0) (fun _ _=>rfl))⟩⟩) (Ac (Ae 2) Ah)))) (LK rfl (Ej (Ci (i:=5) Fy.nd) (Ej (Ci (i:=6) Fy.nd) Jl)))
   (Av (Xj (i:=7) rfl Fy.nd (FZ.of (sc:=Ak Fj) (N:=["boxes","numbers","way","ways","cells","low","high","there","rest","held_by"]) (N2:=["number","boxes","way","low"]) (k:=1) (caps:=[0,2,5]) (by decide +kernel)) rfl (Gg (Ae 1)) ⟨fun _ _ _ _ _=>⟨(Ci (i:=0) (show U3h (["number","boxes","way","low"]:List Str) by decide +kernel)),(YQ (gF tL oJ iW Zn (Bd BK BJ (Bd BK BJ (Bd BK BJ (Ae 1) (Ae 0) (fun _ _=>rfl)) (Ae 2) (fun _ _=>rfl)) Aj (fun _ _=>rfl)) (Ae 3) (Bd BK BJ (Bd BK BJ (Bd BK BJ (Ae 1) (Ae 0) (fun _ _=>rfl)) (Ae 2) (fun _ _=>rfl)) Aj (fun _ _=>rfl)))),(Ae 0)⟩⟩)
   (Ax (Ik rfl (Gg (CK c_cells_from hr (by omega) rfl (Ac (Ae 0) (Ac (Ae 7) (Ac (CN Dl Dk (Ae 2) Aj) (Ac (Ae 3) Ah)))))) (LK rfl (Ej (Ci (i:=8) Fy.nd) (Ej (Ci (i:=9) Fy.nd) Jl)))
   (Ax (JX (Ks U2w U25 U26 JH JF (Ae 4) (Ac (Bv (Ac (CN Dl Dk (Bv (Ac (Bv (Ac (Ae 5) (Ac (Ae 6) Ah)) (Ai (Ai Aw))) Ah) (Ai Aw)) (Ae 8)) (Ac (Ae 9) Ah)) (Ai (Ai Aw))) Ah)))) U22))) U22)
   (Ax (Ca (Ae 4)))))))
set_option maxHeartbeats 4000000 in
theorem Xd{f:Addr}{fd:FuncData}(F:Fun K "cells_of" "cells_of" IV f fd)(B:Blt mg)(c_cells_from:CW P w K mg base "cells_from" 6 (Bm 4)):DG P w K mg base CX0 7 f fd ["heap"] (spP K Fg 1) :=
 fnP F XJ fun cdv A outer s H E hr =>
  (Ax (Ca (CK c_cells_from hr (by omega) rfl (Ac (Bd BK BJ (Ae 0) Aj (fun _ _=>rfl)) (Ac (X3 rfl (Ac (Cd Dw Gq rfl (B.is "len") HY (Ac (Bd BK BJ (Ae 0) Aj (fun _ _=>rfl)) Ah)) Ah) rfl (B.is "list") rfl (B.is "range")) (Ac Aj (Ac (Bd BK BJ (Ae 0) Aj (fun _ _=>rfl)) Ah)))))))
set_option maxHeartbeats 4000000 in
theorem bF{f:Addr}{fd:FuncData}(F:Fun K "joined" "joined" Jm f fd)(B:Blt mg):DG P w K mg base CX0 1 f fd ["stretches"] (spP K Hv 1) :=
 fnP F Lw fun cdv A outer s H E hr =>
  (Av (DQ (i:=1) Lw.nd (Mt Ah Aw))
   (Av (Ik rfl (Gg (Ae 0)) (LK rfl (Ej (Ci (i:=2) Lw.nd) (Ej (Ci (i:=3) Lw.nd) Jl)))
   (Ax (G8 (Lp (qQ (Dt Pj Mf (Cd Dw Gq rfl (B.is "len") HY (Ac (Ae 1) Ah)) Aj (Di _)) (kW (Dt (Jz hr) Jw (Bd BK BJ (Bd BK BJ (Ae 1) (Hr Gf G3 Aj) (fun _ _=>rfl)) Aj (fun _ _=>rfl)) (Ae 2) (Di _)))))
   (Ax (Nh (Bv (Ac (Bd BK BJ (Bd BK BJ (Ae 1) (Hr Gf G3 Aj) (fun _ _=>rfl)) Aj (fun _ _=>rfl)) (Ac (Ae 3) Ah)) (Ai (Ai Aw))) (Ae 1) (Hr Gf G3 Aj)))
   (Ax (JX (Ks U2w U25 U26 JH JF (Ae 1) (Ac (Bv (Ac (Ae 2) (Ac (Ae 3) Ah)) (Ai (Ai Aw))) Ah)))))) U22)
   (Ax (Ca (Ae 1)))))
set_option maxHeartbeats 4000000 in
theorem Tg{f:Addr}{fd:FuncData}(F:Fun K "pieces_held" "pieces_held" Fz f fd)(B:Blt mg)(c_joined:CW P w K mg base "joined" 1 Hv)(c_cells_of:CW P w K mg base "cells_of" 7 Fg):DG P w K mg base CX0 8 f fd ["heap","least"] (spP K Eo 2) :=
 fnP F Te fun cdv A outer s H E hr =>
  (Ax (Ca (CK c_joined hr (by omega) rfl (Ac (Gn rfl (FZ.of (sc:=Ak Fz) (N:=["heap","least"]) (N2:=["cell","numbers","least"]) (k:=2) (caps:=[1]) (by decide +kernel)) rfl (Gg (CK c_cells_of hr (by omega) rfl (Ac (Ae 0) Ah))) ⟨fun _ _ _ _ _=>⟨(LK rfl (Ej (Ci (i:=0) (show U3h (["cell","numbers","least"]:List Str) by decide +kernel)) (Ej (Ci (i:=1) (show U3h (["cell","numbers","least"]:List Str) by decide +kernel)) Jl))),(YQ (Dt iY Zo (Cd Dw Gq rfl (B.is "len") HY (Ac (Ae 1) Ah)) (Ae 2) (Di _))),(Bd BK BJ (Ae 0) Aj (fun _ _=>rfl))⟩⟩) Ah))))
set_option maxHeartbeats 4000000 in
theorem Wr{f:Addr}{fd:FuncData}(F:Fun K "pieces_of" "pieces_of" Gy f fd)(B:Blt mg)(c_need_ways:CW P w K mg base "need_ways" 6 Fv)(c_pieces_held:CW P w K mg base "pieces_held" 8 Eo):DG P w K mg base CX0 9 f fd ["heap"] (spP K Ba 1) :=
 fnP F Wk fun cdv A outer s H E hr =>
  (Av (JX (CK c_need_ways hr (by omega) rfl (Ac (Ae 0) (Ac Aj Ah))))
   (Ax (Ca (CK c_pieces_held hr (by omega) rfl (Ac (Ae 0) (Ac Aj Ah))))))
set_option maxHeartbeats 4000000 in
theorem ZG{f:Addr}{fd:FuncData}(F:Fun K "gaps_of" "gaps_of" Hi f fd)(B:Blt mg)(Bz:mg "zip"=none)(c_pieces_of:CW P w K mg base "pieces_of" 9 Ba):DG P w K mg base CX0 10 f fd ["heap"] (spP K DP 1) :=
 fnP F Rn fun cdv A outer s H E hr =>
  (Av (DQ (i:=1) Rn.nd (CK c_pieces_of hr (by omega) rfl (Ac (Ae 0) Ah)))
   (Ax (Ca (Gn rfl (FZ.of (sc:=Ak Hi) (N:=["heap","pieces"]) (N2:=["before","behind"]) (k:=2) (caps:=[]) (by decide +kernel)) rfl (qT rfl Bz (Ac (Ae 1) (Ac (La OD OJ (Ae 1) (Mr Aj) Ms) Ah))) ⟨fun _ _ _ _ _=>⟨(LK rfl (Ej (Ci (i:=0) (show U3h (["before","behind"]:List Str) by decide +kernel)) (Ej (Ci (i:=1) (show U3h (["before","behind"]:List Str) by decide +kernel)) Jl))),JD,(Bv (Ac (Bd BK BJ (Ae 0) Aj (fun _ _=>rfl)) (Ac (Bd BK BJ (Ae 1) Aj (fun _ _=>rfl)) Ah)) (Ai (Ai Aw)))⟩⟩))))
set_option maxHeartbeats 4000000 in
theorem QD{f:Addr}{fd:FuncData}(F:Fun K "covered_length" "covered_length" EY f fd)(B:Blt mg)(Bs:mg "sum"=none)(c_pieces_of:CW P w K mg base "pieces_of" 9 Ba):DG P w K mg base CX0 10 f fd ["heap"] (spP K Cm 1) :=
 fnP F QC fun cdv A outer s H E hr =>
  (Ax (Ca (Cd (cC rfl) jN rfl Bs qm (Ac (Gn rfl (FZ.of (sc:=Ak EY) (N:=["heap"]) (N2:=["low","high"]) (k:=2) (caps:=[]) (by decide +kernel)) rfl (Gg (CK c_pieces_of hr (by omega) rfl (Ac (Ae 0) Ah))) ⟨fun _ _ _ _ _=>⟨(LK rfl (Ej (Ci (i:=0) (show U3h (["low","high"]:List Str) by decide +kernel)) (Ej (Ci (i:=1) (show U3h (["low","high"]:List Str) by decide +kernel)) Jl))),JD,(CN Rb Pr (Ae 1) (Ae 0))⟩⟩) Ah))))
set_option maxHeartbeats 4000000 in
theorem Wv{f:Addr}{fd:FuncData}(F:Fun K "_law_mixed" "_law_mixed" HJ f fd)(B:Blt mg):DG P w K mg base CX0 1 f fd ["cell","k"] (spP K GD 2) :=
 fnP F Lb fun cdv A outer s H E hr =>
  (Av (DQ (i:=2) Lb.nd (CN Mg Kp (CN Dl Dk (CN Dl Dk (CN Mg Kp (Ae 0) Aj) (CN Jk Jj (CN Jk Jj Aj (Ae 1)) (Ae 1))) (CN Jk Jj Aj (Ae 1))) Aj))
   (Av (DQ (i:=2) Lb.nd (CN Mg Kp (CN Jk Jj (Ae 2) (Ae 2)) Aj))
   (Ax (Ca (CN W3 Y8 (CN Mg Kp (CN Jk Jj (Ae 2) (CN Dl Dk (Ae 2) Aj)) Aj) Aj)))))
set_option maxHeartbeats 4000000 in
theorem XS{f:Addr}{fd:FuncData}(F:Fun K "_law_well" "_law_well" Hx f fd)(B:Blt mg):DG P w K mg base CX0 1 f fd ["cell"] (spP K Fd 1) :=
 fnP F XF fun cdv A outer s H E hr =>
  (Ax (Ca (Ds (Ac (CN Jk Jj (Ae 0) (Ot Um Y7 rfl (B.is "int") Vj (Ac (Mh iY Zo (Ae 0) (CN Ve Sy Aj Aj) (Di _)) Ah))) (Ac (Ae 0) (Ac Aj Ah))) (Ai (Ai (Ai Aw))))))
set_option maxHeartbeats 4000000 in
theorem Xb{f:Addr}{fd:FuncData}(F:Fun K "_law_draw" "_law_draw" Hz f fd)(B:Blt mg)(c_law_mixed:CW P w K mg base "_law_mixed" 1 GD):DG P w K mg base CX0 2 f fd ["well","many"] (spM K Am 2) :=
 fnM F QH fun cdv A outer s H E hr =>
  (Av (G8 (Dt Pj Mf (Bd BK BJ (Ae 0) Aj (fun _ _=>rfl)) Aj (Di _))
   (Av (DQ (i:=2) QH.nd (CN Mg Kp (Bd BK BJ (Ae 0) Aj (fun _ _=>rfl)) (Ae 1)))
   (Av (Nh (CN W3 Y8 (Bd BK BJ (Ae 0) Aj (fun _ _=>rfl)) (Ae 1)) (Ae 0) Aj)
   (Ax (Ca (Ae 2)))))
   Es)
   (Av (Nh (CN Dl Dk (Bd BK BJ (Ae 0) Aj (fun _ _=>rfl)) Aj) (Ae 0) Aj)
   (Ax (Ca (CN Mg Kp (CN Jk Jj (CK c_law_mixed hr (by omega) rfl (Ac (Bd BK BJ (Ae 0) Aj (fun _ _=>rfl)) (Ac (Bd BK BJ (Ae 0) Aj (fun _ _=>rfl)) Ah))) (Bd BK BJ (Ds (Ac Aj (Ac Aj Ah)) (Ai (Ai Aw))) (Ot Um Y7 rfl (B.is "int") Vj (Ac (Mh Pj Mf (Ae 1) (CN Ve Sy Aj Aj) (Di _)) Ah)) (fun _ _=>rfl))) (Ae 1))))))
set_option maxHeartbeats 4000000 in
theorem Ti{f:Addr}{fd:FuncData}(F:Fun K "_law_stretch" "_law_stretch" GJ f fd)(B:Blt mg)(c_law_draw:KC P w K mg base "_law_draw" 2 Am):DG P w K mg base CX0 3 f fd ["well","reach"] (spM K Ep 2) :=
 fnM F Ie fun cdv A outer s H E hr =>
  (Av (DQ (i:=2) Ie.nd (CN Dl Dk (Bd BK BJ (Ae 1) Aj (fun _ _=>rfl)) (Ek c_law_draw hr (by omega) rfl (Ac (Ae 0) (Ac (Bd BK BJ (Ae 1) Aj (fun _ _=>rfl)) Ah)))))
   (Av (DQ (i:=3) Ie.nd (CN Dl Dk (Bd BK BJ (Ae 1) Aj (fun _ _=>rfl)) (Ek c_law_draw hr (by omega) rfl (Ac (Ae 0) (Ac (Bd BK BJ (Ae 1) Aj (fun _ _=>rfl)) Ah)))))
   (Av (G8 (Dt (Jz hr) Jw (Ae 2) (Ae 3) (Di _))
   (Ax (DQ (i:=3) Ie.nd (CN Dl Dk (Ae 2) Aj)))
   Es)
   (Ax (Ca (Bv (Ac (Cd (cF rfl) dW rfl (B.is "min") qt (Ac (Ae 2) (Ac (Ae 3) Ah))) (Ac (Cd (cG rfl) dX rfl (B.is "max") qu (Ac (Ae 2) (Ac (Ae 3) Ah))) Ah)) (Ai (Ai Aw))))))))
set_option maxHeartbeats 4000000 in
theorem ZD{f:Addr}{fd:FuncData}(F:Fun K "_law_box" "_law_box" Hg f fd)(B:Blt mg)(c_law_stretch:KC P w K mg base "_law_stretch" 3 Ep)(c_law_draw:KC P w K mg base "_law_draw" 2 Am):DG P w K mg base CX0 4 f fd ["well","ways","reach","boxes"] (spM K FQ 4) :=
 fnM F GP fun cdv A outer s H E hr =>
  (Av (DQ (i:=4) GP.nd (Ot V1 aR rfl (B.is "tuple") Nk (Ac (Gn rfl (FZ.of (sc:=Ak Hg) (N:=["well","ways","reach","boxes","found","kind","here","at","low","high","there"]) (N2:=["way","well","reach"]) (k:=1) (caps:=[0,2]) (by decide +kernel)) rfl (Oq rfl (B.is "range") (Ac (Ae 1) Ah)) ⟨fun _ _ _ _ _=>⟨(Ci (i:=0) (show U3h (["way","well","reach"]:List Str) by decide +kernel)),JD,(Ek c_law_stretch hr (by omega) rfl (Ac (Ae 1) (Ac (Ae 2) Ah)))⟩⟩) Ah)))
   (Av (DQ (i:=5) GP.nd (Ek c_law_draw hr (by omega) rfl (Ac (Ae 0) (Ac Aj Ah))))
   (Av (G8 (Lp (KY (Dt (Jz hr) Jw (Ae 3) (Ds Ah Aw) (Di _)) (LC (Dt Pj Mf (Ae 5) Aj (Di _)))))
   (Ax (Ca (Ae 4)))
   Es)
   (Av (DQ (i:=6) GP.nd (Bd BK BJ (Ae 3) (Ek c_law_draw hr (by omega) rfl (Ac (Ae 0) (Ac (Cd Dw Gq rfl (B.is "len") HY (Ac (Ae 3) Ah)) Ah))) (fun _ _=>rfl)))
   (Av (DQ (i:=7) GP.nd (Ek c_law_draw hr (by omega) rfl (Ac (Ae 0) (Ac (Ae 1) Ah))))
   (Av (qR (Bd BK BJ (Ae 6) (Ae 7) (fun _ _=>rfl)) (LK rfl (Ej (Ci (i:=8) GP.nd) (Ej (Ci (i:=9) GP.nd) Jl))))
   (Av (DQ (i:=10) GP.nd (Ds (Ac (Bd BK BJ (Ae 6) (Ae 7) (fun _ _=>rfl)) (Ac (Bd BK BJ (Ae 4) (Ae 7) (fun _ _=>rfl)) (Ac (Bv (Ac (Ae 9) (Ac (CN Dl Dk (CN Dl Dk (Ae 9) Aj) (Ek c_law_draw hr (by omega) rfl (Ac (Ae 0) (Ac Aj Ah)))) Ah)) (Ai (Ai Aw))) (Ac (Bv (Ac (Ae 8) (Ac (CN Dl Dk (CN Dl Dk (Ae 8) Aj) (Ek c_law_draw hr (by omega) rfl (Ac (Ae 0) (Ac (CN Rb Pr (Ae 9) (Ae 8)) Ah)))) Ah)) (Ai (Ai Aw))) Ah)))) (Ai (Ai (Ai (Ai Aw))))))
   (Av (G8 (Dt Pj Mf (Bd BK BJ (Bd BK BJ (Ae 10) (Ae 5) (fun _ _=>rfl)) Aj (fun _ _=>rfl)) (CN Ve Sy Aj Aj) (Di _))
   (Ax (Ca (Ae 4)))
   Es)
   (Ax (Ca (CN Dl Dk (CN Dl Dk (La OD OJ (Ae 6) Ms (Mr (Ae 7))) (Bv (Ac (Bd BK BJ (Ae 10) (Ae 5) (fun _ _=>rfl)) Ah) (Ai Aw))) (La OD OJ (Ae 6) (Mr (CN Dl Dk (Ae 7) Aj)) Ms))))))))))))
set_option maxHeartbeats 4000000 in
theorem Ww{f:Addr}{fd:FuncData}(F:Fun K "_law_boxes" "_law_boxes" HN f fd)(B:Blt mg)(c_law_draw:KC P w K mg base "_law_draw" 2 Am)(c_law_box:KC P w K mg base "_law_box" 4 FQ):DG P w K mg base CX0 5 f fd ["well","ways","reach","most"] (spM K Et 4) :=
 fnM F Ja fun cdv A outer s H E hr =>
  (Av (DQ (i:=4) Ja.nd (Bd BK BJ (Ds (Ac (Ek c_law_draw hr (by omega) rfl (Ac (Ae 0) (Ac Aj Ah))) (Ac (Ek c_law_draw hr (by omega) rfl (Ac (Ae 0) (Ac (CN Dl Dk (Ae 3) Aj) Ah))) (Ac (Ae 3) Ah))) (Ai (Ai (Ai Aw)))) (Ek c_law_draw hr (by omega) rfl (Ac (Ae 0) (Ac Aj Ah))) (fun _ _=>rfl)))
   (Av (DQ (i:=5) Ja.nd (Mt Ah Aw))
   (Av (Ik rfl (Oq rfl (B.is "range") (Ac (Ae 4) Ah)) (Ci (i:=6) Ja.nd)
   (Ax (JX (Ks U2w U25 U26 JH JF (Ae 5) (Ac (Ek c_law_box hr (by omega) rfl (Ac (Ae 0) (Ac (Ae 1) (Ac (Ae 2) (Ac (Ae 5) Ah))))) Ah)))) U22)
   (Ax (Ca (Ae 5))))))
set_option maxHeartbeats 4000000 in
theorem Xa{f:Addr}{fd:FuncData}(F:Fun K "_law_runs" "_law_runs" Hy f fd)(B:Blt mg):DG P w K mg base CX0 1 f fd ["covered"] (spP K Fe 1) :=
 fnP F MK fun cdv A outer s H E hr =>
  (Av (DQ (i:=1) MK.nd (Mt Ah Aw))
   (Av (Ik rfl (Oo rfl (B.is "range") (Ac (Hr Gf G3 Aj) (Ac Aj Ah))) (Ci (i:=2) MK.nd)
   (Ax (G8 (Dt (Zu (Yx hr)) Y9 (Ae 2) (Ae 0) (by with_unfolding_all rfl))
   (Ax (G8 (Dt (Zu (Yx hr)) Y9 (CN Rb Pr (Ae 2) Aj) (Ae 0) (by with_unfolding_all rfl))
   (Ax (Nh (Bv (Ac (Bd BK BJ (Bd BK BJ (Ae 1) (Hr Gf G3 Aj) (fun _ _=>rfl)) Aj (fun _ _=>rfl)) (Ac (CN Dl Dk (Ae 2) Aj) Ah)) (Ai (Ai Aw))) (Ae 1) (Hr Gf G3 Aj)))
   (Ax (JX (Ks U2w U25 U26 JH JF (Ae 1) (Ac (Bv (Ac (Ae 2) (Ac (CN Dl Dk (Ae 2) Aj) Ah)) (Ai (Ai Aw))) Ah))))))
   Es)) U22)
   (Ax (Ca (Ae 1)))))
set_option maxHeartbeats 4000000 in
theorem Wu{f:Addr}{fd:FuncData}(F:Fun K "_law_right" "_law_right" HF f fd)(B:Blt mg)(c_law_runs:CW P w K mg base "_law_runs" 1 Fe)(c_gaps_of:CW P w K mg base "gaps_of" 10 DP)(c_pieces_of:CW P w K mg base "pieces_of" 9 Ba)(c_covered_length:CW P w K mg base "covered_length" 10 Cm):DG P w K mg base CX0 11 f fd ["boxes"] (spP K Fx 1) :=
 fnP F Dv fun cdv A outer s H E hr =>
  (Av (DQ (i:=1) Dv.nd (Bv (Ac Aj (Ac (kh X7 dY rfl (B.is "list") TY (Ac (Ae 0) Ah)) Ah)) (Ai (Ai Aw))))
   (Av (DQ (i:=2) Dv.nd kj)
   (Av (Ik rfl (Gg (Ae 0)) (Ci (i:=3) Dv.nd)
   (Ax (Ik rfl (Oo rfl (B.is "range") (Ac (Bd BK BJ (Bd BK BJ (Ae 3) Aj (fun _ _=>rfl)) Aj (fun _ _=>rfl)) (Ac (Bd BK BJ (Bd BK BJ (Ae 3) Aj (fun _ _=>rfl)) Aj (fun _ _=>rfl)) Ah))) (Ci (i:=4) Dv.nd)
   (Ax (kY (Yx hr) Lq (Ae 2) (Ae 4))) U22)) U22)
   (Av (DQ (i:=5) Dv.nd (CK c_law_runs hr (by omega) rfl (Ac (Ae 2) Ah)))
   (Av (DQ (i:=6) Dv.nd (Mt Ah Aw))
   (Av (Ik rfl (Oo rfl (B.is "range") (Ac Aj (Ac (Cd Dw Gq rfl (B.is "len") HY (Ac (Ae 5) Ah)) Ah))) (Ci (i:=7) Dv.nd)
   (Ax (JX (Ks U2w U25 U26 JH JF (Ae 6) (Ac (Bv (Ac (Bd BK BJ (Bd BK BJ (Ae 5) (CN Rb Pr (Ae 7) Aj) (fun _ _=>rfl)) Aj (fun _ _=>rfl)) (Ac (Bd BK BJ (Bd BK BJ (Ae 5) (Ae 7) (fun _ _=>rfl)) Aj (fun _ _=>rfl)) Ah)) (Ai (Ai Aw))) Ah)))) U22)
   (Av (Ik rfl (Oq rfl (B.is "range") (Ac Aj Ah)) (Ci (i:=8) Dv.nd)
   (Av (DQ (i:=9) Dv.nd (Ds (Ac (Qv c_pieces_of hr (by omega) rfl (Ac (Ae 1) Ah)) (Ac (Qv c_gaps_of hr (by omega) rfl (Ac (Ae 1) Ah)) Ah)) (Ai (Ai Aw))))
   (Av (G8 (Lp (KY (Dt (Jy hr) Y6 (Cd (Km hr) NQ rfl (B.is "repr") Q9 (Ac (Ae 9) Ah)) (Cd (Km hr) NQ rfl (B.is "repr") Q9 (Ac (Ds (Ac (Ae 5) (Ac (Ae 6) Ah)) (Ai (Ai Aw))) Ah)) (Di _)) (LC (Dt (Jy hr) Y6 (Cd (Km hr) NQ rfl (B.is "repr") Q9 (Ac (CK c_covered_length hr (by omega) rfl (Ac (Ae 1) Ah)) Ah)) (Cd (Km hr) NQ rfl (B.is "repr") Q9 (Ac (Cd cH dZ rfl (B.is "len") HY (Ac (Ae 2) Ah)) Ah)) (Di _)))))
   (Ax (Ca Lq))
   Es)
   (Av (JX (Ks U2w U25 U26 JH JF (Bd BK BJ (Ae 9) Aj (fun _ _=>rfl)) (Ac (Bv (Ac Aj (Ac Aj Ah)) (Ai (Ai Aw))) Ah)))
   (Ax (JX (gG U2w PySem.F.slot_list_clear PySem.F.type_list_clear fQ dU (Bd BK BJ (Ae 9) Aj (fun _ _=>rfl)))))))) U22)
   (Ax (Ca (Mh (Jz hr) Jw (Ae 1) (Bv (Ac Aj (Ac (Ae 0) Ah)) (Ai (Ai Aw))) (Di _)))))))))))
set_option maxHeartbeats 4000000 in
theorem pq{f:Addr}{fd:FuncData}(F:Fun K "law" "law" KR f fd)(B:Blt mg)(c_law_well:CW P w K mg base "_law_well" 1 Fd)(c_law_draw:KC P w K mg base "_law_draw" 2 Am)(c_law_right:CW P w K mg base "_law_right" 11 Fx)(c_law_boxes:KC P w K mg base "_law_boxes" 5 Et)(c_pieces_of:CW P w K mg base "pieces_of" 9 Ba)(c_gaps_of:CW P w K mg base "gaps_of" 10 DP):DG P w K mg base CX0 12 f fd ["script"] (spP K T3 1) :=
 fnP F Oa fun cdv A outer s H E hr =>
  (Av (Ik rfl (Gg (CN Dl Dk (Ds (Ac Aj Ah) (Ai Aw)) (La OD OJ (Ae 0) Ms (Mr Aj)))) (Ci (i:=1) Oa.nd)
   (Av (DQ (i:=2) Oa.nd (Qv c_law_well hr (by omega) rfl (Ac (Ae 1) Ah)))
   (Av (DQ (i:=3) Oa.nd (Bd BK BJ (Ds (Ac (Bv (Ac Aj (Ac Aj Ah)) (Ai (Ai Aw))) (Ac (Bv (Ac (Hr Gf G3 Aj) (Ac Aj Ah)) (Ai (Ai Aw))) (Ac (Bv (Ac Aj (Ac Aj Ah)) (Ai (Ai Aw))) (Ac (Bv (Ac (Hr Gf G3 Aj) (Ac Aj Ah)) (Ai (Ai Aw))) Ah)))) (Ai (Ai (Ai (Ai Aw))))) (Ek c_law_draw hr (by omega) rfl (Ac (Ae 2) (Ac Aj Ah))) (fun _ _=>rfl)))
   (Ax (G8 (K4 (K3 (CK c_law_right hr (by omega) rfl (Ac (Ek c_law_boxes hr (by omega) rfl (Ac (Ae 2) (Ac Aj (Ac (Ae 3) (Ac Aj Ah))))) Ah))))
   (Ax (Ca Lq))
   Es)))) U22)
   (Av (DQ (i:=4) Oa.nd (Bv (Ac Aj (Ac (Ds (Ac (Bv (Ac (Bv (Ac Aj (Ac Aj Ah)) (Ai (Ai Aw))) Ah) (Ai Aw)) (Ac (Bv (Ac (Bv (Ac Aj (Ac Aj Ah)) (Ai (Ai Aw))) Ah) (Ai Aw)) (Ac (Bv (Ac (Bv (Ac Aj (Ac Aj Ah)) (Ai (Ai Aw))) Ah) (Ai Aw)) (Ac (Bv (Ac (Bv (Ac (Hr Gf G3 Aj) (Ac (Hr Gf G3 Aj) Ah)) (Ai (Ai Aw))) Ah) (Ai Aw)) Ah)))) (Ai (Ai (Ai (Ai Aw))))) Ah)) (Ai (Ai Aw))))
   (Av (G8 (Lp (KY (Dt (Jy hr) Ma (CK c_pieces_of hr (by omega) rfl (Ac (Ae 4) Ah)) (Ds (Ac (Bv (Ac (Hr Gf G3 Aj) (Ac (Hr Gf G3 Aj) Ah)) (Ai (Ai Aw))) (Ac (Bv (Ac Aj (Ac Aj Ah)) (Ai (Ai Aw))) (Ac (Bv (Ac Aj (Ac Aj Ah)) (Ai (Ai Aw))) Ah))) (Ai (Ai (Ai Aw)))) (Di _)) (LC (Dt (Jy hr) Ma (CK c_gaps_of hr (by omega) rfl (Ac (Ae 4) Ah)) (Ds (Ac (Bv (Ac (Hr Gf G3 Aj) (Ac Aj Ah)) (Ai (Ai Aw))) (Ac (Bv (Ac Aj (Ac Aj Ah)) (Ai (Ai Aw))) Ah)) (Ai (Ai Aw))) (Di _)))))
   (Ax (Ca Lq))
   Es)
   (Ax (Ca (Od (Mh (Jz hr) Jw (CK c_pieces_of hr (by omega) rfl (Ac (Bv (Ac Aj (Ac (Ds Ah Aw) Ah)) (Ai (Ai Aw))) Ah)) (Ds Ah Aw) (Di _)) (Rh (Mh (Jz hr) Jw (CK c_gaps_of hr (by omega) rfl (Ac (Bv (Ac Aj (Ac (Ds Ah Aw) Ah)) (Ai (Ai Aw))) Ah)) (Ds Ah Aw) (Di _)))))))))
end
end W07
end
section
namespace W07
open PySem L2 VS
theorem Pa(i:Int):El [.int i]=some (.bl true):=by
 simp[El,Rz,Cq,BP,Ed,CQ,Ao,Ey,Q8,lW,Dg,den,-U0f,-U0h]
theorem Qd{n:Int}(h:n=1∨n=2∨n=3):Du [.int n]=some (.bl true):=by
 have e:(Spec.lookup (.int n) Bc.D3).isSome=true:=by rw[Bc.tY];exact decide_eq_true h
 simp[Du,S7,Cq,BP,qd,CQ,Ao,Q8,Fb,Dg,den,CG,age,Br,Bb,Ay,-U0f,-U0h,Pa,VD,e]
theorem Uz(p:St2):G5 [Ad p]=some (.bl (decide (p.1<p.2))):=by
 have h:Ce [] (Ad p)=some (pS p):=aU [] p
 simp only[Ad] at h ⊢
 simp[G5,Pg,G9,Cq,HW,Gs,BP,Ed,BW,CQ,Ao,Ey,Q8,Df,RV,Sx,Fb,oI,Gk,oLt,oEq,oIx,Ew,VS.listOf,Cg,Dg,den,CG,age,Br,Bb,Ay,-U0f,-U0h,Pa,h,pS]
theorem gK(n:Nat)(b:List St2)(hb:∀p∈b,p.1<p.2)(hl:b.length<=1000):Ou [some (.int n),some (Ag b)] []=some (b.map (fun _=>D.bl true),[]):=by
 unfold Ou Ef
 have e:Ez (Ab 1) [some (.int n),some (Ag b)] []=some ((b.map Ad,[]),[]):=by simp[BP,VS.listOf,Cg,VS.idOf,Gv,-U0f,-U0h,Ag]
 rw[e]
 simp only[U0c]
 rw[WY (by simp) (fun _=>.bl true) _ (by simp;omega)]
 .simp[Function.comp_def]
 .intro d hd
  obtain⟨p,hp,rfl⟩:=U16.mp hd
  refine⟨_,rfl,?_⟩
  have h1:=Uz p
  rw[decide_eq_true (hb p hp)] at h1
  simp[BP,CQ,Ao,JM,Fb,CG,Br,Ay,U0u,-U0f,-U0h,h1]
theorem SM{α:Type}(l:List α):Kv.boolsOf (l.map fun _=>D.bl true)=some (l.map fun _=>true):=by
 have:=Xp (l.map fun _=>true)
 rw[U0f] at this
 exact this
theorem bR{n:Nat}{b:List St2}(hn:n=1∨n=2∨n=3)(hb:∀p∈b,p.1<p.2)(hl:b.length=n):Hw [.int n,Ag b]=some (.bl true):=by
 have hw:Du [.int n]=some (.bl true):=Qd (by omega)
 have hc:=gK n b hb (by omega)
 have h:Ce [] (Ag b)=some (pB b):=aV [] b
 have hlen:Ew [] [Ag b]=some (.int n):=by simp[Ew,Ag,Cg,hl]
 simp[Hw,WT,Bq,sIf,Cy,FW,VS.tOr,VS.JK,Bo,BL,eCB,Aa,Af,Ab,eC,eOp,Bp,Eu,den,CG,age,Br,Bb,Ay,hw,h,pB,hlen,oEq,hc,Kv,VS.listOf,SM]
theorem jx{n:Nat}(h:n=1∨n=2∨n=3):Rc Bc.D3 [] (.int n)=some (.int ([0,20,10,6].getD n 0:Nat)):=by
 rcases h with h|h|h<;>subst h<;>rfl
theorem bQ{n:Nat}{m:Bool}{bs:List (List St2)}(g:Good n bs):Nr [some (Al m n bs),some (.int n),some (.lst m (bs.map Ag))] []=some (bs.map (fun _=>D.bl true),[]):=by
 have few:=g.few
 unfold Nr Ef
 have e:Ez (Ab 2) [some (Al m n bs),some (.int n),some (.lst m (bs.map Ag))] []=some ((bs.map Ag,[]),[]):=by simp[BP,VS.listOf,Cg,VS.idOf,Gv,-U0f,-U0h]
 rw[e]
 simp only[U0c]
 rw[WY (by simp) (fun _=>.bl true) _ (by simp;omega)]
 .simp[Function.comp_def]
 .intro d hd
  obtain⟨b,hb,rfl⟩:=U16.mp hd
  refine⟨_,rfl,?_⟩
  have h1:=bR g.ways (fun p hp=>((g.box b hb).2 p hp).1) (g.box b hb).1
  simp[BP,CQ,Ao,JM,Fb,den,CG,age,Br,Bb,Ay,U0u,-U0f,-U0h,h1]
theorem Za{n:Nat}{m:Bool}{bs:List (List St2)}(g:Good n bs):Gx [Al m n bs]=some (.bl true):=by
 have hw:Du [.int n]=some (.bl true):=Qd (by have:=g.ways;omega)
 have hc:=bQ (m:=m) g
 have h:=Oi [] m n bs
 have h2:=Nm [] m bs
 have hm:=jx g.ways
 have hle:¬(([0,20,10,6].getD n 0:Nat):Int)<(bs.length:Int):=by have:=g.most;omega
 unfold Al at h hc ⊢
 simp only[U1f] at hm hle
 simp[Gx,Ug,Bq,sIf,Cy,FW,Bx,VS.tOr,VS.JK,Bo,BL,eCB,Aa,Af,Ab,eC,eOp,eUn,Bp,Eu,den,CG,age,Br,Bb,Ay,hw,h,h2,hc,oEq,oIx,oGt,oI,Gk,Ew,VS.Cg,VS.listOf,Kv,SM,hm,hle]
theorem Wy{n:Nat}{m:Bool}{bs:List (List St2)}(g:Good n bs):Fw [Al m n bs]=some .non:=by
 have h:=Za (m:=false) g
 simp[Fw,QV,HW,Gs,aY,BP,CQ,Ao,Df,Sx,Fb,Dg,CG,Br,Ay,-U0f,-U0h,h]
end W07
end
section
namespace W07
open PySem L2 VS
theorem Dh{sem:Cu}{a:Bh}{env:VS.Env}{S S':Store}{ds es:List D}{r:D}(h:a env S=some (ds,S'))(hp:Ay ds=true)(ha:Br ds=es)(hr:sem es=some r):BL sem a env S=some (r,S'):=by
 rw[Fb,h]
 simp only[U0c,Ck 0 S' hp,ha,hr,hp,U7j,if_true]
def Fo(bs:List (List St2))(w:Nat):List Int:=bs.map fun b=>(b.getD w (0,0)).1
def Ei(bs:List (List St2))(w:Nat):List Int:=bs.map fun b=>(b.getD w (0,0)).2
theorem col{bs:List (List St2)}{w:Nat}(hw:∀b∈bs,w<b.length)(hl:bs.length<=1000)(S:Store)(e0:VS.Env)(h0:∀d:D,(e0.set 0 (some d))[0]?=some (some d)/\(e0.set 0 (some d))[1]?=some (some (.int w))) :
  FP [] e0 (Pat.sem (.nm 0)) Ga (eOp oIx (eOp oIx (Ab 0) (Ab 1)) (eC (.int 0))) (bs.map Ag) [] S=some ((Fo bs w).map .int,S) /\
  FP [] e0 (Pat.sem (.nm 0)) Ga (eOp oIx (eOp oIx (Ab 0) (Ab 1)) (eC (.int 1))) (bs.map Ag) [] S=some ((Ei bs w).map .int,S):=by
 have key:∀b∈bs,atI (b.map Ad) (w:Int)=some (Ad (b.getD w (0,0))):=fun b hb=>by
  have h:=hw b hb
  refine Mx ?_
  rw[U05,U0q h]
  simp[h]
 constructor
 .rw[Mv (by simp) Ag (fun b=>.int (b.getD w (0,0)).1) bs (by omega)]
  .rw[Fo,U0f];rfl
  .intro b hb
   refine⟨_,Eh _ _ _,?_⟩
   have ha:=key b hb
   simp only[Ad] at ha
   simp[BP,Ed,BW,oIx,VS.listOf,Cg,-U0f,-U0h,h0,Ag,ha]
 .rw[Mv (by simp) Ag (fun b=>.int (b.getD w (0,0)).2) bs (by omega)]
  .rw[Ei,U0f];rfl
  .intro b hb
   refine⟨_,Eh _ _ _,?_⟩
   have ha:=key b hb
   simp only[Ad] at ha
   simp[BP,Ed,BW,oIx,VS.listOf,Cg,-U0f,-U0h,h0,Ag,ha]
theorem WW{cs:List (List St2)}{w:Nat}(hl:cs.length<=20):(SetP.once (Fo cs w++Ei cs w)).length<64/\(Fo cs w++Ei cs w).length<1000:=by
 have h1:=(SetP.LR (Fo cs w++Ei cs w)).2.1
 have h2:(Fo cs w++Ei cs w).length=cs.length+cs.length:=by simp[Fo,Ei]
 omega
theorem bW(a b:List Int):intsOf (a.map D.int++b.map D.int)=some (a++b):=by rw[←U1s];exact Rw _
theorem lV{m:Bool}{cs:List (List St2)}{w:Nat}(hw:∀b∈cs,w<b.length)(hl:cs.length<=20):G6 [.lst m (cs.map Ag),.int w]=some (.lst true ((FN (Fo cs w++Ei cs w)).map .int)):=by
 obtain⟨c1,c2⟩:=col hw (by omega) [] [none,some (.int w)] fun d=>⟨rfl,rfl⟩
 have e:Ez (Ab 0) [some (.lst m (cs.map Ag)),some (.int w)] []=some ((cs.map Ag,[]),[]):=by simp[BP,VS.listOf,Cg,VS.idOf,Gv,-U0f,-U0h]
 have e1:KH [some (.lst m (cs.map Ag)),some (.int w)] []=some ((Fo cs w).map .int,[]):=by
  unfold KH Ef
  rw[e]
  exact c1
 have e2:KD [some (.lst m (cs.map Ag)),some (.int w)] []=some ((Ei cs w).map .int,[]):=by
  unfold KD Ef
  rw[e]
  exact c2
 obtain⟨h1,h2⟩:=WW (w:=w) hl
 have h3:(Fo cs w).length+(Ei cs w).length<=1000000:=by simp at h2;omega
 have h4:(Fo cs w).length+(Ei cs w).length<1000:=by simpa using h2
 simp[G6,Ph,Cq,BW,Dm,Xk,Bw,VS.listOf,Dg,den,-U0f,-U0h,e1,e2,bW,h1,h3,h4]
theorem Vm:∀a b:List Int,DW (a.map D.int) (b.map D.int)=(a.zip b).map Ad
 |[],_=>by simp[DW]
 |_::_,[]=>by simp[DW]
 |p::a,q::b=>by simp[DW,Vm a b,Ad]
theorem aO(E:List Int):DW (E.map D.int) (E.map D.int).tail=(steps E).map Ad:=by
 rw[←List.map_tail,Vm];rfl
theorem Og(E:List Int):(steps E).length<=E.length:=by simp[steps]
theorem dN{m:Bool}{cs:List (List St2)}{w:Nat}(hw:∀b∈cs,w<b.length)(hl:cs.length<=20)(hne:cs≠[]):En [.lst m (cs.map Ag),.int w]=some (.lst true ((steps (FN (Fo cs w++Ei cs w))).map Ad)):=by
 have h0:=lV (m:=false) hw hl
 have hl1:=Oh (Fo cs w++Ei cs w)
 obtain⟨_,h2⟩:=WW (w:=w) hl
 have pos:1<=(FN (Fo cs w++Ei cs w)).length:=by
  cases cs with
  |nil=>exact absurd rfl hne
  |cons b r =>
   have:(b.getD w (0,0)).1∈FN (Fo (b::r) w++Ei (b::r) w):=Ls.mpr (by simp[Fo])
   exact List.length_pos_of_mem this
 generalize FN (Fo cs w++Ei cs w)=E at *
 have c:=R9 (xs:=E.map D.int) (a:=1) (by decide) (by simp;omega)
 have z:=aO E
 have hz:(steps E).length<=1000000:=by have:=Og E;omega
 have c':cut (E.map D.int) (some 1) none=(E.map D.int).drop 1:=c
 have hd:∀(k:Nat)(S:Store),CG k S ((steps E).map Ad)=some ((steps E).map Ad):=fun k S=>Ck k S (Bt (Dq _ fun p _=>Dd p))
 simp[En,O1,G9,DX,Cq,BP,Ed,CQ,Ao,fK,fJ,aA,Fb,Xl,oSl,VS.listOf,Cg,Dg,den,CG,age,Br,Bb,Ay,U0u,-U0f,-U0h,h0,c',z,hz,hd]
def Cp(m:Bool)(ns:List Nat):D:=.lst m (ns.map fun(i:Nat)=>D.int i)
def encC(c:List St2×List Nat):D:=.tup [Ag c.1,Cp false c.2]
theorem Ly(m:Bool)(ns:List Nat):Bb (Cp m ns)=true:=by
 have:=Ro (ns.map fun(i:Nat)=>(i:Int))
 rw[U0f] at this
 rw[Cp,Bb];exact this
theorem Wh(m:Bool)(ns:List Nat):age (Cp m ns)=Cp false ns:=by
 have:=cL (ns.map fun(i:Nat)=>(i:Int))
 rw[U0f] at this
 rw[Cp,age]
 exact congrArg (D.lst false) this
theorem ak(c:List St2×List Nat):Bb (encC c)=true:=by
 rw[encC,Bb,Ay,Ay,Ay,ao,Ly];rfl
theorem Kd:∀cs:List (List St2×List Nat),Ay (cs.map encC)=true
 |[]=>rfl
 |c::r=>by rw[U0t,Ay,ak,Kd r];rfl
theorem aF{n:Nat}{bs:List (List St2)}(hb:∀b∈bs,b.length=n){i w:Nat}(hi:i<bs.length)(hw:w<n):atI (bs.map Ag) (i:Int)=some (Ag (bs.getD i []))/\atI ((bs.getD i []).map Ad) (w:Int)=some (Ad (at1 bs i w)):=by
 have h1:bs[i]?=some bs[i]:=U0q hi
 have h2:bs.getD i []=bs[i]:=by rw[U1f,h1];rfl
 have h3:w<bs[i].length:=by rw[hb _ (U3i hi)];exact hw
 refine⟨Mx (by rw[U05,h1,h2];rfl),Mx ?_⟩
 rw[at1,h2,U05,U0q h3,U1f,U0q h3]
 rfl
theorem lO(rec:Cu){n:Nat}{m m':Bool}{bs:List (List St2)}(hb:∀b∈bs,b.length=n)(hn:0<n){ns:List Nat}(hi:∀i∈ns,i<bs.length)(hl:ns.length<=20)(r:VS.Env)(S:Store) :
  Iv rec (some (.lst m (bs.map Ag))::some (Cp m' ns)::r) S=some ((ns.map fun i=>bs.getD i []).map Ag,S):=by
 unfold Iv Ef
 have e:Ez (Ab 1) (some (.lst m (bs.map Ag))::some (Cp m' ns)::r) S=some ((ns.map fun(i:Nat)=>D.int i,[]),S):=by simp[BP,VS.listOf,Cg,VS.idOf,Gv,-U0f,-U0h,Cp]
 rw[e]
 simp only[U0c]
 rw[Mv (by simp) (fun(i:Nat)=>D.int i) (fun i=>Ag (bs.getD i [])) ns (by omega)]
 .rw[U0f];rfl
 .intro i hi'
  obtain⟨h1,_⟩:=aF hb (hi i hi') hn
  exact⟨_,Eh _ _ _,by simp[BP,BW,JM,oIx,VS.listOf,Cg,U0u,-U0f,-U0h,h1]⟩
theorem lN(rec:Cu){n:Nat}{m m':Bool}{bs:List (List St2)}(hb:∀b∈bs,b.length=n){ns:List Nat}(hi:∀i∈ns,i<bs.length)(hl:ns.length<=20){w:Nat}(hw:w<n)(x:Int)(z3 z4:Option D)(r:VS.Env)(S:Store) :
  Iu rec (some (.lst m (bs.map Ag))::some (Cp m' ns)::some (.int w)::z3::z4::some (.int x)::r) S=some ((Dy bs w x ns).map (fun(i:Nat)=>D.int i),S):=by
 unfold Iu Ef
 have e:Ez (Ab 1) (some (.lst m (bs.map Ag))::some (Cp m' ns)::some (.int w)::z3::z4::some (.int x)::r) S=some ((ns.map fun(i:Nat)=>D.int i,[]),S):=by simp[BP,VS.listOf,Cg,VS.idOf,Gv,-U0f,-U0h,Cp]
 rw[e]
 simp only[U0c]
 rw[Mw (by simp) (fun(i:Nat)=>D.int i) (fun i=>inS (at1 bs i w) x) (fun i=>.int i) _ _ (by simp;omega)]
 .rfl
 .intro i hi'
  obtain⟨h1,h2⟩:=aF hb (hi i hi') hw
  refine⟨_,Eh _ _ _,?_,fun _=>by simp[BP,JM,U0u,-U0f,-U0h]⟩
  simp only[Ad] at h2
  generalize bs.getD i []=B at *
  generalize ((w:Nat):Int)=w' at *
  generalize ((i:Nat):Int)=i' at *
  by_cases g:(at1 bs i w).1<=x<;>simp[BP,Ed,BW,bZ,Df,JM,oI,Gk,oLt,oLe,oIx,VS.listOf,Cg,U0u,-U0f,-U0h,h1,h2,Ag,inS,g]
theorem Ib{bs:List (List St2)}:∀(k w:Nat)(ns:List Nat),ns.length<=20->(Bg bs k w ns).length<=40^k
 |0,w,ns,_=>by rw[Bg];split<;>simp
 |k+1,w,ns,hl=>by
  rw[Bg]
  split
  .simp
  .have h1:(steps (Cj bs w ns)).length<=40:=by
    have:=Og (Cj bs w ns)
    have h2:=Oh (ns.map (fun i=>(at1 bs i w).1)++ns.map (fun i=>(at1 bs i w).2))
    rw[U0n,U0i,U0i] at h2
    unfold Cj at this ⊢
    omega
   have h2:∀l:List St2,(l.flatMap fun p=>(Bg bs k (w+1) (Dy bs w p.1 ns)).map fun c=>(p::c.1,c.2)).length<=l.length*40^k:=fun l=>by
    induction l with
    |nil=>simp
    |cons p l ih =>
     rw[U5v,U0n,U0i,U0e,Nat.add_mul,Nat.one_mul]
     have:=Ib (bs:=bs) k (w+1) (Dy bs w p.1 ns) (U06 (U4z _ _) hl)
     omega
   have h3:=h2 (steps (Cj bs w ns))
   have h4:=U43 (40^k) h1
   rw[Nat.pow_succ,U6w]
   omega
end W07
end
section
namespace W07
open PySem L2 VS
theorem lQ(rec:Cu)(e0 e1 e2 e3 z7:Option D)(p:St2)(c:List St2×List Nat)(acc:List D)(hl:acc.length<1000000)(hc:c.1.length<=3) :
  Iz rec [e0,e1,e2,e3,some (.ref 0),some (.int p.1),some (.int p.2),z7,some (Ag c.1),some (Cp false c.2)] [some acc]=some (.nx,[e0,e1,e2,e3,some (.ref 0),some (.int p.1),some (.int p.2),z7,some (Ag c.1),some (Cp false c.2)],[some (acc++[encC (p::c.1,c.2)])]):=by
 have h1:1+c.1.length<=1000000:=by omega
 have h2:c.1.length+1<=1000000:=by omega
 have h3:c.1.length<=999999:=by omega
 simp[Iz,JB,BP,BW,CQ,Ao,G4,WX,Bw,VS.listOf,GC,-U0f,-U0h,hl,h1,h2,h3,Ag,encC,Ad]
theorem lK(rec:Cu){n w:Nat}{bs:List (List St2)}{there:List Nat}{cs:List (List St2×List Nat)}(hrec:rec [.lst false (bs.map Ag),Cp false there,.int ((w:Int)+1),.int n]=some (.lst true (cs.map encC)))(hcs:∀c∈cs,c.1.length<=3)(NS:D)(p:St2)(z8 z9:Option D)(acc:List D)(hl:acc.length+cs.length<=999999) :
  ∃z8' z9',KN rec [some (.lst false (bs.map Ag)),some NS,some (.int w),some (.int n),some (.ref 0),some (.int p.1),some (.int p.2),some (Cp true there),z8,z9] [some acc] =
   some (.nx,[some (.lst false (bs.map Ag)),some NS,some (.int w),some (.int n),some (.ref 0),some (.int p.1),some (.int p.2),some (Cp true there),z8',z9'],[some (acc++(cs.map fun c=>(p::c.1,c.2)).map encC)]):=by
 have e:Ez (BL rec (Aa (Ab 0) (Aa (Ab 7) (Aa (eOp Bw (Ab 2) (eC (.int 1))) (Aa (Ab 3) Af))))) [some (.lst false (bs.map Ag)),some NS,some (.int w),some (.int n),some (.ref 0),some (.int p.1),some (.int p.2),some (Cp true there),z8,z9] [some acc]=some ((cs.map encC,[]),[some acc]):=by
  rw[Gv,Dh (ds:=[.lst false (bs.map Ag),Cp true there,.int ((w:Int)+1),.int n]) (S':=[some acc]) (by simp[BP,Ed,BW,CQ,Ao,Bw,VS.listOf,-U0f,-U0h]) (by simp[Ay,Bb,Ly]) (by simp[Br,age,Wh]) hrec]
  simp[Cg,VS.listOf,VS.idOf]
 unfold KN
 rw[Gu,e]
 obtain⟨env',S',e2,z8',z9',he,hS⟩:=GQ (w:=[]) (g:=Pat.sem (.tp [(.nm 8),(.nm 9)])) (b:=Iz rec) (ds:=cs.map encC) (env:=[some (.lst false (bs.map Ag)),some NS,some (.int w),some (.int n),some (.ref 0),some (.int p.1),some (.int p.2),some (Cp true there),z8,z9]) (S:=[some acc])
  (fun i env S=>∃z8 z9,env=[some (.lst false (bs.map Ag)),some NS,some (.int w),some (.int n),some (.ref 0),some (.int p.1),some (.int p.2),some (Cp true there),z8,z9]/\S=[some (acc++((cs.take i).map fun c=>(p::c.1,c.2)).map encC)])
  ⟨z8,z9,rfl,by simp⟩ (fun i env S _=>by simp) (fun i d env S hd q=>by
   obtain⟨z8,z9,he,hS⟩:=q
   subst he hS
   rw[U05] at hd
   obtain⟨c,hc,rfl⟩:=U3r.mp hd
   have hi:=(U0l.mp hc).1
   refine⟨_,by simp[Eh,Kz,J8,Hj,-U0f,-U0h,encC],_,_,lQ rec _ _ _ _ _ p c _ (by simp;omega) (hcs c (U1l hc)),_,_,rfl,?_⟩
   rw[U5p,hc]
   simp)
 subst he hS
 refine⟨z8',z9',e2.trans ?_⟩
 have:(cs.map encC).length=cs.length:=by simp
 rw[this,U3k]
theorem M6{bs:List (List St2)}:∀(k w:Nat)(ns:List Nat)(c:List St2×List Nat),c∈Bg bs k w ns->c.1.length=k
 |0,w,ns,c,h=>by
  rw[Bg] at h
  split at h
  .simp at h
  .have:c=([],ns):=by simpa using h
   rw[this];rfl
 |k+1,w,ns,c,h=>by
  rw[Bg] at h
  split at h
  .simp at h
  .obtain⟨p,_,h2⟩:=List.mem_flatMap.mp h
   obtain⟨d,h3,rfl⟩:=U16.mp h2
   rw[U0e,M6 k (w+1) _ d h3]
theorem fW(bs:List (List St2))(w:Nat)(ns:List Nat):FN (Fo (ns.map fun i=>bs.getD i []) w++Ei (ns.map fun i=>bs.getD i []) w)=Cj bs w ns:=by
 unfold Fo Ei Cj at1
 rw[U0f,U0f];rfl
theorem lJ(rec:Cu){n w k:Nat}{bs:List (List St2)}{ns:List Nat}(hb:∀b∈bs,b.length=n)(hi:∀i∈ns,i<bs.length)(hl:ns.length<=20)(hne:ns≠[])(hw:w<n)(hk:k<=2)
  (ih:∀ms:List Nat,(∀i∈ms,i<bs.length)->ms.length<=20->rec [.lst false (bs.map Ag),Cp false ms,.int ((w:Int)+1),.int n]=some (.lst true ((Bg bs k (w+1) ms).map encC))) :
  ∃z5 z6 z7 z8 z9,KJ rec [some (.lst false (bs.map Ag)),some (Cp false ns),some (.int w),some (.int n),some (.ref 0),none,none,none,none,none] [some []] =
   some (.nx,[some (.lst false (bs.map Ag)),some (Cp false ns),some (.int w),some (.int n),some (.ref 0),z5,z6,z7,z8,z9],[some ((Bg bs (k+1) w ns).map encC)]):=by
 have c1:=lO rec (m:=false) (m':=false) hb (by omega) hi hl [some (.int w),some (.int n),some (.ref 0),none,none,none,none,none] [some []]
 have h1:=dN (m:=false) (cs:=ns.map fun i=>bs.getD i []) (w:=w) (fun b hb'=>by
  obtain⟨i,hi',rfl⟩:=U16.mp hb'
  have h:=hi i hi'
  rw[U1f,U0q h]
  show w<bs[i].length
  rw[hb _ (U3i h)];exact hw) (by rw[U0i];exact hl) (by simpa using hne)
 rw[fW] at h1
 have e:Ez (BL En (Aa (Bp (Iv rec)) (Aa (Ab 2) Af))) [some (.lst false (bs.map Ag)),some (Cp false ns),some (.int w),some (.int n),some (.ref 0),none,none,none,none,none] [some []]=some (((steps (Cj bs w ns)).map Ad,[]),[some []]):=by
  rw[Gv,Dh (ds:=[.lst true ((ns.map fun i=>bs.getD i []).map Ag),.int w]) (S':=[some []]) (by simp only[Ao,CQ,Dm,BP,c1,U0c];rfl) (by rw[Ay,Bb,XR];rfl) (by rw[Br,age,Zi,Br,Br];rfl) h1]
  simp[Cg,VS.listOf,VS.idOf]
 have hst:(steps (Cj bs w ns)).length<=40:=by
  have:=Og (Cj bs w ns)
  have h2:=Oh (ns.map (fun i=>(at1 bs i w).1)++ns.map (fun i=>(at1 bs i w).2))
  rw[U0n,U0i,U0i] at h2
  unfold Cj at this ⊢
  omega
 have hcl:∀x,(Bg bs k (w+1) (Dy bs w x ns)).length<=1600:=fun x=>by
  have:=Ib (bs:=bs) k (w+1) (Dy bs w x ns) (U06 (U4z _ _) hl)
  have h2:40^k<=40^2:=Nat.pow_le_pow_right (by decide) hk
  omega
 let f:St2->List (List St2×List Nat):=fun p=>(Bg bs k (w+1) (Dy bs w p.1 ns)).map fun c=>(p::c.1,c.2)
 have hf:∀l:List St2,(l.flatMap f).length<=l.length*1600:=fun l=>by
  induction l with
  |nil=>simp
  |cons p l ih =>
   rw[U5v,U0n,U0e,Nat.add_mul,Nat.one_mul]
   have:(f p).length<=1600:=by rw[U0i];exact hcl p.1
   omega
 unfold KJ
 rw[Gu,e]
 obtain⟨env',S',e2,z5,z6,z7,z8,z9,he,hS⟩:=GQ (w:=[]) (g:=Pat.sem (.tp [(.nm 5),(.nm 6)])) (b:=Iw rec) (ds:=(steps (Cj bs w ns)).map Ad) (env:=[some (.lst false (bs.map Ag)),some (Cp false ns),some (.int w),some (.int n),some (.ref 0),none,none,none,none,none]) (S:=[some []])
  (fun i env S=>∃z5 z6 z7 z8 z9,env=[some (.lst false (bs.map Ag)),some (Cp false ns),some (.int w),some (.int n),some (.ref 0),z5,z6,z7,z8,z9]/\S=[some ((((steps (Cj bs w ns)).take i).flatMap f).map encC)])
  ⟨none,none,none,none,none,rfl,by simp⟩ (fun i env S _=>by simp) (fun i d env S hd q=>by
   obtain⟨z5,z6,z7,z8,z9,he,hS⟩:=q
   subst he hS
   rw[U05] at hd
   obtain⟨p,hp,rfl⟩:=U3r.mp hd
   have hi':=(U0l.mp hp).1
   have h2:=hf ((steps (Cj bs w ns)).take i)
   rw[U2r] at h2
   obtain⟨z8',z9',l1⟩:=lK rec (n:=n) (w:=w) (bs:=bs) (there:=Dy bs w p.1 ns) (cs:=Bg bs k (w+1) (Dy bs w p.1 ns)) (ih _ (fun i hi'=>hi i (U2c.mp hi').1) (U06 (U4z _ _) hl)) (fun c hc=>by rw[M6 _ _ _ _ hc];omega) (Cp false ns) p z8 z9 ((((steps (Cj bs w ns)).take i).flatMap f).map encC) (by
    have h3:=hcl p.1
    rw[U0i]
    have h4:min i (steps (Cj bs w ns)).length<=40:=by omega
    have h5:=U43 1600 h4
    omega)
   have c2:=lN rec (m:=false) (m':=false) hb hi hl hw p.1 (some (.int n)) (some (.ref 0)) [some (.int p.2),z7,z8,z9] [some ((((steps (Cj bs w ns)).take i).flatMap f).map encC)]
   have s1:(Bx 7 (Bp (Iu rec))) [some (.lst false (bs.map Ag)),some (Cp false ns),some (.int w),some (.int n),some (.ref 0),some (.int p.1),some (.int p.2),z7,z8,z9] [some ((((steps (Cj bs w ns)).take i).flatMap f).map encC)]=some (.nx,[some (.lst false (bs.map Ag)),some (Cp false ns),some (.int w),some (.int n),some (.ref 0),some (.int p.1),some (.int p.2),some (Cp true (Dy bs w p.1 ns)),z8,z9],[some ((((steps (Cj bs w ns)).take i).flatMap f).map encC)]):=by
    rw[DX,Dm,c2];rfl
   refine⟨_,by simp[Eh,Kz,J8,Hj,-U0f,-U0h,Ad];rfl,_,_,(show Iw rec _ _=_ by unfold Iw;rw[Bl s1];exact l1),_,_,_,_,_,rfl,?_⟩
   rw[U5p,hp]
   simp[f])
 subst he hS
 refine⟨z5,z6,z7,z8,z9,e2.trans ?_⟩
 have:((steps (Cj bs w ns)).map Ad).length=(steps (Cj bs w ns)).length:=by simp
 rw[this,U3k,Bg,if_neg hne]
theorem lH{n:Nat}{bs:List (List St2)}(hb:∀b∈bs,b.length=n)(hn:n<=3):∀(k d w:Nat)(ns:List Nat),w+k=n->(∀i∈ns,i<bs.length)->ns.length<=20->Bm (d+k+1) [.lst false (bs.map Ag),Cp false ns,.int w,.int n]=some (.lst true ((Bg bs k w ns).map encC)):=by
 have hlen:∀(ns:List Nat)(r:VS.Env)(S:Store),eCB Ew (Aa (Ab 1) Af) (some (.lst false (bs.map Ag))::some (Cp false ns)::r) S=some (.int ns.length,S):=fun ns r S=>by simp[BP,CQ,Ao,Ey,Ew,VS.listOf,Cg,-U0f,-U0h,Cp]
 have first:∀(ns:List Nat)(r:VS.Env),ns≠[]->(sIf (Bo (eOp (oEq false) (eCB Ew (Aa (Ab 1) Af)) (eC (.int 0)))) (Cy (Bp Af)) FW) (some (.lst false (bs.map Ag))::some (Cp false ns)::r) []=some (.nx,some (.lst false (bs.map Ag))::some (Cp false ns)::r,[]):=fun ns r h=>by
  have h0:¬((ns.length:Int)=0):=by have:=U3e.mpr h;omega
  simp only[HW,Df,BW,hlen,U0c,Ed]
  simp[Cq,Gs,CQ,Dm,oEq,-U0f,-U0h,h0]
  exact h
 have nil:∀(k w:Nat),Bm (k+1) [.lst false (bs.map Ag),Cp false [],.int w,.int n]=some (.lst true []):=fun k w=>by
  simp[Bm,Je,G9,DX,Cq,HW,Gs,BP,Ed,BW,CQ,Ao,Ey,Df,Dm,TV,G4,oEq,Ew,VS.listOf,Cg,Dg,den,CG,U0u,-U0f,-U0h,Cp]
 intro k
 induction k with
 |zero =>
  intro d w ns hw hi hl
  by_cases h:ns=[]
  .subst h
   rw[nil,Bg,if_pos rfl];rfl
  .rw[Bg,if_neg h]
   have hwn:w=n:=by omega
   subst hwn
   have f1:=first ns [some (.int w),some (.int w),none,none,none,none,none,none] h
   unfold Bm
   rw[Dg]
   simp only[U0e,U1h,U0t,U1u,U2h,U2i,U0u,U1o,U2k,U11,if_true]
   unfold Je
   rw[Bl f1]
   have hd:=Jo 0 [] (Ly false ns)
   simp[G9,DX,Cq,HW,Gs,BP,BW,CQ,Ao,Df,Dm,TV,G4,oEq,den,CG,-U0f,-U0h,hd,encC,Ag]
 |succ k ih =>
  intro d w ns hw hi hl
  by_cases h:ns=[]
  .subst h
   rw[nil,Bg,if_pos rfl];rfl
  .have hwn:¬((w:Int)=(n:Int)):=by omega
   have f1:=first ns [some (.int w),some (.int n),none,none,none,none,none,none] h
   have f2:(sIf (Bo (eOp (oEq false) (Ab 2) (Ab 3))) (Cy (Bp (Aa (BR (Aa (BR Af) (Aa (Ab 1) Af))) Af))) FW) [some (.lst false (bs.map Ag)),some (Cp false ns),some (.int w),some (.int n),none,none,none,none,none,none] []=some (.nx,[some (.lst false (bs.map Ag)),some (Cp false ns),some (.int w),some (.int n),none,none,none,none,none,none],[]):=by
    simp[Cq,HW,Gs,BP,BW,CQ,Ao,Df,Dm,G4,oEq,-U0f,-U0h,hwn]
   have f3:(Bx 4 (K9 Af)) [some (.lst false (bs.map Ag)),some (Cp false ns),some (.int w),some (.int n),none,none,none,none,none,none] []=some (.nx,[some (.lst false (bs.map Ag)),some (Cp false ns),some (.int w),some (.int n),some (.ref 0),none,none,none,none,none],[some []]):=by
    simp[DX,CQ,TV,-U0f,-U0h]
   obtain⟨z5,z6,z7,z8,z9,f4⟩:=lJ (Bm (d+(k+1))) (w:=w) (k:=k) hb hi hl h (by omega) (by omega) fun ms h1 h2=>by
    have:=ih d (w+1) ms (by omega) h1 h2
    rw[show((w+1:Nat):Int)=(w:Int)+1 by omega] at this
    exact this
   rw[Bm,Dg]
   simp only[U0e,U1h,U0t,U1u,U2h,U2i,U0u,U1o,U2k,U11,if_true]
   unfold Je
   rw[Bl f1,Bl f2,Bl f3,Bl f4]
   have hd:∀(j:Nat)(S:Store),CG j S ((Bg bs (k+1) w ns).map encC)=some ((Bg bs (k+1) w ns).map encC):=fun j S=>Ck j S (Kd (Bg bs (k+1) w ns))
   simp[Cq,BP,den,-U0f,-U0h,hd,Kd]
theorem list_range{a:Bh}{env:VS.Env}{S S':Store}{n:Nat}(h:a env S=some ([.int n],S'))(hn:n<=1000):JZ a env S=some (Cp true (U0p n),S'):=by
 have hr:r62 (n:Int):=by unfold r62;omega
 have up:upD 0 n=(U0p n).map fun(i:Nat)=>D.int i:=by unfold upD;simp
 rw[V0,h,U0c]
 show(if r62 (n:Int)/\(n:Int).toNat<=1000 then _ else _)=_
 rw[if_pos ⟨hr,by omega⟩,U3b,up,Cp]
theorem gk{n:Nat}{bs:List (List St2)}(g:Good n bs):Fg [Al false n bs]=some (.lst true ((Bg bs n 0 (U0p bs.length)).map encC)):=by
 have n3:=g.n3
 have few:=g.few
 have h:=lH (bs:=bs) (fun b hb=>(g.box b hb).1) n3.2 n (3-n) 0 (U0p bs.length) (by omega) (fun i hi=>U2n.mp hi) (by simpa using few)
 rw[show 3-n+n+1=4 by omega] at h
 have hd:=fun(j:Nat) (S:Store)=>Ck j S (Kd (Bg bs n 0 (U0p bs.length)))
 have t1:(eOp oIx (Ab 0) (eC (.int 1))) [some (Al false n bs)] []=some (.lst false (bs.map Ag),[]):=by simp[BP,Ed,BW,oIx,VS.listOf,Cg,-U0f,-U0h,Al]
 have t0:(eOp oIx (Ab 0) (eC (.int 0))) [some (Al false n bs)] []=some (.int n,[]):=by simp[BP,Ed,BW,oIx,VS.listOf,Cg,-U0f,-U0h,Al]
 have t2:(Aa (eCB Ew (Aa (eOp oIx (Ab 0) (eC (.int 1))) Af)) Af) [some (Al false n bs)] []=some ([.int bs.length],[]):=by
  simp only[Ao,CQ,Ey,t1,U0c]
  simp[Ew,Cg,VS.listOf]
 have t3:=list_range t2 (by omega)
 have a1:(Aa (eOp oIx (Ab 0) (eC (.int 1))) (Aa (JZ (Aa (eCB Ew (Aa (eOp oIx (Ab 0) (eC (.int 1))) Af)) Af)) (Aa (eC (.int 0)) (Aa (eOp oIx (Ab 0) (eC (.int 0))) Af)))) [some (Al false n bs)] []=some ([.lst false (bs.map Ag),Cp true (U0p bs.length),.int 0,.int n],[]):=by
  rw[Ao,t1,U0c,Ao,t3,U0c,Ao,Ed,U0c,Ao,t0]
  rfl
 have c:=Dh (sem:=Bm 4) a1 (by simp[Ay,Bb,Ly]) (es:=[.lst false (bs.map Ag),Cp false (U0p bs.length),.int 0,.int n]) (by simp[Br,age,Wh]) h
 unfold Fg
 rw[Dg]
 simp only[U0e,U1h,U0t,U1u,U2h,U2i,U1o,U2k,U11,if_true]
 unfold S6
 rw[Cq,c]
 show den 0 [] (.lst true _)=_
 rw[den,hd];rfl
end W07
end
section
namespace W07
open PySem L2 VS
theorem fU(c k:Int)(h0:0<=k)(h1:k<1000000000000):∃v,GD [.int c,.int k]=some (.int v):=by
 have hk:-18446744073709551616<k/\k<18446744073709551616:=by omega
 have ha:∀t:Int,-18446744073709551616<t%2147483629/\t%2147483629<18446744073709551616:=fun t=>by omega
 have hb:∀t:Int,-18446744073709551616<t%2147483587/\t%2147483587<18446744073709551616:=fun t=>by omega
 simp[GD,QX,G9,DX,Cq,BP,Ed,BW,oI,N7,Sv,Ss,Bw,J4,oDiv,oMod,VS.listOf,Dg,den,U0u,-U0f,-U0h,hk,ha,hb]
theorem Gh(x y z m:Int)(h0:0<m)(h1:m<2^63)(z0:0<=z)(z1:z<100000000000):∃r x' z',Am [x,y,z] [.int m]=some (.int r,[x',y,z'])/\(0<=r/\r<m)/\z<=z'/\z'<=z+1:=by
 have hm:m<18446744073709551616:=by omega
 by_cases h:0<x
 .refine⟨x%m,x/m,z,?_,⟨U67 _ (by omega),U6k _ h0⟩,by omega,by omega⟩
  simp[Am,Kh,G9,DX,Cq,HW,Gs,Lx,BP,Ed,BW,CQ,Ao,Ey,Df,Dm,Fb,oI,Gk,N7,Sv,Ss,Qi,Bw,J4,oDiv,oMod,K8,oGt,oIx,N8,VS.listOf,Cg,Kr,intsOf,den,U0u,-U0f,-U0h,h,h0,hm]
 .obtain⟨v,hv⟩:=fU y (z+1) (by omega) (by omega)
  by_cases h6:1000000<m
  .refine⟨v*8191%m,x,z+1,?_,⟨U67 _ (by omega),U6k _ h0⟩,by omega,by omega⟩
   simp[Am,Kh,G9,DX,Cq,HW,Gs,Lx,BP,Ed,BW,CQ,Ao,Ey,Df,Dm,Fb,oI,Gk,N7,Sv,Ss,Qi,Bw,J4,oDiv,oMod,K8,oGt,oIx,N8,VS.listOf,Cg,Kr,intsOf,den,CG,age,Br,Bb,Ay,U0u,-U0f,-U0h,h,h0,hm,hv,h6]
  .refine⟨v*1%m,x,z+1,?_,⟨U67 _ (by omega),U6k _ h0⟩,by omega,by omega⟩
   simp[Am,Kh,G9,DX,Cq,HW,Gs,Lx,BP,Ed,BW,CQ,Ao,Ey,Df,Dm,Fb,oI,Gk,N7,Sv,Ss,Qi,Bw,J4,oDiv,oMod,K8,oGt,oIx,N8,VS.listOf,Cg,Kr,intsOf,den,CG,age,Br,Bb,Ay,U0u,-U0f,-U0h,h,h0,hm,hv,h6]
theorem jB(c:Int):∃x,Fd [.int c]=some (.lst true [.int x,.int c,.int 0]):=by
 by_cases h:(1000000000000000000:Int)<=c
 .simp[Fd,Nu,Cq,BP,Ed,BW,CQ,Ao,Ey,Dm,oI,Gk,N7,Qi,J4,K8,oGe,N8,VS.listOf,Dg,den,CG,-U0f,-U0h,h]
 .simp[Fd,Nu,Cq,BP,Ed,BW,CQ,Ao,Ey,Dm,oI,Gk,N7,Qi,J4,K8,oGe,N8,VS.listOf,Dg,den,CG,-U0f,-U0h,h]
end W07
end
section
namespace W07
open PySem L2 VS
theorem Qo{sem:Cu}{a:Bh}{env:VS.Env}{S S':Store}{d d':D}{cs:List D}(h:BL sem a env S=some (d,S'))(ht:N5 S'.length d=some (d',cs)):HX sem a env S=some (d',S'++[some cs]):=by
 rw[bY,h,U0c]
 show(N5 S'.length d).bind _=_
 rw[ht];rfl
theorem Nj{sem:Kw}{a:Bh}{env:VS.Env}{S S':Store}{i:Nat}{rest es:List D}{ns ms:List Int}{r:D}(h:a env S=some (.ref i::rest,S'))(hi:S'[i]?=some (some (ns.map D.int)))(hp:Ay rest=true)(ha:Br rest=es)(hr:sem ns es=some (r,ms)):Bj sem a env S=some (r,S'.set i (some (ms.map D.int))):=by
 rw[Uk,h]
 simp only[U0c,hi,Rw,Ck 0 _ hp,ha,hr,hp,U7j,if_true]
theorem cI{sem:Cu}{a:Bh}{env:VS.Env}{S S':Store}{ds es fs:List D}{r:D}(h:a env S=some (ds,S'))(hd:CG 0 S' ds=some es)(ha:Br es=fs)(hr:sem fs=some r)(hn:newD r=true):BL sem a env S=some (r,S'):=by
 rw[Fb,h]
 simp only[U0c,hd,ha,hr,hn,Bool.or_true,if_true]
theorem Mp{g:Store->D->List D->Option (D×Store)}{o:Az}{a:Bh}{env:VS.Env}{S S1 S2 S3:Store}{d r:D}{cs ds:List D}(h:o env S=some (d,S1))(hl:VS.listOf S1 d=some cs)(h2:a env S1=some (ds,S2))(h3:g S2 d ds=some (r,S3)):GZ g o a env S=some (r,S3):=by
 rw[WX,h,U0c]
 show(if (VS.listOf S1 d).isSome=true then _ else _)=_
 rw[hl]
 show(a env S1).bind _=_
 rw[h2]
 exact h3
theorem nu(S:Store)(a:Option (List D))(l:List (Option (List D))):(S++a::l)[S.length]?=some a:=by simp
theorem uz(S:Store)(a b:Option (List D))(l:List (Option (List D))):(S++a::b::l)[S.length+1]?=some b:=by
 rw[U1v (by omega)]
 simp
theorem cR(S:Store)(a c:Option (List D))(l:List (Option (List D))):(S++a::l).set S.length c=S++c::l:=by
 rw[U56 _ _ (by omega)]
 simp
theorem ud(S:Store)(a b c:Option (List D))(l:List (Option (List D))):(S++a::b::l).set (S.length+1) c=S++a::c::l:=by
 rw[U56 _ _ (by omega)]
 simp
end W07
end
section
namespace W07
open PySem L2 VS
theorem Gw{x y z c r x' z':Int}{a:Az}{env:VS.Env}{S:Store}{j:Nat}(h:Am [x,y,z] [.int c]=some (.int r,[x',y,z']))(h0:env[j]?=some (some (.ref 0)))(ha:a env (some [.int x,.int y,.int z]::S)=some (.int c,some [.int x,.int y,.int z]::S)):Bj Am (Aa (Ab j) (Aa a Af)) env (some [.int x,.int y,.int z]::S)=some (.int r,some [.int x',.int y,.int z']::S):=by
 have v0:Ab j env (some [.int x,.int y,.int z]::S)=some (.ref 0,some [.int x,.int y,.int z]::S):=by rw[BP,h0];rfl
 exact Nj (ns:=[x,y,z]) (rest:=[.int c]) (es:=[.int c]) (i:=0) (S':=some [.int x,.int y,.int z]::S) (by rw[Ao,v0,U0c,Ao,ha];rfl) rfl (by simp[Ay,Bb]) (by simp[Br,age]) h
theorem Z6(x y z r0 r1:Int)(h1:0<r1)(h2:r1<=2000000000)(z0:0<=z)(z1:z<10000000000):∃(p:St2)(x' z':Int),Ep [x,y,z] [.tup [.int r0,.int r1]]=some (Ad p,[x',y,z'])/\(r0<=p.1/\p.1<p.2/\p.2<=r0+r1)/\z<=z'/\z'<=z+2:=by
 obtain⟨a,x1,z2,d1,⟨a0,a1⟩,k1,k2⟩:=Gh x y z r1 h1 (by omega) z0 (by omega)
 obtain⟨b,x2,z3,d2,⟨b0,b1⟩,k3,k4⟩:=Gh x1 y z2 r1 h1 (by omega) (by omega) (by omega)
 have v1:∀(e2 e3:Option D)(S:Store),eOp oIx (Ab 1) (eC (.int 0)) [some (.ref 0),some (.tup [.int r0,.int r1]),e2,e3] S=some (.int r0,S):=fun _ _ _=>rfl
 have v2:∀(e2 e3:Option D)(S:Store),eOp oIx (Ab 1) (eC (.int 1)) [some (.ref 0),some (.tup [.int r0,.int r1]),e2,e3] S=some (.int r1,S):=fun _ _ _=>rfl
 have s1:(Bx 2 (eOp Bw (eOp oIx (Ab 1) (eC (.int 0))) (Bj Am (Aa (Ab 0) (Aa (eOp oIx (Ab 1) (eC (.int 1))) Af))))) [some (.ref 0),some (.tup [.int r0,.int r1]),none,none] [some [.int x,.int y,.int z]]=some (.nx,[some (.ref 0),some (.tup [.int r0,.int r1]),some (.int (r0+a)),none],[some [.int x1,.int y,.int z2]]):=by
  rw[DX,BW,v1,U0c,Gw d1 rfl (v2 _ _ _)];rfl
 have s2:(Bx 3 (eOp Bw (eOp oIx (Ab 1) (eC (.int 0))) (Bj Am (Aa (Ab 0) (Aa (eOp oIx (Ab 1) (eC (.int 1))) Af))))) [some (.ref 0),some (.tup [.int r0,.int r1]),some (.int (r0+a)),none] [some [.int x1,.int y,.int z2]]=some (.nx,[some (.ref 0),some (.tup [.int r0,.int r1]),some (.int (r0+a)),some (.int (r0+b))],[some [.int x2,.int y,.int z3]]):=by
  rw[DX,BW,v1,U0c,Gw d2 rfl (v2 _ _ _)];rfl
 have ts:Bo (eOp (oEq false) (Ab 2) (Ab 3)) [some (.ref 0),some (.tup [.int r0,.int r1]),some (.int (r0+a)),some (.int (r0+b))] [some [.int x2,.int y,.int z3]]=some (decide (r0+a=r0+b),[some [.int x2,.int y,.int z3]]):=by
  simp[BP,BW,Df,oEq,-U0f,-U0h]
 obtain⟨c,s3,c0,c1,c2⟩:∃c:Int,(sIf (Bo (eOp (oEq false) (Ab 2) (Ab 3))) (Bx 3 (eOp Bw (Ab 2) (eC (.int 1)))) FW) [some (.ref 0),some (.tup [.int r0,.int r1]),some (.int (r0+a)),some (.int (r0+b))] [some [.int x2,.int y,.int z3]]=some (.nx,[some (.ref 0),some (.tup [.int r0,.int r1]),some (.int (r0+a)),some (.int c)],[some [.int x2,.int y,.int z3]])/\c≠r0+a/\r0<=c/\c<=r0+r1:=by
  by_cases h:r0+a=r0+b
  .rw[show decide (r0+a=r0+b)=true from decide_eq_true h] at ts
   exact⟨r0+a+1,by rw[Mi ts];rfl,by omega,by omega,by omega⟩
  .rw[show decide (r0+a=r0+b)=false from decide_eq_false h] at ts
   exact⟨r0+b,by rw[JR ts];rfl,by omega,by omega,by omega⟩
 refine⟨(if c<r0+a then c else r0+a,if c>r0+a then c else r0+a),x2,z3,?_,?_,by omega,by omega⟩
 .unfold Ep
  rw[Kr]
  simp only[U0e,U1h,U0t,U1u,U2h,U2i,U0u,U1o,U2k,U11,if_true]
  unfold O4
  rw[Bl s1,Bl s2,Bl s3]
  simp[Cq,BP,CQ,Ao,Ey,G4,V8,V7,intsOf,den,CG,-U0f,-U0h,Ad]
 .simp only
  split<;>split<;>omega
def InR(r0 r1:Int)(k:Nat)(p:St2):Prop:=r0<=p.1/\p.1<p.2/\p.2<=1000000000/\p.2<=r0+r1+4*k
end W07
end
section
namespace W07
open PySem L2 VS
theorem qx(x y z r0 r1:Int)(n:Nat)(hn:n<=3)(h1:0<r1)(h2:r1<=2000000000)(z0:0<=z)(z1:z<1000000000)(e3:Option D)(es:VS.Env):∃(bx:List St2)(x' z':Int),
  Kf (some (.ref 0)::some (.int n)::some (.tup [.int r0,.int r1])::e3::es) [some [.int x,.int y,.int z]]=some (bx.map Ad,[some [.int x',.int y,.int z']])/\bx.length=n/\(∀p∈bx,r0<=p.1/\p.1<p.2/\p.2<=r0+r1)/\z<=z'/\z'<=z+2*n:=by
 have v1:Ab 1 (some (.ref 0)::some (.int n)::some (.tup [.int r0,.int r1])::e3::es) [some [.int x,.int y,.int z]]=some (.int n,[some [.int x,.int y,.int z]]):=rfl
 have e:Ht (Aa (Ab 1) Af) (some (.ref 0)::some (.int n)::some (.tup [.int r0,.int r1])::e3::es) [some [.int x,.int y,.int z]]=some ((upD 0 n,[]),[some [.int x,.int y,.int z]]):=Vc _ (by rw[Ao,v1];rfl) (by simp) (by omega) (by omega)
 have ec:JM 1 [0,2] (some (.ref 0)::some (.int n)::some (.tup [.int r0,.int r1])::e3::es)=[none,some (.ref 0),some (.tup [.int r0,.int r1])]:=rfl
 unfold Kf Ef
 rw[e,ec]
 simp only[U0c]
 obtain⟨ys,S',e2,bx,x',z',hy,hS,hl,hp,k1,k2⟩:=gj (w:=[]) (e0:=[none,some (.ref 0),some (.tup [.int r0,.int r1])]) (g:=Pat.sem (.nm 0)) (ds:=upD 0 n) (S:=[some [.int x,.int y,.int z]])
  (f:=Bj Ep (Aa (Ab 1) (Aa (Ab 2) Af)))
  (fun i ys S=>∃(bx:List St2)(x' z':Int),ys=bx.map Ad/\S=[some [.int x',.int y,.int z']]/\bx.length=min i n/\(∀p∈bx,r0<=p.1/\p.1<p.2/\p.2<=r0+r1)/\z<=z'/\z'<=z+2*(min i n:Nat))
  ⟨[],x,z,rfl,rfl,by simp,(fun p h=>by cases h),by omega,by simp⟩ (fun i ys S q=>by obtain⟨bx,x',z',h1,h2,h3,_⟩:=q;exact⟨by simp,by rw[h1,U0i];omega⟩)
  (fun i d ys S hd q=>by
   obtain⟨bx,x',z',h3,h4,h5,h6,h7,h8⟩:=q
   obtain⟨hi,rfl⟩:=Ml hd
   subst h3 h4
   obtain⟨p,x2,z2,e3,hp,k1,k2⟩:=Z6 x' y z' r0 r1 h1 h2 (by omega) (by omega)
   refine⟨[some (.int (0+i)),some (.ref 0),some (.tup [.int r0,.int r1])],Ad p,[some [.int x2,.int y,.int z2]],by rw[Eh];rfl,?_,bx++[p],x2,z2,by rw[U1s];rfl,rfl,by simp;omega,fun q hq=>?_,by omega,by omega⟩
   .exact Nj (ns:=[x',y,z']) (rest:=[.tup [.int r0,.int r1]]) (es:=[.tup [.int r0,.int r1]]) (i:=0) (S':=[some [.int x',.int y,.int z']]) rfl rfl (by simp[Ay,Bb]) (by simp[Br,age]) e3
   .rcases U1w.mp hq with h|h
    .exact h6 q h
    .rw[U0w.mp h];exact hp)
 rw[Ko,Nat.min_self] at hl k2
 subst hy hS
 exact⟨bx,x',z',e2,hl,hp,k1,k2⟩
end W07
end
section
namespace W07
open PySem L2 VS
theorem u6{b:List St2}:Dn (b.map Ad)=true:=Dq b fun p _=>Dd p
theorem nil_eq(m:Bool)(bs:List (List St2))(S:Store):oEq false S (.lst m (bs.map Ag)) (.lst true [])=some (.bl bs.isEmpty):=by
 have q:=lU (neg:=false) (S:=S) (m:=true) 3 (Nm S m bs) (Uc 0 bs) (by decide)
 rw[List.isEmpty_map,U6i] at q
 exact q
theorem lq{n:Nat}{here:List St2}(hl:here.length=n)(hn:n<=3){a:Int}(a0:0<=a)(a1:a<n)(p:St2)(e0 e1 e2 e3 e4 e8 e9:Option D)(T:D)(S:Store)(kd:Int)(f1:oIx S T (.int kd)=some (Ad p)) :
  eOp Bw (eOp Bw (eSl oSl (Ab 6) GX (GR (Ab 7))) (BR (Aa (eOp oIx (Ab 10) (Ab 5)) Af))) (eSl oSl (Ab 6) (GR (eOp Bw (Ab 7) (eC (.int 1)))) GX) [e0,e1,e2,e3,e4,some (.int kd),some (Ag here),some (.int a),e8,e9,some T] S=some (Ag (here.take a.toNat++p::here.drop (a.toNat+1)),S):=by
 have c1:=qj (xs:=here.map Ad) (a:=a) a0 (by simp;omega)
 have c2:=R9 (xs:=here.map Ad) (a:=a+1) (by omega) (by simp;omega)
 have t1:(a+1).toNat=a.toNat+1:=by omega
 have hlen:min a.toNat here.length<=999999/\min a.toNat here.length+1+(here.length-(a.toNat+1))<=1000000/\min a.toNat here.length+(here.length-(a.toNat+1)+1)<=1000000/\min a.toNat here.length+(1+(here.length-(a.toNat+1)))<=1000000:=by omega
 have s1:eSl oSl (Ab 6) GX (GR (Ab 7)) [e0,e1,e2,e3,e4,some (.int kd),some (Ag here),some (.int a),e8,e9,some T] S=some (.tup ((here.take a.toNat).map Ad),S):=by
  show(some (D.tup (cut (here.map Ad) none (some a)),S):Option (D×Store))=_
  rw[c1,List.map_take]
 have s2:BR (Aa (eOp oIx (Ab 10) (Ab 5)) Af) [e0,e1,e2,e3,e4,some (.int kd),some (Ag here),some (.int a),e8,e9,some T] S=some (.tup [Ad p],S):=by
  have:eOp oIx (Ab 10) (Ab 5) [e0,e1,e2,e3,e4,some (.int kd),some (Ag here),some (.int a),e8,e9,some T] S=some (Ad p,S):=by
   show U2e _ (oIx S T (.int kd))=_
   rw[f1];rfl
  rw[G4,Ao,this];rfl
 have s3:eSl oSl (Ab 6) (GR (eOp Bw (Ab 7) (eC (.int 1)))) GX [e0,e1,e2,e3,e4,some (.int kd),some (Ag here),some (.int a),e8,e9,some T] S=some (.tup ((here.drop (a.toNat+1)).map Ad),S):=by
  show(some (D.tup (cut (here.map Ad) (some (a+1)) none),S):Option (D×Store))=_
  rw[c2,t1,List.map_drop]
 have s4:eOp Bw (eSl oSl (Ab 6) GX (GR (Ab 7))) (BR (Aa (eOp oIx (Ab 10) (Ab 5)) Af)) [e0,e1,e2,e3,e4,some (.int kd),some (Ag here),some (.int a),e8,e9,some T] S=some (.tup ((here.take a.toNat++[p]).map Ad),S):=by
  rw[BW,s1,U0c,s2]
  show U2e _ (if ((here.take a.toNat).map Ad).length+1<=1000000 then some (D.tup ((here.take a.toNat).map Ad++[Ad p])) else none)=_
  rw[if_pos (by simp;omega),U1s];rfl
 rw[BW,s4,U0c,s3]
 show U2e _ (if ((here.take a.toNat++[p]).map Ad).length+((here.drop (a.toNat+1)).map Ad).length<=1000000 then some (D.tup ((here.take a.toNat++[p]).map Ad++(here.drop (a.toNat+1)).map Ad)) else none)=_
 rw[if_pos (by simp;omega),←U1s,U4w]
 rfl
def InB(r0 r1:Int)(k:Nat)(b:List St2):Prop:=∀p∈b,InR r0 r1 k p
theorem qw(x y z r0 r1:Int)(n k:Nat)(h0:1<=n)(hn:n<=3)(q0:-1000000000<=r0)(q1:0<r1)(q2:r0+r1<=1000000000)(bs:List (List St2))(hl:bs.length<=1000)(hb:∀b∈bs,b.length=n/\InB r0 r1 k b)(z0:0<=z)(z1:z<100000000):∃(b:List St2)(x' z':Int),
  FQ [x,y,z] [.int n,.tup [.int r0,.int r1],.lst false (bs.map Ag)]=some (Ag b,[x',y,z'])/\b.length=n/\InB r0 r1 (k+1) b/\z<=z'/\z'<=z+11:=by
 obtain⟨bx,x1,z2,c1,bl,bp,k1,k2⟩:=qx x y z r0 r1 n hn q1 (by omega) z0 (by omega) (some (.lst false (bs.map Ag))) [none,none,none,none,none,none,none]
 obtain⟨kd,x2,z3,d1,⟨kd0,kd1⟩,k3,k4⟩:=Gh x1 y z2 6 (by decide) (by decide) (by omega) (by omega)
 have s1:(Bx 4 (eCB Ym (Aa (Bp Kf) Af))) [some (.ref 0),some (.int n),some (.tup [.int r0,.int r1]),some (.lst false (bs.map Ag)),none,none,none,none,none,none,none] [some [.int x,.int y,.int z]]=some (.nx,[some (.ref 0),some (.int n),some (.tup [.int r0,.int r1]),some (.lst false (bs.map Ag)),some (Ag bx),none,none,none,none,none,none],[some [.int x1,.int y,.int z2]]):=by
  rw[DX,Ey,Ao,Dm,c1];rfl
 have s2:(Bx 5 (Bj Am (Aa (Ab 0) (Aa (eC (.int 6)) Af)))) [some (.ref 0),some (.int n),some (.tup [.int r0,.int r1]),some (.lst false (bs.map Ag)),some (Ag bx),none,none,none,none,none,none] [some [.int x1,.int y,.int z2]]=some (.nx,[some (.ref 0),some (.int n),some (.tup [.int r0,.int r1]),some (.lst false (bs.map Ag)),some (Ag bx),some (.int kd),none,none,none,none,none],[some [.int x2,.int y,.int z3]]):=by
  rw[DX,Gw d1 rfl rfl];rfl
 have inb:InB r0 r1 (k+1) bx:=fun p hp=>by
  have:=bp p hp
  exact⟨this.1,this.2.1,by omega,by omega⟩
 have ts:(VS.tOr (Bo (eOp (oEq false) (Ab 3) (Bp Af))) (Bo (eOp oGt (Ab 5) (eC (.int 3))))) [some (.ref 0),some (.int n),some (.tup [.int r0,.int r1]),some (.lst false (bs.map Ag)),some (Ag bx),some (.int kd),none,none,none,none,none] [some [.int x2,.int y,.int z3]]=some (bs.isEmpty||decide (3<kd),[some [.int x2,.int y,.int z3]]):=by
  have a1:Bo (eOp (oEq false) (Ab 3) (Bp Af)) [some (.ref 0),some (.int n),some (.tup [.int r0,.int r1]),some (.lst false (bs.map Ag)),some (Ag bx),some (.int kd),none,none,none,none,none] [some [.int x2,.int y,.int z3]]=some (bs.isEmpty,[some [.int x2,.int y,.int z3]]):=by
   rw[Df,BW]
   show(U2e _ (oEq false [some [.int x2,.int y,.int z3]] (.lst false (bs.map Ag)) (.lst true []))).bind _=_
   rw[nil_eq];rfl
  rw[RV,a1]
  cases bs.isEmpty
  .rfl
  .rfl
 have go:∀(r:D)(S':Store)(env':VS.Env)(b:List St2)(x' z':Int),r=Ag b->S'=[some [.int x',.int y,.int z']]->Ow [some (.ref 0),some (.int n),some (.tup [.int r0,.int r1]),some (.lst false (bs.map Ag)),none,none,none,none,none,none,none] [some [.int x,.int y,.int z]]=some (.ret r,env',S')->FQ [x,y,z] [.int n,.tup [.int r0,.int r1],.lst false (bs.map Ag)]=some (Ag b,[x',y,z']):=fun r S' env' b x' z' hr hS h=>by
  unfold FQ
  rw[Kr]
  simp only[U0e,U1h,U0t,U1u,U2h,U2i,U0u,U1o,U2k,U11,if_true]
  rw[h,hS,hr]
  have hd:∀S:Store,CG 1 S (b.map Ad)=some (b.map Ad):=fun S=>Ck 1 S (Bt u6)
  simp[intsOf,den,-U0f,-U0h,Ag,hd]
 unfold Ow at go
 rw[Bl s1,Bl s2] at go
 by_cases h:bs.isEmpty=true∨3<kd
 .have e:(bs.isEmpty||decide (3<kd))=true:=by rw[U4o,decide_eq_true_eq];exact h
  rw[e] at ts
  refine⟨bx,x2,z3,go _ _ [some (.ref 0),some (.int n),some (.tup [.int r0,.int r1]),some (.lst false (bs.map Ag)),some (Ag bx),some (.int kd),none,none,none,none,none] bx x2 z3 rfl rfl ?_,bl,inb,by omega,by omega⟩
  rw[G9,Mi ts];rfl
 .have hne:bs.isEmpty=false:=by simpa using fun z=>h (.inl z)
  have h3:¬3<kd:=fun z=>h (.inr z)
  have e:(bs.isEmpty||decide (3<kd))=false:=by rw[hne,decide_eq_false h3];rfl
  rw[e] at ts
  have hpos:0<bs.length:=by
   rw[List.isEmpty_eq_false_iff] at hne
   exact U3e.mpr hne
  obtain⟨j,x3,z4,d2,⟨j0,j1⟩,k5,k6⟩:=Gh x2 y z3 bs.length (by omega) (by omega) (by omega) (by omega)
  obtain⟨a,x4,z5,d3,⟨a0,a1⟩,k7,k8⟩:=Gh x3 y z4 n (by omega) (by omega) (by omega) (by omega)
  obtain⟨here,f1,g1⟩:=Tc (F:=Ag) (l:=bs) (i:=j) j0 j1
  obtain⟨hel,heb⟩:=hb here (U1l g1)
  obtain⟨⟨lo,hi⟩,f2,g2⟩:=Tc (F:=Ad) (l:=here) (i:=a) a0 (by omega)
  obtain⟨p1,p2,p3,p4⟩:=heb _ (U1l g2)
  simp only at p1 p2 p3 p4
  obtain⟨q,f3,g3⟩:=Tc (F:=Ad) (l:=bx) (i:=a) a0 (by omega)
  have hq:=inb _ (U1l g3)
  obtain⟨u,x5,z6,d4,⟨u0,u1⟩,k9,k10⟩:=Gh x4 y z5 4 (by decide) (by decide) (by omega) (by omega)
  obtain⟨w,x6,z7,d5,⟨w0,w1⟩,k11,k12⟩:=Gh x5 y z6 (hi-lo) (by omega) (by omega) (by omega) (by omega)
  have s3:(sIf (VS.tOr (Bo (eOp (oEq false) (Ab 3) (Bp Af))) (Bo (eOp oGt (Ab 5) (eC (.int 3))))) (Cy (Ab 4)) FW) [some (.ref 0),some (.int n),some (.tup [.int r0,.int r1]),some (.lst false (bs.map Ag)),some (Ag bx),some (.int kd),none,none,none,none,none] [some [.int x2,.int y,.int z3]]=some (.nx,[some (.ref 0),some (.int n),some (.tup [.int r0,.int r1]),some (.lst false (bs.map Ag)),some (Ag bx),some (.int kd),none,none,none,none,none],[some [.int x2,.int y,.int z3]]):=by rw[JR ts];rfl
  have s4:(Bx 6 (eOp oIx (Ab 3) (Bj Am (Aa (Ab 0) (Aa (eCB Ew (Aa (Ab 3) Af)) Af))))) [some (.ref 0),some (.int n),some (.tup [.int r0,.int r1]),some (.lst false (bs.map Ag)),some (Ag bx),some (.int kd),none,none,none,none,none] [some [.int x2,.int y,.int z3]]=some (.nx,[some (.ref 0),some (.int n),some (.tup [.int r0,.int r1]),some (.lst false (bs.map Ag)),some (Ag bx),some (.int kd),some (Ag here),none,none,none,none],[some [.int x3,.int y,.int z4]]):=by
   have v3:Ab 3 [some (.ref 0),some (.int n),some (.tup [.int r0,.int r1]),some (.lst false (bs.map Ag)),some (Ag bx),some (.int kd),none,none,none,none,none] [some [.int x2,.int y,.int z3]]=some (.lst false (bs.map Ag),[some [.int x2,.int y,.int z3]]):=rfl
   rw[DX,BW,v3,U0c,Gw d2 rfl (by
    rw[Ey,Ao,v3]
    show(some (D.int (((bs.map Ag).length:Nat)),_):Option (D×Store))=_
    rw[U0i])]
   show(U2e _ (atI (bs.map Ag) j)).bind _=_
   rw[f1];rfl
  have s5:(Bx 7 (Bj Am (Aa (Ab 0) (Aa (Ab 1) Af)))) [some (.ref 0),some (.int n),some (.tup [.int r0,.int r1]),some (.lst false (bs.map Ag)),some (Ag bx),some (.int kd),some (Ag here),none,none,none,none] [some [.int x3,.int y,.int z4]]=some (.nx,[some (.ref 0),some (.int n),some (.tup [.int r0,.int r1]),some (.lst false (bs.map Ag)),some (Ag bx),some (.int kd),some (Ag here),some (.int a),none,none,none],[some [.int x4,.int y,.int z5]]):=by
   rw[DX,Gw d3 rfl rfl];rfl
  have ih:∀(e8 e9 e10:Option D)(S:Store),eOp oIx (Ab 6) (Ab 7) [some (.ref 0),some (.int n),some (.tup [.int r0,.int r1]),some (.lst false (bs.map Ag)),some (Ag bx),some (.int kd),some (Ag here),some (.int a),e8,e9,e10] S=some (Ad (lo,hi),S):=fun e8 e9 e10 S=>by
   show U2e _ (atI (here.map Ad) a)=_
   rw[f2];rfl
  have ig:∀(e8 e9 e10:Option D)(S:Store),eOp oIx (Ab 4) (Ab 7) [some (.ref 0),some (.int n),some (.tup [.int r0,.int r1]),some (.lst false (bs.map Ag)),some (Ag bx),some (.int kd),some (Ag here),some (.int a),e8,e9,e10] S=some (Ad q,S):=fun e8 e9 e10 S=>by
   show U2e _ (atI (bx.map Ad) a)=_
   rw[f3];rfl
  have s6:(Ye (eOp oIx (Ab 6) (Ab 7)) (Pat.sem (.tp [(.nm 8),(.nm 9)]))) [some (.ref 0),some (.int n),some (.tup [.int r0,.int r1]),some (.lst false (bs.map Ag)),some (Ag bx),some (.int kd),some (Ag here),some (.int a),none,none,none] [some [.int x4,.int y,.int z5]]=some (.nx,[some (.ref 0),some (.int n),some (.tup [.int r0,.int r1]),some (.lst false (bs.map Ag)),some (Ag bx),some (.int kd),some (Ag here),some (.int a),some (.int lo),some (.int hi),none],[some [.int x4,.int y,.int z5]]):=by
   rw[jO,ih]
   simp[Eh,Kz,J8,Hj,-U0f,-U0h,Ad]
  have o1:eOp Bw (eOp Bw (Ab 9) (eC (.int 1))) (Bj Am (Aa (Ab 0) (Aa (eC (.int 4)) Af))) [some (.ref 0),some (.int n),some (.tup [.int r0,.int r1]),some (.lst false (bs.map Ag)),some (Ag bx),some (.int kd),some (Ag here),some (.int a),some (.int lo),some (.int hi),none] [some [.int x4,.int y,.int z5]]=some (.int (hi+1+u),[some [.int x5,.int y,.int z6]]):=by
   have:eOp Bw (Ab 9) (eC (.int 1)) [some (.ref 0),some (.int n),some (.tup [.int r0,.int r1]),some (.lst false (bs.map Ag)),some (Ag bx),some (.int kd),some (Ag here),some (.int a),some (.int lo),some (.int hi),none] [some [.int x4,.int y,.int z5]]=some (.int (hi+1),[some [.int x4,.int y,.int z5]]):=rfl
   rw[BW,this,U0c,Gw d4 rfl rfl];rfl
  have o2:eOp Bw (eOp Bw (Ab 8) (eC (.int 1))) (Bj Am (Aa (Ab 0) (Aa (eOp Jg (Ab 9) (Ab 8)) Af))) [some (.ref 0),some (.int n),some (.tup [.int r0,.int r1]),some (.lst false (bs.map Ag)),some (Ag bx),some (.int kd),some (Ag here),some (.int a),some (.int lo),some (.int hi),none] [some [.int x5,.int y,.int z6]]=some (.int (lo+1+w),[some [.int x6,.int y,.int z7]]):=by
   have:eOp Bw (Ab 8) (eC (.int 1)) [some (.ref 0),some (.int n),some (.tup [.int r0,.int r1]),some (.lst false (bs.map Ag)),some (Ag bx),some (.int kd),some (Ag here),some (.int a),some (.int lo),some (.int hi),none] [some [.int x5,.int y,.int z6]]=some (.int (lo+1),[some [.int x5,.int y,.int z6]]):=rfl
   rw[BW,this,U0c,Gw d5 rfl rfl];rfl
  have t1:BR (Aa (Ab 9) (Aa (eOp Bw (eOp Bw (Ab 9) (eC (.int 1))) (Bj Am (Aa (Ab 0) (Aa (eC (.int 4)) Af)))) Af)) [some (.ref 0),some (.int n),some (.tup [.int r0,.int r1]),some (.lst false (bs.map Ag)),some (Ag bx),some (.int kd),some (Ag here),some (.int a),some (.int lo),some (.int hi),none] [some [.int x4,.int y,.int z5]]=some (Ad (hi,hi+1+u),[some [.int x5,.int y,.int z6]]):=by
   have:Ab 9 [some (.ref 0),some (.int n),some (.tup [.int r0,.int r1]),some (.lst false (bs.map Ag)),some (Ag bx),some (.int kd),some (Ag here),some (.int a),some (.int lo),some (.int hi),none] [some [.int x4,.int y,.int z5]]=some (.int hi,[some [.int x4,.int y,.int z5]]):=rfl
   rw[G4,Ao,this,U0c,Ao,o1];rfl
  have t2:BR (Aa (Ab 8) (Aa (eOp Bw (eOp Bw (Ab 8) (eC (.int 1))) (Bj Am (Aa (Ab 0) (Aa (eOp Jg (Ab 9) (Ab 8)) Af)))) Af)) [some (.ref 0),some (.int n),some (.tup [.int r0,.int r1]),some (.lst false (bs.map Ag)),some (Ag bx),some (.int kd),some (Ag here),some (.int a),some (.int lo),some (.int hi),none] [some [.int x5,.int y,.int z6]]=some (Ad (lo,lo+1+w),[some [.int x6,.int y,.int z7]]):=by
   have:Ab 8 [some (.ref 0),some (.int n),some (.tup [.int r0,.int r1]),some (.lst false (bs.map Ag)),some (Ag bx),some (.int kd),some (Ag here),some (.int a),some (.int lo),some (.int hi),none] [some [.int x5,.int y,.int z6]]=some (.int lo,[some [.int x5,.int y,.int z6]]):=rfl
   rw[G4,Ao,this,U0c,Ao,o2];rfl
  have s7:(Bx 10 (Bp (Aa (eOp oIx (Ab 6) (Ab 7)) (Aa (eOp oIx (Ab 4) (Ab 7)) (Aa (BR (Aa (Ab 9) (Aa (eOp Bw (eOp Bw (Ab 9) (eC (.int 1))) (Bj Am (Aa (Ab 0) (Aa (eC (.int 4)) Af)))) Af))) (Aa (BR (Aa (Ab 8) (Aa (eOp Bw (eOp Bw (Ab 8) (eC (.int 1))) (Bj Am (Aa (Ab 0) (Aa (eOp Jg (Ab 9) (Ab 8)) Af)))) Af))) Af)))))) [some (.ref 0),some (.int n),some (.tup [.int r0,.int r1]),some (.lst false (bs.map Ag)),some (Ag bx),some (.int kd),some (Ag here),some (.int a),some (.int lo),some (.int hi),none] [some [.int x4,.int y,.int z5]]=some (.nx,[some (.ref 0),some (.int n),some (.tup [.int r0,.int r1]),some (.lst false (bs.map Ag)),some (Ag bx),some (.int kd),some (Ag here),some (.int a),some (.int lo),some (.int hi),some (.lst true [Ad (lo,hi),Ad q,Ad (hi,hi+1+u),Ad (lo,lo+1+w)])],[some [.int x6,.int y,.int z7]]):=by
   rw[DX,Dm,Ao,ih,U0c,Ao,ig,U0c,Ao,t1,U0c,Ao,t2];rfl
  obtain⟨p,fp,hp⟩:∃p:St2,(∀S:Store,oIx S (.lst true [Ad (lo,hi),Ad q,Ad (hi,hi+1+u),Ad (lo,lo+1+w)]) (.int kd)=some (Ad p))/\(r0<=p.1/\p.1<p.2/\p.2<=r0+r1+4*((k:Int)+1)):=by
   have:kd=0∨kd=1∨kd=2∨kd=3:=by omega
   rcases this with rfl|rfl|rfl|rfl
   .exact⟨(lo,hi),fun S=>rfl,by simp only;omega⟩
   .obtain⟨g1,g2,g3,g4⟩:=hq
    exact⟨q,fun S=>rfl,by omega⟩
   .exact⟨(hi,hi+1+u),fun S=>rfl,by simp only;omega⟩
   .exact⟨(lo,lo+1+w),fun S=>rfl,by simp only;omega⟩
  have tg:Bo (eOp oGt (eOp oIx (eOp oIx (Ab 10) (Ab 5)) (eC (.int 1))) (eOp K8 (eC (.int 10)) (eC (.int 9)))) [some (.ref 0),some (.int n),some (.tup [.int r0,.int r1]),some (.lst false (bs.map Ag)),some (Ag bx),some (.int kd),some (Ag here),some (.int a),some (.int lo),some (.int hi),some (.lst true [Ad (lo,hi),Ad q,Ad (hi,hi+1+u),Ad (lo,lo+1+w)])] [some [.int x6,.int y,.int z7]]=some (decide (1000000000<p.2),[some [.int x6,.int y,.int z7]]):=by
   have i1:eOp oIx (Ab 10) (Ab 5) [some (.ref 0),some (.int n),some (.tup [.int r0,.int r1]),some (.lst false (bs.map Ag)),some (Ag bx),some (.int kd),some (Ag here),some (.int a),some (.int lo),some (.int hi),some (.lst true [Ad (lo,hi),Ad q,Ad (hi,hi+1+u),Ad (lo,lo+1+w)])] [some [.int x6,.int y,.int z7]]=some (Ad p,[some [.int x6,.int y,.int z7]]):=by
    show U2e _ (oIx [some [.int x6,.int y,.int z7]] (.lst true [Ad (lo,hi),Ad q,Ad (hi,hi+1+u),Ad (lo,lo+1+w)]) (.int kd))=_
    rw[fp];rfl
   have i2:eOp oIx (eOp oIx (Ab 10) (Ab 5)) (eC (.int 1)) [some (.ref 0),some (.int n),some (.tup [.int r0,.int r1]),some (.lst false (bs.map Ag)),some (Ag bx),some (.int kd),some (Ag here),some (.int a),some (.int lo),some (.int hi),some (.lst true [Ad (lo,hi),Ad q,Ad (hi,hi+1+u),Ad (lo,lo+1+w)])] [some [.int x6,.int y,.int z7]]=some (.int p.2,[some [.int x6,.int y,.int z7]]):=by rw[BW,i1];rfl
   have i3:eOp K8 (eC (.int 10)) (eC (.int 9)) [some (.ref 0),some (.int n),some (.tup [.int r0,.int r1]),some (.lst false (bs.map Ag)),some (Ag bx),some (.int kd),some (Ag here),some (.int a),some (.int lo),some (.int hi),some (.lst true [Ad (lo,hi),Ad q,Ad (hi,hi+1+u),Ad (lo,lo+1+w)])] [some [.int x6,.int y,.int z7]]=some (.int 1000000000,[some [.int x6,.int y,.int z7]]):=rfl
   rw[Df,BW,i2,U0c,i3];rfl
  rw[Bl s3,Bl s4,Bl s5,Bl s6,Bl s7] at go
  by_cases h9:1000000000<p.2
  .rw[decide_eq_true h9] at tg
   refine⟨bx,x6,z7,go _ _ [some (.ref 0),some (.int n),some (.tup [.int r0,.int r1]),some (.lst false (bs.map Ag)),some (Ag bx),some (.int kd),some (Ag here),some (.int a),some (.int lo),some (.int hi),some (.lst true [Ad (lo,hi),Ad q,Ad (hi,hi+1+u),Ad (lo,lo+1+w)])] bx x6 z7 rfl rfl ?_,bl,inb,by omega,by omega⟩
   rw[G9,Mi tg];rfl
  .rw[decide_eq_false h9] at tg
   have s8:(sIf (Bo (eOp oGt (eOp oIx (eOp oIx (Ab 10) (Ab 5)) (eC (.int 1))) (eOp K8 (eC (.int 10)) (eC (.int 9))))) (Cy (Ab 4)) FW) [some (.ref 0),some (.int n),some (.tup [.int r0,.int r1]),some (.lst false (bs.map Ag)),some (Ag bx),some (.int kd),some (Ag here),some (.int a),some (.int lo),some (.int hi),some (.lst true [Ad (lo,hi),Ad q,Ad (hi,hi+1+u),Ad (lo,lo+1+w)])] [some [.int x6,.int y,.int z7]]=some (.nx,[some (.ref 0),some (.int n),some (.tup [.int r0,.int r1]),some (.lst false (bs.map Ag)),some (Ag bx),some (.int kd),some (Ag here),some (.int a),some (.int lo),some (.int hi),some (.lst true [Ad (lo,hi),Ad q,Ad (hi,hi+1+u),Ad (lo,lo+1+w)])],[some [.int x6,.int y,.int z7]]):=by rw[JR tg];rfl
   refine⟨here.take a.toNat++p::here.drop (a.toNat+1),x6,z7,go _ _ [some (.ref 0),some (.int n),some (.tup [.int r0,.int r1]),some (.lst false (bs.map Ag)),some (Ag bx),some (.int kd),some (Ag here),some (.int a),some (.int lo),some (.int hi),some (.lst true [Ad (lo,hi),Ad q,Ad (hi,hi+1+u),Ad (lo,lo+1+w)])] _ x6 z7 rfl rfl ?_,by simp;omega,fun r hr=>?_,by omega,by omega⟩
   .rw[Bl s8,Cq,lq hel hn a0 a1 p _ _ _ _ _ _ _ _ _ _ (fp _)];rfl
   .have old:∀r∈here,InR r0 r1 (k+1) r:=fun r hr=>by
     obtain⟨g1,g2,g3,g4⟩:=heb r hr
     exact⟨g1,g2,g3,by omega⟩
    rcases U1w.mp hr with z|z
    .exact old r (List.mem_of_mem_take z)
    .rcases U0r.mp z with z|z
     .rw[z];exact⟨hp.1,hp.2.1,by omega,by omega⟩
     .exact old r (List.mem_of_mem_drop z)
end W07
end
section
namespace W07
open PySem L2 VS
theorem iG(x y z r0 r1:Int)(n k:Nat)(h0:1<=n)(hn:n<=3)(q0:-1000000000<=r0)(q1:0<r1)(q2:r0+r1<=1000000000)(bs:List (List St2))(hl:bs.length<=100)(hb:∀b∈bs,b.length=n/\InB r0 r1 k b)(z0:0<=z)(z1:z<10000000)(e3 e4 e6:Option D):∃(b:List St2)(x' z':Int),(b.length=n/\InB r0 r1 (k+1) b)/\(z<=z'/\z'<=z+11) /\
  Jd [some (.ref 0),some (.int n),some (.tup [.int r0,.int r1]),e3,e4,some (.ref 1),e6] [some [.int x,.int y,.int z],some (bs.map Ag)]=some (.nx,[some (.ref 0),some (.int n),some (.tup [.int r0,.int r1]),e3,e4,some (.ref 1),e6],[some [.int x',.int y,.int z'],some ((bs++[b]).map Ag)]):=by
 obtain⟨b,x',z',e,bl,bi,k1,k2⟩:=qw x y z r0 r1 n k h0 hn q0 q1 q2 bs (by omega) hb z0 (by omega)
 refine⟨b,x',z',⟨bl,bi⟩,⟨k1,k2⟩,?_⟩
 have hd:CG 0 [none,some (bs.map Ag)] [.int n,.tup [.int r0,.int r1],.ref 1]=some [.int n,.tup [.int r0,.int r1],.lst true (bs.map Ag)]:=by
  have hp:=Bt (DN bs)
  simp[CG,den,hp]
 have ha:Br [.int n,.tup [.int r0,.int r1],.lst true (bs.map Ag)]=[.int n,.tup [.int r0,.int r1],.lst false (bs.map Ag)]:=by
  have:=Gj (DN bs)
  simp[Br,age]
 have hnew:newD (Ag b)=true:=Ni (Ho b)
 have c1:Bj FQ (Aa (Ab 0) (Aa (Ab 1) (Aa (Ab 2) (Aa (Ab 5) Af)))) [some (.ref 0),some (.int n),some (.tup [.int r0,.int r1]),e3,e4,some (.ref 1),e6] [some [.int x,.int y,.int z],some (bs.map Ag)]=some (Ag b,[some [.int x',.int y,.int z'],some (bs.map Ag)]):=by
  have a:Aa (Ab 0) (Aa (Ab 1) (Aa (Ab 2) (Aa (Ab 5) Af))) [some (.ref 0),some (.int n),some (.tup [.int r0,.int r1]),e3,e4,some (.ref 1),e6] [some [.int x,.int y,.int z],some (bs.map Ag)]=some ([.ref 0,.int n,.tup [.int r0,.int r1],.ref 1],[some [.int x,.int y,.int z],some (bs.map Ag)]):=rfl
  rw[Uk,a]
  show((CG 0 [none,some (bs.map Ag)] [.int n,.tup [.int r0,.int r1],.ref 1]).bind fun ds=>(FQ [x,y,z] (Br ds)).bind fun r=>if (Ay [.int n,.tup [.int r0,.int r1],.ref 1]||newD r.1)=true then some (r.1,[some (r.2.map D.int),some (bs.map Ag)]) else none)=_
  rw[hd,U0c,ha,e,U0c,hnew,Bool.or_true]
  rfl
 unfold Jd
 rw[JB,Mp (d:=.ref 1) (cs:=bs.map Ag) (ds:=[Ag b]) (r:=.non) (S1:=[some [.int x,.int y,.int z],some (bs.map Ag)]) (S2:=[some [.int x',.int y,.int z'],some (bs.map Ag)]) (S3:=[some [.int x',.int y,.int z'],some ((bs++[b]).map Ag)]) rfl rfl (by rw[Ao,c1];rfl) (by
  show(if (bs.map Ag).length<1000000 then some (D.non,[some [.int x',.int y,.int z'],some (bs.map Ag++[Ag b])]) else none)=_
  rw[if_pos (by rw[U0i];omega),U1s]
  rfl)]
 rfl
theorem iD(x y z r0 r1:Int)(n most:Nat)(h0:1<=n)(hn:n<=3)(hm:most<=20)(h3:3<=most)(q0:-1000000000<=r0)(q1:0<r1)(q2:r0+r1<=1000000000)(z0:0<=z)(z1:z<1000000):∃(bs:List (List St2))(x' z':Int),
  Et [x,y,z] [.int n,.tup [.int r0,.int r1],.int most]=some (.lst true (bs.map Ag),[x',y,z'])/\bs.length<=most/\(∀b∈bs,b.length=n/\InB r0 r1 most b)/\z<=z'/\z'<=z+300:=by
 obtain⟨a,x1,z2,d1,⟨a0,a1⟩,k1,k2⟩:=Gh x y z 4 (by decide) (by decide) z0 (by omega)
 obtain⟨b,x2,z3,d2,⟨b0,b1⟩,k3,k4⟩:=Gh x1 y z2 ((most:Int)+1) (by omega) (by omega) (by omega) (by omega)
 obtain⟨c,x3,z4,d3,⟨c0,c1⟩,k5,k6⟩:=Gh x2 y z3 3 (by decide) (by decide) (by omega) (by omega)
 obtain⟨m,f1,hmm⟩:∃m:Nat,atI [D.int a,D.int b,D.int most] c=some (.int m)/\m<=most:=by
  have:c=0∨c=1∨c=2:=by omega
  rcases this with rfl|rfl|rfl
  .exact⟨a.toNat,by rw[show((a.toNat:Nat):Int)=a by omega];rfl,by omega⟩
  .exact⟨b.toNat,by rw[show((b.toNat:Nat):Int)=b by omega];rfl,by omega⟩
  .exact⟨most,rfl,U0k _⟩
 have s1:(Bx 4 (eOp oIx (Bp (Aa (Bj Am (Aa (Ab 0) (Aa (eC (.int 4)) Af))) (Aa (Bj Am (Aa (Ab 0) (Aa (eOp Bw (Ab 3) (eC (.int 1))) Af))) (Aa (Ab 3) Af)))) (Bj Am (Aa (Ab 0) (Aa (eC (.int 3)) Af))))) [some (.ref 0),some (.int n),some (.tup [.int r0,.int r1]),some (.int most),none,none,none] [some [.int x,.int y,.int z]]=some (.nx,[some (.ref 0),some (.int n),some (.tup [.int r0,.int r1]),some (.int most),some (.int m),none,none],[some [.int x3,.int y,.int z4]]):=by
  have o1:Bj Am (Aa (Ab 0) (Aa (eC (.int 4)) Af)) [some (.ref 0),some (.int n),some (.tup [.int r0,.int r1]),some (.int most),none,none,none] [some [.int x,.int y,.int z]]=some (.int a,[some [.int x1,.int y,.int z2]]):=Gw d1 rfl rfl
  have o2:Bj Am (Aa (Ab 0) (Aa (eOp Bw (Ab 3) (eC (.int 1))) Af)) [some (.ref 0),some (.int n),some (.tup [.int r0,.int r1]),some (.int most),none,none,none] [some [.int x1,.int y,.int z2]]=some (.int b,[some [.int x2,.int y,.int z3]]):=Gw d2 rfl rfl
  have o3:Bj Am (Aa (Ab 0) (Aa (eC (.int 3)) Af)) [some (.ref 0),some (.int n),some (.tup [.int r0,.int r1]),some (.int most),none,none,none] [some [.int x2,.int y,.int z3]]=some (.int c,[some [.int x3,.int y,.int z4]]):=Gw d3 rfl rfl
  have o4:Bp (Aa (Bj Am (Aa (Ab 0) (Aa (eC (.int 4)) Af))) (Aa (Bj Am (Aa (Ab 0) (Aa (eOp Bw (Ab 3) (eC (.int 1))) Af))) (Aa (Ab 3) Af))) [some (.ref 0),some (.int n),some (.tup [.int r0,.int r1]),some (.int most),none,none,none] [some [.int x,.int y,.int z]]=some (.lst true [.int a,.int b,.int most],[some [.int x2,.int y,.int z3]]):=by
   rw[Dm,Ao,o1,U0c,Ao,o2];rfl
  rw[DX,BW,o4,U0c,o3,U0c]
  show(U2e _ (atI [D.int a,D.int b,D.int most] c)).bind _=_
  rw[f1];rfl
 have s2:(Bx 5 (K9 Af)) [some (.ref 0),some (.int n),some (.tup [.int r0,.int r1]),some (.int most),some (.int m),none,none] [some [.int x3,.int y,.int z4]]=some (.nx,[some (.ref 0),some (.int n),some (.tup [.int r0,.int r1]),some (.int most),some (.int m),some (.ref 1),none],[some [.int x3,.int y,.int z4],some []]):=rfl
 have e:Ht (Aa (Ab 4) Af) [some (.ref 0),some (.int n),some (.tup [.int r0,.int r1]),some (.int most),some (.int m),some (.ref 1),none] [some [.int x3,.int y,.int z4],some []]=some ((upD 0 m,[]),[some [.int x3,.int y,.int z4],some []]):=Vc _ rfl (by simp) (by omega) (by omega)
 obtain⟨env',S',e5,bs,x',z',y6,he,hS,hl,hb,k7,k8⟩:=GQ (w:=[]) (g:=Pat.sem (.nm 6)) (b:=Jd) (ds:=upD 0 m) (env:=[some (.ref 0),some (.int n),some (.tup [.int r0,.int r1]),some (.int most),some (.int m),some (.ref 1),none]) (S:=[some [.int x3,.int y,.int z4],some []])
  (fun i env S=>∃(bs:List (List St2))(x' z':Int)(y6:Option D),env=[some (.ref 0),some (.int n),some (.tup [.int r0,.int r1]),some (.int most),some (.int m),some (.ref 1),y6]/\S=[some [.int x',.int y,.int z'],some (bs.map Ag)]/\bs.length=min i m/\(∀b∈bs,b.length=n/\InB r0 r1 (min i m) b)/\z4<=z'/\z'<=z4+11*(min i m:Nat))
  ⟨[],x3,z4,none,rfl,rfl,by simp,(fun b h=>by cases h),by omega,by simp⟩ (fun i env S _=>by simp) (fun i d env S hd q=>by
   obtain⟨bs,x',z',y6,he,hS,hl,hb,k7,k8⟩:=q
   obtain⟨hi,rfl⟩:=Ml hd
   have hmi:min i m=i:=by omega
   rw[hmi] at hl hb k8
   subst he hS
   obtain⟨b,x5,z5,hb5,⟨k9,k10⟩,e6⟩:=iG x' y z' r0 r1 n i h0 hn q0 q1 q2 bs (by omega) hb (by omega) (by omega) (some (.int most)) (some (.int m)) (some (.int (0+i)))
   have hmi2:min (i+1) m=i+1:=by omega
   refine⟨_,Eh _ _ _,_,_,e6,bs++[b],x5,z5,_,rfl,rfl,by simp;omega,?_,by omega,by rw[hmi2];omega⟩
   rw[hmi2]
   intro c hc
   rcases U1w.mp hc with h|h
   .refine⟨(hb c h).1,fun p hp=>?_⟩
    obtain⟨g1,g2,g3,g4⟩:=(hb c h).2 p hp
    exact⟨g1,g2,g3,by omega⟩
   .rw[U0w.mp h];exact hb5)
 rw[Ko,Nat.min_self] at hl hb k8
 subst he hS
 have l1:Lh [some (.ref 0),some (.int n),some (.tup [.int r0,.int r1]),some (.int most),some (.int m),some (.ref 1),none] [some [.int x3,.int y,.int z4],some []]=some (.nx,[some (.ref 0),some (.int n),some (.tup [.int r0,.int r1]),some (.int most),some (.int m),some (.ref 1),y6],[some [.int x',.int y,.int z'],some (bs.map Ag)]):=by
  unfold Lh
  rw[Gu,e]
  exact e5
 refine⟨bs,x',z',?_,by omega,fun b h=>⟨(hb b h).1,fun p hp=>?_⟩,by omega,by omega⟩
 .unfold Et
  rw[Kr]
  simp only[U0e,U1h,U0t,U1u,U2h,U2i,U0u,U1o,U2k,U11,if_true]
  unfold QZ
  rw[Bl s1,Bl s2,Bl l1]
  have hp:=Bt (DN bs)
  simp[Cq,BP,intsOf,den,-U0f,-U0h,hp]
 .obtain⟨g1,g2,g3,g4⟩:=(hb b h).2 p hp
  exact⟨g1,g2,g3,by omega⟩
end W07
end
section
namespace W07
open PySem L2 VS
theorem bV{n:Nat}{bs:List (List St2)}(g:Good n bs):Wide bs (-1000000000) 2000000000 0 n (U0p bs.length):=fun i hi v _ hv=>by
 have h:=U2n.mp hi
 have hb:=g.box bs[i] (U3i h)
 have h2:v<bs[i].length:=by rw[hb.1];omega
 have e0:bs.getD i []=bs[i]:=by rw[U1f,U0q h];rfl
 have e:at1 bs i v=bs[i][v]:=by
  rw[at1,e0,U1f,U0q h2];rfl
 have:=hb.2 bs[i][v] (U3i h2)
 rw[e]
 omega
theorem Wa{bs:List (List St2)}{A:Int}{N:Nat}:∀(k w:Nat)(ns:List Nat),Wide bs A N w k ns->∀c∈Bg bs k w ns,(∀p∈c.1,p.1<p.2/\A<=p.1/\p.2<=A+N)/\1<=c.2.length/\c.2.length<=ns.length
 |0,w,ns,_,c,h=>by
  rw[Bg] at h
  split at h
  .simp at h
  .rename_i hn
   have:c=([],ns):=by simpa using h
   rw[this]
   exact⟨fun p hp=>by simp at hp,U3e.mpr hn,U0k _⟩
 |k+1,w,ns,hw,c,h=>by
  rw[Bg] at h
  split at h
  .simp at h
  .obtain⟨p,h1,h2⟩:=List.mem_flatMap.mp h
   obtain⟨d,h3,rfl⟩:=U16.mp h2
   obtain⟨q1,q2,q3⟩:=Wa k (w+1) _ (hw.sub fun i hi=>(U2c.mp hi).1) d h3
   obtain⟨s1,s2,s3,_⟩:=Lr (Kc _) p h1
   refine⟨fun p' hp=>?_,q2,U06 q3 (U4z ..)⟩
   rcases U0r.mp hp with z|z
   .rw[z];exact⟨s1,(MP hw _ s2).1,(MP hw _ s3).2⟩
   .exact q1 p' z
def vC(k:Nat)(cs:List (List St2×List Nat)):Prop:=∀c∈cs,(∀p∈c.1,p.1<p.2/\-1000000000<=p.1/\p.2<=1000000000)/\1<=c.2.length/\c.2.length<=k
theorem Zg{n:Nat}{bs:List (List St2)}(g:Good n bs):vC bs.length (Bg bs n 0 (U0p bs.length)):=fun c hc=>by
 obtain⟨h1,h2,h3⟩:=Wa n 0 _ (bV g) c hc
 exact⟨fun p hp=>by have:=h1 p hp;omega,h2,by simpa using h3⟩
end W07
end
section
namespace W07
open PySem L2 VS
theorem Wx{n:Nat}{bs:List (List St2)}(g:Good n bs):Fv [Al false n bs,.int n]=some .non:=by
 have h1:=Wy (m:=false) g
 have s1:(Ig (BL Fw (Aa (Ab 0) Af))) [some (Al false n bs),some (.int n)] []=some (.nx,[some (Al false n bs),some (.int n)],[]):=by
  rw[JB,Dh (ds:=[Al false n bs]) (es:=[Al false n bs]) (S':=[]) rfl (by simp[Ay,Bb,Al]) (by simp[Br,age,Al]) h1];rfl
 have t2:Bo (eOp (oEq true) (eOp oIx (Ab 0) (eC (.int 0))) (Ab 1)) [some (Al false n bs),some (.int n)] []=some (false,[]):=by
  simp[BP,Ed,BW,Df,oEq,oIx,VS.listOf,Cg,-U0f,-U0h,Al]
 unfold Fv
 rw[Dg]
 simp only[U0e,U1h,U0t,U1u,U2h,U2i,U1o,U3c,if_true]
 unfold QT
 rw[Bl s1,JR t2];rfl
theorem qF{n:Nat}{bs:List (List St2)}(g:Good n bs){r:VS.Env}{a:Az}(h0:r[0]?=some (some (Al false n bs)))(ha:a r []=some (.int n,[])):(Ig (BL Fv (Aa (Ab 0) (Aa a Af)))) r []=some (.nx,r,[]):=by
 rw[JB,Dh (ds:=[Al false n bs,.int n]) (es:=[Al false n bs,.int n]) (S':=[]) (by simp[Ao,CQ,BP,h0,ha]) (by simp[Ay,Bb,Al]) (by simp[Br,age,Al]) (Wx g)];rfl
end W07
end
section
namespace W07
open PySem L2 VS
theorem W9{n:Nat}:ixN (n+1) (-1)=some n:=by
 unfold ixN
 rw[if_neg (by omega),if_pos (by omega)]
 congr 1
 omega
theorem Wg{α:Type}(l:List α)(a:α):atI (l++[a]) (-1)=some a:=by
 unfold atI
 rw[U0n,U0e,U1h,W9,U0c]
 simp
theorem Vk{b:List St2}{w:Nat}(h:w<b.length):atI (b.map Ad) (w:Int)=some (Ad (b.getD w (0,0))):=by
 refine Mx ?_
 rw[U05,U0q h,U1f,U0q h];rfl
end W07
end
section
namespace W07
open PySem L2 VS
theorem YM{r:VS.Env}{L:List D}{d:D}(h1:r[1]?=some (some (.ref 0))):eOp oIx (Ab 1) (eUn Dp (eC (.int 1))) r [some (L++[d])]=some (d,[some (L++[d])]):=by
 have v1:Ab 1 r [some (L++[d])]=some (.ref 0,[some (L++[d])]):=by simp[BP,h1]
 rw[BW,v1,U0c]
 show U2e _ (atI (L++[d]) (-1))=_
 rw[Wg];rfl
theorem W6{r:VS.Env}{L:List D}{d e:D}{v:Az}(h1:r[1]?=some (some (.ref 0)))(hv:v r [some (L++[d])]=some (e,[some (L++[d])])):Ky v (Ab 1) (eUn Dp (eC (.int 1))) r [some (L++[d])]=some (.nx,r,[some (L++[e])]):=by
 have v1:Ab 1 r [some (L++[d])]=some (.ref 0,[some (L++[d])]):=by simp[BP,h1]
 rw[Lx,hv,U0c,v1,U0c]
 show(ixN (L++[d]).length (-1)).bind _=_
 rw[U0n,U0e,U1h,W9]
 show some (Fl.nx,r,[some ((L++[d]).set L.length e)])=_
 rw[U56 _ _ (U0k _)];simp
theorem aG{r:VS.Env}{L:List D}{d:D}{a:Az}{j:Nat}(h1:r[j]?=some (some (.ref 0)))(ha:a r [some L]=some (d,[some L]))(hl:L.length<1000000):Ig (GZ GC (Ab j) (Aa a Af)) r [some L]=some (.nx,r,[some (L++[d])]):=by
 rw[JB,Mp (d:=.ref 0) (cs:=L) (ds:=[d]) (r:=.non) (S1:=[some L]) (S2:=[some L]) (S3:=[some (L++[d])]) (by simp[BP,h1]) rfl (by rw[Ao,ha];rfl) (by
  show(if L.length<1000000 then some (D.non,[some (L++[d])]) else none)=_
  rw[if_pos hl])]
 rfl
theorem qK{r:VS.Env}{L:List D}(h1:r[1]?=some (some (.ref 0))):Bo (eOp oGt (eCB Ew (Aa (Ab 1) Af)) (eC (.int 0))) r [some L]=some (decide (0<(L.length:Int)),[some L]):=by
 have v1:Ab 1 r [some L]=some (.ref 0,[some L]):=by simp[BP,h1]
 rw[Df,BW,Ey,Ao,v1]
 rfl
theorem kZ(C:D)(acc:List St2)(p:St2)(hl:acc.length<1000000):M4 [some C,some (.ref 0),some (.int p.1),some (.int p.2)] [some (acc.map Ad)]=some (.nx,[some C,some (.ref 0),some (.int p.1),some (.int p.2)],[some ((Bf acc p).map Ad)]):=by
 have a1:∀S,(BR (Aa (Ab 2) (Aa (Ab 3) Af))) [some C,some (.ref 0),some (.int p.1),some (.int p.2)] S=some (Ad p,S):=fun S=>rfl
 have add:=aG (r:=[some C,some (.ref 0),some (.int p.1),some (.int p.2)]) (j:=1) rfl (a1 [some (acc.map Ad)]) (by rw[U0i];exact hl)
 have lg:=qK (r:=[some C,some (.ref 0),some (.int p.1),some (.int p.2)]) (L:=acc.map Ad) rfl
 unfold M4
 rcases U30 acc with rfl|⟨l,q,rfl⟩
 .rw[JR (by rw[Y0,lg];rfl),add];rfl
 .rw[U31] at *
  rw[U1s] at *
  have la:=YM (r:=[some C,some (.ref 0),some (.int p.1),some (.int p.2)]) (L:=l.map Ad) (d:=Ad q) rfl
  have t2:Bo (eOp (oEq false) (eOp oIx (eOp oIx (Ab 1) (eUn Dp (eC (.int 1)))) (eC (.int 1))) (Ab 2)) [some C,some (.ref 0),some (.int p.1),some (.int p.2)] [some (l.map Ad++[Ad q])]=some (decide (q.2=p.1),[some (l.map Ad++[Ad q])]):=by
   rw[Df,BW,BW,la]
   simp[BP,Ed,oEq,oIx,VS.listOf,Cg,-U0f,-U0h,Ad]
  have t1:Sh (Bo (eOp oGt (eCB Ew (Aa (Ab 1) Af)) (eC (.int 0)))) (Bo (eOp (oEq false) (eOp oIx (eOp oIx (Ab 1) (eUn Dp (eC (.int 1)))) (eC (.int 1))) (Ab 2))) [some C,some (.ref 0),some (.int p.1),some (.int p.2)] [some (l.map Ad++[q].map Ad)]=some (decide (q.2=p.1),[some (l.map Ad++[q].map Ad)]):=by
   rw[Y0,lg,decide_eq_true (by simp)]
   exact t2
  have v1:(BR (Aa (eOp oIx (eOp oIx (Ab 1) (eUn Dp (eC (.int 1)))) (eC (.int 0))) (Aa (Ab 3) Af))) [some C,some (.ref 0),some (.int p.1),some (.int p.2)] [some (l.map Ad++[Ad q])]=some (Ad (q.1,p.2),[some (l.map Ad++[Ad q])]):=by
   rw[G4,Ao,BW,la]
   simp[BP,Ed,CQ,Ao,oIx,VS.listOf,Cg,-U0f,-U0h,Ad]
  unfold Bf
  rw[List.getLast?_append]
  by_cases h:q.2=p.1
  .rw[Mi (by rw[t1,decide_eq_true h])]
   show _=some (Fl.nx,_,[some ((if q.2=p.1 then (l++[q]).dropLast++[(q.1,p.2)] else l++[q]++[p]).map Ad)])
   rw[if_pos h,List.dropLast_concat,U1s]
   exact W6 rfl v1
  .rw[JR (by rw[t1,decide_eq_false h]),add]
   show _=some (Fl.nx,_,[some ((if q.2=p.1 then (l++[q]).dropLast++[(q.1,p.2)] else l++[q]++[p]).map Ad)])
   rw[if_neg h,U1s,U1s];rfl
theorem PX(acc:List St2)(p:St2):(Bf acc p).length<=acc.length+1:=by
 unfold Bf
 split
 .split
  .rw[U0n,List.length_dropLast];simp
  .simp
 .simp
theorem Qu:∀l:List St2,(l.foldl Bf []).length<=l.length:=by
 have:∀(l acc:List St2),(l.foldl Bf acc).length<=acc.length+l.length:=by
  intro l
  induction l with
  |nil=>intro acc;simp
  |cons p r ih=>intro acc;have:=ih (Bf acc p);have:=PX acc p;simp only[U2q,U0e];omega
 intro l
 simpa using this l []
theorem bN(l:List St2)(hl:l.length<=100000):Hv [.lst false (l.map Ad)]=some (.lst true ((l.foldl Bf []).map Ad)):=by
 have s1:(Bx 1 (K9 Af)) [some (.lst false (l.map Ad)),none,none,none] []=some (.nx,[some (.lst false (l.map Ad)),some (.ref 0),none,none],[some []]):=rfl
 have l1:∃z2 z3,Om [some (.lst false (l.map Ad)),some (.ref 0),none,none] [some []]=some (.nx,[some (.lst false (l.map Ad)),some (.ref 0),z2,z3],[some ((l.foldl Bf []).map Ad)]):=by
  have e:Ez (Ab 0) [some (.lst false (l.map Ad)),some (.ref 0),none,none] [some []]=some ((l.map Ad,[]),[some []]):=rfl
  unfold Om
  rw[Gu,e]
  obtain⟨env',S',e2,z2,z3,he,hS⟩:=GQ (w:=[]) (g:=Pat.sem (.tp [(.nm 2),(.nm 3)])) (b:=M4) (ds:=l.map Ad) (env:=[some (.lst false (l.map Ad)),some (.ref 0),none,none]) (S:=[some []])
   (fun i env S=>∃z2 z3,env=[some (.lst false (l.map Ad)),some (.ref 0),z2,z3]/\S=[some (((l.take i).foldl Bf []).map Ad)])
   ⟨none,none,rfl,rfl⟩ (fun i env S _=>by simp) (fun i d env S hd q=>by
    obtain⟨z2,z3,he,hS⟩:=q
    subst he hS
    rw[U05] at hd
    obtain⟨p,hp,rfl⟩:=U3r.mp hd
    have:=Qu (l.take i)
    rw[U2r] at this
    refine⟨[some (.lst false (l.map Ad)),some (.ref 0),some (.int p.1),some (.int p.2)],by simp[Eh,Kz,J8,Hj,-U0f,-U0h,Ad],_,_,kZ _ _ p (by omega),_,_,rfl,?_⟩
    rw[U5p,hp,Option.toList_some,U35]
    rfl)
  subst he hS
  refine⟨z2,z3,e2.trans ?_⟩
  have:(l.map Ad).length=l.length:=by simp
  rw[this,U3k]
 obtain⟨z2,z3,l1⟩:=l1
 unfold Hv
 rw[Dg]
 simp only[U0e,U1h,U0t,U1u,U2h,U2i,U0u,U1o,U2k,U11,if_true]
 unfold WR
 rw[Bl s1,Bl l1]
 generalize l.foldl Bf []=k
 have hd:∀(n:Nat)(S:Store),CG n S (k.map Ad)=some (k.map Ad):=fun n S=>Ck n S (Bt (Dq _ fun p _=>Dd p))
 have hp:Ay (k.map Ad)=true:=Bt (Dq _ fun p _=>Dd p)
 simp[Cq,BP,den,-U0f,-U0h,hd,hp]
end W07
end
section
namespace W07
open PySem L2 VS
theorem au{bs:List (List St2)}(g:Good 1 bs):Jq [some (Al false 1 bs),some (.int 1)] []=some (((Bg bs 1 0 (U0p bs.length)).map fun c=>c.1.getD 0 (0,0)).map Ad,[]):=by
 have few:=g.few
 have hl:=Ib (bs:=bs) 1 0 (U0p bs.length) (by simpa using few)
 have hf:=Zg g
 have hd:=fun c=>M6 (bs:=bs) 1 0 (U0p bs.length) c
 have c2:BL Fg (Aa (Ab 0) Af) [some (Al false 1 bs),some (.int 1)] []=some (.lst true ((Bg bs 1 0 (U0p bs.length)).map encC),[]) :=
  Dh (ds:=[Al false 1 bs]) (es:=[Al false 1 bs]) (S':=[]) rfl (by simp[Ay,Bb,Al]) (by simp[Br,age,Al]) (gk g)
 generalize Bg bs 1 0 (U0p bs.length)=cs at *
 have e:Ez (BL Fg (Aa (Ab 0) Af)) [some (Al false 1 bs),some (.int 1)] []=some ((cs.map encC,[]),[]):=by
  rw[Gv,c2];rfl
 have ec:JM 2 [1] [some (Al false 1 bs),some (.int 1)]=[none,none,some (.int 1)]:=rfl
 unfold Jq Ef
 rw[e,ec]
 simp only[U0c]
 rw[Mw (by simp) encC (fun _=>true) (fun c=>Ad (c.1.getD 0 (0,0))) cs [] (by simp;omega)]
 .rw[U5c.mpr (fun _ _=>rfl),U11,U0f];rfl
 .intro c hc
  have h1:=(hf c hc).2.1
  have h2:=hd c hc
  refine⟨[some (Ag c.1),some (Cp false c.2),some (.int 1)],by simp[Eh,Kz,J8,Hj,-U0f,-U0h,encC],?_,fun _=>?_⟩
  .simp[BP,BW,CQ,Ao,Ey,Df,oI,Gk,oGe,Ew,VS.listOf,Cg,-U0f,-U0h,Cp];omega
  .show U2e _ (atI (c.1.map Ad) ((0:Nat):Int))=_
   rw[Vk (by omega)];rfl
theorem UJ{bs:List (List St2)}(g:Good 1 bs):Ba [Al false 1 bs]=some (.lst true ((((Bg bs 1 0 (U0p bs.length)).map fun c=>c.1.getD 0 (0,0)).foldl Bf []).map Ad)):=by
 have few:=g.few
 have hl:=Ib (bs:=bs) 1 0 (U0p bs.length) (by simpa using few)
 have c1:=au g
 have s1:=qF g (r:=[some (Al false 1 bs)]) (a:=eC (.int 1)) rfl rfl
 have hl2:((Bg bs 1 0 (U0p bs.length)).map fun c=>c.1.getD 0 (0,0)).length<=100000:=by rw[U0i];omega
 generalize ((Bg bs 1 0 (U0p bs.length)).map fun c=>c.1.getD 0 (0,0))=l at *
 have h3:=bN l hl2
 have hp:∀k:List St2,Ay (k.map Ad)=true:=fun k=>Bt (Dq _ fun p _=>Dd p)
 have ag:∀k:List St2,Br (k.map Ad)=k.map Ad:=fun k=>Gj (Dq _ fun p _=>Dd p)
 have h4:Eo [Al false 1 bs,.int 1]=some (.lst true ((l.foldl Bf []).map Ad)):=by
  unfold Eo
  rw[Dg]
  simp only[U0e,U1h,U0t,U1u,U2h,U2i,U1o,U3c,if_true]
  unfold O2
  rw[Cq,Dh (ds:=[.lst true (l.map Ad)]) (es:=[.lst false (l.map Ad)]) (S':=[]) (by rw[Ao,Dm,c1];rfl) (by rw[Ay,Bb,hp,Ay];rfl) (by rw[Br,age,ag,Br]) h3]
  show den 0 _ (.lst true _)=_
  rw[den,Ck 0 _ (hp _)];rfl
 have c4:BL Eo (Aa (Ab 0) (Aa (eC (.int 1)) Af)) [some (Al false 1 bs)] []=some (.lst true ((l.foldl Bf []).map Ad),[]) :=
  Dh (ds:=[Al false 1 bs,.int 1]) (es:=[Al false 1 bs,.int 1]) (S':=[]) rfl (by simp[Ay,Bb,Al]) (by simp[Br,age,Al]) h4
 unfold Ba
 rw[Dg]
 simp only[U0e,U1h,U0t,U1u,U2h,U2i,U1o,U3c,if_true]
 unfold QS
 rw[Bl s1,Cq,c4]
 show den 0 _ (.lst true _)=_
 rw[den,Ck 0 _ (hp _)];rfl
theorem W4:∀cs:List (List St2×List Nat),(∀c∈cs,c.1.length=1)->Gb (cs.map fun c=>c.1.getD 0 (0,0))=szs cs
 |[],_=>rfl
 |c::r,h=>by
  have ih:=W4 r fun d hd=>h d (U0z _ hd)
  have h1:=h c U0g
  obtain⟨p,hp⟩:=U5z.mp h1
  unfold Gb szs at *
  rw[U0t,U0t,U4j,ih,U0t,U4j,hp]
  show(p.2-p.1)+_=(p.2-p.1)*1+_
  rw[U7l]
theorem bK{bs:List (List St2)}(g:Good 1 bs):Cm [Al false 1 bs]=some (.int (szs (Bg bs 1 0 (U0p bs.length)))):=by
 have few:=g.few
 have hl:=Ib (bs:=bs) 1 0 (U0p bs.length) (by simpa using few)
 have h4:=UJ g
 rw[←W4 _ (fun c hc=>M6 1 0 _ c hc)]
 have hl2:((Bg bs 1 0 (U0p bs.length)).map fun c=>c.1.getD 0 (0,0)).length<=100000:=by rw[U0i];omega
 generalize ((Bg bs 1 0 (U0p bs.length)).map fun c=>c.1.getD 0 (0,0))=l at *
 have jl:=W8 l []
 have jf:=Qu l
 generalize l.foldl Bf []=k at *
 have c4:BL Ba (Aa (Ab 0) Af) [some (Al false 1 bs)] []=some (.lst true (k.map Ad),[]) :=
  Dh (ds:=[Al false 1 bs]) (es:=[Al false 1 bs]) (S':=[]) rfl (by simp[Ay,Bb,Al]) (by simp[Br,age,Al]) h4
 have c1:Ii [some (Al false 1 bs)] []=some ((k.map fun p=>p.2-p.1).map .int,[]):=by
  have e:Ez (BL Ba (Aa (Ab 0) Af)) [some (Al false 1 bs)] []=some ((k.map Ad,[]),[]):=by
   rw[Gv,c4];rfl
  unfold Ii Ef
  rw[e]
  simp only[U0c]
  rw[Mv (by simp) Ad (fun p=>.int (p.2-p.1)) k (by omega),U0f]
  .rfl
  .intro p hp
   exact⟨[some (.int p.1),some (.int p.2)],by simp[JM,Eh,Kz,J8,Hj,U0u,-U0f,-U0h,Ad],by simp[BP,BW,oI,Gk,Jg,-U0f,-U0h]⟩
 have e0:Gb ([]:List St2)=0:=rfl
 rw[e0,Int.zero_add] at jl
 unfold Cm
 rw[Dg]
 simp only[U0e,U1h,U0t,U1u,U2h,U2i,U1o,U3c,if_true]
 unfold Lj
 rw[Cq,Ey,Ao,Dm,c1,←jl]
 unfold Gb
 generalize (k.map fun p=>p.2-p.1)=l
 simp[CQ,VS.listOf,den,-U0f,-U0h,Yn]
end W07
end
section
namespace W07
open PySem L2 VS
def Cz(l:List St2):List St2:=(l.zip l.tail).map fun q=>(q.1.2,q.2.1)
theorem lX(xs:List D):cut xs (some 1) none=xs.tail:=by
 cases xs with
 |nil=>rfl
 |cons x r =>
  rw[R9 (by decide) (by simp;omega)]
  rfl
theorem iH:∀a b:List St2,DW (a.map Ad) (b.map Ad)=(a.zip b).map fun q=>D.tup [Ad q.1,Ad q.2]
 |[],_=>by simp[DW]
 |_::_,[]=>by simp[DW]
 |p::a,q::b=>by simp[DW,iH a b]
theorem d7{m:Bool}(k:List St2)(r:VS.Env)(S:Store)(j:Nat)(h:r[j]?=some (some (.lst m (k.map Ad)))):V5 (Aa (Ab j) (Aa (eSl oSl (Ab j) (GR (eC (.int 1))) GX) Af)) r S=some (((k.zip k.tail).map fun q=>D.tup [Ad q.1,Ad q.2],[]),S):=by
 have v:Ab j r S=some (.lst m (k.map Ad),S):=by rw[BP,h];rfl
 have s:eSl oSl (Ab j) (GR (eC (.int 1))) GX r S=some (.lst true (k.tail.map Ad),S):=by
  rw[aA,v]
  show(some (D.lst true (cut (k.map Ad) (some 1) none),S):Option (D×Store))=_
  rw[lX,List.map_tail]
 rw[gQ,Ao,v,U0c,Ao,s,←iH]
 rfl
theorem lG(k:List St2)(hk:k.length<=100000)(H:Option D)(S:Store)(m:Bool):Nt [H,some (.lst m (k.map Ad))] S=some ((Cz k).map Ad,S):=by
 have e:=d7 k [H,some (.lst m (k.map Ad))] S 1 rfl
 unfold Nt Ef
 rw[e]
 simp only[U0c]
 have hz:(k.zip k.tail).length<=k.length:=by rw[U6b];omega
 rw[Mv (by simp) (fun q:St2×St2=>D.tup [Ad q.1,Ad q.2]) (fun q=>Ad (q.1.2,q.2.1)) (k.zip k.tail) (by omega)]
 .unfold Cz
  rw[U0f];rfl
 .intro q hq
  exact⟨[some (Ad q.1),some (Ad q.2)],by simp[JM,Eh,Kz,J8,Hj,U0u,-U0f,-U0h],by simp[BP,Ed,BW,CQ,Ao,G4,oIx,VS.listOf,Cg,-U0f,-U0h,Ad]⟩
def pcs(bs:List (List St2)):List St2:=(Jr bs (U0p bs.length) 1).foldl Bf []
theorem Lz{bs:List (List St2)}(g:Good 1 bs):Ba [Al false 1 bs]=some (.lst true ((pcs bs).map Ad)):=by
 have h:=UJ g
 rw[Im] at h
 exact h
theorem T5{bs:List (List St2)}(g:Good 1 bs):(pcs bs).length<=40:=by
 have few:=g.few
 have hl:=Ib (bs:=bs) 1 0 (U0p bs.length) (by simpa using few)
 have h:=Qu (Jr bs (U0p bs.length) 1)
 rw[←Im,U0i] at h
 unfold pcs
 rw[←Im]
 omega
theorem T9{bs:List (List St2)}(g:Good 1 bs):DP [Al false 1 bs]=some (.lst true ((Cz (pcs bs)).map Ad)):=by
 have hf:=T5 g
 have hp:∀k:List St2,Ay (k.map Ad)=true:=fun k=>Bt (Dq _ fun p _=>Dd p)
 have c4:BL Ba (Aa (Ab 0) Af) [some (Al false 1 bs),none] []=some (.lst true ((pcs bs).map Ad),[]) :=
  Dh (ds:=[Al false 1 bs]) (es:=[Al false 1 bs]) (S':=[]) rfl (by simp[Ay,Bb,Al]) (by simp[Br,age,Al]) (Lz g)
 have s1:(Bx 1 (BL Ba (Aa (Ab 0) Af))) [some (Al false 1 bs),none] []=some (.nx,[some (Al false 1 bs),some (.lst true ((pcs bs).map Ad))],[]):=by
  rw[DX,c4];rfl
 unfold DP
 rw[Dg]
 simp only[U0e,U1h,U0t,U1u,U2h,U2i,U0u,U1o,U2k,U11,if_true]
 unfold Uh
 rw[Bl s1,Cq,Dm,lG _ (by omega)]
 show den 0 _ (.lst true _)=_
 rw[den,Ck 0 _ (hp _)];rfl
theorem TJ(ws:List Nat)(w:Nat)(xs:List PyData)(hl:xs.length<=w)(h:∀x∈xs,fit ws x=true):fit (w::ws) (.list xs)=true/\fit (w::ws) (.tuple xs)=true:=by
 have a:xs.all (fit ws)=true:=U3j.mpr h
 simp[fit,hl,a]
theorem T4{S:Store}{d:D}{p:PyData}{ws:List Nat}(h:Ce S d=some p)(hf:fit ws p=true)(hw:ws.length<=50)(hb:bnd ws<=1000000):Eb S [d]=some (.str p.shown):=by
 obtain⟨f1,f2,f3⟩:=Zy ws p hf
 show(Ce S d).bind _=_
 rw[h,U0c]
 have:(p.showable&&decide (p.depth<=60)&&decide (p.shown.length<=1000000))=true:=by
  rw[U0y,U0y]
  exact⟨⟨f1,decide_eq_true (by omega)⟩,decide_eq_true (by omega)⟩
 rw[if_pos this]
theorem u9{p:St2}(h:-10000000000<=p.1/\p.1<=10000000000/\-10000000000<=p.2/\p.2<=10000000000):fit [2] (pS p)=true:=by
 have lf:∀a:Int,-10000000000<=a->a<=10000000000->fit [] (.int a)=true:=fun a h1 h2=>decide_eq_true (by
  show a.natAbs<10^41
  exact U3t (m:=10000000000) (by omega) (by decide))
 refine(TJ [] 2 [.int p.1,.int p.2] (by simp) fun x hx=>?_).2
 rcases U0r.mp hx with z|z
 .rw[z];exact lf _ h.1 h.2.1
 .rw[U0w.mp z];exact lf _ h.2.2.1 h.2.2.2
def V9(l:List St2):Prop:=∀p∈l,-10000000000<=p.1/\p.1<=10000000000/\-10000000000<=p.2/\p.2<=10000000000
theorem Zz{l:List St2}(hl:l.length<=200)(h:V9 l):fit [200,2] (.list (l.map pS))=true:=by
 refine(TJ [2] 200 _ (by simpa using hl) fun x hx=>?_).1
 obtain⟨p,hp,rfl⟩:=U16.mp hx
 exact u9 (h p hp)
theorem Va(S:Store)(m:Bool)(l:List St2):Ce S (.lst m (l.map Ad))=some (.list (l.map pS)):=by
 have hp:Ay (l.map Ad)=true:=Bt (Dq _ fun p _=>Dd p)
 have:G7 (l.map Ad)=some (l.map pS):=by
  induction l with
  |nil=>rfl
  |cons p r ih=>rw[U0t,G7,Qn,ih (Bt (Dq _ fun p _=>Dd p))];rfl
 rw[Ce,den,Ck 0 S hp]
 show toP (.lst m (l.map Ad))=_
 rw[toP,this];rfl
end W07
end
section
namespace W07
open PySem L2 VS
def encK(xs:List Int):List (Key×V):=xs.map fun x=>(U4i x,V.bl true)
def Ge(xs:List Int)(x:Int):List Int:=if x∈xs then xs else xs++[x]
theorem Vp(xs:List Int)(x:Int):(HS (encK xs) (.inl x)).isSome=decide (x∈xs):=by
 unfold HS
 rw[U6t,U2d,List.find?_isSome,decide_eq_true_eq]
 unfold encK
 constructor
 .rintro⟨kv,h1,h2⟩
  obtain⟨y,hy,rfl⟩:=U16.mp h1
  have:=of_decide_eq_true h2
  have:y=x:=U7k this
  rw[←this];exact hy
 .intro h
  exact⟨(.inl x,.bl true),U16.mpr ⟨x,h,rfl⟩,by simp⟩
theorem eO(xs:List Int)(x:Int):putK (encK xs) (.inl x) (.bl true)=encK (Ge xs x):=by
 unfold putK Ge
 by_cases h:x∈xs
 .rw[if_pos h]
  have e:((encK xs).any fun kv=>decide (kv.1=(U4i x:Key)))=true:=by
   rw[U6y]
   exact⟨(.inl x,.bl true),U16.mpr ⟨x,h,rfl⟩,by simp⟩
  rw[if_pos e]
  unfold encK
  rw[U0f]
  refine U6e fun y _=>?_
  simp only[Function.comp]
  split
  .rfl
  .rfl
 .rw[if_neg h]
  have e:¬((encK xs).any fun kv=>decide (kv.1=(U4i x:Key)))=true:=by
   rw[U6y]
   rintro⟨kv,h1,h2⟩
   obtain⟨y,hy,rfl⟩:=U16.mp h1
   have:y=x:=U7k (of_decide_eq_true h2)
   exact h (this ▸ hy)
  rw[if_neg e]
  unfold encK
  rw[U1s];rfl
theorem gM{xs:List Int}{x y:Int}:y∈Ge xs x↔y∈xs∨y=x:=by
 unfold Ge
 split
 .constructor
  .exact .inl
  .rintro(h|h)
   .exact h
   .rw[h];assumption
 .simp
theorem Zb{xs:List Int}(x:Int)(h:xs.Nodup):(Ge xs x).Nodup:=by
 unfold Ge
 split
 .exact h
 .rw[U6r]
  refine⟨h,by simp,fun a ha b hb z=>?_⟩
  rw[U0w.mp hb] at z
  rename_i hx
  exact hx (z ▸ ha)
theorem jQ(xs:List Int)(acc:List St2)(n:Int)(hl:acc.length<1000)(hN:Norm acc)(he:∀q∈acc,q.2<=n)(hc:cov acc (n-1)=decide (n-1∈xs)) :
  Ju [some (.dcf (encK xs)),some (.ref 0),some (.int n)] [some (acc.map Ad)]=some (.nx,[some (.dcf (encK xs)),some (.ref 0),some (.int n)],[some ((Dr (fun x=>decide (x∈xs)) acc n).map Ad)]):=by
 have t1:Bo (eOp (Sq false) (Ab 2) (Ab 0)) [some (.dcf (encK xs)),some (.ref 0),some (.int n)] [some (acc.map Ad)]=some (decide (n∈xs),[some (acc.map Ad)]):=by
  show some ((false ^^ (HS (encK xs) (.inl n)).isSome),_)=_
  rw[Vp,U6i]
 have t2:Bo (eOp (Sq false) (eOp Jg (Ab 2) (eC (.int 1))) (Ab 0)) [some (.dcf (encK xs)),some (.ref 0),some (.int n)] [some (acc.map Ad)]=some (decide (n-1∈xs),[some (acc.map Ad)]):=by
  show some ((false ^^ (HS (encK xs) (.inl (n-1))).isSome),_)=_
  rw[Vp,U6i]
 unfold Ju Dr
 by_cases h:n∈xs
 .rw[decide_eq_true h] at t1
  rw[Mi t1,if_pos (decide_eq_true h)]
  have hj:=Xi hN he
  rw[hc] at hj
  by_cases h1:n-1∈xs
  .obtain⟨l,q,rfl,hq⟩:=hj.mp (decide_eq_true h1)
   rw[decide_eq_true h1] at t2
   have e:Bf (l++[q]) (n,n+1)=l++[(q.1,n+1)]:=by
    unfold Bf
    rw[Ng]
    simp[hq]
   rw[Mi t2,e,U1s,U1s]
   have a:=YM (r:=[some (.dcf (encK xs)),some (.ref 0),some (.int n)]) (L:=l.map Ad) (d:=Ad q) rfl
   exact W6 (r:=[some (.dcf (encK xs)),some (.ref 0),some (.int n)]) (L:=l.map Ad) (d:=Ad q) (e:=Ad (q.1,n+1)) rfl (by
    have i0:eOp oIx (eOp oIx (Ab 1) (eUn Dp (eC (.int 1)))) (eC (.int 0)) [some (.dcf (encK xs)),some (.ref 0),some (.int n)] [some (l.map Ad++[Ad q])]=some (.int q.1,[some (l.map Ad++[Ad q])]):=by
     rw[BW,a];rfl
    rw[G4,Ao,i0];rfl)
  .rw[decide_eq_false h1] at t2
   have e:Bf acc (n,n+1)=acc++[(n,n+1)]:=by
    unfold Bf
    rcases U30 acc with z|⟨l,q,z⟩
    .rw[z];rfl
    .rw[U31] at z
     subst z
     rw[Ng]
     have:q.2≠n:=fun w=>h1 (of_decide_eq_true (hj.mpr ⟨l,q,rfl,w⟩))
     simp[this]
   rw[JR t2,e,U1s]
   exact aG (r:=[some (.dcf (encK xs)),some (.ref 0),some (.int n)]) (j:=1) (L:=acc.map Ad) (d:=Ad (n,n+1)) rfl rfl (by rw[U0i];omega)
 .rw[decide_eq_false h] at t1
  rw[JR t1,if_neg (show ¬decide (n∈xs)=true by rw[decide_eq_false h];decide)]
  rfl
theorem YC(P:Int->Bool):∀(l:List Int)(acc:List St2),(l.foldl (Dr P) acc).length<=acc.length+l.length
 |[],acc=>by simp
 |n::l,acc=>by
  have h:=YC P l (Dr P acc n)
  have:(Dr P acc n).length<=acc.length+1:=by
   unfold Dr
   split
   .exact PX acc _
   .omega
  rw[U2q,U0e]
  omega
theorem jP(xs:List Int)(hx:∀x∈xs,-25<=x/\x<110):Fe [.dcf (encK xs)]=some (.lst true (((ups (-25) 135).foldl (Dr fun x=>decide (x∈xs)) []).map Ad)):=by
 have s1:(Bx 1 (K9 Af)) [some (.dcf (encK xs)),none,none] []=some (.nx,[some (.dcf (encK xs)),some (.ref 0),none],[some []]):=rfl
 have e:Hs (Aa (eUn Dp (eC (.int 25))) (Aa (eC (.int 110)) Af)) [some (.dcf (encK xs)),some (.ref 0),none] [some []]=some ((upD (-25) 135,[]),[some []]):=Vb (i:=-25) (j:=110) 135 rfl (by decide) (by unfold r62;omega) (by unfold r62;omega)
 obtain⟨env',S',e2,z2,he,hS⟩:=GQ (w:=[]) (g:=Pat.sem (.nm 2)) (b:=Ju) (ds:=upD (-25) 135) (env:=[some (.dcf (encK xs)),some (.ref 0),none]) (S:=[some []])
  (fun i env S=>∃z2:Option D,env=[some (.dcf (encK xs)),some (.ref 0),z2]/\S=[some (((ups (-25) i).foldl (Dr fun x=>decide (x∈xs)) []).map Ad)])
  ⟨none,rfl,rfl⟩ (fun i env S _=>by simp) (fun i d env S hd q=>by
   obtain⟨z2,he,hS⟩:=q
   obtain⟨hi,rfl⟩:=Ml hd
   subst he hS
   obtain⟨n1,n2,n3⟩:=Qp (fun x=>decide (x∈xs)) (-25) i
   have few:=YC (fun x=>decide (x∈xs)) (ups (-25) i) []
   have hu:(ups (-25) i).length=i:=by simp[ups]
   rw[hu] at few
   have b1:=jQ xs ((ups (-25) i).foldl (Dr fun x=>decide (x∈xs)) []) (-25+i) (by simp at few;omega) n1 n3 (by
    show cov (((U0p i).map fun(k:Nat)=>(-25:Int)+k).foldl (Dr fun x=>decide (x∈xs)) []) (-25+(i:Int)-1)=_
    rw[n2]
    by_cases z:-25+(i:Int)-1∈xs
    .have:=hx _ z
     rw[decide_eq_true z,Bool.and_true]
     exact decide_eq_true (by omega)
    .rw[decide_eq_false z,Bool.and_false])
   refine⟨_,Eh _ _ _,_,_,b1,_,rfl,?_⟩
   rw[NK,U35]
   rfl)
 subst he hS
 rw[Ko] at e2
 have l1:MN [some (.dcf (encK xs)),some (.ref 0),none] [some []]=some (.nx,[some (.dcf (encK xs)),some (.ref 0),z2],[some (((ups (-25) 135).foldl (Dr fun x=>decide (x∈xs)) []).map Ad)]):=by
  unfold MN
  rw[Gu,e]
  exact e2
 have hp:∀k:List St2,Ay (k.map Ad)=true:=fun k=>Bt (Dq _ fun p _=>Dd p)
 unfold Fe
 rw[Dg]
 simp only[U0e,U1h,U0t,U1u,U2h,U2i,U0u,U1o,U2k,U11,if_true]
 unfold Ry
 rw[Bl s1,Bl l1]
 generalize (ups (-25) 135).foldl (Dr fun x=>decide (x∈xs)) []=k
 show den 0 [some (k.map Ad)] (.ref 0)=_
 rw[den,if_neg (by omega)]
 show(if Ay (k.map Ad)=true then _ else _)=_
 rw[if_pos (hp k)]
end W07
end
section
namespace W07
open PySem L2 VS
theorem gO(xs:List Int)(x:Int):(Ge xs x).length<=xs.length+1:=by
 unfold Ge
 split
 .omega
 .simp
theorem WM:∀(l xs:List Int),(l.foldl Ge xs).length<=xs.length+l.length
 |[],xs=>by simp
 |x::l,xs=>by
  have:=WM l (Ge xs x)
  have:=gO xs x
  rw[U2q,U0e]
  omega
theorem WL:∀{l xs:List Int} {y:Int},y∈l.foldl Ge xs↔y∈xs∨y∈l
 |[],xs,y=>by simp
 |x::l,xs,y=>by
  rw[U2q,WL,gM,U0r,or_assoc]
theorem Rx:∀{l xs:List Int},xs.Nodup->(l.foldl Ge xs).Nodup
 |[],xs,h=>h
 |x::l,xs,h=>by rw[U2q];exact Rx (Zb x h)
theorem oX(xs:List Int)(x:Int)(hl:xs.length<1000000)(e0 e1 e3 e5 e6 e7 e8 e9:Option D):Jc [e0,e1,some (.dref 0),e3,some (.int x),e5,e6,e7,e8,e9] [some [.dcm (encK xs)]]=some (.nx,[e0,e1,some (.dref 0),e3,some (.int x),e5,e6,e7,e8,e9],[some [.dcm (encK (Ge xs x))]]):=by
 unfold Jc
 rw[dh]
 show(if (encK xs).length<1000000 then some (Fl.nx,_,[some [D.dcm (putK (encK xs) (.inl x) (.bl true))]]) else none)=_
 rw[if_pos (by unfold encK;rw[U0i];exact hl),eO]
theorem oW(xs:List Int)(p:St2)(hp:r62 p.1/\r62 p.2)(hl:xs.length+(p.2-p.1).toNat<1000000)(e0 e1 z4 e5 e6 e7 e8 e9:Option D):∃y4:Option D,Lg [e0,e1,some (.dref 0),some (Ag [p]),z4,e5,e6,e7,e8,e9] [some [.dcm (encK xs)]]=some (.nx,[e0,e1,some (.dref 0),some (Ag [p]),y4,e5,e6,e7,e8,e9],[some [.dcm (encK ((ups p.1 (p.2-p.1).toNat).foldl Ge xs))]]):=by
 have e:Hs (Aa (eOp oIx (eOp oIx (Ab 3) (eC (.int 0))) (eC (.int 0))) (Aa (eOp oIx (eOp oIx (Ab 3) (eC (.int 0))) (eC (.int 1))) Af)) [e0,e1,some (.dref 0),some (Ag [p]),z4,e5,e6,e7,e8,e9] [some [.dcm (encK xs)]]=some ((upD p.1 (p.2-p.1).toNat,[]),[some [.dcm (encK xs)]]):=Vb (i:=p.1) (j:=p.2) _ rfl rfl hp.1 hp.2
 obtain⟨env',S',e2,y4,he,hS⟩:=GQ (w:=[]) (g:=Pat.sem (.nm 4)) (b:=Jc) (ds:=upD p.1 (p.2-p.1).toNat) (env:=[e0,e1,some (.dref 0),some (Ag [p]),z4,e5,e6,e7,e8,e9]) (S:=[some [.dcm (encK xs)]])
  (fun i env S=>∃y4:Option D,env=[e0,e1,some (.dref 0),some (Ag [p]),y4,e5,e6,e7,e8,e9]/\S=[some [.dcm (encK ((ups p.1 i).foldl Ge xs))]])
  ⟨z4,rfl,rfl⟩ (fun i env S _=>by simp) (fun i d env S hd q=>by
   obtain⟨y4,he,hS⟩:=q
   obtain⟨hi,rfl⟩:=Ml hd
   subst he hS
   have few:=WM (ups p.1 i) xs
   have hu:(ups p.1 i).length=i:=by simp[ups]
   refine⟨_,Eh _ _ _,_,_,oX ((ups p.1 i).foldl Ge xs) (p.1+i) (by omega) e0 e1 (some (Ag [p])) e5 e6 e7 e8 e9,_,rfl,?_⟩
   rw[NK,U35]
   rfl)
 subst he hS
 rw[Ko] at e2
 refine⟨y4,?_⟩
 unfold Lg
 rw[Gu,e]
 exact e2
structure Jt(ps:List St2):Prop where
 few:ps.length<=20
 all:∀p∈ps,-25<=p.1/\p.1<p.2/\p.2<=110
def nums(ps:List St2):List Int:=ps.foldl (fun xs p=>(ups p.1 (p.2-p.1).toNat).foldl Ge xs) []
theorem Q0:∀(ps:List St2)(xs:List Int),xs.Nodup->(ps.foldl (fun xs p=>(ups p.1 (p.2-p.1).toNat).foldl Ge xs) xs).Nodup/\∀y,y∈ps.foldl (fun xs p=>(ups p.1 (p.2-p.1).toNat).foldl Ge xs) xs↔y∈xs∨cov ps y=true
 |[],xs,h=>⟨h,fun y=>by simp[cov]⟩
 |p::ps,xs,h=>by
  obtain⟨h1,h2⟩:=Q0 ps ((ups p.1 (p.2-p.1).toNat).foldl Ge xs) (Rx h)
  refine⟨h1,fun y=>?_⟩
  rw[U2q,h2,WL,J9,U4o,or_assoc]
  have:y∈ups p.1 (p.2-p.1).toNat↔inS p y=true:=by
   rw[Pq,Ft]
   constructor<;>(intro z;omega)
  rw[this]
theorem Qs{ps:List St2}(h:Jt ps)(i:Nat):(nums (ps.take i)).length<=135/\∀y∈nums (ps.take i),-25<=y/\y<110:=by
 obtain⟨h1,h2⟩:=Q0 (ps.take i) [] .nil
 have b:∀y∈nums (ps.take i),-25<=y/\y<110:=fun y hy=>by
  rcases(h2 y).mp hy with z|z
  .simp at z
  .obtain⟨p,hp,k1,k2⟩:=Ea.mp z
   have:=h.all p (List.mem_of_mem_take hp)
   omega
 refine⟨?_,b⟩
 have:=NT (l:=nums (ps.take i)) (m:=ups (-25) 135) h1 fun y hy=>Pq.mpr (by have:=b y hy;omega)
 have hu:(ups (-25) 135).length=135:=by simp[ups]
 omega
theorem oV(ps:List St2)(h:Jt ps)(e1 e5 e6 e7 e8 e9:Option D):∃y3 y4:Option D,Lf [some (.lst false ((ps.map fun p=>[p]).map Ag)),e1,some (.dref 0),none,none,e5,e6,e7,e8,e9] [some [.dcm []]]=some (.nx,[some (.lst false ((ps.map fun p=>[p]).map Ag)),e1,some (.dref 0),y3,y4,e5,e6,e7,e8,e9],[some [.dcm (encK (nums ps))]]):=by
 have e:Ez (Ab 0) [some (.lst false ((ps.map fun p=>[p]).map Ag)),e1,some (.dref 0),none,none,e5,e6,e7,e8,e9] [some [.dcm []]]=some (((ps.map fun p=>[p]).map Ag,[]),[some [.dcm []]]):=rfl
 obtain⟨env',S',e2,y3,y4,he,hS⟩:=GQ (w:=[]) (g:=Pat.sem (.nm 3)) (b:=PN) (ds:=(ps.map fun p=>[p]).map Ag) (env:=[some (.lst false ((ps.map fun p=>[p]).map Ag)),e1,some (.dref 0),none,none,e5,e6,e7,e8,e9]) (S:=[some [.dcm []]])
  (fun i env S=>∃y3 y4:Option D,env=[some (.lst false ((ps.map fun p=>[p]).map Ag)),e1,some (.dref 0),y3,y4,e5,e6,e7,e8,e9]/\S=[some [.dcm (encK (nums (ps.take i)))]])
  ⟨none,none,rfl,rfl⟩ (fun i env S _=>by simp) (fun i d env S hd q=>by
   obtain⟨y3,y4,he,hS⟩:=q
   subst he hS
   rw[U05,U05,Option.map_map] at hd
   obtain⟨p,hp,rfl⟩:=U3r.mp hd
   have hb:=h.all p (U1l hp)
   have few:=(Qs h i).1
   obtain⟨w4,l1⟩:=oW (nums (ps.take i)) p ⟨by unfold r62;omega,by unfold r62;omega⟩ (by omega) (some (.lst false ((ps.map fun p=>[p]).map Ag))) e1 y4 e5 e6 e7 e8 e9
   refine⟨_,Eh _ _ _,_,_,l1,_,_,rfl,?_⟩
   unfold nums
   rw[U5p,hp,Option.toList_some,U35]
   rfl)
 subst he hS
 have:((ps.map fun p=>[p]).map Ag).length=ps.length:=by simp
 rw[this,U3k] at e2
 refine⟨y3,y4,?_⟩
 unfold Lf
 rw[Gu,e]
 exact e2
end W07
end
section
namespace W07
open PySem L2 VS
abbrev Aq(ps:List St2):List (List St2):=ps.map fun p=>[p]
theorem T7{ps:List St2}(hf:ps.length<=20)(h:∀p∈ps,p.1<p.2/\-1000000000<=p.1/\p.2<=1000000000):Good 1 (Aq ps) :=
 ⟨.inl rfl,by rw[U0i];exact hf,fun b hb=>by
  obtain⟨p,hp,rfl⟩:=U16.mp hb
  exact⟨rfl,fun q hq=>by rw[U0w.mp hq];exact h p hp⟩⟩
theorem Jt.good{ps:List St2}(h:Jt ps):Good 1 (Aq ps):=T7 h.few fun p hp=>by have:=h.all p hp;omega
theorem Vl{ps:List St2}{i:Nat}(hi:i<ps.length):at1 (Aq ps) i 0=ps[i]:=by
 have e:(Aq ps).getD i []=[ps[i]]:=by rw[U1f,U05,U0q hi];rfl
 rw[at1,e];rfl
theorem Qz(ps:List St2)(x:Int):decide (1<=(Dy (Aq ps) 0 x (U0p (Aq ps).length)).length)=cov ps x:=by
 rw[U2d,decide_eq_true_eq,Ea]
 constructor
 .intro h
  obtain⟨i,hi⟩:=List.exists_mem_of_ne_nil _ (U3e.mp h)
  obtain⟨h1,h2⟩:=U2c.mp hi
  have hl:i<ps.length:=by simpa using U2n.mp h1
  rw[Vl hl] at h2
  exact⟨ps[i],U3i hl,Ft.mp h2⟩
 .rintro⟨p,hp,h1⟩
  obtain⟨i,hl,rfl⟩:=List.getElem_of_mem hp
  refine U3e.mpr (List.ne_nil_of_mem (a:=i) (U2c.mpr ⟨U2n.mpr (by simpa using hl),?_⟩))
  rw[Vl hl]
  exact Ft.mpr h1
theorem fL(ps:List St2)(x:Int):decide (x∈nums ps)=cov ps x:=by
 rw[U2d,decide_eq_true_eq]
 have:=(Q0 ps [] .nil).2 x
 unfold nums
 rw[this]
 simp
theorem pP{ps:List St2}(h:Jt ps):pcs (Aq ps)=(ups (-25) 135).foldl (Dr fun x=>decide (x∈nums ps)) []:=by
 obtain⟨n1,n2⟩:=QM (Aq ps) (U0p (Aq ps).length) 1 (U0k _)
 obtain⟨m1,m2,_⟩:=Qp (fun x=>decide (x∈nums ps)) (-25) 135
 refine Ua n1 m1 fun x=>(n2 x).trans ((m2 x).trans ?_).symm
 rw[Qz,fL]
 by_cases z:cov ps x=true
 .obtain⟨p,hp,k1,k2⟩:=Ea.mp z
  have:=h.all p hp
  rw[z,Bool.and_true]
  exact decide_eq_true (by omega)
 .rw[U6u.mpr z,Bool.and_false]
def F1(ns:List Nat):Int:=if ns=[] then 0 else 1
theorem aJ:∀cs:List (List St2×List Nat),(∀c∈cs,c.2≠[])->szs cs=csum F1 cs
 |[],_=>rfl
 |c::r,h=>by
  have ih:=aJ r fun d hd=>h d (U0z _ hd)
  have h1:=h c U0g
  unfold szs csum at *
  rw[U0t,U4j,ih,U0t,U4j]
  congr 1
  unfold F1
  rw[if_neg h1,U7l]
theorem qJ{ps:List St2}(h:Jt ps):szs (Bg (Aq ps) 1 0 (U0p (Aq ps).length))=((nums ps).length:Nat):=by
 have wd:Wide (Aq ps) (-25) 135 0 1 (U0p (Aq ps).length):=fun i hi v h1 h2=>by
  have hl:i<ps.length:=by simpa using U2n.mp hi
  have hv:v=0:=by omega
  subst hv
  rw[Vl hl]
  have:=h.all ps[i] (U3i hl)
  omega
 have ne:∀c∈Bg (Aq ps) 1 0 (U0p (Aq ps).length),c.2≠[]:=fun c hc=>by
  rw[Oz] at hc
  obtain⟨p,hp,rfl⟩:=U16.mp hc
  exact of_decide_eq_true (U2c.mp hp).2
 rw[aJ _ ne,SJ rfl 1 0 _ wd,canon]
 have e:(fun x=>canon (Aq ps) F1 (-25) 135 0 (0+1) (Dy (Aq ps) 0 x (U0p (Aq ps).length)))=fun x=>if cov ps x=true then 1 else 0:=by
  funext x
  rw[canon,←Qz]
  unfold F1
  by_cases z:Dy (Aq ps) 0 x (U0p (Aq ps).length)=[]
  .rw[if_pos z,z];rfl
  .rw[if_neg z,if_pos (decide_eq_true (show 1<=_ from U3e.mpr z))]
 rw[e,Rt]
 congr 1
 have hn:=Q0 ps [] .nil
 refine ZJ ((Tt _ _).sublist List.filter_sublist) hn.1 fun x=>?_
 rw[U2c,Pq]
 have hm:=hn.2 x
 unfold nums
 rw[hm]
 constructor
 .exact fun z=>.inr z.2
 .rintro(z|z)
  .simp at z
  .obtain⟨p,hp,k1,k2⟩:=Ea.mp z
   have:=h.all p hp
   exact⟨by omega,z⟩
theorem fG{ps:List St2}(h:Jt ps):V9 (pcs (Aq ps)):=by
 obtain⟨n1,n2⟩:=QM (Aq ps) (U0p (Aq ps).length) 1 (U0k _)
 intro p hp
 have hp1:=n1.pos p hp
 have c1:cov (pcs (Aq ps)) p.1=true:=Ea.mpr ⟨p,hp,U49 _,hp1⟩
 have c2:cov (pcs (Aq ps)) (p.2-1)=true:=Ea.mpr ⟨p,hp,by omega,by omega⟩
 unfold pcs at c1 c2
 rw[n2,Qz] at c1 c2
 obtain⟨a,ha,a1,a2⟩:=Ea.mp c1
 obtain⟨b,hb,b1,b2⟩:=Ea.mp c2
 have:=h.all a ha
 have:=h.all b hb
 omega
theorem gW{l:List St2}(h:V9 l):V9 (Cz l):=fun p hp=>by
 obtain⟨q,hq,rfl⟩:=U16.mp hp
 have h1:=h q.1 (U5e hq).1
 have h2:=h q.2 (List.mem_of_mem_tail (U5e hq).2)
 simp only
 omega
theorem TF(l:List St2):(Cz l).length=l.length-1:=by simp[Cz]
theorem qb{l:List St2}{i:Nat}(h:i+1<l.length):(Cz l)[i]?=some ((l.getD i (0,0)).2,(l.getD (i+1) (0,0)).1):=by
 unfold Cz
 rw[U05,U0q (by simp;omega),List.getElem_zip,List.getElem_tail,U1f,U1f,U0q (by omega),U0q h]
 rfl
end W07
end
section
namespace W07
open PySem L2 VS
theorem Q7(k:List St2):Dn (k.map Ad)=true:=Dq _ fun p _=>Dd p
theorem lF{n:Nat}{bs:List (List St2)}(neg m m':Bool)(S:Store):eqP neg S (Al m n bs) (Al m' n bs)=some (.bl (neg ^^ true)):=R0 4 (Oi S m n bs) (Oi S m' n bs) (fZ 0 n bs) (by decide)
theorem Px(n:Nat)(bs:List (List St2)):Ay [Al true n bs]=true:=by simp[Ay,Bb,Al,Bt (DN bs)]
theorem Rj(n:Nat)(bs:List (List St2)):Br [Al true n bs]=[Al false n bs]:=by simp[Br,age,Al]
theorem Zc{S:Store}{i:Nat}{kvs:List (Key×V)}(h:S[i]?=some (some [.dcm kvs])):dictOf S (.dref i)=some kvs:=by
 simp only[dictOf,h]
theorem eF(k:List St2)(i:Nat)(hi:i+1<k.length)(acc:List St2)(hl:acc.length<1000)(e0 e1 e2 e3 e4 e8 e9:Option D)(d0:Option (List D)):Jb [e0,e1,e2,e3,e4,some (.lst true (k.map Ad)),some (.ref 1),some (.int (1+(i:Int))),e8,e9] [d0,some (acc.map Ad)]=some (.nx,[e0,e1,e2,e3,e4,some (.lst true (k.map Ad)),some (.ref 1),some (.int (1+(i:Int))),e8,e9],[d0,some ((acc++[((k.getD i (0,0)).2,(k.getD (i+1) (0,0)).1)]).map Ad)]):=by
 have v5:Ab 5 [e0,e1,e2,e3,e4,some (.lst true (k.map Ad)),some (.ref 1),some (.int (1+(i:Int))),e8,e9] [d0,some (acc.map Ad)]=some (.lst true (k.map Ad),[d0,some (acc.map Ad)]):=rfl
 have o1:eOp Jg (Ab 7) (eC (.int 1)) [e0,e1,e2,e3,e4,some (.lst true (k.map Ad)),some (.ref 1),some (.int (1+(i:Int))),e8,e9] [d0,some (acc.map Ad)]=some (.int i,[d0,some (acc.map Ad)]):=by
  show(some (D.int (1+(i:Int)-1),_):Option (D×Store))=_
  rw[show 1+(i:Int)-1=i by omega]
 have i1:eOp oIx (Ab 5) (eOp Jg (Ab 7) (eC (.int 1))) [e0,e1,e2,e3,e4,some (.lst true (k.map Ad)),some (.ref 1),some (.int (1+(i:Int))),e8,e9] [d0,some (acc.map Ad)]=some (Ad (k.getD i (0,0)),[d0,some (acc.map Ad)]):=by
  rw[BW,v5,U0c,o1]
  show U2e _ (atI (k.map Ad) (i:Int))=_
  rw[Vk (by omega)];rfl
 have i2:eOp oIx (Ab 5) (Ab 7) [e0,e1,e2,e3,e4,some (.lst true (k.map Ad)),some (.ref 1),some (.int (1+(i:Int))),e8,e9] [d0,some (acc.map Ad)]=some (Ad (k.getD (i+1) (0,0)),[d0,some (acc.map Ad)]):=by
  rw[BW,v5,U0c]
  show U2e _ (atI (k.map Ad) (1+(i:Int)))=_
  rw[show 1+(i:Int)=((i+1:Nat):Int) by omega,Vk hi];rfl
 have i3:eOp oIx (eOp oIx (Ab 5) (eOp Jg (Ab 7) (eC (.int 1)))) (eC (.int 1)) [e0,e1,e2,e3,e4,some (.lst true (k.map Ad)),some (.ref 1),some (.int (1+(i:Int))),e8,e9] [d0,some (acc.map Ad)]=some (.int (k.getD i (0,0)).2,[d0,some (acc.map Ad)]):=by rw[BW,i1];rfl
 have i4:eOp oIx (eOp oIx (Ab 5) (Ab 7)) (eC (.int 0)) [e0,e1,e2,e3,e4,some (.lst true (k.map Ad)),some (.ref 1),some (.int (1+(i:Int))),e8,e9] [d0,some (acc.map Ad)]=some (.int (k.getD (i+1) (0,0)).1,[d0,some (acc.map Ad)]):=by rw[BW,i2];rfl
 unfold Jb
 rw[JB,Mp (d:=.ref 1) (cs:=acc.map Ad) (ds:=[Ad ((k.getD i (0,0)).2,(k.getD (i+1) (0,0)).1)]) (r:=.non) (S1:=[d0,some (acc.map Ad)]) (S2:=[d0,some (acc.map Ad)]) (S3:=[d0,some ((acc++[((k.getD i (0,0)).2,(k.getD (i+1) (0,0)).1)]).map Ad)]) rfl rfl (by
  rw[Ao,G4,Ao,i3,U0c,Ao,i4];rfl) (by
  show(if (acc.map Ad).length<1000000 then some (D.non,[d0,some (acc.map Ad++[Ad ((k.getD i (0,0)).2,(k.getD (i+1) (0,0)).1)])]) else none)=_
  rw[if_pos (by rw[U0i];omega),U1s];rfl)]
 rfl
theorem dz(k:List St2)(hk:k.length<=200)(e0 e1 e2 e3 e4 e8 e9:Option D)(d0:Option (List D)):∃y7:Option D,Le [e0,e1,e2,e3,e4,some (.lst true (k.map Ad)),some (.ref 1),none,e8,e9] [d0,some []]=some (.nx,[e0,e1,e2,e3,e4,some (.lst true (k.map Ad)),some (.ref 1),y7,e8,e9],[d0,some ((Cz k).map Ad)]):=by
 have e:Hs (Aa (eC (.int 1)) (Aa (eCB Ew (Aa (Ab 5) Af)) Af)) [e0,e1,e2,e3,e4,some (.lst true (k.map Ad)),some (.ref 1),none,e8,e9] [d0,some []]=some ((upD 1 (k.length-1),[]),[d0,some []]):=Vb (i:=1) (j:=k.length) _ (by
  show(some ([D.int 1,D.int ((k.map Ad).length:Nat)],[d0,some []]):Option (List D×Store))=_
  rw[U0i]) (by omega) (by unfold r62;omega) (by unfold r62;omega)
 obtain⟨env',S',e2',y7,he,hS⟩:=GQ (w:=[]) (g:=Pat.sem (.nm 7)) (b:=Jb) (ds:=upD 1 (k.length-1)) (env:=[e0,e1,e2,e3,e4,some (.lst true (k.map Ad)),some (.ref 1),none,e8,e9]) (S:=[d0,some []])
  (fun i env S=>∃y7:Option D,env=[e0,e1,e2,e3,e4,some (.lst true (k.map Ad)),some (.ref 1),y7,e8,e9]/\S=[d0,some (((Cz k).take i).map Ad)])
  ⟨none,rfl,by simp⟩ (fun i env S _=>by simp) (fun i d env S hd q=>by
   obtain⟨y7,he,hS⟩:=q
   obtain⟨hi,rfl⟩:=Ml hd
   subst he hS
   have hlt:((Cz k).take i).length<1000:=by rw[U2r,TF];omega
   refine⟨_,Eh _ _ _,_,_,eF k i (by omega) ((Cz k).take i) hlt e0 e1 e2 e3 e4 e8 e9 d0,_,rfl,?_⟩
   rw[U5p,qb (by omega)]
   rfl)
 subst he hS
 have tk:(Cz k).take (k.length-1)=Cz k:=by rw[←TF,U3k]
 rw[Ko,tk] at e2'
 refine⟨y7,?_⟩
 unfold Le
 rw[Gu,e]
 exact e2'
theorem eE{ps:List St2}(h:Jt ps)(k:List St2)(hk:k=pcs (Aq ps))(d1:List D)(e0 e3 e4 e7 z8 z9:Option D)(T:Store) :
  Hq [e0,some (Al true 1 (Aq ps)),some (.dref 0),e3,e4,some (.lst true (k.map Ad)),some (.ref 1),e7,z8,z9] (some [.dcm (encK (nums ps))]::some ((Cz k).map Ad)::T)=some (.nx,[e0,some (Al true 1 (Aq ps)),some (.dref 0),e3,e4,some (.lst true (k.map Ad)),some (.ref 1),e7,z8,some (.lst true [.ref (T.length+2),.ref (T.length+2+1)])],some [.dcm (encK (nums ps))]::some ((Cz k).map Ad)::(T++[some (k.map Ad++[Ad (0,1)]),some []])):=by
 have g:=h.good
 have h1:=Lz g
 have h2:=T9 g
 have h3:=bK g
 rw[qJ h] at h3
 have few:=T5 g
 have nr:=fG h
 rw[←hk] at h1 h2 few nr
 have gl:=TF k
 have ng:=gW nr
 obtain⟨T0,hT0⟩:∃T0:Store,T0=some [.dcm (encK (nums ps))]::some ((Cz k).map Ad)::T:=⟨_,rfl⟩
 have hl0:T0.length=T.length+2:=by rw[hT0];rfl
 have a1:HX Ba (Aa (Ab 1) Af) [e0,some (Al true 1 (Aq ps)),some (.dref 0),e3,e4,some (.lst true (k.map Ad)),some (.ref 1),e7,z8,z9] T0=some (.ref T0.length,T0++[some (k.map Ad)]) :=
  Qo (d':=.ref T0.length) (cs:=k.map Ad) (Dh (ds:=[Al true 1 (Aq ps)]) (es:=[Al false 1 (Aq ps)]) (S':=T0) rfl (Px ..) (Rj ..) h1) (by rw[N5,if_pos (Q7 k)])
 have a2:HX DP (Aa (Ab 1) Af) [e0,some (Al true 1 (Aq ps)),some (.dref 0),e3,e4,some (.lst true (k.map Ad)),some (.ref 1),e7,z8,z9] (T0++[some (k.map Ad)])=some (.ref (T0.length+1),T0++[some (k.map Ad)]++[some ((Cz k).map Ad)]):=by
  have:=Qo (S:=T0++[some (k.map Ad)]) (env:=[e0,some (Al true 1 (Aq ps)),some (.dref 0),e3,e4,some (.lst true (k.map Ad)),some (.ref 1),e7,z8,z9]) (sem:=DP) (a:=Aa (Ab 1) Af) (d':=.ref (T0++[some (k.map Ad)]).length) (cs:=(Cz k).map Ad) (Dh (ds:=[Al true 1 (Aq ps)]) (es:=[Al false 1 (Aq ps)]) (S':=T0++[some (k.map Ad)]) rfl (Px ..) (Rj ..) h2) (by rw[N5,if_pos (Q7 _)])
  rw[U0n] at this
  exact this
 have s1:(Bx 9 (Bp (Aa (HX Ba (Aa (Ab 1) Af)) (Aa (HX DP (Aa (Ab 1) Af)) Af)))) [e0,some (Al true 1 (Aq ps)),some (.dref 0),e3,e4,some (.lst true (k.map Ad)),some (.ref 1),e7,z8,z9] T0=some (.nx,[e0,some (Al true 1 (Aq ps)),some (.dref 0),e3,e4,some (.lst true (k.map Ad)),some (.ref 1),e7,z8,some (.lst true [.ref T0.length,.ref (T0.length+1)])],T0++[some (k.map Ad),some ((Cz k).map Ad)]):=by
  rw[DX,Dm,Ao,a1,U0c,Ao,a2,U4w];rfl
 obtain⟨U,hU⟩:∃U:Store,U=T0++[some (k.map Ad),some ((Cz k).map Ad)]:=⟨_,rfl⟩
 have u0:U[T0.length]?=some (some (k.map Ad)):=by rw[hU];simp
 have u1:U[T0.length+1]?=some (some ((Cz k).map Ad)):=by rw[hU];simp
 have u2:U[1]?=some (some ((Cz k).map Ad)):=by rw[hU,hT0];rfl
 have hp:∀l:List St2,Ay (l.map Ad)=true:=fun l=>Bt (Q7 l)
 have dk:∀(i:Nat)(l:List St2),U[i]?=some (some (l.map Ad))->den 0 U (.ref i)=some (.lst true (l.map Ad)):=fun i l hi=>by
  rw[den,if_neg (by omega),hi]
  show(if Ay (l.map Ad)=true then _ else _)=_
  rw[if_pos (hp l)]
 have tS:∀l:List St2,toP (.lst true (l.map Ad))=some (.list (l.map pS)):=fun l=>by
  have:=Va [] true l
  rw[Ce,den,Ck 0 [] (hp l)] at this
  exact this
 have se1:Ce U (.lst true [.ref T0.length,.ref (T0.length+1)])=some (.list [.list (k.map pS),.list ((Cz k).map pS)]):=by
  rw[Ce,den,CG,dk _ _ u0,U0c,CG,dk _ _ u1,U0c,CG]
  show toP (.lst true [.lst true (k.map Ad),.lst true ((Cz k).map Ad)])=_
  rw[toP,G7,tS,U0c,G7,tS,U0c,G7];rfl
 have se2:Ce U (.lst true [.lst true (k.map Ad),.ref 1])=some (.list [.list (k.map pS),.list ((Cz k).map pS)]):=by
  have d0:den 0 U (.lst true (k.map Ad))=some (.lst true (k.map Ad)):=by rw[den,Ck 0 U (hp k)];rfl
  rw[Ce,den,CG,d0,U0c,CG,dk _ _ u2,U0c,CG]
  show toP (.lst true [.lst true (k.map Ad),.lst true ((Cz k).map Ad)])=_
  rw[toP,G7,tS,U0c,G7,tS,U0c,G7];rfl
 have ft:fit [2,200,2] (.list [.list (k.map pS),.list ((Cz k).map pS)])=true:=by
  refine(TJ [200,2] 2 _ (by simp) fun x hx=>?_).1
  rcases U0r.mp hx with z|z
  .rw[z];exact Zz (by omega) nr
  .rw[U0w.mp z];exact Zz (by omega) ng
 have r1:=T4 se1 ft (by decide) (by decide)
 have r2:=T4 se2 ft (by decide) (by decide)
 have k1:Bo (eOp (MF true) (eCB Eb (Aa (Ab 9) Af)) (eCB Eb (Aa (Bp (Aa (Ab 5) (Aa (Ab 6) Af))) Af))) [e0,some (Al true 1 (Aq ps)),some (.dref 0),e3,e4,some (.lst true (k.map Ad)),some (.ref 1),e7,z8,some (.lst true [.ref T0.length,.ref (T0.length+1)])] U=some (false,U):=by
  have c1:eCB Eb (Aa (Ab 9) Af) [e0,some (Al true 1 (Aq ps)),some (.dref 0),e3,e4,some (.lst true (k.map Ad)),some (.ref 1),e7,z8,some (.lst true [.ref T0.length,.ref (T0.length+1)])] U=some (.str (U3v (.list [.list (k.map pS),.list ((Cz k).map pS)])),U):=by
   show U2e _ (Eb U [.lst true [.ref T0.length,.ref (T0.length+1)]])=_
   rw[r1];rfl
  have c2:eCB Eb (Aa (Bp (Aa (Ab 5) (Aa (Ab 6) Af))) Af) [e0,some (Al true 1 (Aq ps)),some (.dref 0),e3,e4,some (.lst true (k.map Ad)),some (.ref 1),e7,z8,some (.lst true [.ref T0.length,.ref (T0.length+1)])] U=some (.str (U3v (.list [.list (k.map pS),.list ((Cz k).map pS)])),U):=by
   show U2e _ (Eb U [.lst true [.lst true (k.map Ad),.ref 1]])=_
   rw[r2];rfl
  rw[Df,BW,c1,U0c,c2,U0c]
  simp[MF]
 have nf:=(Qs h ps.length).1
 rw[U3k] at nf
 have r3:Eb U [.int ((nums ps).length:Nat)]=some (.str (U3v (.int ((nums ps).length:Nat)))):=T4 (ws:=[]) (dg U _) (decide_eq_true (by
  show((nums ps).length:Int).natAbs<10^41
  exact U3t (m:=135) (by omega) (by decide))) (by decide) (by decide)
 have k2:Bo (eOp (MF true) (eCB Eb (Aa (BL Cm (Aa (Ab 1) Af)) Af)) (eCB Eb (Aa (eCB KZ (Aa (Ab 2) Af)) Af))) [e0,some (Al true 1 (Aq ps)),some (.dref 0),e3,e4,some (.lst true (k.map Ad)),some (.ref 1),e7,z8,some (.lst true [.ref T0.length,.ref (T0.length+1)])] U=some (false,U):=by
  have c0:BL Cm (Aa (Ab 1) Af) [e0,some (Al true 1 (Aq ps)),some (.dref 0),e3,e4,some (.lst true (k.map Ad)),some (.ref 1),e7,z8,some (.lst true [.ref T0.length,.ref (T0.length+1)])] U=some (.int ((nums ps).length:Nat),U) :=
   Dh (ds:=[Al true 1 (Aq ps)]) (es:=[Al false 1 (Aq ps)]) (S':=U) rfl (Px ..) (Rj ..) h3
  have c1:eCB Eb (Aa (BL Cm (Aa (Ab 1) Af)) Af) [e0,some (Al true 1 (Aq ps)),some (.dref 0),e3,e4,some (.lst true (k.map Ad)),some (.ref 1),e7,z8,some (.lst true [.ref T0.length,.ref (T0.length+1)])] U=some (.str (U3v (.int ((nums ps).length:Nat))),U):=by
   rw[Ey,Ao,c0]
   show U2e _ (Eb U [.int ((nums ps).length:Nat)])=_
   rw[r3];rfl
  have c3:eCB KZ (Aa (Ab 2) Af) [e0,some (Al true 1 (Aq ps)),some (.dref 0),e3,e4,some (.lst true (k.map Ad)),some (.ref 1),e7,z8,some (.lst true [.ref T0.length,.ref (T0.length+1)])] U=some (.int ((nums ps).length:Nat),U):=by
   have:U[0]?=some (some [.dcm (encK (nums ps))]):=by rw[hU,hT0];rfl
   show U2e _ (KZ U [.dref 0])=_
   have d0:KZ U [.dref 0]=some (.int ((encK (nums ps)).length:Nat)):=by
    show(dictOf U (.dref 0)).map _=_
    rw[Zc this];rfl
   rw[d0]
   unfold encK
   rw[U0i];rfl
  have c2:eCB Eb (Aa (eCB KZ (Aa (Ab 2) Af)) Af) [e0,some (Al true 1 (Aq ps)),some (.dref 0),e3,e4,some (.lst true (k.map Ad)),some (.ref 1),e7,z8,some (.lst true [.ref T0.length,.ref (T0.length+1)])] U=some (.str (U3v (.int ((nums ps).length:Nat))),U):=by
   rw[Ey,Ao,c3]
   show U2e _ (Eb U [.int ((nums ps).length:Nat)])=_
   rw[r3];rfl
  rw[Df,BW,c1,U0c,c2,U0c]
  simp[MF]
 have s2:(sIf (VS.tOr (Bo (eOp (MF true) (eCB Eb (Aa (Ab 9) Af)) (eCB Eb (Aa (Bp (Aa (Ab 5) (Aa (Ab 6) Af))) Af)))) (Bo (eOp (MF true) (eCB Eb (Aa (BL Cm (Aa (Ab 1) Af)) Af)) (eCB Eb (Aa (eCB KZ (Aa (Ab 2) Af)) Af))))) (Cy (eC (.bl false))) FW) [e0,some (Al true 1 (Aq ps)),some (.dref 0),e3,e4,some (.lst true (k.map Ad)),some (.ref 1),e7,z8,some (.lst true [.ref T0.length,.ref (T0.length+1)])] U=some (.nx,[e0,some (Al true 1 (Aq ps)),some (.dref 0),e3,e4,some (.lst true (k.map Ad)),some (.ref 1),e7,z8,some (.lst true [.ref T0.length,.ref (T0.length+1)])],U):=by
  rw[JR (by
   rw[RV,k1]
   simp only[U0c,U1z,if_false]
   exact k2)]
  rfl
 have s3:(Ig (GZ GC (eOp oIx (Ab 9) (eC (.int 0))) (Aa (BR (Aa (eC (.int 0)) (Aa (eC (.int 1)) Af))) Af))) [e0,some (Al true 1 (Aq ps)),some (.dref 0),e3,e4,some (.lst true (k.map Ad)),some (.ref 1),e7,z8,some (.lst true [.ref T0.length,.ref (T0.length+1)])] U=some (.nx,[e0,some (Al true 1 (Aq ps)),some (.dref 0),e3,e4,some (.lst true (k.map Ad)),some (.ref 1),e7,z8,some (.lst true [.ref T0.length,.ref (T0.length+1)])],T0++[some (k.map Ad++[Ad (0,1)]),some ((Cz k).map Ad)]):=by
  rw[JB,Mp (d:=.ref T0.length) (cs:=k.map Ad) (ds:=[Ad (0,1)]) (r:=.non) (S1:=U) (S2:=U) (S3:=T0++[some (k.map Ad++[Ad (0,1)]),some ((Cz k).map Ad)]) rfl (by rw[VS.listOf,u0];rfl) rfl (by
   unfold GC
   simp only[u0]
   rw[if_pos (by rw[U0i];omega),hU,cR])]
  rfl
 have s4:(Ig (GZ Ob (eOp oIx (Ab 9) (eC (.int 1))) Af)) [e0,some (Al true 1 (Aq ps)),some (.dref 0),e3,e4,some (.lst true (k.map Ad)),some (.ref 1),e7,z8,some (.lst true [.ref T0.length,.ref (T0.length+1)])] (T0++[some (k.map Ad++[Ad (0,1)]),some ((Cz k).map Ad)])=some (.nx,[e0,some (Al true 1 (Aq ps)),some (.dref 0),e3,e4,some (.lst true (k.map Ad)),some (.ref 1),e7,z8,some (.lst true [.ref T0.length,.ref (T0.length+1)])],T0++[some (k.map Ad++[Ad (0,1)]),some []]):=by
  have w1:=uz T0 (some (k.map Ad++[Ad (0,1)])) (some ((Cz k).map Ad)) []
  rw[JB,Mp (d:=.ref (T0.length+1)) (cs:=(Cz k).map Ad) (ds:=[]) (r:=.non) (S1:=T0++[some (k.map Ad++[Ad (0,1)]),some ((Cz k).map Ad)]) (S2:=T0++[some (k.map Ad++[Ad (0,1)]),some ((Cz k).map Ad)]) (S3:=T0++[some (k.map Ad++[Ad (0,1)]),some []]) rfl (by rw[VS.listOf,w1];rfl) rfl (by
   unfold Ob
   simp only[w1]
   rw[ud])]
  rfl
 have fin:Hq [e0,some (Al true 1 (Aq ps)),some (.dref 0),e3,e4,some (.lst true (k.map Ad)),some (.ref 1),e7,z8,z9] T0=some (.nx,[e0,some (Al true 1 (Aq ps)),some (.dref 0),e3,e4,some (.lst true (k.map Ad)),some (.ref 1),e7,z8,some (.lst true [.ref T0.length,.ref (T0.length+1)])],T0++[some (k.map Ad++[Ad (0,1)]),some []]):=by
  unfold Hq
  rw[Bl s1,←hU,Bl s2,Bl s3,s4]
 rw[←hT0,fin,hl0,hT0];rfl
theorem dw{ps:List St2}(h:Jt ps):Fx [.lst false ((Aq ps).map Ag)]=some (.bl true):=by
 have s1:(Bx 1 (BR (Aa (eC (.int 1)) (Aa (RT nList (Aa (Ab 0) Af)) Af)))) [some (.lst false ((Aq ps).map Ag)),none,none,none,none,none,none,none,none,none] []=some (.nx,[some (.lst false ((Aq ps).map Ag)),some (Al true 1 (Aq ps)),none,none,none,none,none,none,none,none],[]):=by
  simp[DX,BP,Ed,CQ,Ao,G4,gY,nList,VS.listOf,Cg,-U0f,-U0h,Al]
 have s2:(Bx 2 Z0) [some (.lst false ((Aq ps).map Ag)),some (Al true 1 (Aq ps)),none,none,none,none,none,none,none,none] []=some (.nx,[some (.lst false ((Aq ps).map Ag)),some (Al true 1 (Aq ps)),some (.dref 0),none,none,none,none,none,none,none],[some [.dcm []]]):=rfl
 obtain⟨y3,y4,l2⟩:=oV ps h (some (Al true 1 (Aq ps))) none none none none none
 obtain⟨k,hk⟩:∃k:List St2,k=pcs (Aq ps):=⟨_,rfl⟩
 have nb:=Qs h ps.length
 rw[U3k] at nb
 have hr:=jP (nums ps) nb.2
 rw[←pP h,←hk] at hr
 have few:=T5 h.good
 rw[←hk] at few
 have c1:BL Fe (Aa (Ab 2) Af) [some (.lst false ((Aq ps).map Ag)),some (Al true 1 (Aq ps)),some (.dref 0),y3,y4,none,none,none,none,none] [some [.dcm (encK (nums ps))]]=some (.lst true (k.map Ad),[some [.dcm (encK (nums ps))]]) :=
  cI (ds:=[.dref 0]) (es:=[.dcf (encK (nums ps))]) (fs:=[.dcf (encK (nums ps))]) rfl (by simp[CG,den]) (by simp[Br,age]) hr (by rw[newD,K6 (Q7 k)];rfl)
 have s3:(Bx 5 (BL Fe (Aa (Ab 2) Af))) [some (.lst false ((Aq ps).map Ag)),some (Al true 1 (Aq ps)),some (.dref 0),y3,y4,none,none,none,none,none] [some [.dcm (encK (nums ps))]]=some (.nx,[some (.lst false ((Aq ps).map Ag)),some (Al true 1 (Aq ps)),some (.dref 0),y3,y4,some (.lst true (k.map Ad)),none,none,none,none],[some [.dcm (encK (nums ps))]]):=by
  rw[DX,c1];rfl
 have s4:(Bx 6 (K9 Af)) [some (.lst false ((Aq ps).map Ag)),some (Al true 1 (Aq ps)),some (.dref 0),y3,y4,some (.lst true (k.map Ad)),none,none,none,none] [some [.dcm (encK (nums ps))]]=some (.nx,[some (.lst false ((Aq ps).map Ag)),some (Al true 1 (Aq ps)),some (.dref 0),y3,y4,some (.lst true (k.map Ad)),some (.ref 1),none,none,none],[some [.dcm (encK (nums ps))],some []]):=rfl
 obtain⟨y7,l3⟩:=dz k (by omega) (some (.lst false ((Aq ps).map Ag))) (some (Al true 1 (Aq ps))) (some (.dref 0)) y3 y4 none none (some [.dcm (encK (nums ps))])
 have e:Ht (Aa (eC (.int 2)) Af) [some (.lst false ((Aq ps).map Ag)),some (Al true 1 (Aq ps)),some (.dref 0),y3,y4,some (.lst true (k.map Ad)),some (.ref 1),y7,none,none] [some [.dcm (encK (nums ps))],some ((Cz k).map Ad)]=some ((upD 0 2,[]),[some [.dcm (encK (nums ps))],some ((Cz k).map Ad)]):=Vc (j:=2) 2 rfl (by decide) (by decide) (by decide)
 obtain⟨env',S',e2,z8,z9,T,he,hS⟩:=GQ (w:=[]) (g:=Pat.sem (.nm 8)) (b:=Hq) (ds:=upD 0 2) (env:=[some (.lst false ((Aq ps).map Ag)),some (Al true 1 (Aq ps)),some (.dref 0),y3,y4,some (.lst true (k.map Ad)),some (.ref 1),y7,none,none]) (S:=[some [.dcm (encK (nums ps))],some ((Cz k).map Ad)])
  (fun _ env S=>∃(z8 z9:Option D)(T:Store),env=[some (.lst false ((Aq ps).map Ag)),some (Al true 1 (Aq ps)),some (.dref 0),y3,y4,some (.lst true (k.map Ad)),some (.ref 1),y7,z8,z9]/\S=some [.dcm (encK (nums ps))]::some ((Cz k).map Ad)::T)
  ⟨none,none,[],rfl,rfl⟩ (fun i env S _=>by simp) (fun i d env S hd q=>by
   obtain⟨z8,z9,T,he,hS⟩:=q
   subst he hS
   exact⟨_,Eh _ _ _,_,_,eE h k hk [] _ _ _ _ _ _ T,_,_,_,rfl,rfl⟩)
 subst he hS
 have l4:Ld [some (.lst false ((Aq ps).map Ag)),some (Al true 1 (Aq ps)),some (.dref 0),y3,y4,some (.lst true (k.map Ad)),some (.ref 1),y7,none,none] [some [.dcm (encK (nums ps))],some ((Cz k).map Ad)]=some (.nx,[some (.lst false ((Aq ps).map Ag)),some (Al true 1 (Aq ps)),some (.dref 0),y3,y4,some (.lst true (k.map Ad)),some (.ref 1),y7,z8,z9],some [.dcm (encK (nums ps))]::some ((Cz k).map Ad)::T):=by
  unfold Ld
  rw[Gu,e]
  exact e2
 unfold Fx
 rw[Dg]
 simp only[U0e,U1h,U0t,U1u,U2h,U2i,U0u,U1o,U2k,U11,if_true]
 unfold QW
 rw[Bl s1,Bl s2,Bl l2,Bl s3,Bl s4,Bl l3,Bl l4,Cq,BW]
 show((U2e _ (eqP false (some [.dcm (encK (nums ps))]::some ((Cz k).map Ad)::T) (Al true 1 (Aq ps)) (Al false 1 (Aq ps)))).bind _).bind _=_
 rw[lF];rfl
end W07
end
section
namespace W07
open PySem L2 VS
def ins(x:Int):List Int->List Int
 |[]=>[x]
 |y::r=>if x<=y then x::y::r else y::ins x r
def RP:List Int->List Int
 |[]=>[]
 |x::r=>ins x (RP r)
theorem Qx(x:Int):∀l:List Int,(ins x l).Perm (x::l)
 |[]=>.refl _
 |y::r=>by
  rw[ins]
  split
  .exact .refl _
  .exact((Qx x r).cons y).trans (.swap ..)
theorem Rv:∀l:List Int,(RP l).Perm l
 |[]=>.refl _
 |x::r=>(Qx x _).trans ((Rv r).cons x)
theorem WK(x:Int):∀{l:List Int},l.Pairwise (·<=·)->(ins x l).Pairwise (·<=·)
 |[],_=>by simp[ins]
 |y::r,h=>by
  obtain⟨h1,h2⟩:=U1i.mp h
  rw[ins]
  split
  .rename_i q
   refine U1i.mpr ⟨fun z hz=>?_,h⟩
   rcases U0r.mp hz with e|e
   .omega
   .have:=h1 z e;omega
  .refine U1i.mpr ⟨fun z hz=>?_,WK x h2⟩
   rcases U0r.mp ((Qx x r).mem_iff.mp hz) with e|e
   .omega
   .exact h1 z e
theorem Ru:∀l:List Int,(RP l).Pairwise (·<=·)
 |[]=>.nil
 |x::r=>WK x (Ru r)
theorem dR(ns:List Int):FN ns=RP (SetP.once ns):=(Rk (Rv _) (Ru _)).symm
def Vi(bs:List (List St2)):Nat->Nat->List Nat->List (List St2×List Nat)
 |0,_,ns=>if ns=[] then [] else [([],ns)]
 |k+1,w,ns=>if ns=[] then [] else (steps (RP (SetP.once (ns.map (fun i=>(at1 bs i w).1)++ns.map (fun i=>(at1 bs i w).2))))).flatMap fun p=>(Vi bs k (w+1) (Dy bs w p.1 ns)).map fun c=>(p::c.1,c.2)
theorem PB(bs:List (List St2)):∀(k w:Nat)(ns:List Nat),Bg bs k w ns=Vi bs k w ns
 |0,_,_=>rfl
 |k+1,w,ns=>by
  rw[Bg,Vi,Cj,dR]
  simp only[PB bs k]
end W07
end
section
namespace W07
open PySem L2 VS
theorem pZ{bs:List (List St2)}(h:∀b∈bs,b.length=1):bs=Aq (bs.map fun b=>b.getD 0 (0,0)):=by
 unfold Aq
 rw[U0f]
 refine(List.map_id bs).symm.trans (U6e fun b hb=>?_)
 obtain⟨p,hp⟩:=U5z.mp (h b hb)
 rw[hp];rfl
theorem oO(r:Int)(h0:0<=r)(h1:r<4):∃r0 r1:Int,atI [D.tup [.int 0,.int 6],.tup [.int (-3),.int 8],.tup [.int 0,.int 13],.tup [.int (-20),.int 41]] r=some (.tup [.int r0,.int r1])/\-20<=r0/\0<r1/\r0+r1<=21:=by
 have:r=0∨r=1∨r=2∨r=3:=by omega
 rcases this with rfl|rfl|rfl|rfl
 .exact⟨0,6,rfl,by decide⟩
 .exact⟨-3,8,rfl,by decide⟩
 .exact⟨0,13,rfl,by decide⟩
 .exact⟨-20,41,rfl,by decide⟩
theorem ju{bs:List (List St2)}{r0 r1:Int}(h1:-20<=r0)(h2:r0+r1<=21)(hl:bs.length<=20)(hb:∀b∈bs,b.length=1/\InB r0 r1 20 b):Jt (bs.map fun b=>b.getD 0 (0,0)):=by
 refine⟨by rw[U0i];exact hl,fun p hp=>?_⟩
 obtain⟨b,hb',rfl⟩:=U16.mp hp
 obtain⟨b1,b2⟩:=hb b hb'
 obtain⟨q,rfl⟩:=U5z.mp b1
 obtain⟨g1,g2,g3,g4⟩:=b2 q U0g
 show -25<=q.1/\q.1<q.2/\q.2<=110
 omega
theorem jF(ns:List Int)(c:Int)(z2 z3 z4:Option D)(S:Store):∃(S':Store)(y2 y3:Option D),Rg [some (.scr ns),some (.int c),z2,z3,z4] S=some (.nx,[some (.scr ns),some (.int c),y2,y3,z4],S'):=by
 obtain⟨x0,p0⟩:=jB c
 have s1:(Bx 2 (HX Fd (Aa (Ab 1) Af))) [some (.scr ns),some (.int c),z2,z3,z4] S=some (.nx,[some (.scr ns),some (.int c),some (.ref S.length),z3,z4],S++[some [.int x0,.int c,.int 0]]):=by
  rw[DX,Qo (d':=.ref S.length) (cs:=[.int x0,.int c,.int 0]) (Dh (ds:=[.int c]) (es:=[.int c]) (S':=S) rfl (by simp[Ay,Bb]) (by simp[Br,age]) p0) (by simp[N5,Dn,CJ])]
  rfl
 obtain⟨r,x1,z5,d1,⟨r0',r1'⟩,k1,k2⟩:=Gh x0 c 0 4 (by decide) (by decide) (by decide) (by decide)
 obtain⟨r0,r1,f1,h1,h2,h3⟩:=oO r r0' r1'
 obtain⟨bs,x2,z6,e1,bl,bb,k3,k4⟩:=iD x1 c z5 r0 r1 1 20 (by decide) (by decide) (by decide) (by decide) (by omega) h2 (by omega) (by omega) (by omega)
 have hone:=pZ fun b hb=>(bb b hb).1
 have hn:=ju h1 h3 bl bb
 have hr:=dw hn
 rw[←hone] at hr
 have c1:Bj Am (Aa (Ab 2) (Aa (eC (.int 4)) Af)) [some (.scr ns),some (.int c),some (.ref S.length),z3,z4] (S++[some [.int x0,.int c,.int 0]])=some (.int r,S++[some [.int x1,.int c,.int z5]]):=by
  rw[Nj (ns:=[x0,c,0]) (rest:=[.int 4]) (es:=[.int 4]) (i:=S.length) (S':=S++[some [.int x0,.int c,.int 0]]) rfl (nu S _ []) (by simp[Ay,Bb]) (by simp[Br,age]) d1,cR];rfl
 have s2:(Bx 3 (eOp oIx (Bp (Aa (BR (Aa (eC (.int 0)) (Aa (eC (.int 6)) Af))) (Aa (BR (Aa (eUn Dp (eC (.int 3))) (Aa (eC (.int 8)) Af))) (Aa (BR (Aa (eC (.int 0)) (Aa (eC (.int 13)) Af))) (Aa (BR (Aa (eUn Dp (eC (.int 20))) (Aa (eC (.int 41)) Af))) Af))))) (Bj Am (Aa (Ab 2) (Aa (eC (.int 4)) Af))))) [some (.scr ns),some (.int c),some (.ref S.length),z3,z4] (S++[some [.int x0,.int c,.int 0]])=some (.nx,[some (.scr ns),some (.int c),some (.ref S.length),some (.tup [.int r0,.int r1]),z4],S++[some [.int x1,.int c,.int z5]]):=by
  have q0:(Bp (Aa (BR (Aa (eC (.int 0)) (Aa (eC (.int 6)) Af))) (Aa (BR (Aa (eUn Dp (eC (.int 3))) (Aa (eC (.int 8)) Af))) (Aa (BR (Aa (eC (.int 0)) (Aa (eC (.int 13)) Af))) (Aa (BR (Aa (eUn Dp (eC (.int 20))) (Aa (eC (.int 41)) Af))) Af))))) [some (.scr ns),some (.int c),some (.ref S.length),z3,z4] (S++[some [.int x0,.int c,.int 0]])=some (.lst true [.tup [.int 0,.int 6],.tup [.int (-3),.int 8],.tup [.int 0,.int 13],.tup [.int (-20),.int 41]],S++[some [.int x0,.int c,.int 0]]):=rfl
  rw[DX,BW,q0,U0c,c1,U0c]
  show(U2e _ (atI [D.tup [.int 0,.int 6],.tup [.int (-3),.int 8],.tup [.int 0,.int 13],.tup [.int (-20),.int 41]] r)).bind _=_
  rw[f1];rfl
 have c2:Bj Et (Aa (Ab 2) (Aa (eC (.int 1)) (Aa (Ab 3) (Aa (eC (.int 20)) Af)))) [some (.scr ns),some (.int c),some (.ref S.length),some (.tup [.int r0,.int r1]),z4] (S++[some [.int x1,.int c,.int z5]])=some (.lst true (bs.map Ag),S++[some [.int x2,.int c,.int z6]]):=by
  rw[Nj (ns:=[x1,c,z5]) (rest:=[.int 1,.tup [.int r0,.int r1],.int 20]) (es:=[.int 1,.tup [.int r0,.int r1],.int 20]) (i:=S.length) (S':=S++[some [.int x1,.int c,.int z5]]) rfl (nu S _ []) (by simp[Ay,Bb]) (by simp[Br,age]) e1,cR];rfl
 have pB:=Bt (DN bs)
 have aB:Br (bs.map Ag)=bs.map Ag:=Gj (DN bs)
 have c3:BL Fx (Aa (Bj Et (Aa (Ab 2) (Aa (eC (.int 1)) (Aa (Ab 3) (Aa (eC (.int 20)) Af))))) Af) [some (.scr ns),some (.int c),some (.ref S.length),some (.tup [.int r0,.int r1]),z4] (S++[some [.int x1,.int c,.int z5]])=some (.bl true,S++[some [.int x2,.int c,.int z6]]) :=
  Dh (ds:=[.lst true (bs.map Ag)]) (es:=[.lst false (bs.map Ag)]) (by rw[Ao,c2];rfl) (by rw[Ay,Bb,pB,Ay];rfl) (by rw[Br,age,aB,Br]) hr
 refine⟨S++[some [.int x2,.int c,.int z6]],some (.ref S.length),some (.tup [.int r0,.int r1]),?_⟩
 unfold Rg
 rw[Bl s1,Bl s2,JR (by rw[Sx,Df,c3];rfl)]
 rfl
theorem fj:∀ns:List Int,ns.length<=63->T3 [.scr ns]=some (.bl true):=by
 intro ns hns
 obtain⟨l,e⟩:∃l:List Int,Ez (eOp Bw (Bp (Aa (eC (.int 0)) Af)) (eSl oSl (Ab 0) GX (GR (eC (.int 15))))) [some (.scr ns),none,none,none,none] []=some ((l.map .int,[]),[]):=by
  obtain⟨cs,hc,hl⟩:∃cs:List Int,cut (ns.map D.int) none (some 15)=cs.map D.int/\cs.length<=63:=by
   unfold cut
   rw[←List.map_drop,←List.map_take]
   exact⟨_,rfl,by rw[U2r,U6v];omega⟩
  refine⟨0::cs,?_⟩
  have a1:eSl oSl (Ab 0) GX (GR (eC (.int 15))) [some (.scr ns),none,none,none,none] []=some (.lst true (cs.map .int),[]):=by
   show(some (D.lst true (cut (ns.map D.int) none (some 15)),([]:Store)):Option (D×Store))=_
   rw[hc]
  have a2:Bp (Aa (eC (.int 0)) Af) [some (.scr ns),none,none,none,none] []=some (.lst true [.int 0],[]):=rfl
  rw[Gv,BW,a2,U0c,a1,U0c]
  show(U2e _ (if 1+(cs.map D.int).length<=1000000 then some (D.lst true ([.int 0]++cs.map D.int)) else none)).bind _=_
  rw[if_pos (by rw[U0i];omega)]
  rfl
 have l1:∃env' S',Vf [some (.scr ns),none,none,none,none] []=some (.nx,env',S')/\∃y1 y2 y3,env'=[some (.scr ns),y1,y2,y3,none]:=by
  unfold Vf
  rw[Gu,e]
  exact GQ (w:=[]) (g:=Pat.sem (.nm 1)) (b:=Rg) (ds:=l.map .int) (env:=[some (.scr ns),none,none,none,none]) (S:=[])
   (fun _ env S=>∃y1 y2 y3,env=[some (.scr ns),y1,y2,y3,none]) ⟨_,_,_,rfl⟩ (fun i env S _=>by simp) (fun j d env S hd q=>by
    obtain⟨y1,y2,y3,he⟩:=q
    rw[U05] at hd
    obtain⟨c,hc,rfl⟩:=U3r.mp hd
    subst he
    obtain⟨S',w2,w3,e3⟩:=jF ns c y2 y3 none S
    exact⟨_,Eh _ _ _,_,_,e3,_,_,_,rfl⟩)
 obtain⟨env',S',l1,y1,y2,y3,he⟩:=l1
 subst he
 have gA:Good 1 (Aq [(0,2),(5,6),(2,4),(-3,-1)]):=T7 (by decide) (by decide)
 have gB:Good 1 (Aq []):=T7 (by decide) (by decide)
 have vA:pcs (Aq [((0:Int),(2:Int)),(5,6),(2,4),(-3,-1)])=[(-3,-1),(0,4),(5,6)]:=by
  unfold pcs
  rw[←Im,PB]
  decide +kernel
 have vB:pcs (Aq [])=[]:=by
  unfold pcs
  rw[←Im,PB]
  decide +kernel
 have hA:=Lz gA
 have hA2:=T9 gA
 have hB:=Lz gB
 have hB2:=T9 gB
 rw[vA] at hA hA2
 rw[vB] at hB hB2
 have s2:(Bx 4 (BR (Aa (eC (.int 1)) (Aa (Bp (Aa (BR (Aa (BR (Aa (eC (.int 0)) (Aa (eC (.int 2)) Af))) Af)) (Aa (BR (Aa (BR (Aa (eC (.int 5)) (Aa (eC (.int 6)) Af))) Af)) (Aa (BR (Aa (BR (Aa (eC (.int 2)) (Aa (eC (.int 4)) Af))) Af)) (Aa (BR (Aa (BR (Aa (eUn Dp (eC (.int 3))) (Aa (eUn Dp (eC (.int 1))) Af))) Af)) Af))))) Af)))) [some (.scr ns),y1,y2,y3,none] S'=some (.nx,[some (.scr ns),y1,y2,y3,some (Al true 1 (Aq [(0,2),(5,6),(2,4),(-3,-1)]))],S'):=rfl
 have pH:∀bs:List (List St2),Ay [Al true 1 bs]=true:=Px 1
 have aH:∀bs:List (List St2),Br [Al true 1 bs]=[Al false 1 bs]:=Rj 1
 have cA:BL Ba (Aa (Ab 4) Af) [some (.scr ns),y1,y2,y3,some (Al true 1 (Aq [(0,2),(5,6),(2,4),(-3,-1)]))] S'=some (.lst true ([((-3:Int),(-1:Int)),(0,4),(5,6)].map Ad),S') :=
  Dh (ds:=[Al true 1 (Aq [(0,2),(5,6),(2,4),(-3,-1)])]) (es:=[Al false 1 (Aq [(0,2),(5,6),(2,4),(-3,-1)])]) (S':=S') rfl (pH _) (aH _) hA
 have cA2:BL DP (Aa (Ab 4) Af) [some (.scr ns),y1,y2,y3,some (Al true 1 (Aq [(0,2),(5,6),(2,4),(-3,-1)]))] S'=some (.lst true ([((-1:Int),(0:Int)),(4,5)].map Ad),S') :=
  Dh (ds:=[Al true 1 (Aq [(0,2),(5,6),(2,4),(-3,-1)])]) (es:=[Al false 1 (Aq [(0,2),(5,6),(2,4),(-3,-1)])]) (S':=S') rfl (pH _) (aH _) hA2
 have cB:∀e4:Option D,BL Ba (Aa (BR (Aa (eC (.int 1)) (Aa (Bp Af) Af))) Af) [some (.scr ns),y1,y2,y3,e4] S'=some (.lst true [],S'):=fun e4 =>
  Dh (ds:=[Al true 1 (Aq [])]) (es:=[Al false 1 (Aq [])]) (S':=S') rfl (pH _) (aH _) hB
 have cB2:∀e4:Option D,BL DP (Aa (BR (Aa (eC (.int 1)) (Aa (Bp Af) Af))) Af) [some (.scr ns),y1,y2,y3,e4] S'=some (.lst true [],S'):=fun e4 =>
  Dh (ds:=[Al true 1 (Aq [])]) (es:=[Al false 1 (Aq [])]) (S':=S') rfl (pH _) (aH _) hB2
 have lv:∀l:List St2,lev 2 (.list (l.map pS))=true:=fun l=>by
  show(l.map pS).all (lev 1)=true
  rw[U3j]
  intro x hx
  obtain⟨p,_,rfl⟩:=U16.mp hx
  exact Zv 0 p
 have eqS:∀(neg:Bool)(l:List St2),oEq neg S' (.lst true (l.map Ad)) (.lst true (l.map Ad))=some (.bl (neg ^^ true)):=fun neg l=>R0 2 (Va S' true l) (Va S' true l) (lv l) (by decide)
 have tA:Bo (eOp (oEq true) (BL Ba (Aa (Ab 4) Af)) (Bp (Aa (BR (Aa (eUn Dp (eC (.int 3))) (Aa (eUn Dp (eC (.int 1))) Af))) (Aa (BR (Aa (eC (.int 0)) (Aa (eC (.int 4)) Af))) (Aa (BR (Aa (eC (.int 5)) (Aa (eC (.int 6)) Af))) Af))))) [some (.scr ns),y1,y2,y3,some (Al true 1 (Aq [(0,2),(5,6),(2,4),(-3,-1)]))] S'=some (false,S'):=by
  have f0:(Bp (Aa (BR (Aa (eUn Dp (eC (.int 3))) (Aa (eUn Dp (eC (.int 1))) Af))) (Aa (BR (Aa (eC (.int 0)) (Aa (eC (.int 4)) Af))) (Aa (BR (Aa (eC (.int 5)) (Aa (eC (.int 6)) Af))) Af)))) [some (.scr ns),y1,y2,y3,some (Al true 1 (Aq [(0,2),(5,6),(2,4),(-3,-1)]))] S'=some (.lst true ([((-3:Int),(-1:Int)),(0,4),(5,6)].map Ad),S'):=rfl
  rw[Df,BW,cA,U0c,f0,U0c,eqS];rfl
 have tB:Bo (eOp (oEq true) (BL DP (Aa (Ab 4) Af)) (Bp (Aa (BR (Aa (eUn Dp (eC (.int 1))) (Aa (eC (.int 0)) Af))) (Aa (BR (Aa (eC (.int 4)) (Aa (eC (.int 5)) Af))) Af)))) [some (.scr ns),y1,y2,y3,some (Al true 1 (Aq [(0,2),(5,6),(2,4),(-3,-1)]))] S'=some (false,S'):=by
  have f0:(Bp (Aa (BR (Aa (eUn Dp (eC (.int 1))) (Aa (eC (.int 0)) Af))) (Aa (BR (Aa (eC (.int 4)) (Aa (eC (.int 5)) Af))) Af))) [some (.scr ns),y1,y2,y3,some (Al true 1 (Aq [(0,2),(5,6),(2,4),(-3,-1)]))] S'=some (.lst true ([((-1:Int),(0:Int)),(4,5)].map Ad),S'):=rfl
  rw[Df,BW,cA2,U0c,f0,U0c,eqS];rfl
 have eN:∀S:Store,oEq false S (.lst true []) (.lst true [])=some (.bl true):=fun S=>R0 (p:=.list []) 1 (by simp[Ce,VS.den,CG,toP,G7]) (by simp[Ce,VS.den,CG,toP,G7]) rfl (by decide)
 unfold T3
 rw[Dg]
 simp only[U0e,U1h,U0t,U1u,U2h,U2i,U0u,U1o,U2k,U11,if_true]
 unfold iu
 rw[Bl l1,Bl s2,G9,JR (by
  rw[RV,tA]
  simp only[U0c,U1z,if_false]
  exact tB)]
 simp[Gs,Cq,Q8,BW,Dm,CQ,cB,cB2,eN,den]
end W07
end
section
namespace W07
open PySem PySem.Spec L2 VS
theorem Jf:∀{us:List Value},us.length=1->∃a0,us=[a0]
 |[a0],_=>⟨a0,rfl⟩
theorem O6:∀{us:List Value},us.length=2->∃a0 a1,us=[a0,a1]
 |[a0,a1],_=>⟨a0,a1,rfl⟩
theorem cP:∀{us:List Value},us.length=4->∃a0 a1 a2 a3,us=[a0,a1,a2,a3]
 |[a0,a1,a2,a3],_=>⟨a0,a1,a2,a3,rfl⟩
theorem tops{l:U58}{w:World}{K:U0a}{h:Heap}{mg:Str->Option Value}{fa dM:Addr}{f1 f2 f3 f4 f5 f6 f7 f8 f9 f10 f11 f12 f13 f14 f15 f16 f17 f18 f19 f20 f21 f22 f23 f24 f25:Addr}(X:K.In h)(G:h.Ns mainGlobals mg)(hfa:mg "law"=some (.ref fa))
  {od1 an1 od2 an2 od3 an3 od4 an4 od5 an5 od6 an6 od7 an7 od8 an8 od9 an9 od10 an10 od11 an11 od12 an12 od13 an13 od14 an14 od15 an15 od16 an16 od17 an17 od18 an18 od19 an19 od20 an20 od21 an21 od22 an22 od23 an23 od24 an24 od25 an25:Option Addr} {sl1 sl2 sl3 sl4 sl5 sl6 sl7 sl8 sl9 sl10 sl11 sl12 sl13 sl14 sl15 sl16 sl17 sl18 sl19 sl20 sl21 sl22 sl23 sl24 sl25:Array (Option Value)} {oc1 kV1 dc1 pm1 cd1 ct1 oc2 kV2 dc2 pm2 cd2 ct2 oc3 kV3 dc3 pm3 cd3 ct3 oc4 kV4 dc4 pm4 cd4 ct4 oc5 kV5 dc5 pm5 cd5 ct5 oc6 kV6 dc6 pm6 cd6 ct6 oc7 kV7 dc7 pm7 cd7 ct7 oc8 kV8 dc8 pm8 cd8 ct8 oc9 kV9 dc9 pm9 cd9 ct9 oc10 kV10 dc10 pm10 cd10 ct10 oc11 kV11 dc11 pm11 cd11 ct11 oc12 kV12 dc12 pm12 cd12 ct12 oc13 kV13 dc13 pm13 cd13 ct13 oc14 kV14 dc14 pm14 cd14 ct14 oc15 kV15 dc15 pm15 cd15 ct15 oc16 kV16 dc16 pm16 cd16 ct16 oc17 kV17 dc17 pm17 cd17 ct17 oc18 kV18 dc18 pm18 cd18 ct18 oc19 kV19 dc19 pm19 cd19 ct19 oc20 kV20 dc20 pm20 cd20 ct20 oc21 kV21 dc21 pm21 cd21 ct21 oc22 kV22 dc22 pm22 cd22 ct22 oc23 kV23 dc23 pm23 cd23 ct23 oc24 kV24 dc24 pm24 cd24 ct24 oc25 kV25 dc25 pm25 cd25 ct25:Value}
  (a1:U0x K mainGlobals "is_whole"=some (some (.ref f1))) (l1:K.lookup f1=some ⟨oc1,od1,.func (U09 "is_whole" "is_whole" (CP IK) (Bu IK) (Ak IK) .none kV1 dc1 pm1 an1 cd1 ct1),sl1⟩) (c1:U07 K cd1 "is_whole"=true) (k1:U04 K (.ref f1)=true)
  (a2:U0x K mainGlobals "are_ways"=some (some (.ref f2))) (l2:K.lookup f2=some ⟨oc2,od2,.func (U09 "are_ways" "are_ways" (CP IW) (Bu IW) (Ak IW) .none kV2 dc2 pm2 an2 cd2 ct2),sl2⟩) (c2:U07 K cd2 "are_ways"=true) (k2:U04 K (.ref f2)=true)
  (a3:U0x K mainGlobals "is_stretch"=some (some (.ref f3))) (l3:K.lookup f3=some ⟨oc3,od3,.func (U09 "is_stretch" "is_stretch" (CP Gi) (Bu Gi) (Ak Gi) .none kV3 dc3 pm3 an3 cd3 ct3),sl3⟩) (c3:U07 K cd3 "is_stretch"=true) (k3:U04 K (.ref f3)=true)
  (a4:U0x K mainGlobals "is_box"=some (some (.ref f4))) (l4:K.lookup f4=some ⟨oc4,od4,.func (U09 "is_box" "is_box" (CP J7) (Bu J7) (Ak J7) .none kV4 dc4 pm4 an4 cd4 ct4),sl4⟩) (c4:U07 K cd4 "is_box"=true) (k4:U04 K (.ref f4)=true)
  (a5:U0x K mainGlobals "is_heap"=some (some (.ref f5))) (l5:K.lookup f5=some ⟨oc5,od5,.func (U09 "is_heap" "is_heap" (CP Hh) (Bu Hh) (Ak Hh) .none kV5 dc5 pm5 an5 cd5 ct5),sl5⟩) (c5:U07 K cd5 "is_heap"=true) (k5:U04 K (.ref f5)=true)
  (a6:U0x K mainGlobals "need_heap"=some (some (.ref f6))) (l6:K.lookup f6=some ⟨oc6,od6,.func (U09 "need_heap" "need_heap" (CP HD) (Bu HD) (Ak HD) .none kV6 dc6 pm6 an6 cd6 ct6),sl6⟩) (c6:U07 K cd6 "need_heap"=true) (k6:U04 K (.ref f6)=true)
  (a7:U0x K mainGlobals "need_ways"=some (some (.ref f7))) (l7:K.lookup f7=some ⟨oc7,od7,.func (U09 "need_ways" "need_ways" (CP Gz) (Bu Gz) (Ak Gz) .none kV7 dc7 pm7 an7 cd7 ct7),sl7⟩) (c7:U07 K cd7 "need_ways"=true) (k7:U04 K (.ref f7)=true)
  (a8:U0x K mainGlobals "ends_along"=some (some (.ref f8))) (l8:K.lookup f8=some ⟨oc8,od8,.func (U09 "ends_along" "ends_along" (CP Fi) (Bu Fi) (Ak Fi) .none kV8 dc8 pm8 an8 cd8 ct8),sl8⟩) (c8:U07 K cd8 "ends_along"=true) (k8:U04 K (.ref f8)=true)
  (a9:U0x K mainGlobals "steps_along"=some (some (.ref f9))) (l9:K.lookup f9=some ⟨oc9,od9,.func (U09 "steps_along" "steps_along" (CP GF) (Bu GF) (Ak GF) .none kV9 dc9 pm9 an9 cd9 ct9),sl9⟩) (c9:U07 K cd9 "steps_along"=true) (k9:U04 K (.ref f9)=true)
  (a10:U0x K mainGlobals "cells_from"=some (some (.ref f10))) (l10:K.lookup f10=some ⟨oc10,od10,.func (U09 "cells_from" "cells_from" (CP Fj) (Bu Fj) (Ak Fj) .none kV10 dc10 pm10 an10 cd10 ct10),sl10⟩) (c10:U07 K cd10 "cells_from"=true) (k10:U04 K (.ref f10)=true)
  (a11:U0x K mainGlobals "cells_of"=some (some (.ref f11))) (l11:K.lookup f11=some ⟨oc11,od11,.func (U09 "cells_of" "cells_of" (CP IV) (Bu IV) (Ak IV) .none kV11 dc11 pm11 an11 cd11 ct11),sl11⟩) (c11:U07 K cd11 "cells_of"=true) (k11:U04 K (.ref f11)=true)
  (a12:U0x K mainGlobals "joined"=some (some (.ref f12))) (l12:K.lookup f12=some ⟨oc12,od12,.func (U09 "joined" "joined" (CP Jm) (Bu Jm) (Ak Jm) .none kV12 dc12 pm12 an12 cd12 ct12),sl12⟩) (c12:U07 K cd12 "joined"=true) (k12:U04 K (.ref f12)=true)
  (a13:U0x K mainGlobals "pieces_held"=some (some (.ref f13))) (l13:K.lookup f13=some ⟨oc13,od13,.func (U09 "pieces_held" "pieces_held" (CP Fz) (Bu Fz) (Ak Fz) .none kV13 dc13 pm13 an13 cd13 ct13),sl13⟩) (c13:U07 K cd13 "pieces_held"=true) (k13:U04 K (.ref f13)=true)
  (a14:U0x K mainGlobals "pieces_of"=some (some (.ref f14))) (l14:K.lookup f14=some ⟨oc14,od14,.func (U09 "pieces_of" "pieces_of" (CP Gy) (Bu Gy) (Ak Gy) .none kV14 dc14 pm14 an14 cd14 ct14),sl14⟩) (c14:U07 K cd14 "pieces_of"=true) (k14:U04 K (.ref f14)=true)
  (a15:U0x K mainGlobals "gaps_of"=some (some (.ref f15))) (l15:K.lookup f15=some ⟨oc15,od15,.func (U09 "gaps_of" "gaps_of" (CP Hi) (Bu Hi) (Ak Hi) .none kV15 dc15 pm15 an15 cd15 ct15),sl15⟩) (c15:U07 K cd15 "gaps_of"=true) (k15:U04 K (.ref f15)=true)
  (a16:U0x K mainGlobals "covered_length"=some (some (.ref f16))) (l16:K.lookup f16=some ⟨oc16,od16,.func (U09 "covered_length" "covered_length" (CP EY) (Bu EY) (Ak EY) .none kV16 dc16 pm16 an16 cd16 ct16),sl16⟩) (c16:U07 K cd16 "covered_length"=true) (k16:U04 K (.ref f16)=true)
  (a17:U0x K mainGlobals "_law_mixed"=some (some (.ref f17))) (l17:K.lookup f17=some ⟨oc17,od17,.func (U09 "_law_mixed" "_law_mixed" (CP HJ) (Bu HJ) (Ak HJ) .none kV17 dc17 pm17 an17 cd17 ct17),sl17⟩) (c17:U07 K cd17 "_law_mixed"=true) (k17:U04 K (.ref f17)=true)
  (a18:U0x K mainGlobals "_law_well"=some (some (.ref f18))) (l18:K.lookup f18=some ⟨oc18,od18,.func (U09 "_law_well" "_law_well" (CP Hx) (Bu Hx) (Ak Hx) .none kV18 dc18 pm18 an18 cd18 ct18),sl18⟩) (c18:U07 K cd18 "_law_well"=true) (k18:U04 K (.ref f18)=true)
  (a19:U0x K mainGlobals "_law_draw"=some (some (.ref f19))) (l19:K.lookup f19=some ⟨oc19,od19,.func (U09 "_law_draw" "_law_draw" (CP Hz) (Bu Hz) (Ak Hz) .none kV19 dc19 pm19 an19 cd19 ct19),sl19⟩) (c19:U07 K cd19 "_law_draw"=true) (k19:U04 K (.ref f19)=true)
  (a20:U0x K mainGlobals "_law_stretch"=some (some (.ref f20))) (l20:K.lookup f20=some ⟨oc20,od20,.func (U09 "_law_stretch" "_law_stretch" (CP GJ) (Bu GJ) (Ak GJ) .none kV20 dc20 pm20 an20 cd20 ct20),sl20⟩) (c20:U07 K cd20 "_law_stretch"=true) (k20:U04 K (.ref f20)=true)
  (a21:U0x K mainGlobals "_law_box"=some (some (.ref f21))) (l21:K.lookup f21=some ⟨oc21,od21,.func (U09 "_law_box" "_law_box" (CP Hg) (Bu Hg) (Ak Hg) .none kV21 dc21 pm21 an21 cd21 ct21),sl21⟩) (c21:U07 K cd21 "_law_box"=true) (k21:U04 K (.ref f21)=true)
  (a22:U0x K mainGlobals "_law_boxes"=some (some (.ref f22))) (l22:K.lookup f22=some ⟨oc22,od22,.func (U09 "_law_boxes" "_law_boxes" (CP HN) (Bu HN) (Ak HN) .none kV22 dc22 pm22 an22 cd22 ct22),sl22⟩) (c22:U07 K cd22 "_law_boxes"=true) (k22:U04 K (.ref f22)=true)
  (a23:U0x K mainGlobals "_law_runs"=some (some (.ref f23))) (l23:K.lookup f23=some ⟨oc23,od23,.func (U09 "_law_runs" "_law_runs" (CP Hy) (Bu Hy) (Ak Hy) .none kV23 dc23 pm23 an23 cd23 ct23),sl23⟩) (c23:U07 K cd23 "_law_runs"=true) (k23:U04 K (.ref f23)=true)
  (a24:U0x K mainGlobals "_law_right"=some (some (.ref f24))) (l24:K.lookup f24=some ⟨oc24,od24,.func (U09 "_law_right" "_law_right" (CP HF) (Bu HF) (Ak HF) .none kV24 dc24 pm24 an24 cd24 ct24),sl24⟩) (c24:U07 K cd24 "_law_right"=true) (k24:U04 K (.ref f24)=true)
  (a25:U0x K mainGlobals "law"=some (some (.ref f25))) (l25:K.lookup f25=some ⟨oc25,od25,.func (U09 "law" "law" (CP KR) (Bu KR) (Ak KR) .none kV25 dc25 pm25 an25 cd25 ct25),sl25⟩) (c25:U07 K cd25 "law"=true) (k25:U04 K (.ref f25)=true)
  (z1:U0x K mainGlobals "len"=some none)
  (z2:U0x K mainGlobals "isinstance"=some none)
  (z3:U0x K mainGlobals "all"=some none)
  (z4:U0x K mainGlobals "sorted"=some none)
  (z5:U0x K mainGlobals "min"=some none)
  (z6:U0x K mainGlobals "max"=some none)
  (z7:U0x K mainGlobals "abs"=some none)
  (z8:U0x K mainGlobals "repr"=some none)
  (z9:U0x K mainGlobals "set"=some none)
  (z10:U0x K mainGlobals "list"=some none)
  (z11:U0x K mainGlobals "tuple"=some none)
  (z12:U0x K mainGlobals "range"=some none)
  (z13:U0x K mainGlobals "int"=some none)
  (z14:U0x K mainGlobals "bool"=some none)
  (z15:U0x K mainGlobals "str"=some none)
  (zBz:U0x K mainGlobals "zip"=some none)
  (zBs:U0x K mainGlobals "sum"=some none)
  {ep:Nat} {h1 h2 h3:Int} {t1 t2 t3 u1 u2 u3:Tok} (aM:U0x K mainGlobals "MOST_BOXES"=some (some (.ref dM))) (hM:(dM==sysModules)=false)
  (lM:K.lookup dM=some { cls:=.type "dict",data:=.dict #[⟨h1,.int 1 t1,.int 20 u1⟩,⟨h2,.int 2 t2,.int 10 u2⟩,⟨h3,.int 3 t3,.int 6 u3⟩] ep }) (e1:h1=hashInt 1) (e2:h2=hashInt 2) (e3:h3=hashInt 3)
  : ∃fd:FuncData,(∀(s:Shared)(v:Value),BindsTo s fd ⟨[v],[]⟩ [("script",v)])/\∀base:Heap,K.In base->base.Ns mainGlobals mg->DG l.prog w K mg base CX0 12 fa fd ["script"] (RW K):=by
 have e:=hfa.symm.trans (U08 X G a25)
 cases e
 have F1:=Dj (st:=IK) l1 c1 k1
 have b1:=F1.binds (ps:=["thing"]) fun _ _ _ _ _ _ us hl=>by obtain⟨_,rfl⟩:=Jf hl;rfl
 have F2:=Dj (st:=IW) l2 c2 k2
 have b2:=F2.binds (ps:=["thing"]) fun _ _ _ _ _ _ us hl=>by obtain⟨_,rfl⟩:=Jf hl;rfl
 have F3:=Dj (st:=Gi) l3 c3 k3
 have b3:=F3.binds (ps:=["thing"]) fun _ _ _ _ _ _ us hl=>by obtain⟨_,rfl⟩:=Jf hl;rfl
 have F4:=Dj (st:=J7) l4 c4 k4
 have b4:=F4.binds (ps:=["ways","thing"]) fun _ _ _ _ _ _ us hl=>by obtain⟨_,_,rfl⟩:=O6 hl;rfl
 have F5:=Dj (st:=Hh) l5 c5 k5
 have b5:=F5.binds (ps:=["thing"]) fun _ _ _ _ _ _ us hl=>by obtain⟨_,rfl⟩:=Jf hl;rfl
 have F6:=Dj (st:=HD) l6 c6 k6
 have b6:=F6.binds (ps:=["heap"]) fun _ _ _ _ _ _ us hl=>by obtain⟨_,rfl⟩:=Jf hl;rfl
 have F7:=Dj (st:=Gz) l7 c7 k7
 have b7:=F7.binds (ps:=["heap","ways"]) fun _ _ _ _ _ _ us hl=>by obtain⟨_,_,rfl⟩:=O6 hl;rfl
 have F8:=Dj (st:=Fi) l8 c8 k8
 have b8:=F8.binds (ps:=["boxes","way"]) fun _ _ _ _ _ _ us hl=>by obtain⟨_,_,rfl⟩:=O6 hl;rfl
 have F9:=Dj (st:=GF) l9 c9 k9
 have b9:=F9.binds (ps:=["boxes","way"]) fun _ _ _ _ _ _ us hl=>by obtain⟨_,_,rfl⟩:=O6 hl;rfl
 have F10:=Dj (st:=Fj) l10 c10 k10
 have b10:=F10.binds (ps:=["boxes","numbers","way","ways"]) fun _ _ _ _ _ _ us hl=>by obtain⟨_,_,_,_,rfl⟩:=cP hl;rfl
 have F11:=Dj (st:=IV) l11 c11 k11
 have b11:=F11.binds (ps:=["heap"]) fun _ _ _ _ _ _ us hl=>by obtain⟨_,rfl⟩:=Jf hl;rfl
 have F12:=Dj (st:=Jm) l12 c12 k12
 have b12:=F12.binds (ps:=["stretches"]) fun _ _ _ _ _ _ us hl=>by obtain⟨_,rfl⟩:=Jf hl;rfl
 have F13:=Dj (st:=Fz) l13 c13 k13
 have b13:=F13.binds (ps:=["heap","least"]) fun _ _ _ _ _ _ us hl=>by obtain⟨_,_,rfl⟩:=O6 hl;rfl
 have F14:=Dj (st:=Gy) l14 c14 k14
 have b14:=F14.binds (ps:=["heap"]) fun _ _ _ _ _ _ us hl=>by obtain⟨_,rfl⟩:=Jf hl;rfl
 have F15:=Dj (st:=Hi) l15 c15 k15
 have b15:=F15.binds (ps:=["heap"]) fun _ _ _ _ _ _ us hl=>by obtain⟨_,rfl⟩:=Jf hl;rfl
 have F16:=Dj (st:=EY) l16 c16 k16
 have b16:=F16.binds (ps:=["heap"]) fun _ _ _ _ _ _ us hl=>by obtain⟨_,rfl⟩:=Jf hl;rfl
 have F17:=Dj (st:=HJ) l17 c17 k17
 have b17:=F17.binds (ps:=["cell","k"]) fun _ _ _ _ _ _ us hl=>by obtain⟨_,_,rfl⟩:=O6 hl;rfl
 have F18:=Dj (st:=Hx) l18 c18 k18
 have b18:=F18.binds (ps:=["cell"]) fun _ _ _ _ _ _ us hl=>by obtain⟨_,rfl⟩:=Jf hl;rfl
 have F19:=Dj (st:=Hz) l19 c19 k19
 have b19:=F19.binds (ps:=["well","many"]) fun _ _ _ _ _ _ us hl=>by obtain⟨_,_,rfl⟩:=O6 hl;rfl
 have F20:=Dj (st:=GJ) l20 c20 k20
 have b20:=F20.binds (ps:=["well","reach"]) fun _ _ _ _ _ _ us hl=>by obtain⟨_,_,rfl⟩:=O6 hl;rfl
 have F21:=Dj (st:=Hg) l21 c21 k21
 have b21:=F21.binds (ps:=["well","ways","reach","boxes"]) fun _ _ _ _ _ _ us hl=>by obtain⟨_,_,_,_,rfl⟩:=cP hl;rfl
 have F22:=Dj (st:=HN) l22 c22 k22
 have b22:=F22.binds (ps:=["well","ways","reach","most"]) fun _ _ _ _ _ _ us hl=>by obtain⟨_,_,_,_,rfl⟩:=cP hl;rfl
 have F23:=Dj (st:=Hy) l23 c23 k23
 have b23:=F23.binds (ps:=["covered"]) fun _ _ _ _ _ _ us hl=>by obtain⟨_,rfl⟩:=Jf hl;rfl
 have F24:=Dj (st:=HF) l24 c24 k24
 have b24:=F24.binds (ps:=["boxes"]) fun _ _ _ _ _ _ us hl=>by obtain⟨_,rfl⟩:=Jf hl;rfl
 have F25:=Dj (st:=KR) l25 c25 k25
 have mM:=U08 X G aM
 have B:Blt mg:=fun x hx=>by
  simp only[RB,U0r,U12,or_false] at hx
  rcases hx with rfl|rfl|rfl|rfl|rfl|rfl|rfl|rfl|rfl|rfl|rfl|rfl|rfl|rfl|rfl
  .exact U1k X G z1
  .exact U1k X G z2
  .exact U1k X G z3
  .exact U1k X G z4
  .exact U1k X G z5
  .exact U1k X G z6
  .exact U1k X G z7
  .exact U1k X G z8
  .exact U1k X G z9
  .exact U1k X G z10
  .exact U1k X G z11
  .exact U1k X G z12
  .exact U1k X G z13
  .exact U1k X G z14
  .exact U1k X G z15
 have Bz:mg "zip"=none:=U1k X G zBz
 have Bs:mg "sum"=none:=U1k X G zBs
 refine⟨U09 "law" "law" (CP KR) (Bu KR) (Ak KR) .none kV25 dc25 pm25 an25 cd25 ct25,fun s v=>.of_eq rfl,fun base _ _=>?_⟩
 have C_is_whole:CW l.prog w K mg base "is_whole" 1 El:=⟨⟨["thing"],⟨_,_,Xc F1 B,b1,k1,U08 X G a1⟩,fun ds r h=>DY h⟩⟩
 have C_are_ways:CW l.prog w K mg base "are_ways" 2 Du:=⟨⟨["thing"],⟨_,_,Xe F2 B mM (mj hM lM e1 e2 e3 (by decide)) C_is_whole,b2,k2,U08 X G a2⟩,fun ds r h=>DY h⟩⟩
 have C_is_stretch:CW l.prog w K mg base "is_stretch" 2 G5:=⟨⟨["thing"],⟨_,_,Ux F3 B C_is_whole,b3,k3,U08 X G a3⟩,fun ds r h=>DY h⟩⟩
 have C_is_box:CW l.prog w K mg base "is_box" 3 Hw:=⟨⟨["ways","thing"],⟨_,_,bG F4 B C_are_ways C_is_stretch,b4,k4,U08 X G a4⟩,fun ds r h=>DY h⟩⟩
 have C_is_heap:CW l.prog w K mg base "is_heap" 4 Gx:=⟨⟨["thing"],⟨_,_,ZF F5 B mM (mj hM lM e1 e2 e3 (by decide)) C_are_ways C_is_box,b5,k5,U08 X G a5⟩,fun ds r h=>DY h⟩⟩
 have C_need_heap:CW l.prog w K mg base "need_heap" 5 Fw:=⟨⟨["heap"],⟨_,_,Wt F6 B C_is_heap,b6,k6,U08 X G a6⟩,fun ds r h=>DY h⟩⟩
 have C_need_ways:CW l.prog w K mg base "need_ways" 6 Fv:=⟨⟨["heap","ways"],⟨_,_,Ws F7 B C_need_heap,b7,k7,U08 X G a7⟩,fun ds r h=>DY h⟩⟩
 have C_ends_along:CW l.prog w K mg base "ends_along" 1 G6:=⟨⟨["boxes","way"],⟨_,_,Uy F8 B,b8,k8,U08 X G a8⟩,fun ds r h=>DY h⟩⟩
 have C_steps_along:CW l.prog w K mg base "steps_along" 2 En:=⟨⟨["boxes","way"],⟨_,_,Tf F9 B Bz C_ends_along,b9,k9,U08 X G a9⟩,fun ds r h=>DY h⟩⟩
 have C_cells_from0:CW l.prog w K mg base "cells_from" 2 (Bm 0):=⟨⟨["boxes","numbers","way","ways"],⟨_,_,lR (f:=f10) rfl,b10,k10,U08 X G a10⟩,fun ds r h=>by cases h⟩⟩
 have C_cells_from1:CW l.prog w K mg base "cells_from" 3 (Bm 1):=⟨⟨["boxes","numbers","way","ways"],⟨_,_,Ir F10 B C_steps_along (by decide) C_cells_from0,b10,k10,U08 X G a10⟩,fun ds r h=>DY h⟩⟩
 have C_cells_from2:CW l.prog w K mg base "cells_from" 4 (Bm 2):=⟨⟨["boxes","numbers","way","ways"],⟨_,_,Ir F10 B C_steps_along (by decide) C_cells_from1,b10,k10,U08 X G a10⟩,fun ds r h=>DY h⟩⟩
 have C_cells_from3:CW l.prog w K mg base "cells_from" 5 (Bm 3):=⟨⟨["boxes","numbers","way","ways"],⟨_,_,Ir F10 B C_steps_along (by decide) C_cells_from2,b10,k10,U08 X G a10⟩,fun ds r h=>DY h⟩⟩
 have C_cells_from4:CW l.prog w K mg base "cells_from" 6 (Bm 4):=⟨⟨["boxes","numbers","way","ways"],⟨_,_,Ir F10 B C_steps_along (by decide) C_cells_from3,b10,k10,U08 X G a10⟩,fun ds r h=>DY h⟩⟩
 have C_cells_from:=C_cells_from4
 have C_cells_of:CW l.prog w K mg base "cells_of" 7 Fg:=⟨⟨["heap"],⟨_,_,Xd F11 B C_cells_from,b11,k11,U08 X G a11⟩,fun ds r h=>DY h⟩⟩
 have C_joined:CW l.prog w K mg base "joined" 1 Hv:=⟨⟨["stretches"],⟨_,_,bF F12 B,b12,k12,U08 X G a12⟩,fun ds r h=>DY h⟩⟩
 have C_pieces_held:CW l.prog w K mg base "pieces_held" 8 Eo:=⟨⟨["heap","least"],⟨_,_,Tg F13 B C_joined C_cells_of,b13,k13,U08 X G a13⟩,fun ds r h=>DY h⟩⟩
 have C_pieces_of:CW l.prog w K mg base "pieces_of" 9 Ba:=⟨⟨["heap"],⟨_,_,Wr F14 B C_need_ways C_pieces_held,b14,k14,U08 X G a14⟩,fun ds r h=>DY h⟩⟩
 have C_gaps_of:CW l.prog w K mg base "gaps_of" 10 DP:=⟨⟨["heap"],⟨_,_,ZG F15 B Bz C_pieces_of,b15,k15,U08 X G a15⟩,fun ds r h=>DY h⟩⟩
 have C_covered_length:CW l.prog w K mg base "covered_length" 10 Cm:=⟨⟨["heap"],⟨_,_,QD F16 B Bs C_pieces_of,b16,k16,U08 X G a16⟩,fun ds r h=>DY h⟩⟩
 have C_law_mixed:CW l.prog w K mg base "_law_mixed" 1 GD:=⟨⟨["cell","k"],⟨_,_,Wv F17 B,b17,k17,U08 X G a17⟩,fun ds r h=>DY h⟩⟩
 have C_law_well:CW l.prog w K mg base "_law_well" 1 Fd:=⟨⟨["cell"],⟨_,_,XS F18 B,b18,k18,U08 X G a18⟩,fun ds r h=>DY h⟩⟩
 have C_law_draw:KC l.prog w K mg base "_law_draw" 2 Am:=⟨⟨["well","many"],⟨_,_,Xb F19 B C_law_mixed,b19,k19,U08 X G a19⟩,fun ns ds r h=>Pu h⟩⟩
 have C_law_stretch:KC l.prog w K mg base "_law_stretch" 3 Ep:=⟨⟨["well","reach"],⟨_,_,Ti F20 B C_law_draw,b20,k20,U08 X G a20⟩,fun ns ds r h=>Pu h⟩⟩
 have C_law_box:KC l.prog w K mg base "_law_box" 4 FQ:=⟨⟨["well","ways","reach","boxes"],⟨_,_,ZD F21 B C_law_stretch C_law_draw,b21,k21,U08 X G a21⟩,fun ns ds r h=>Pu h⟩⟩
 have C_law_boxes:KC l.prog w K mg base "_law_boxes" 5 Et:=⟨⟨["well","ways","reach","most"],⟨_,_,Ww F22 B C_law_draw C_law_box,b22,k22,U08 X G a22⟩,fun ns ds r h=>Pu h⟩⟩
 have C_law_runs:CW l.prog w K mg base "_law_runs" 1 Fe:=⟨⟨["covered"],⟨_,_,Xa F23 B,b23,k23,U08 X G a23⟩,fun ds r h=>DY h⟩⟩
 have C_law_right:CW l.prog w K mg base "_law_right" 11 Fx:=⟨⟨["boxes"],⟨_,_,Wu F24 B C_law_runs C_gaps_of C_pieces_of C_covered_length,b24,k24,U08 X G a24⟩,fun ds r h=>DY h⟩⟩
 exact(pq F25 B C_law_well C_law_draw C_law_right C_law_boxes C_pieces_of C_gaps_of).imp (qL fj)
theorem walk{l:U58}{q:Program}{loose:List Str}{XP:(Str->Option Value)->Heap->Prop}{YP:World->Heap->Prop}{d:DefRec}{K:Params->U0a}(hn:l.most=some 63)(hdf:d.params.defaults=[])
  (hY:∀(w:World)(h:Heap),YP w h->(K w.params).In h)
  (F:∀(w:World)(mg:Str->Option Value)(fa:Addr)(h:Heap),(K w.params).In h->h.Ns mainGlobals mg->mg d.name=some (.ref fa) ->
   ∃fd:FuncData,(∀(s:Shared)(u:Value),BindsTo s fd ⟨[u],[]⟩ [("script",u)])/\∀base:Heap,(K w.params).In base->base.Ns mainGlobals mg->DG l.prog w (K w.params) mg base CX0 12 fa fd ["script"] (RW (K w.params))) :
  U7e q loose XP YP l.row.toRowW d [] (fun f vs=>U7c f vs) :=
 L2.dD (n:=63) (k:=12) (x:="script") (CX:=CX0) (sp:=RW) hn (by decide) hdf ⟨rfl,by decide,by decide,rfl⟩ hY F (fun _ _ a ns hl hO hS=>⟨a,ns,rfl,hO,hl,hS,fun _=>rfl⟩) fun _ _ _ _ z=>z
end W07
open PySem PySem.W PyProof.Rows
set_option maxRecDepth 100000 in
set_option maxHeartbeats 0 in
theorem PySem.Challenge.cw_boxcover_k07_pieces_and_gaps_one_by_one_holds : PySem.Challenge.rw_boxcover_k07_pieces_and_gaps_one_by_one.Holds := by
 w_on;o_law;k_head;(case hw=>w_witness2)
 k_fill
 refine W07.walk (l := PySem.Challenge.rw_boxcover_k07_pieces_and_gaps_one_by_one) rfl rfl (fun w h Y => PySem.W.kIn_of Y) ?F
 case F =>
  intro w mg fa h KX G hmg
  refine' W07.tops KX G hmg ?a1 ?l1 ?c1 ?k1 ?a2 ?l2 ?c2 ?k2 ?a3 ?l3 ?c3 ?k3 ?a4 ?l4 ?c4 ?k4 ?a5 ?l5 ?c5 ?k5 ?a6 ?l6 ?c6 ?k6 ?a7 ?l7 ?c7 ?k7 ?a8 ?l8 ?c8 ?k8 ?a9 ?l9 ?c9 ?k9 ?a10 ?l10 ?c10 ?k10 ?a11 ?l11 ?c11 ?k11 ?a12 ?l12 ?c12 ?k12 ?a13 ?l13 ?c13 ?k13 ?a14 ?l14 ?c14 ?k14 ?a15 ?l15 ?c15 ?k15 ?a16 ?l16 ?c16 ?k16 ?a17 ?l17 ?c17 ?k17 ?a18 ?l18 ?c18 ?k18 ?a19 ?l19 ?c19 ?k19 ?a20 ?l20 ?c20 ?k20 ?a21 ?l21 ?c21 ?k21 ?a22 ?l22 ?c22 ?k22 ?a23 ?l23 ?c23 ?k23 ?a24 ?l24 ?c24 ?k24 ?a25 ?l25 ?c25 ?k25 ?z1 ?z2 ?z3 ?z4 ?z5 ?z6 ?z7 ?z8 ?z9 ?z10 ?z11 ?z12 ?z13 ?z14 ?z15 ?zBz ?zBs ?aM ?hM ?lM ?e1 ?e2 ?e3
  (case a1=>k_is);(case l1=>k_is);(case c1=>k_is);(case k1=>k_is)
  (case a2=>k_is);(case l2=>k_is);(case c2=>k_is);(case k2=>k_is)
  (case a3=>k_is);(case l3=>k_is);(case c3=>k_is);(case k3=>k_is)
  (case a4=>k_is);(case l4=>k_is);(case c4=>k_is);(case k4=>k_is)
  (case a5=>k_is);(case l5=>k_is);(case c5=>k_is);(case k5=>k_is)
  (case a6=>k_is);(case l6=>k_is);(case c6=>k_is);(case k6=>k_is)
  (case a7=>k_is);(case l7=>k_is);(case c7=>k_is);(case k7=>k_is)
  (case a8=>k_is);(case l8=>k_is);(case c8=>k_is);(case k8=>k_is)
  (case a9=>k_is);(case l9=>k_is);(case c9=>k_is);(case k9=>k_is)
  (case a10=>k_is);(case l10=>k_is);(case c10=>k_is);(case k10=>k_is)
  (case a11=>k_is);(case l11=>k_is);(case c11=>k_is);(case k11=>k_is)
  (case a12=>k_is);(case l12=>k_is);(case c12=>k_is);(case k12=>k_is)
  (case a13=>k_is);(case l13=>k_is);(case c13=>k_is);(case k13=>k_is)
  (case a14=>k_is);(case l14=>k_is);(case c14=>k_is);(case k14=>k_is)
  (case a15=>k_is);(case l15=>k_is);(case c15=>k_is);(case k15=>k_is)
  (case a16=>k_is);(case l16=>k_is);(case c16=>k_is);(case k16=>k_is)
  (case a17=>k_is);(case l17=>k_is);(case c17=>k_is);(case k17=>k_is)
  (case a18=>k_is);(case l18=>k_is);(case c18=>k_is);(case k18=>k_is)
  (case a19=>k_is);(case l19=>k_is);(case c19=>k_is);(case k19=>k_is)
  (case a20=>k_is);(case l20=>k_is);(case c20=>k_is);(case k20=>k_is)
  (case a21=>k_is);(case l21=>k_is);(case c21=>k_is);(case k21=>k_is)
  (case a22=>k_is);(case l22=>k_is);(case c22=>k_is);(case k22=>k_is)
  (case a23=>k_is);(case l23=>k_is);(case c23=>k_is);(case k23=>k_is)
  (case a24=>k_is);(case l24=>k_is);(case c24=>k_is);(case k24=>k_is)
  (case a25=>k_is);(case l25=>k_is);(case c25=>k_is);(case k25=>k_is)
  (case z1=>k_is);(case z2=>k_is);(case z3=>k_is);(case z4=>k_is);(case z5=>k_is);(case z6=>k_is);(case z7=>k_is);(case z8=>k_is);(case z9=>k_is);(case z10=>k_is);(case z11=>k_is);(case z12=>k_is);(case z13=>k_is);(case z14=>k_is);(case z15=>k_is)
  (case zBz=>k_is)
  (case zBs=>k_is)
  (case aM=>k_is);(case lM=>k_is)
  (case hM=>rfl);(case e1=>rfl);(case e2=>rfl);(case e3=>rfl)
end
