import PyProof.Rows.All
import Wide.All
import OpenK.AllK
import Wide.FinOn
import Lean
import PyProof.EqAt
import PyProof.EqKinds
import PyProof.TupleCall
import PyProof.SetKind
import PyProof.SetNew
import PyProof.SetRoads
import PyProof.Walks
import PyProof.Rows.SetListFold
import PyProof.Seq
import PyProof.Rows.SortShell
import PyProof.TupleIter
import PyProof.CollectWalk
import PyProof.ReprRoads
import PyProof.EqLayable
import PyProof.ReprLen
import PyProof.WalkInts
import PyProof.SeqI3
import PyProof.ListMulRoad
import PyProof.ZipIter
import PyProof.EnumFor
import PyProof.EnumMake
import PyProof.Draws
import PyProof.Rows.ZipGen
import PyProof.LayNew
import PyProof.WalksMore
import PyProof.IsiTupleAll
import PyProof.Rows.Range3
import PyProof.Rows.SumAny
import PyProof.Rows.CallKwBuiltin
import PyProof.MinMaxWalk
import KE.KSortTup
import PyProof.TupleKey
import PyProof.IsRules
import PySem.Challenge.RW_boxcover_k29_houses_under_skylines
set_option compiler.extract_closed false
set_option hygiene false
def zqWd(w:List Char):Lean.Syntax:=let s:=String.ofList w;match w with
|'.'::r=>.node .none `Lean.Parser.Term.dotIdent #[Lean.mkAtom ".",Lean.mkIdent (String.ofList r).toName]
|'`'::_=>.node .none `Lean.Parser.Term.quotedName #[Lean.Syntax.mkNameLit s]
|'_'::[]=>.node .none `Lean.Parser.Term.hole #[Lean.mkAtom "_"]
|_=>if w.all Char.isDigit then Lean.Syntax.mkNumLit s else Lean.mkIdent s.toName
def zqGp:Nat->List Char->Array Lean.Syntax->Array Lean.Syntax->Array Lean.Syntax×List Char
|0,r,_,_=>(#[],r)
|n+1,r,a,x=>let e:=x.push (if a.size==1 then a[0]?.getD .missing else Lean.Syntax.mkApp ⟨a[0]?.getD .missing⟩ ((a.extract 1 a.size).map fun t=>⟨t⟩))
 match r with
|[]=>(e,[])
|','::r=>zqGp n r #[] e
|')'::r=>(e,r)
|']'::r=>(if a.size==0&&x.size==0 then #[] else e,r)
|' '::r=>zqGp n r a x
|'('::r=>let(y,r):=zqGp n r #[] #[]
 zqGp n r (a.push (y.pop.foldr (fun u v=>Lean.Syntax.mkApp (Lean.mkIdent `Prod.mk) #[⟨u⟩,⟨v⟩]) (y.back?.getD .missing))) x
|'['::r=>let(y,r):=zqGp n r #[] #[]
 zqGp n r (a.push (y.foldr (fun u v=>Lean.Syntax.mkApp (Lean.mkIdent `List.cons) #[⟨u⟩,⟨v⟩]) (Lean.mkIdent `List.nil))) x
|_=>let w:=r.takeWhile fun c=>!c∈[' ','(',')','[',']',',']
 zqGp n (r.drop w.length) (a.push (zqWd w)) x
local macro_rules(kind:=Lean.Parser.Term.quotedName)|x=>match List.lookup (toString (x[0].isNameLit?.getD `x)) [("aa",".lst false (hs.map Ac)"),("ae",".tup [.int r0,.int r1]"),("af","eC (.int 1)"),("ag","eC (.int 0)"),("ah",".lst false (l.map Ah)"),("ai","model X.prog X.w"),("am","model prog w"),("ar","Aa (Az (Aa (Bo (Aa `ag (Aa (eC (.int 2)) Af))) (Aa (Bo (Aa `af (Aa (eC (.int 5)) Af))) (Aa (Bo (Aa (eC (.int 2)) (Aa (eC (.int 2)) Af))) (Aa (Bo (Aa (eC (.int 4)) (Aa `ag Af))) (Aa (Bo (Aa (eC (.int 5)) (Aa (eC (.int 2)) Af))) (Aa (Bo (Aa (eC (.int 6)) (Aa `ag Af))) Af))))))) Af"),("av",".ref 0"),("aw","Aa (BK Ak (Aa (Ab 0) (Aa (eC (.int 3)) Af))) (Aa (BK Ak (Aa (Ab 0) (Aa (eC (.int 9)) Af))) (Aa (BK Ak (Aa (Ab 0) (Aa (eOp G5 (eC (.int 10)) (eC (.int 9))) Af))) Af))"),("ay",".ref S.length"),("az","Az (Aa (Bo (Aa `ag (Aa (eC (.int 4)) (Aa (eC (.int 2)) Af)))) (Aa (Bo (Aa `af (Aa (eC (.int 2)) (Aa (eC (.int 5)) Af)))) (Aa (Bo (Aa (eC (.int 5)) (Aa (eC (.int 6)) (Aa (eC (.int 2)) Af)))) Af)))"),("aE","hs.map Ac"),("aI","BZ 2 (eOp Bv (eOp Bv (Ab 2) (Az (Aa (Bo (Aa (eOp oIx (eOp oIx (Ab 3) `ag) `ag) (Aa (eOp oIx (eOp oIx (Ab 3) (eUn El `af)) `af) (Aa (Ab 5) Af)))) Af))) (Bd rec (Aa (Ab 3) (Aa (Ab 5) Af))))"),("aS","Ai (Ai Ay)"),("aT","arrOf st"),("ba","part.map Ac"),("be","Aa (Bo (Aa `ag (Aa (eC (.int 6)) Af))) (Aa (Bo (Aa (eUn El (eC (.int 3))) (Aa (eC (.int 8)) Af))) (Aa (Bo (Aa `ag (Aa (eC (.int 13)) Af))) (Aa (Bo (Aa (eUn El (eC (.int 20))) (Aa (eC (.int 41)) Af))) (Aa (Bo (Aa (eUn El (eOp G5 (eC (.int 10)) (eC (.int 9)))) (Aa (eOp Gg (eC (.int 2)) (eOp G5 (eC (.int 10)) (eC (.int 9)))) Af))) Af))))"),("bg","sky hs"),("bj","Aa (Ab 0) Af"),("bm","l.map Ah"),("bn","arrOf st'"),("bo","List Int"),("bp","CG cs base found S'.length (some (Ac c)) z"),("bq",".ref s.heap.objs.size"),("br","Same.refl H"),("bt","(false,eval e X.env)"),("bu","backTo pos (starEach es X.env)"),("bv","Dg X N2 scope cl C s H ex"),("bz","CQ `bg ks ns hts ev z5 z6 (some d7) z8 z9 z10")] with|some s=>pure ((zqGp 999 s.toList #[] #[]).1[0]?.getD .missing)|_=>Lean.Macro.throwUnsupported
local macro_rules(kind:=Lean.Parser.Command.declaration)|x=>if x[1].isOfKind `Lean.Parser.Command.definition&&x[0][4].isNone then pure (x.setArg 0 (x[0].setArg 4 (Lean.mkNullNode #[.node .none `Lean.Parser.Command.noncomputable #[Lean.mkAtom "noncomputable"]])))else Lean.Macro.throwUnsupported
open PySem renaming wpAny_bind → U0, wpAny_pure → U0e, wpAny_holding → U2j, wpAny_call_entry → U2m, wpAny_newObj_type → U2n, wpAny_setState_of → U26, mem_of_lookup → U3d, wpAny_seqItems → U3j, wpAny_field → U3o, wpAny_setField → U3w, wpAny_rule → U39, wpAny_setField_rec → U4x, wpAny_passesOwn → U4y, wpAny_truthy_bool → U47, wpAny_askSetting → U5k, wpAny_mono → U5q, wpAny_pyIter_list → U5x, wpAny_attempt → U6a, wpAny_newList → U6b, wpAny_typeOf → U6k, wpAny_pyIter_tuple → U6n, wpAny_storeSet_of → U6y, wpAny_onRaise → U65, wpAny_forIn_list → U67, wpAny_isInstance → U68, wpAny_execs_nil → U7d, wpAny_updateSeq_pair → U7l, wpAny_setEntries_of → U7s, wpAny_Call_Name_kw → U72, wpAny_ite_false → U8t, wpAny_newTuple → U81, call → U84
open Option renaming bind_some → U0a, map_bind → U1d, some → U1i, map_eq_some_iff → U2r, map → U2w, isSome_iff_exists → U4n, isSome_iff_ne_none → U6i, map_some → U7q, toList_some → U76
open PySem.W renaming Frag → U0b, mg_of → U0m, nsIn → U09, keepIn → U1g, fnOf → U1r, codeIn → U1s, mg_none_of → U10, kia_one → U3m, kitOne → U38, findIn → U6q, cellsFrom_some → U62, OpenLaw → U7f, methodObj → U8c, instObj → U8s, lookIn → U8x, WalkO → U85
open PySem.Heap renaming get?_push_of_some → U0c, lt_size → U0o, get?_push_size → U0u, SameBut → U1c, get?_update_other → U1n, size_push → U2u, get?_update_self → U3i, get?_none_of_le → U7c, IsTuple → U7m, ExtBut → U7z
open List renaming length_map → U0d, length_cons → U0f, mem_cons → U0h, mem_cons_self → U0i, getElem?_eq_some_iff → U0j, mem_cons_of_mem → U0k, size_toArray → U0n, length_append → U0p, mem_singleton → U0q, map_cons → U0r, map_map → U0t, getElem?_eq_getElem → U0w, mem_map → U0x, mem_append_right → U0y, mem_append → U0z, getElem?_append_left → U01, replicate_succ → U03, append_assoc → U04, pairwise_append → U06, getElem?_map → U07, replicate → U08, getElem?_append_right → U1h, mem_iff_getElem? → U1l, length_nil → U1m, append_nil → U1o, mem_of_getElem? → U1p, length_take → U1q, take_append_drop → U1t, mem_filter → U1u, nil_append → U1v, pairwise_iff_getElem → U1w, replicate_zero → U1x, not_mem_nil → U1z, pairwise_cons → U11, take_of_length_le → U12, mem_append_left → U14, lookup_cons → U15, Perm → U17, map_append → U18, map_nil → U2a, cons_append → U2c, length_replicate → U2d, perm_append_comm → U2f, length_drop → U2h, foldl_cons → U2t, mem_range → U2y, filter_cons → U21, Nodup → U23, getElem_mem → U3c, range → U3e, flatten_cons → U3f, length_filter_le → U3l, length → U3n, length_eq_zero_iff → U3q, getD_eq_getElem?_getD → U3r, getElem?_set_self → U3u, mergeSort_perm → U3x, nodup_cons → U3y, drop_eq_getElem_cons → U3z, extract_eq_take_drop → U30, all_eq_true → U32, getElem?_set_ne → U37, mem_of_mem_take → U4b, zip_cons_cons → U4j, length_singleton → U4k, take_append_of_le_length → U4q, mem_map_of_mem → U4r, map_congr_left → U4s, getElem_map → U4t, of_mem_zip → U40, eq_nil_or_concat → U43, concat_eq_append → U44, take_sublist → U48, foldl_append → U49, getElem?_zip_eq_some → U5f, length_pos_iff → U5m, getElem_of_mem → U5n, getElem?_replicate → U5o, Pairwise → U5p, length_set → U5r, lookup_append → U5s, length_range → U5z, getElem?_toArray → U52, getElem?_eq_none → U53, drop_zero → U54, drop_drop → U56, filterMap_cons → U6d, getElem?_range → U6e, filter_sublist → U6f, forIn_cons → U6h, length_erase_of_mem → U6l, nodup_nil → U6r, drop_left → U6t, nodup_append → U6x, pairwise_map → U61, pairwise_lt_range → U64, take_length → U69, zipIdx_cons → U7, set_append_right → U7a, foldl → U7e, mem_erase_of_ne → U7h, length_zip → U7p, mem_iff_getElem → U7r, take_succ → U7w, mem_filterMap → U71, getElem?_drop → U74, getElem?_take → U75, drop_sublist → U8e, ext_getElem? → U8g, reverse_perm → U8h, isEmpty_nil → U8o, lookup → U8u, forIn_nil → U80, map_tail → U87, map_id → U9c
open Array renaming length_toList → U0g, getElem?_eq_getElem → U05, getElem?_toList → U1a, getD_eq_getD_getElem? → U16, toList_append → U19, getElem?_eq_some_iff → U3t, getElem_toList → U4a, toList_extract → U4o, perm_iff_toList_perm → U46, toList_reverse → U6, size_setIfInBounds → U6o, toList_push → U8f, toList_inj → U8q, size_map → U82
open Nat renaming le_refl → U0l, ne_of_lt → U02, le_trans → U1b, lt_of_lt_of_le → U1k, le_of_lt → U2g, reduceAdd → U2p, reduceSub → U2q, zero_le → U25, not_lt_zero → U3a, zero_add → U3b, lt_trans → U4c, ne_of_gt → U4d, lt_or_ge → U4f, lt_irrefl → U4g, lt_of_le_of_lt → U4l, lt_trichotomy → U5w, lt_succ_of_lt → U5y, le_of_lt_succ → U50, add_zero → U57, lt_succ_self → U58, le_add_right → U59, le_succ → U6c, add_sub_cancel_left → U6v, mod_lt → U7i, mul_le_mul_right → U7k, succ_pos → U7n, lt_or_eq_of_le → U73, mul_comm → U8m, min_self → U8r, add_assoc → U86, succ_mul → U88, le_of_eq → U89, sub_self → U9a
open Bool renaming false_eq_true → U0s, and_eq_true → U0v, false_ne_true → U1e, not_true → U36, eq_iff_iff → U4z, true_xor → U66, not_false → U7v, false_xor → U7x, true_and → U8, eq_false_iff → U8i, false_and → U8w, and_false → U8y, or_true → U9b
open Option.some renaming inj → U00
open PySem.SetTable renaming below → U1f, bits → U2b, runEnd → U2i, layClean → U2v, grown → U29, insertAt → U3g, turns → U3k, sizeAbove → U3p, leap → U3s, probe → U3v, toList_insertAt → U31, slot → U77, fits → U79, fill → U8a, Probe → U8z
open Int renaming le_refl → U1j, lt_or_le → U2k, le_of_lt → U4e, toNat_natCast → U5, emod_lt_of_pos → U6p, emod_nonneg → U7o, le_trans → U8p
open PySem.Obj renaming mapSeq → U1y, mapFields → U4p, putSet → U7g
open PySem.Heap.SameBut renaming update → U13
open List.Perm renaming append_left → U2e, refl → U5g, cons → U51
open PySem.Builtin.SmallTypes renaming nextOf → U2l, ownedTupleIsFree → U4
open PySem.NameKind renaming free → U2o, cell → U4h
open Ne renaming symm → U2s
open PySem.SetTable.layClean renaming free → U2x
open PySem.PassesOwn renaming never → U2z
open PySem.SeqAt renaming shaped → U20, EqAt → U83
open PySem.Value renaming type → U22, ref → U24, none → U3, bool → U5a, isInt_shape → U6w, isInt → U7y, int → U70
open PyProof.Rows renaming slot_tuple_getitem → U27, callWith_type1 → U4u
open PySem.F renaming plainAttrs_list → U28, slot_list_append → U34, type_list_append → U35, slot_tuple_iterator_next → U4i, called_set → U5l, slot_tuple_mul → U5u, slot_zip_next → U55, args_tuple_add_2 → U6j, entry_tuple_add → U6u, slot_tuple_add → U63
open PySem.SetTable.probe renaming go → U3h
open PySem.PyData renaming depth → U33, depthAll → U42, canLay0 → U5h, shownAll → U5t, shown → U6m, eqv → U6s, canLayAll0 → U60, showable → U7j, eqvAll → U8b
open Classical renaming byContradiction → U4m
open PySem.Str renaming ofString → U4v
open PySem.Manifest renaming ParamKind → U4w, Receiver → U6z
open ForInStep renaming yield → U41
open PySem.Manifest.ParamKind renaming posOnly → U45
open False renaming elim → U5b
open PySem.Builtin.Slice renaming slicePlaces → U5c, sliceAdjust → U6g
open PySem.Around renaming under_plainId → U5d
open PySem.Calls renaming call_function_entry → U5e
open PySem.Builtin.Tuple renaming tupleExact → U5i
open PySem.Builtin.List renaming listTooLong → U5j
open PySem.SetTable.below renaming go → U5v
open List.Pairwise renaming sublist → U7b, nil → U8d
open Sum renaming inl → U7t, inr → U7u
open PySem.Shared renaming TypeIs → U78, heap → U8v
open True renaming intro → U8j
open PyProof.Rows.SortSt renaming mk' → U8k
open Prod renaming ext → U8l
open Or renaming inr → U8n, inl → U9
noncomputable section
set_option Elab.async false
set_option maxRecDepth 10000
set_option linter.all false
set_option maxHeartbeats 4000000
namespace PySem.W.Fast
def tw17122809184657225727:=0
def tw16192093170188478379:=0
def tw10980177023007330650:=0
def tw6942036418650522813:=0
def tw15360170348604985743:=0
def tw10861868365773614014:=0
def tw10375753205754301565:=0
def tw16408462810396981399:=0
def tw16288988939625652783:=0
def tw13840702246725773410:=0
def tw3736555880813748487:=0
def tw3438335160548871166:=0
def tw4716921257147709293:=0
def tw9611227727767537328:=0
def tw11915309083278159542:=0
def tw15065062292619309340:=0
def tw15698905583036570223:=0
def tw5004250838134436881:=0
def tw8748443250543171976:=0
def tw16807009889516521119:=0
def tw16126913045313884798:=0
def tw11675465714387692260:=0
def tw17025905259619100557:=0
def tw10860974316691670251:=0
def tw11456202078538930611:=0
def tw7606868274418199725:=0
def tw16344754233457762269:=0
def tw5426890670115224687:=0
def tw4838215478690695588:=0
def tw10824587543421123876:=0
def tw4224007747821155780:=0
def tw6519202325922371451:=0
def tw2807241993183055033:=0
def tw1380988171893606251:=0
def tw12943414014691708404:=0
def tw912395510018688042:=0
def tw9949551460882492831:=0
def tw17390508983488645175:=0
def tw307413855836398692:=0
def tw13568069399805315387:=0
def tw14441982365080229642:=0
def tw12423349834229135977:=0
def tw5949487412348141847:=0
def tw13376748626208682787:=0
def tw8033923938611931375:=0
def tw17786662644807524098:=0
def tw3877472394295601166:=0
def tw6085303974657746971:=0
def tw9725127599439328977:=0
def tw7108444634125035418:=0
def tw12792139816005267367:=0
def tw2377673914828791936:=0
def tw10858593931041207363:=0
def tw2300021641627513661:=0
def tw35369034273068889:=0
def tw3806322181053453214:=0
def tw16964491395653685074:=0
def tw4173410197241257185:=0
def tw2027443652065261180:=0
def tw11966535516378949587:=0
def tw18323978943844212978:=0
def tw17961936768858222568:=0
def tw18302050961678812836:=0
def tw2019805398073226510:=0
def tw6719593617731688378:=0
def tw5371334821035463508:=0
def tw17131364169961180044:=0
def tw12244800420051011250:=0
def tw9526327066481774014:=0
def tw15831720995970365585:=0
def tw4123759537880205726:=0
def tw13272942572183962420:=0
def tw657842719197215951:=0
def tw5224727402370742355:=0
def tw15039948359497440978:=0
def tw6603861176513066727:=0
def tw1428041238509546130:=0
def tw13569742928761609545:=0
def tw5036885753903254478:=0
def tw2697493395008311977:=0
def tw12016531520560493890:=0
def tw10803724060773961144:=0
def tw18073049854597163772:=0
def tw17121838844790137188:=0
def tw10747099007636126283:=0
def tw2212317317426954005:=0
def tw1300051692882951826:=0
def tw9244002834462055312:=0
def tw5612354143963058065:=0
def tw17434574810165440968:=0
def tw18082064113396621912:=0
def tw13491307626318280002:=0
def tw11292884494495686232:=0
def tw5041598305093495094:=0
def tw123960530023179072:=0
def tw14632396778571582063:=0
def tw10107358306266212424:=0
def tw12738546330362434231:=0
def tw16524813605888295141:=0
def tw4398394786648580514:=0
def tw1165143238532258109:=0
def tw4333340862984113727:=0
def tw12466564674331931135:=0
def tw7395543738486028469:=0
def tw7024547184340157963:=0
def tw18033645301369025203:=0
def tw12593689628884312182:=0
def tw15431540974796839661:=0
def tw14880041998634048055:=0
def tw1538480026288887153:=0
end PySem.W.Fast
section
set_option maxRecDepth 100000
namespace L2
open PySem PySem.Spec PyProof.Rows
abbrev Key:=Sum Int Str
def m9:Key->Value->Bool
 |.inl k,v=>U7y k v
 |.inr x,v=>Value.isStrOf x v
def yw(w:World):Key->Int
 |.inl k=>hashInt k
 |.inr x=>hashStr w x
theorem FQ:∀{k:Key} {v:Value},m9 k v=true->(∃i t,k=U7t i/\v=U70 i t)∨(∃x t,k=U7u x/\v=Value.str x t)
 |.inl i,v,h=>by
  obtain⟨t,e⟩:=U6w (k:=i) (v:=v) h
  exact .inl ⟨i,t,rfl,e⟩
 |.inr x,v,h=>by
  obtain⟨t,e⟩:=Value.isStrOf_shape (x:=x) (v:=v) h
  exact .inr ⟨x,t,rfl,e⟩
theorem ug(a b:Int):decide ((U7t a:Key)=U7t b)=(a==b):=by
 by_cases e:a=b
 .subst e;simp
 .have h:¬(U7t a:Key)=U7t b:=fun q=>e (U7t.inj q)
  rw[decide_eq_false h]
  exact(beq_eq_false_iff_ne.mpr e).symm
theorem uY(a b:Str):decide ((U7u a:Key)=U7u b)=decide (a=b):=by
 by_cases e:a=b
 .subst e;simp
 .have h:¬(U7u a:Key)=U7u b:=fun q=>e (U7u.inj q)
  rw[decide_eq_false h,decide_eq_false e]
theorem uf(a:Int)(b:Str):decide ((U7t a:Key)=U7u b)=false:=decide_eq_false (fun q=>nomatch q)
theorem uZ(a:Str)(b:Int):decide ((U7u a:Key)=U7t b)=false:=decide_eq_false (fun q=>nomatch q)
def Vm(prog:Program)(w:World):PySem.KeyKind prog w Key where
 is:=m9
 hash:=yw w
 inj:=fun v a b ha hb=>by
  rcases FQ ha with ⟨i,t,rfl,rfl⟩|⟨x,t,rfl,rfl⟩
  .rcases FQ hb with ⟨j,u,rfl,e⟩|⟨y,u,rfl,e⟩
   .injection e with e1 _;rw[e1]
   .exact nomatch e
  .rcases FQ hb with ⟨j,u,rfl,e⟩|⟨y,u,rfl,e⟩
   .exact nomatch e
   .injection e with e1 _;rw[e1]
 byValue:=fun k v h=>by
  rcases FQ h with ⟨i,t,rfl,rfl⟩|⟨x,t,rfl,rfl⟩<;>rfl
 pyHash:=fun hv h=>by
  rcases FQ hv with ⟨i,t,rfl,rfl⟩|⟨x,t,rfl,rfl⟩
  .exact wpAny_pyHash_int h
  .exact wpAny_pyHash_str h
 eqBool:=fun hu hv h=>by
  rcases FQ hu with ⟨i,t,rfl,rfl⟩|⟨x,t,rfl,rfl⟩
  .rcases FQ hv with ⟨j,u,rfl,rfl⟩|⟨y,u,rfl,rfl⟩
   .rw[ug] at h;exact wpAny_eqBool_int h
   .rw[uf] at h;exact U83.int_str i t y u _ _ _ _ h
  .rcases FQ hv with ⟨j,u,rfl,rfl⟩|⟨y,u,rfl,rfl⟩
   .rw[uZ] at h;exact U83.str_int x t j u _ _ _ _ h
   .rw[uY] at h;exact wpAny_eqBool_str h
 «strs»:=fun k x t v h=>by
  rcases FQ h with ⟨i,u,rfl,e⟩|⟨y,u,rfl,e⟩
  .exact nomatch e
  .injection e with e1 _
   subst e1
   cases v<;>rfl
end L2
namespace L2
open PySem PySem.Spec PyProof.Rows
inductive V where
 |non|bl (b:Bool)|int (i:Int)|str (x:Str)|byt (b:Array UInt8)|flt (b:UInt64)|ref (a:Addr)|ty (n:String)
 deriving DecidableEq
def RelV:V->Value->Prop
 |.non,u=>u=U3
 |.bl b,u=>u=U5a b
 |.int i,u=>∃t,u=U70 i t
 |.str x,u=>∃t,u=Value.str x t
 |.byt b,u=>∃t,u=Value.bytes b t
 |.flt b,u=>∃t,u=Value.float b t
 |.ref a,u=>u=U24 a
 |.ty n,u=>u=U22 n
abbrev Vals:List V->List Value->Prop:=Paired RelV
theorem Vals.length{xs:List V}{us:List Value}(r:Vals xs us):xs.length=us.length:=Paired.length r
theorem Vals.get:∀{xs:List V} {us:List Value} {i:Nat} {x:V},Vals xs us->xs[i]?=some x->∃u,us[i]?=some u/\RelV x u
 |_,_,_,_,.nil,e=>by simp at e
 |_,_,0,_,.cons r _,e=>by simp at e;subst e;exact⟨_,rfl,r⟩
 |_,_,i+1,x,.cons _ t,e=>by
  obtain⟨u,h1,h2⟩:=Vals.get (i:=i) (x:=x) t (by simpa using e)
  exact⟨u,by simpa using h1,h2⟩
theorem Vals.set{x:V}{u:Value}(r:RelV x u):∀{xs:List V} {us:List Value} (i:Nat),Vals xs us->Vals (xs.set i x) (us.set i u)
 |_,_,_,.nil=>.nil
 |_,_,0,.cons _ t=>.cons r t
 |_,_,i+1,.cons q t=>.cons q (Vals.set r i t)
theorem Vals.append:∀{xs ys:List V} {us ws:List Value},Vals xs us->Vals ys ws->Vals (xs++ys) (us++ws)
 |_,_,_,_,.nil,s=>s
 |_,_,_,_,.cons r t,s=>.cons r (Vals.append t s)
theorem Vals.take:∀{xs:List V} {us:List Value} (n:Nat),Vals xs us->Vals (xs.take n) (us.take n)
 |_,_,0,_=>.nil
 |_,_,_+1,.nil=>.nil
 |_,_,n+1,.cons r t=>.cons r (Vals.take n t)
theorem Vals.drop:∀{xs:List V} {us:List Value} (n:Nat),Vals xs us->Vals (xs.drop n) (us.drop n)
 |_,_,0,r=>r
 |_,_,_+1,.nil=>.nil
 |_,_,n+1,.cons _ t=>Vals.drop n t
def iu:Option V->Option Value->Prop
 |some v,some u=>RelV v u
 |none,none=>True
 |_,_=>False
def KV{κ:Type}:List (κ×V)->List (κ×Value)->Prop:=Paired fun(p:κ×V) (q:κ×Value)=>p.1=q.1/\RelV p.2 q.2
def kV:Key->V
 |.inl i=>.int i
 |.inr x=>.str x
inductive HO where
 |lst (xs:List V)
 |tup (xs:List V)
 |dK (kvs:List (Key×V))|dT (kvs:List (List Key×V))
 |set (S:Int->Bool) (n:Nat)
 |ins (C dx:Addr) (fs:List (Str×V))
 |own (x:Addr)
 |xd (fs:List (Str×V))
 |met (f x:Addr)
 |rng (lo hi:Int)
 |frz (o:Obj) (u:HO)
 |tbl (ps:Array Value)
 |ext (φ:Heap->Prop)
abbrev Hp:=Addr->Option HO
def upd(H:Hp)(a:Addr)(o:HO):Hp:=fun b=>if b=a then some o else H b
theorem Bq{H:Hp}{a:Addr}{o:HO}:upd H a o a=some o:=by unfold upd;rw[if_pos rfl]
theorem Bh{H:Hp}{a b:Addr}{o:HO}(h:b≠a):upd H a o b=H b:=by unfold upd;rw[if_neg h]
theorem DR{H:Hp}{a b:Addr}{o:HO}(h:H a=some o)(h':H b=none):a≠b:=by
 intro e;subst e;rw[h] at h';cases h'
section
variable(P:Program)(w:World)
def Dm(H:Hp)(h:Heap)(a:Addr):HO->Prop
 |.lst xs=>xs.length<=sizeLine/\∃(its:List Value)(n:Nat),Vals xs its/\h.get? a=some { cls:=.type "list",data:=.seq its.toArray n }
 |.tup xs=>xs.length<=sizeLine/\∃its:List Value,Vals xs its/\IsTup h a its.toArray
 |.dK kvs=>kvs.length<=sizeLine/\(a==sysModules)=false/\∃vs,KV kvs vs/\h.DictOf (Vm P w) a vs
 |.dT kvs=>kvs.length<=sizeLine/\(a==sysModules)=false/\∃xs:List (List Key×Addr×Value),
   Paired (fun(p:List Key×V) (q:List Key×Addr×Value)=>p.1=q.1/\H q.2.1=some (.tup (p.1.map kV))/\RelV p.2 q.2.2) kvs xs /\
   ∃o es ep,h.get? a=some o/\o.ExactDict/\o.data=.dict es ep/\es.toList=xs.map (entryOfKey (tupleKind (Vm P w)))/\(xs.map (·.1)).Nodup
 |.set S n=>h.SetOf (intKind P w) a S n
 |.ins C dx fs=>H dx=some (.own a)/\fs.length<=1000/\dx≠a/\h.get? a=some (U8s C dx) /\
   ∃mA,h.Ns1 dx mA/\(∀f,iu (fs.lookup f) (mA f))/\PySem.Within mA (fs.map (·.1))
 |.own _=>∃o,h.get? a=some o
 |.xd fs=>∃mA,h.Ns1 a mA/\∀f,iu (fs.lookup f) (mA f)
 |.rng lo hi=>∃t u v,h.get? a=some { cls:=.type "range",data:=.fields #[.int lo t,.int hi u,.int 1 v] }
 |.frz o u=>h.get? a=some o/\Dm H h a u
 |.tbl ps=>h.get? a=some { cls:=.none,data:=.fields ps }
 |.met f x=>h.get? a=some (U8c (.ref f) (.ref x))
 |.ext φ=>φ h/\(∃o,h.get? a=some o)/\∀h1 h2:Heap,φ h1->(∀o,h1.get? a=some o->h2.get? a=some o)->φ h2
def HOk(H:Hp)(h:Heap):Prop:=∀a o,H a=some o->Dm P w H h a o
end
section
variable{P:Program}{w:World}{H H':Hp}{h h':Heap}{a:Addr}{o:HO}
theorem Dm.lt(x:Dm P w H h a o):a<h.objs.size:=by
 cases o with
 |lst xs=>obtain⟨_,_,_,_,e⟩:=x;exact U0o e
 |tup xs=>obtain⟨_,_,_,p⟩:=x;exact p.lt
 |dK kvs=>obtain⟨_,_,_,_,o,_,_,e,_⟩:=x;exact U0o e
 |dT kvs=>obtain⟨_,_,_,_,o,_,_,e,_⟩:=x;exact U0o e
 |set S n=>obtain⟨o,_,_,_,e,_⟩:=x;exact U0o e
 |ins C dx fs=>obtain⟨_,_,_,e,_⟩:=x;exact U0o e
 |own y=>obtain⟨_,e⟩:=x;exact U0o e
 |xd fs=>obtain⟨_,⟨_,_,_,e,_⟩,_⟩:=x;exact U0o e
 |rng lo hi=>obtain⟨_,_,_,e⟩:=x;exact U0o e
 |frz ob u=>obtain⟨e,_⟩:=x;exact U0o e
 |tbl ps=>exact U0o (show h.get? a=some _ from x)
 |met f y=>exact U0o (show h.get? a=some _ from x)
 |ext φ=>obtain⟨_,⟨_,e⟩,_⟩:=x;exact U0o e
theorem Paired.sH{Zs Zp:Type}{F G:Zs->Zp->Prop}:∀{l₁:List Zs} {l₂:List Zp},Paired F l₁ l₂->(∀a b,F a b->G a b)->Paired G l₁ l₂
 |_,_,.nil,_=>.nil
 |_,_,.cons r t,f=>.cons (f _ _ r) (Paired.sH t f)
theorem Dm.stay(x:Dm P w H h a o)(k:∀b u,(b=a∨H b=some (.own a))->h.get? b=some u->h'.get? b=some u)
  (ho:∀b,H b=some (.own a)->H' b=some (.own a)) (ht:∀b xs,H b=some (.tup xs)->H' b=some (.tup xs)):Dm P w H' h' a o:=by
 induction o with
 |lst xs=>obtain⟨z,its,n,r,e⟩:=x;exact⟨z,its,n,r,k _ _ (.inl rfl) e⟩
 |tup xs=>obtain⟨z,its,r,ob,e,c⟩:=x;exact⟨z,its,r,ob,k _ _ (.inl rfl) e,c⟩
 |dK kvs=>obtain⟨z,y,vs,r,ob,es,ep,e,c⟩:=x;exact⟨z,y,vs,r,ob,es,ep,k _ _ (.inl rfl) e,c⟩
 |dT kvs =>
  obtain⟨z,y,xs,r,ob,es,ep,e,c⟩:=x
  exact⟨z,y,xs,Paired.sH r fun p q z=>⟨z.1,ht _ _ z.2.1,z.2.2⟩,ob,es,ep,k _ _ (.inl rfl) e,c⟩
 |set S n=>obtain⟨ob,es,ep,t,e,c⟩:=x;exact⟨ob,es,ep,t,k _ _ (.inl rfl) e,c⟩
 |ins C dx fs =>
  obtain⟨d,z,ne,e,mA,⟨od,es,ep,e2,c⟩,r⟩:=x
  exact⟨ho _ d,z,ne,k _ _ (.inl rfl) e,mA,⟨od,es,ep,k _ _ (.inr d) e2,c⟩,r⟩
 |own y=>obtain⟨ob,e⟩:=x;exact⟨ob,k _ _ (.inl rfl) e⟩
 |xd fs=>obtain⟨mA,⟨od,es,ep,e,c⟩,r⟩:=x;exact⟨mA,⟨od,es,ep,k _ _ (.inl rfl) e,c⟩,r⟩
 |rng lo hi=>obtain⟨t,u,v,e⟩:=x;exact⟨t,u,v,k _ _ (.inl rfl) e⟩
 |frz ob u ih=>obtain⟨e,q⟩:=x;exact⟨k _ _ (.inl rfl) e,ih q⟩
 |tbl ps =>
  have e:h.get? a=some { cls:=.none,data:=.fields ps }:=x
  show h'.get? a=some { cls:=.none,data:=.fields ps }
  exact k a _ (.inl rfl) e
 |met f y =>
  have e:h.get? a=some (U8c (.ref f) (.ref y)):=x
  show h'.get? a=some (U8c (.ref f) (.ref y))
  exact k a _ (.inl rfl) e
 |ext φ=>obtain⟨p,⟨o,e⟩,st⟩:=x;exact⟨st _ _ p fun o q=>k _ _ (.inl rfl) q,⟨o,k _ _ (.inl rfl) e⟩,st⟩
theorem HOk.lt(x:HOk P w H h)(e:H a=some o):a<h.objs.size:=(x a o e).lt
theorem HOk.fresh(x:HOk P w H h)(e:h.objs.size<=a):H a=none:=by
 cases q:H a with
 |none=>rfl
 |some u=>exact absurd (U1k (x.lt q) e) (U4g _)
theorem HOk.kept(x:HOk P w H h)(k:∀b u,h.get? b=some u->h'.get? b=some u):HOk P w H h':=fun a o e =>
 (x a o e).stay (fun b u _ q=>k b u q) (fun _ q=>q) fun _ _ q=>q
theorem HOk.laid(x:HOk P w H h)(k:∀b u,h.get? b=some u->h'.get? b=some u)(hp:h.objs.size<=a)(new:Dm P w (upd H a o) h' a o):HOk P w (upd H a o) h':=fun b u e=>by
 have hn:=x.fresh hp
 by_cases hb:b=a
 .subst hb;rw[Bq] at e;cases e;exact new
 .rw[Bh hb] at e
  exact(x b u e).stay (fun c v _ q=>k c v q) (fun c q=>by rw[Bh (DR q hn)];exact q) fun c xs q=>by rw[Bh (DR q hn)];exact q
end
def Rd(H:Hp)(a:Addr)(u:HO):Prop:=H a=some u∨∃o,H a=some (.frz o u)
theorem Rd.ok{P:Program}{w:World}{H:Hp}{h:Heap}{a:Addr}{u:HO}(r:Rd H a u)(x:HOk P w H h):Dm P w H h a u:=by
 rcases r with r|⟨o,r⟩
 .exact x a u r
 .obtain⟨_,q⟩:=x a _ r
  exact q
def Mut:Option HO->Prop
 |some (.lst _)=>True
 |some (.dK _)=>True
 |some (.dT _)=>True
 |some (.set _ _)=>True
 |some (.ins _ _ _)=>True
 |some (.ext _)=>True
 |_=>False
section
variable{P:Program}{w:World}{H:Hp}{h h':Heap}{x e:Addr}{o':HO}
theorem HOk.write(ok:HOk P w H h)(mu:Mut (H x))(he:e=x∨H e=some (.own x))(k:∀b u,b≠e->h.get? b=some u->h'.get? b=some u)(heo:∃u,h'.get? e=some u)
  (new:Dm P w (upd H x o') h' x o'):HOk P w (upd H x o') h':=fun b u q=>by
 have nown:∀c y,H c=some (.own y)->c≠x:=fun c y r z=>by subst z;rw[r] at mu;exact mu
 have ntup:∀c xs,H c=some (.tup xs)->c≠x:=fun c xs r z=>by subst z;rw[r] at mu;exact mu
 by_cases hb:b=x
 .subst hb;rw[Bq] at q;cases q;exact new
 .rw[Bh hb] at q
  by_cases hbe:b=e
  .have q':H b=some (.own x):=by
    rcases he with z|z
    .exact absurd (hbe.trans z) hb
    .rw[hbe];exact z
   rw[q] at q';cases q'
   obtain⟨v,hv⟩:=heo
   exact⟨v,by rw[hbe];exact hv⟩
  .refine(ok b u q).stay (fun c v hc r=>k c v ?_ r) (fun c r=>by rw[Bh (nown c b r)];exact r) fun c xs r=>by rw[Bh (ntup c xs r)];exact r
   rcases hc with rfl|hc
   .exact hbe
   .rintro rfl
    rcases he with z|z
    .exact nown c b hc z
    .rw[hc] at z;cases z;exact hb rfl
end
structure Un(fs ex:List Addr)(H H':Hp)(h h':Heap):Prop where
 keep:∀b o,h.get? b=some o->H b=none->b ∉ fs->b ∉ ex->h'.get? b=some o
 slot:∀b o,h.get? b=some o->H b=none->b∈fs->b ∉ ex->∃sl,h'.get? b=some { o with slots:=sl }
 free:∀b o,h.get? b=some o->H b=none->b ∉ ex->H' b=none
 there:∀b o,h.get? b=some o->b ∉ ex->∃o',h'.get? b=some o'
 tups:∀b xs,H b=some (.tup xs)->H' b=some (.tup xs)
 frzs:∀b o u,H b=some (.frz o u)->H' b=some (.frz o u)
 tbls:∀b ps,H b=some (.tbl ps)->∃more,H' b=some (.tbl (ps++more))
 sy:H sysModules=none->H' sysModules=none
section
variable{fs fs' ex ex':List Addr}{H H1 H2:Hp}{h h1 h2 h':Heap}{a x e:Addr}{o:HO}
theorem Un.any(u:Un fs ex H H1 h h1){b:Addr}{ob:Obj}(q:h.get? b=some ob)(n:H b=none)(hx:b ∉ ex):∃sl,h1.get? b=some { ob with slots:=sl }:=by
 by_cases hb:b∈fs
 .exact u.slot b ob q n hb hx
 .exact⟨ob.slots,u.keep b ob q n hb hx⟩
theorem Un.kept(k:∀b u,h.get? b=some u->h'.get? b=some u):Un fs ex H H h h' :=
 ⟨fun b ob q _ _ _=>k b ob q,fun b ob q _ _ _=>⟨ob.slots,k b ob q⟩,fun _ _ _ n _=>n,fun b ob q _=>⟨ob,k b ob q⟩,fun _ _ q=>q,fun _ _ _ q=>q,fun _ ps q=>⟨#[],by rw[q];simp⟩,id⟩
theorem Un.refl:Un fs ex H H h h:=Un.kept fun _ _ q=>q
theorem Un.laid(k:∀b u,h.get? b=some u->h'.get? b=some u)(hp:h.objs.size<=a)(hn:H a=none)(hsy:sysModules≠a):Un fs ex H (upd H a o) h h' where
 sy:=fun n=>by rw[Bh hsy];exact n
 keep:=fun b u q _ _ _=>k b u q
 slot:=fun b u q _ _ _=>⟨u.slots,k b u q⟩
 free:=fun b u q n _=>by rw[Bh (U02 (U1k (U0o q) hp))];exact n
 there:=fun b u q _=>⟨u,k b u q⟩
 tups:=fun b xs q=>by rw[Bh (DR q hn)];exact q
 frzs:=fun b u xs q=>by rw[Bh (DR q hn)];exact q
 tbls:=fun b ps q=>⟨#[],by rw[Bh (DR q hn),q];simp⟩
theorem Un.write(mu:Mut (H x))(he:e=x∨H e=some (.own x))(k:∀b u,b≠e->h.get? b=some u->h'.get? b=some u)(heo:∃u,h'.get? e=some u):Un fs ex H (upd H x o) h h':=by
 have hx:∀b,H b=none->b≠x:=fun b n z=>by subst z;rw[n] at mu;exact mu
 have hb:∀b,H b=none->b≠e:=fun b n z=>by
  subst z
  rcases he with r|r
  .exact hx b n r
  .rw[n] at r;cases r
 have hm:∀b u,H b=some u->¬Mut (some u)->b≠x:=fun b u q nm z=>by subst z;rw[q] at mu;exact nm mu
 refine⟨fun b u q n _ _=>k b u (hb b n) q,fun b u q n _ _=>⟨u.slots,k b u (hb b n) q⟩,fun b u q n _=>by rw[Bh (hx b n)];exact n,fun b u q _=>?_,
  fun b xs q=>by rw[Bh (hm b _ q fun z=>z)];exact q,fun b u xs q=>by rw[Bh (hm b _ q fun z=>z)];exact q,fun b ps q=>⟨#[],by rw[Bh (hm b _ q fun z=>z),q];simp⟩,fun n=>by rw[Bh (hx _ n)];exact n⟩
 by_cases hbe:b=e
 .subst hbe;exact heo
 .exact⟨u,k b u hbe q⟩
end
def trk(h:Heap)(H:Hp):List Addr:=(U3e h.objs.size).filter fun a=>(H a).isSome
def Px(h:Heap)(H:Hp):Heap:=PySem.W.hideAll h (trk h H)
theorem gQ(h:Heap)(H:Hp):(Px h H).objs.size=h.objs.size:=PySem.W.hideAll_size _ _
theorem kJ{h:Heap}{H:Hp}{b:Addr}{o:Obj}(e:h.get? b=some o)(n:H b=none):(Px h H).get? b=some o :=
 PySem.W.hideAll_get _ e fun hm=>by
  have q:(H b).isSome=true:=(U1u.mp hm).2
  rw[n] at q;simp at q
theorem pI{h:Heap}{H:Hp}{b:Addr}{o:Obj}(e:(Px h H).get? b=some o):h.get? b=some o/\H b=none:=by
 have e':h.get? b=some o:=PySem.W.of_hideAll (trk h H) e
 refine⟨e',?_⟩
 cases q:H b with
 |none=>rfl
 |some x =>
  have hm:b∈trk h H:=U1u.mpr ⟨U2y.mpr (U0o e'),by simp[q]⟩
  have z:(Px h H).get? b=none:=PySem.W.hideAll_none (trk h H) hm
  rw[z] at e;cases e
def qX(g h:Heap)(L:Addr):List (Addr×Obj):=(U3e h.objs.size).filterMap fun a=>if a=L∨(g.get? a).isSome=true then none else (h.get? a).map fun o=>(a,o)
def rest(g h:Heap)(L d:Addr):List (Addr×Obj):=(qX g h L).filter fun p=>decide (p.1≠d)
end L2
namespace L2
open PySem PySem.Spec PyProof.Rows
structure Mod(K:U0b)(mg:Str->Option Value)(base:Heap):Prop where
 kin:K.In base
 glob:base.Ns mainGlobals mg
 blt:∃mb,base.Ns builtinsNs mb/\∀x:Str,x≠"__name__"->mb x=bootBuiltins x
 nolimit:base.NoLimit
structure Cx where
 prog:Program
 w:World
 K:U0b
 mg:Str->Option Value
 base:Heap
 A:Around
 N:List Str
 s₀:Shared
 H₀:Hp
 env:Env
 outer:List Env
 stack:List Env
 ex:List Addr
 fn:Str->Bool
 calm:Bool
 pn:List (Addr×Obj)
 xe:Value->Shared->Prop
def frs(l:List Env):List Addr:=l.filterMap (·.frame)
abbrev Cx.fs(X:Cx):List Addr:=frs X.outer
def Vis(sc:Scope)(x:Str):Prop:=sc.names.lookup x=some .local∨sc.names.lookup x=some .cell∨sc.names.lookup x=some .free
def Loc(sc:Scope)(x:Str):Prop:=sc.names.lookup x=some .local∨sc.names.lookup x=some .cell
def Look(env:Env)(h:Heap)(m:Str->Option Value)(x:Str)(u:Value):Prop :=
 (env.kindOf x=some .local/\m x=some u)∨((env.kindOf x=some .cell∨env.kindOf x=some .free)/\∃c,env.cells.lookup x=some c/\h.IsCell c (some u))
structure Cx.Ok(X:Cx):Prop where
 mod:Mod X.K X.mg X.base
 kind:X.env.scope.kind=.function
 glob:X.env.globals=mainGlobals
 blt:X.env.builtins=builtinsNs
 above:X.s₀.heap.objs.size<=X.env.locals
 inj:∀x y c,X.env.cells.lookup x=some c->X.env.cells.lookup y=some c->x=y
 has:∀x,(X.env.kindOf x=some .cell∨X.env.kindOf x=some .free)->∃c,X.env.cells.lookup x=some c
 cab:∀x c,X.fn x=true->X.env.cells.lookup x=some c->X.s₀.heap.objs.size<=c
 hd:X.calm=true->X.A.handled=none
 frames:X.A.frames=some X.stack
 stk:X.stack=X.outer∨(X.stack=X.env::X.outer/\X.env.frame=some X.env.locals)
 exf:∀b∈X.ex,b≠X.env.locals/\∀x c,X.env.cells.lookup x=some c->c≠b
 bs:∀b o,X.base.get? b=some o->X.s₀.heap.get? b=some o/\X.H₀ b=none
 bsz:X.base.objs.size<=X.s₀.heap.objs.size
 noex:∀b o,X.base.get? b=some o->b ∉ X.ex
 exfs:∀b∈X.ex,b ∉ X.fs
 N7:X.s₀.heap.FunFrames X.base X.outer
 frf:∀b∈X.fs,X.H₀ b=none
 sy:X.H₀ sysModules=none
structure Inv(X:Cx)(pins:List (Addr×Obj))(Z3:List (Option V))(H:Hp)(s:Shared):Prop where
 ok:X.Ok
 os:s.os=X.s₀.os
 bare:AllBare s.gens
 base:Un X.fs X.ex X.H₀ H X.s₀.heap s.heap
 loc:∃m,s.heap.Ns X.env.locals m/\∀(i:Nat)(x:Str)(v:V),X.N[i]?=some x->Z3[i]?=some (some v)->Vis X.env.scope x->∃u,RelV v u/\Look X.env s.heap m x u
 cell:∀x c,X.env.cells.lookup x=some c->∃v,s.heap.IsCell c v
 free:H X.env.locals=none
 freeC:∀x c,X.env.cells.lookup x=some c->H c=none
 pin:∀p∈X.pn++pins,s.heap.get? p.1=some p.2/\H p.1=none/\p.1≠X.env.locals/\p.1 ∉ X.fs/\∀v,p.2.data≠.cell v
 hok:HOk X.prog X.w H s.heap
 len:Z3.length=X.N.length
section
variable{X:Cx}{pins:List (Addr×Obj)}{Z3:List (Option V)}{H H':Hp}{s:Shared}{h':Heap}
theorem Cx.Ok.yt(ok:X.Ok){b:Addr}{o:Obj}(e:X.base.get? b=some o):b ∉ X.fs:=fun hb=>by
 have:=(ok.N7.mem hb).1
 rw[e] at this;cases this
theorem Inv.bs(I:Inv X pins Z3 H s):∀b o,X.base.get? b=some o->s.heap.get? b=some o/\H b=none:=fun b o e =>
 ⟨I.base.keep b o (I.ok.bs b o e).1 (I.ok.bs b o e).2 (I.ok.yt e) (I.ok.noex b o e),I.base.free b o (I.ok.bs b o e).1 (I.ok.bs b o e).2 (I.ok.noex b o e)⟩
theorem Inv.bk(I:Inv X pins Z3 H s):∀b o,X.base.get? b=some o->s.heap.get? b=some o:=fun b o e=>(I.bs b o e).1
theorem Inv.mod(I:Inv X pins Z3 H s):Mod X.K X.mg X.base:=I.ok.mod
theorem Inv.kIn(I:Inv X pins Z3 H s):X.K.In s.heap:=I.ok.mod.kin.keeps I.bk
theorem Inv.fr(I:Inv X pins Z3 H s):∃m,Fr X.base X.env.locals s.heap m :=
 let ⟨m,hn,_⟩:=I.loc
 ⟨m,hn,I.bk,U1b I.ok.bsz I.ok.above⟩
theorem Inv.lt(I:Inv X pins Z3 H s):X.env.locals<s.heap.objs.size:=let ⟨_,hn,_⟩:=I.loc;hn.lt
theorem Inv.sz(I:Inv X pins Z3 H s):X.s₀.heap.objs.size<=s.heap.objs.size:=U1b I.ok.above (U2g I.lt)
theorem Inv.iQ(I:Inv X pins Z3 H s){a:Addr}(h:s.heap.objs.size<=a):a ∉ X.fs:=fun hb=>by
 obtain⟨_,o,ho,_⟩:=I.ok.N7.mem hb
 exact absurd (U1k (U0o ho) (U1b I.sz h)) (U4g _)
theorem Inv.cne(I:Inv X pins Z3 H s):∀x c,X.env.cells.lookup x=some c->c≠X.env.locals:=fun x c e z=>by
 obtain⟨v,o,ho,hd⟩:=I.cell x c e
 obtain⟨m,⟨o',es,ep,ho',hd',_⟩,_⟩:=I.loc
 rw[z,ho'] at ho;cases ho;rw[hd'] at hd;cases hd
theorem Inv.N7(I:Inv X pins Z3 H s):s.heap.FunFrames X.base X.outer:=by
 have all:∀(l:List Env),(∀b∈frs l,b∈X.fs)->X.s₀.heap.FunFrames X.base l->s.heap.FunFrames X.base l:=by
  intro l
  induction l with
  |nil=>intro _ _;trivial
  |cons env r ih =>
   intro hs hl
   obtain⟨hk,⟨L,o,hf,hn,ho,hd⟩,hr⟩:=hl
   have hL:L∈X.fs:=hs L (by unfold frs;rw[U6d,hf];exact U0i)
   obtain⟨sl,e⟩:=I.base.slot L o ho (I.ok.frf L hL) hL fun z=>I.ok.exfs L z hL
   exact⟨hk,⟨L,_,hf,hn,e,hd⟩,ih (fun b hb=>hs b (by unfold frs;rw[U6d,hf];exact U0k _ hb)) hr⟩
 exact all X.outer (fun _ hb=>hb) I.ok.N7
theorem Inv.stack(I:Inv X pins Z3 H s):s.heap.FunFrames X.base X.stack:=by
 rcases I.ok.stk with e|⟨e,hf⟩
 .rw[e];exact I.N7
 .rw[e]
  obtain⟨m,hn,_⟩:=I.loc
  refine .cons (by rw[I.ok.kind];decide) hf hn ?_ I.N7
  exact U7c (U1b I.ok.bsz I.ok.above)
theorem Inv.Qm(I:Inv X pins Z3 H s):∀b∈frs X.stack,b∈X.env.locals::X.fs:=fun b hb=>by
 rcases I.ok.stk with e|⟨e,hf⟩
 .rw[e] at hb;exact U0k _ hb
 .rw[e] at hb
  unfold frs at hb
  rw[U6d,hf] at hb
  exact hb
theorem Inv.Zx(I:Inv X pins Z3 H s):∀b∈frs X.stack,H b=none:=fun b hb=>by
 rcases U0h.mp (I.Qm b hb) with e|hb
 .rw[e];exact I.free
 .obtain⟨_,o,ho,_⟩:=I.ok.N7.mem hb
  exact I.base.free b o ho (I.ok.frf b hb) fun z=>I.ok.exfs b z hb
theorem Inv.bL(I:Inv X pins Z3 H s):sysModules<s.heap.objs.size:=by
 obtain⟨o,_,_,e,_⟩:=I.ok.mod.glob
 exact U4c (by decide:(1:Nat)<3) (U0o (I.bk _ _ e))
theorem Inv.Sw(I:Inv X pins Z3 H s):H sysModules=none:=I.base.sy I.ok.sy
theorem Inv.step{g':Array GenState}{t':Nat}{d':Drawn}{ch:List Addr}(I:Inv X pins Z3 H s)
  (hch:∀b∈ch,(b∈X.ex∨X.s₀.heap.objs.size<=b)/\b≠X.env.locals/\(∀x c,X.env.cells.lookup x=some c->c≠b)/\∀p∈X.pn++pins,p.1≠b)
  (keep:∀b o,b≠X.env.locals->b ∉ X.fs->b ∉ ch->s.heap.get? b=some o->H b=none->h'.get? b=some o)
  (slot:∀b o,b≠X.env.locals->b∈X.fs->b ∉ ch->s.heap.get? b=some o->H b=none->∃sl,h'.get? b=some { o with slots:=sl }) (free:∀b o,b ∉ ch->s.heap.get? b=some o->H b=none->H' b=none)
  (there:∀b o,b ∉ ch->s.heap.get? b=some o->∃o',h'.get? b=some o')
  (tups:∀b xs,H b=some (.tup xs)->H' b=some (.tup xs)) (frzs:∀b o u,H b=some (.frz o u)->H' b=some (.frz o u)) (tbls:∀b ps,H b=some (.tbl ps)->∃more,H' b=some (.tbl (ps++more)))
  (ns:∀m,s.heap.Ns X.env.locals m->h'.Ns X.env.locals m) (hok:HOk X.prog X.w H' h') (hg:AllBare g') (sy:H sysModules=none->H' sysModules=none) :
  Inv X pins Z3 H' { s with heap:=h',gens:=g',drawn:=d',toks:=t' }:=by
 have neL:∀b o,X.s₀.heap.get? b=some o->b≠X.env.locals:=fun b o e=>U02 (U1k (U0o e) I.ok.above)
 have neC:∀b o,X.s₀.heap.get? b=some o->b ∉ X.ex->b ∉ ch:=fun b o e hx hb=>by
  rcases(hch b hb).1 with z|z
  .exact hx z
  .exact absurd (U1k (U0o e) z) (U4g _)
 have cellK:∀x c,X.env.cells.lookup x=some c->∀v,s.heap.IsCell c v->h'.IsCell c v:=fun x c e v ⟨o,ho,hd⟩=>by
  have nch:c ∉ ch:=fun z=>(hch c z).2.2.1 x c e rfl
  by_cases hc:c∈X.fs
  .obtain⟨sl,q⟩:=slot c o (I.cne x c e) hc nch ho (I.freeC x c e)
   exact⟨_,q,hd⟩
  .exact⟨o,keep c o (I.cne x c e) hc nch ho (I.freeC x c e),hd⟩
 refine⟨I.ok,I.os,hg,⟨fun b o e n hb hx=>?_,fun b o e n hb hx=>?_,fun b o e n hx=>?_,fun b o e hx=>?_,fun b xs e=>tups b xs (I.base.tups b xs e),fun b o xs e=>frzs b o xs (I.base.frzs b o xs e),fun b ps e=>?_,fun n=>sy (I.base.sy n)⟩,?_,fun x c e=>?_,?_,fun x c e=>?_,fun p hp=>?_,hok,I.len⟩
 .exact keep b o (neL b o e) hb (neC b o e hx) (I.base.keep b o e n hb hx) (I.base.free b o e n hx)
 .obtain⟨sl,e1⟩:=I.base.slot b o e n hb hx
  obtain⟨sl',e2⟩:=slot b _ (neL b o e) hb (neC b o e hx) e1 (I.base.free b o e n hx)
  exact⟨sl',e2⟩
 .obtain⟨o',e1⟩:=I.base.there b o e hx
  exact free b o' (neC b o e hx) e1 (I.base.free b o e n hx)
 .obtain⟨o',e1⟩:=I.base.there b o e hx
  exact there b o' (neC b o e hx) e1
 .obtain⟨m1,e1⟩:=I.base.tbls b ps e
  obtain⟨m2,e2⟩:=tbls b _ e1
  exact⟨m1++m2,by rw[e2,Array.append_assoc]⟩
 .obtain⟨m,hn,hl⟩:=I.loc
  refine⟨m,ns m hn,fun i x v e1 e2 e3=>?_⟩
  obtain⟨u,r,l⟩:=hl i x v e1 e2 e3
  refine⟨u,r,?_⟩
  rcases l with l|⟨k,c,e,z⟩
  .exact .inl l
  .exact .inr ⟨k,c,e,cellK x c e _ z⟩
 .obtain⟨v,z⟩:=I.cell x c e
  exact⟨v,cellK x c e v z⟩
 .obtain⟨m,⟨o,_,_,ho,_⟩,_⟩:=I.loc
  exact free _ o (fun z=>(hch _ z).2.1 rfl) ho I.free
 .obtain⟨v,o,ho,hd⟩:=I.cell x c e
  exact free c o (fun z=>(hch c z).2.2.1 x c e rfl) ho (I.freeC x c e)
 .obtain⟨e,n,ne,nf,d⟩:=I.pin p hp
  have nch:p.1 ∉ ch:=fun z=>(hch p.1 z).2.2.2 p hp rfl
  exact⟨keep p.1 p.2 ne nf nch e n,free p.1 p.2 nch e n,ne,nf,d⟩
theorem Inv.un{t':Nat}(I:Inv X pins Z3 H s)(u:Un X.fs [] H H' s.heap h')(hok:HOk X.prog X.w H' h'):Inv X pins Z3 H' { s with heap:=h',toks:=t' }:=by
 obtain⟨m,⟨o,es,ep,ho,r⟩,_⟩:=id I.loc
 obtain⟨sl,hL⟩:=u.any ho I.free (by simp)
 exact I.step (g':=s.gens) (d':=s.drawn) (ch:=[]) (fun _ z=>nomatch z) (fun b o _ hb _ e n=>u.keep b o e n hb (by simp)) (fun b o _ hb _ e n=>u.slot b o e n hb (by simp)) (fun b o _ e n=>u.free b o e n (by simp)) (fun b o _ e=>u.there b o e (by simp)) u.tups u.frzs u.tbls (fun m' hm=>by
  obtain⟨o',es',ep',ho',r'⟩:=hm
  rw[ho] at ho';cases ho'
  exact⟨_,es',ep',hL,r'⟩) hok I.bare u.sy
theorem Inv.call{g':Array GenState}{t':Nat}{d':Drawn}{ch:List Addr}(I:Inv X pins Z3 H s)(u:Un (frs X.stack) ch H H' s.heap h')(hok:HOk X.prog X.w H' h')(hg:AllBare g')
  (hch:∀b∈ch,(b∈X.ex∨X.s₀.heap.objs.size<=b)/\b≠X.env.locals/\(∀x c,X.env.cells.lookup x=some c->c≠b)/\∀p∈X.pn++pins,p.1≠b) :
  Inv X pins Z3 H' { s with heap:=h',gens:=g',drawn:=d',toks:=t' }:=by
 obtain⟨m,⟨o,es,ep,ho,r⟩,_⟩:=id I.loc
 obtain⟨sl,hL⟩:=u.any ho I.free fun z=>(hch _ z).2.1 rfl
 exact I.step (ch:=ch) hch (fun b o hL hb hc e n=>u.keep b o e n (fun z=>(U0h.mp (I.Qm b z)).elim hL hb) hc) (fun b o _ _ hc e n=>u.any e n hc) (fun b o hc e n=>u.free b o e n hc) (fun b o hc e=>u.there b o e hc) u.tups u.frzs u.tbls (fun m' hm=>by
  obtain⟨o',es',ep',ho',r'⟩:=hm
  rw[ho] at ho';cases ho'
  exact⟨_,es',ep',hL,r'⟩) hok hg u.sy
theorem Inv.turned{t':Nat}{it:Addr}(I:Inv X pins Z3 H s)(k:∀b o,b≠it->s.heap.get? b=some o->h'.get? b=some o)(hn:H it=none)(hL:it≠X.env.locals)
  (h1:it∈X.ex∨X.s₀.heap.objs.size<=it) (h2:∀x c,X.env.cells.lookup x=some c->c≠it) (h3:∀p∈X.pn++pins,p.1≠it):Inv X pins Z3 H { s with heap:=h',toks:=t' }:=by
 have nit:∀b u,H b=some u->b≠it:=fun b u e z=>by rw[z,hn] at e;cases e
 refine I.step (g':=s.gens) (d':=s.drawn) (ch:=[it]) (fun b hb=>?_) (fun b o _ _ hc e _=>k b o (fun z=>hc (by simp[z])) e) (fun b o _ _ hc e _=>⟨o.slots,k b o (fun z=>hc (by simp[z])) e⟩) (fun _ _ _ _ n=>n)
  (fun b o hc e=>⟨o,k b o (fun z=>hc (by simp[z])) e⟩) (fun _ _ e=>e) (fun _ _ _ e=>e) (fun b ps e=>⟨#[],by rw[e];simp⟩) (fun m hm=>?_) (fun b u e=>?_) I.bare id
 .have e:b=it:=by simpa using hb
  subst e
  exact⟨h1,hL,h2,h3⟩
 .obtain⟨o,es,ep,ho,r⟩:=hm
  exact⟨o,es,ep,k _ o (U2s hL) ho,r⟩
 .refine(I.hok b u e).stay (fun c v hc q=>k c v ?_ q) (fun _ q=>q) fun _ _ q=>q
  rcases hc with z|z
  .rw[z];exact nit b u e
  .exact nit c _ z
theorem Inv.tok(I:Inv X pins Z3 H s)(t:Nat):Inv X pins Z3 H { s with toks:=t }:=I.un (h':=s.heap) (t':=t) Un.refl I.hok
theorem Inv.kept{t':Nat}(I:Inv X pins Z3 H s)(k:∀b u,s.heap.get? b=some u->h'.get? b=some u):Inv X pins Z3 H { s with heap:=h',toks:=t' }:=I.un (Un.kept k) (I.hok.kept k)
theorem Inv.laid{a:Addr}{o:HO}{t':Nat}(I:Inv X pins Z3 H s)(k:∀b u,s.heap.get? b=some u->h'.get? b=some u)(hp:s.heap.objs.size<=a)(new:Dm X.prog X.w (upd H a o) h' a o) :
  Inv X pins Z3 (upd H a o) { s with heap:=h',toks:=t' }:=I.un (Un.laid k hp (I.hok.fresh hp) (U02 (U1k I.bL hp))) (I.hok.laid k hp new)
theorem Inv.write{x e:Addr}{o:HO}{t':Nat}(I:Inv X pins Z3 H s)(mu:Mut (H x))(he:e=x∨H e=some (.own x))(k:∀b u,b≠e->s.heap.get? b=some u->h'.get? b=some u)(heo:∃u,h'.get? e=some u)
  (new:Dm X.prog X.w (upd H x o) h' x o):Inv X pins Z3 (upd H x o) { s with heap:=h',toks:=t' }:=I.un (Un.write mu he k heo) (I.hok.write mu he k heo new)
theorem Inv.weak{ZZ:List (Option V)}(I:Inv X pins Z3 H s)(hl:ZZ.length=Z3.length)(w:∀(i:Nat) v,ZZ[i]?=some (some v)->Z3[i]?=some (some v)):Inv X pins ZZ H s :=
 ⟨I.ok,I.os,I.bare,I.base,let ⟨m,hn,hl'⟩:=I.loc;⟨m,hn,fun i x v e1 e2 e3=>hl' i x v e1 (w i v e2) e3⟩,I.cell,I.free,I.freeC,I.pin,I.hok,hl.trans I.len⟩
theorem Inv.Ri{pins':List (Addr×Obj)}(I:Inv X pins Z3 H s)(h:∀p∈pins',s.heap.get? p.1=some p.2/\H p.1=none/\p.1≠X.env.locals/\p.1 ∉ X.fs/\∀v,p.2.data≠.cell v):Inv X pins' Z3 H s :=
 ⟨I.ok,I.os,I.bare,I.base,I.loc,I.cell,I.free,I.freeC,fun p hp=>(U0z.mp hp).elim (fun z=>I.pin p (U14 _ z)) (h p),I.hok,I.len⟩
theorem Yb{N:List Str}(hN:N.Nodup){i j:Nat}{x:Str}(a:N[i]?=some x)(b:N[j]?=some x):i=j:=by
 obtain⟨h1,e1⟩:=U0j.mp a
 obtain⟨h2,e2⟩:=U0j.mp b
 exact(List.getElem_inj hN).mp (e1.trans e2.symm)
theorem W7{M:Model}{A:Around}{E:Value->Shared->Prop}{i:Nat}{x:Str}{v:V}{u:Value}{Q:Unit->Shared->Prop}(I:Inv X pins Z3 H s)(hN:X.N.Nodup)(hi:X.N[i]?=some x)(hx:Loc X.env.scope x)(r:RelV v u)
  (h:∀s',Inv X pins (Z3.set i (some v)) H s'->(∃a,U1c a s.heap s'.heap/\(a=X.env.locals∨X.env.cells.lookup x=some a))->Q () s') (hf:X.fn x=true∨X.env.scope.names.lookup x=some .local:=by first|exact .inl rfl|exact .inr rfl|assumption):wpAny M A (storeName X.env x u) Q E s:=by
 obtain⟨m,hn,hl⟩:=id I.loc
 have hcls:(X.env.scope.kind==.class||(X.env.scope.kind==.module&&X.env.locals != X.env.globals))=false:=by rw[I.ok.kind];rfl
 have ZB:i<Z3.length:=by rw[I.len];exact(U0j.mp hi).1
 have cne:=I.cne
 have tracked:∀{a:Addr} {h':Heap},(∃o,s.heap.get? a=some o/\H a=none)->U1c a s.heap h'->HOk X.prog X.w H h':=fun {a h'} ha hs b ob e=>by
  obtain⟨_,_,hfree⟩:=ha
  refine(I.hok b ob e).stay (fun c w' hc q=>(hs.2 c ?_).trans q) (fun _ q=>q) fun _ _ q=>q
  rintro rfl
  rcases hc with rfl|hc
  .rw[hfree] at e;cases e
  .rw[hfree] at hc;cases hc
 rcases hx with hk|hk
 .refine wpAny_storeName_local hk hn (fun h' hn' hs=>?_) hcls
  obtain⟨oL,_,_,hoL,_⟩:=id hn
  refine h _ ⟨I.ok,I.os,I.bare,⟨fun b o e n hb hx=>?_,fun b o e n hb hx=>?_,I.base.free,fun b o e hx=>?_,I.base.tups,I.base.frzs,I.base.tbls,I.base.sy⟩,⟨_,hn',fun j y v' e1 e2 e3=>?_⟩,fun y c e=>?_,I.free,I.freeC,fun p hp=>?_,tracked ⟨oL,hoL,I.free⟩ hs,by simpa using I.len⟩ ⟨_,hs,.inl rfl⟩
  .exact(hs.2 b (U02 (U1k (U0o e) I.ok.above))).trans (I.base.keep b o e n hb hx)
  .obtain⟨sl,e1⟩:=I.base.slot b o e n hb hx
   exact⟨sl,(hs.2 b (U02 (U1k (U0o e) I.ok.above))).trans e1⟩
  .obtain⟨o',e1⟩:=I.base.there b o e hx
   exact⟨o',(hs.2 b (U02 (U1k (U0o e) I.ok.above))).trans e1⟩
  .by_cases hj:j=i
   .subst hj
    rw[hi] at e1;cases e1
    rw[U3u ZB] at e2
    cases e2
    exact⟨u,r,.inl ⟨hk,by simp⟩⟩
   .rw[U37 (U2s hj)] at e2
    obtain⟨u',r',q⟩:=hl j y v' e1 e2 e3
    refine⟨u',r',?_⟩
    rcases q with ⟨k,e⟩|⟨k,c,e,z⟩
    .refine .inl ⟨k,?_⟩
     have:y≠x:=fun e=>hj (Yb hN e1 (e ▸ hi))
     simp[this,e]
    .exact .inr ⟨k,c,e,z.sameBut hs (cne y c e)⟩
  .obtain⟨w',z⟩:=I.cell y c e
   exact⟨w',z.sameBut hs (cne y c e)⟩
  .obtain⟨e,n,ne,nf,d⟩:=I.pin p hp
   exact⟨(hs.2 p.1 ne).trans e,n,ne,nf,d⟩
 .have hfn:X.fn x=true:=by
   rcases hf with z|z
   .exact z
   .rw[z] at hk;cases hk
  obtain⟨c,hc⟩:=I.ok.has x (.inl hk)
  obtain⟨w',z⟩:=I.cell x c hc
  refine wpAny_storeName_cell I.ok.kind hk hc z (fun h' hc' hs=>?_)
  obtain⟨oc,hoc,hocd⟩:=id z
  refine h { s with heap:=h' } ⟨I.ok,I.os,I.bare,⟨fun b o e n hb hx=>?_,fun b o e n hb hx=>?_,I.base.free,fun b o e hx=>?_,I.base.tups,I.base.frzs,I.base.tbls,I.base.sy⟩,⟨m,hn.sameBut hs (U2s (cne x c hc)),fun j y v' e1 e2 e3=>?_⟩,fun y c' e=>?_,I.free,I.freeC,fun p hp=>?_,tracked ⟨oc,hoc,I.freeC x c hc⟩ hs,by simpa using I.len⟩ ⟨c,hs,.inr hc⟩
  .exact(hs.2 b (U02 (U1k (U0o e) (I.ok.cab x c hfn hc)))).trans (I.base.keep b o e n hb hx)
  .obtain⟨sl,e1⟩:=I.base.slot b o e n hb hx
   exact⟨sl,(hs.2 b (U02 (U1k (U0o e) (I.ok.cab x c hfn hc)))).trans e1⟩
  .obtain⟨o',e1⟩:=I.base.there b o e hx
   exact⟨o',(hs.2 b (U02 (U1k (U0o e) (I.ok.cab x c hfn hc)))).trans e1⟩
  .by_cases hj:j=i
   .subst hj
    rw[hi] at e1;cases e1
    rw[U3u ZB] at e2
    cases e2
    exact⟨u,r,.inr ⟨.inl hk,c,hc,hc'⟩⟩
   .rw[U37 (U2s hj)] at e2
    obtain⟨u',r',q⟩:=hl j y v' e1 e2 e3
    refine⟨u',r',?_⟩
    rcases q with q|⟨k,c',e,z'⟩
    .exact .inl q
    .refine .inr ⟨k,c',e,z'.sameBut hs ?_⟩
     rintro rfl
     exact hj (Yb hN e1 (I.ok.inj _ _ _ e hc ▸ hi))
  .by_cases hcc:c'=c
   .subst hcc;exact⟨_,hc'⟩
   .obtain⟨w2,z2⟩:=I.cell y c' e
    exact⟨w2,z2.sameBut hs hcc⟩
  .obtain⟨e,n,ne,nf,d⟩:=I.pin p hp
   refine⟨(hs.2 p.1 ?_).trans e,n,ne,nf,d⟩
   intro q
   rw[q,hoc] at e
   have q':oc=p.2:=U00 e
   exact d w' (by rw[←q'];exact hocd)
theorem YC{M:Model}{A:Around}{E:Value->Shared->Prop}{i:Nat}{x:Str}{v:V}{u:Value}{Q:Unit->Shared->Prop}(I:Inv X pins Z3 H s)(hN:X.N.Nodup)(hi:X.N[i]?=some x)(hx:Loc X.env.scope x)(r:RelV v u)
  (h:∀s',Inv X pins (Z3.set i (some v)) H s'->Q () s') (hf:X.fn x=true∨X.env.scope.names.lookup x=some .local:=by first|exact .inl rfl|exact .inr rfl|assumption):wpAny M A (storeName X.env x u) Q E s :=
 W7 I hN hi hx r (fun s' I' _=>h s' I') hf
theorem Inv.call'{s':Shared}{ch:List Addr}(I:Inv X pins Z3 H s)(ho:s'.os=s.os)(u:Un (frs X.stack) ch H H' s.heap s'.heap)(hok:HOk X.prog X.w H' s'.heap)(hg:AllBare s'.gens)
  (hch:∀b∈ch,(b∈X.ex∨X.s₀.heap.objs.size<=b)/\b≠X.env.locals/\(∀x c,X.env.cells.lookup x=some c->c≠b)/\∀p∈X.pn++pins,p.1≠b):Inv X pins Z3 H' s':=by
 obtain⟨h',g',d',t',o'⟩:=s'
 have e:o'=s.os:=ho
 subst e
 exact I.call (g':=g') (t':=t') (d':=d') u hok hg hch
end
abbrev XK:=Value->Option Addr->Hp->Prop
abbrev St:=List (Option V)
abbrev VK:=V->Hp->Prop
abbrev TE:=St->Hp->VK->Prop
abbrev TT:=St->Hp->(Bool->Hp->Prop)->Prop
abbrev TA:=St->Hp->(List V->Hp->Prop)->Prop
structure Ends where
 nx:St->Hp->Prop
 rt:VK
 bk:St->Hp->Prop:=fun _ _=>False
 ct:St->Hp->Prop:=fun _ _=>False
abbrev TS:=Ends->St->Hp->Prop
def EP(X:Cx)(pins:List (Addr×Obj))(Z3:St)(Q:VK)(u:Value)(s':Shared):Prop:=∃v H',Inv X pins Z3 H' s'/\RelV v u/\Q v H'
def TP(X:Cx)(pins:List (Addr×Obj))(Z3:St)(Q:Bool->Hp->Prop)(b:Bool)(s':Shared):Prop:=∃H',Inv X pins Z3 H' s'/\Q b H'
def AP(X:Cx)(pins:List (Addr×Obj))(Z3:St)(Q:List V->Hp->Prop)(us:List Value)(s':Shared):Prop:=∃vs H',Inv X pins Z3 H' s'/\Vals vs us/\Q vs H'
def SP(X:Cx)(pins:List (Addr×Obj))(D:Ends)(f:Flow)(s':Shared):Prop :=
 match f with
 |.next=>∃ZZ H',Inv X pins ZZ H' s'/\D.nx ZZ H'
 |.brk=>∃ZZ H',Inv X pins ZZ H' s'/\D.bk ZZ H'
 |.cont=>∃ZZ H',Inv X pins ZZ H' s'/\D.ct ZZ H'
 |.ret u=>∃v ZZ H',Inv X pins ZZ H' s'/\RelV v u/\D.rt v H'
def PE(X:Cx)(e:Expr)(t:TE):Prop :=
 ∀(pins:List (Addr×Obj))(s:Shared)(Z3:St)(H:Hp)(Q:VK),Inv X pins Z3 H s->t Z3 H Q->wpAny `ai X.A (eval e X.env) (EP X pins Z3 Q) X.xe s
def PT(X:Cx)(e:Expr)(t:TT):Prop :=
 ∀(pins:List (Addr×Obj))(s:Shared)(Z3:St)(H:Hp)(Q:Bool->Hp->Prop),Inv X pins Z3 H s->t Z3 H Q->wpAny `ai X.A (isTrue e X.env (eval e X.env)) (TP X pins Z3 Q) X.xe s
def PW(X:Cx)(e:Expr)(t:TT):Prop :=
 ∀(whole:Sem Value)(pins:List (Addr×Obj))(s:Shared)(Z3:St)(H:Hp)(Q:Bool->Hp->Prop),Inv X pins Z3 H s->t Z3 H Q->wpAny `ai X.A (isTrue e X.env whole) (TP X pins Z3 Q) X.xe s
theorem PW.pt{X:Cx}{e:Expr}{t:TT}(h:PW X e t):PT X e t:=h _
def PA(X:Cx)(es:List Expr)(t:TA):Prop :=
 ∀(pos:Pos)(pins:List (Addr×Obj))(s:Shared)(Z3:St)(H:Hp)(Q:List V->Hp->Prop),Inv X pins Z3 H s->t Z3 H Q->wpAny `ai X.A (spliced `bu) (AP X pins Z3 Q) X.xe s
def PS(X:Cx)(st:Stmt)(t:TS):Prop :=
 ∀(pins:List (Addr×Obj))(s:Shared)(Z3:St)(H:Hp)(D:Ends),Inv X pins Z3 H s->t D Z3 H->wpAny `ai X.A (exec st X.env) (SP X pins D) X.xe s
def PSs(X:Cx)(st:List Stmt)(t:TS):Prop :=
 ∀(pins:List (Addr×Obj))(s:Shared)(Z3:St)(H:Hp)(D:Ends),Inv X pins Z3 H s->t D Z3 H->wpAny `ai X.A (execs st X.env) (SP X pins D) X.xe s
theorem thn{Zs:Type}{t:Sem Zs}{Q Q':Zs->Shared->Prop}{M:Model}{A:Around}{E:Value->Shared->Prop}{s:Shared}(h:wpAny M A t Q E s)(hQ:∀a s,Q a s->Q' a s):wpAny M A t Q' E s:=U5q h hQ fun _ _ x=>x
end L2
namespace L2
open PySem PySem.Spec PyProof.Rows
section
variable{X:Cx}
theorem bin{a b:Expr}{ta tb:TE}(ha:PE X a ta)(hb:PE X b tb){pins:List (Addr×Obj)}{s:Shared}{Z3:St}{H:Hp}{R:V->V->Hp->Prop}(I:Inv X pins Z3 H s)(h:ta Z3 H fun x H1=>tb Z3 H1 fun y H2=>R x y H2)
  {Zs:Type} {Q:Zs->Shared->Prop} {f:Value->Value->Sem Zs}
  (hf:∀v u s2 x y H2,Inv X pins Z3 H2 s2->RelV x v->RelV y u->R x y H2->wpAny `ai X.A (f v u) Q X.xe s2) :
  wpAny `ai X.A (eval a X.env) (fun v s₁=>wpAny `ai X.A (eval b X.env) (fun u s₂=>wpAny `ai X.A (f v u) Q X.xe s₂) X.xe s₁) X.xe s:=by
 refine thn (ha pins s Z3 H _ I h) fun v s1 ⟨x,H1,I1,r1,q1⟩=>?_
 refine thn (hb pins s1 Z3 H1 _ I1 q1) fun u s2 ⟨y,H2,I2,r2,q2⟩=>?_
 exact hf v u s2 x y H2 I2 r1 r2 q2
def rH(i:Nat):TE:=fun Z3 H Q=>∃v,Z3[i]?=some (some v)/\Q v H
def tC(v:V):TE:=fun _ H Q=>Q v H
theorem dW{i:Nat}{x:Str}{pos:Pos}(hN:X.N[i]?=some x)(hv:Vis X.env.scope x)(hd:(x==("__debug__":Str))=false:=by decide)(hcd:(x==("__classdict__":Str))=false:=by decide):PE X (.Name x pos) (rH i):=by
 intro pins s Z3 H Q I h
 obtain⟨v,e,h⟩:=h
 obtain⟨m,hn,hl⟩:=I.loc
 obtain⟨u,r,l⟩:=hl i x v hN e hv
 have fin:EP X pins Z3 Q u s:=⟨v,H,I,r,h⟩
 rcases l with ⟨hk,hm⟩|⟨hk,c,hc,hcell⟩
 .exact wpAny_Name (wpAny_loadName_local I.ok.kind hk hn hm fin) hd
 .rcases hk with hk|hk
  .exact wpAny_Name (wpAny_loadName_cell I.ok.kind hk hc hcell fin) hd
  .exact wpAny_Name (wpAny_loadName_free I.ok.kind hk hc hcell fin hcd) hd
theorem uE{i j pos}:PE X (.Constant (.int i) j pos) (tC (.int i)):=fun _ _ _ H _ I h=>wpAny_Constant_int ⟨.int i,H,I.tok _,⟨_,rfl⟩,h⟩
theorem wX{b j pos}:PE X (.Constant (.bool b) j pos) (tC (.bl b)):=fun _ _ _ H _ I h=>Constant_bool ⟨.bl b,H,I,rfl,h⟩
theorem uD{j pos}:PE X (.Constant .none j pos) (tC .non):=fun _ _ _ H _ I h=>Constant_none ⟨.non,H,I,rfl,h⟩
def Gl(X:Cx)(x:Str):Prop:=X.env.kindOf x=some .globalImplicit
theorem pU{E:Value->Shared->Prop}{pins:List (Addr×Obj)}{s:Shared}{Z3:St}{H:Hp}{x:Str}{u:Value}{pos:Pos}{Q:Value->Shared->Prop}(I:Inv X pins Z3 H s)(hg:Gl X x)(hm:X.mg x=some u)(h:Q u s)
  (hd:(x==("__debug__":Str))=false:=by decide):wpAny `ai X.A (eval (.Name x pos) X.env) Q E s :=
 Calls.Name_function_global I.ok.kind hg (Calls.loadGlobal_global (by rw[I.ok.glob];exact I.mod.glob.keeps I.bk) hm h) hd
theorem PB{E:Value->Shared->Prop}{pins:List (Addr×Obj)}{s:Shared}{Z3:St}{H:Hp}{x:Str}{u:Value}{pos:Pos}{Q:Value->Shared->Prop}(I:Inv X pins Z3 H s)(hg:Gl X x)(hm:X.mg x=none)(hv:bootBuiltins x=some u)(h:Q u s)
  (hn:x≠"__name__":=by decide) (hd:(x==("__debug__":Str))=false:=by decide):wpAny `ai X.A (eval (.Name x pos) X.env) Q E s:=by
 obtain⟨mb,h1,h2⟩:=I.mod.blt
 exact Calls.Name_function_global I.ok.kind hg (Calls.loadGlobal_builtin (by rw[I.ok.glob];exact I.mod.glob.keeps I.bk) hm (by rw[I.ok.blt];exact h1.keeps I.bk) ((h2 x hn).trans hv) h) hd
theorem p7{x:Str}{v:V}{u:Value}{pos:Pos}(hg:Gl X x)(hm:X.mg x=none)(hv:bootBuiltins x=some u)(r:RelV v u)(hn:x≠"__name__":=by decide)(hd:(x==("__debug__":Str))=false:=by decide):PE X (.Name x pos) (tC v) :=
 fun _ _ _ H _ I h=>PB I hg hm hv ⟨v,H,I,r,h⟩ hn hd
variable{a b:Expr}{ta tb:TE}{pos:Pos}
def PC(X:Cx)(op:CmpOp)(a b:Expr)(t:TE):Prop :=
 ∀(pins:List (Addr×Obj))(s:Shared)(Z3:St)(H:Hp)(Q:VK),Inv X pins Z3 H s->t Z3 H Q ->
  wpAny `ai X.A (eval a X.env) (fun v s₁=>wpAny `ai X.A (eval b X.env) (fun u s₂=>wpAny `ai X.A (compareOp op v u) (EP X pins Z3 Q) X.xe s₂) X.xe s₁) X.xe s
theorem ji(b:Expr){op:CmpOp}(h:op≠.In)(h2:op≠.NotIn):behindInMarks op b=false:=by
 have e1:(op==CmpOp.In)=false:=by cases op<;>first|rfl|exact absurd rfl h
 have e2:(op==CmpOp.NotIn)=false:=by cases op<;>first|rfl|exact absurd rfl h2
 cases b<;>simp[behindInMarks,e1,e2]
def tB(t:TE):TT:=fun Z3 H Q=>t Z3 H fun x H1=>∃c,x=.bl c/\Q c H1
theorem zf{op:CmpOp}{t:TE}(h:PC X op a b t)(h1:behindInMarks op b=false:=by first|exact ji _ (by decide) (by decide)|rfl):PT X (.Compare a [op] [b] pos) (tB t):=by
 intro pins s Z3 H Q I hw
 refine wpAny_isTrue_Compare1 (thn (h pins s Z3 H _ I hw) fun v s1 h1=>thn h1 fun u s2 h2=>thn h2 fun c s3 ⟨x,H1,I1,r1,q1⟩=>?_) h1
 obtain⟨d,rfl,q⟩:=q1
 cases r1
 exact U47 ⟨H1,I1,q⟩
theorem tR{e:Expr}{t:TE}(h:PE X e t)(he:∀whole,isTrue e X.env whole=(do let v ←whole;standAt e.pos;holding [v] (truthy v)):=by intro _;rfl):PT X e (tB t):=by
 intro pins s Z3 H Q I hw
 refine isTrue_plain (thn (h pins s Z3 H _ I hw) fun v s1 ⟨x,H1,I1,r1,q1⟩=>?_) (he _)
 obtain⟨d,rfl,q⟩:=q1
 cases r1
 exact U47 ⟨H1,I1,q⟩
variable{tA tB':TT}{rest:List Expr}
def K3(t u:TT):TT:=fun Z3 H Q=>t Z3 H fun c H1=>if c=true then u Z3 H1 Q else Q false H1
def tOr(t u:TT):TT:=fun Z3 H Q=>t Z3 H fun c H1=>if c=true then Q true H1 else u Z3 H1 Q
def Hy(t:TT):TT:=fun Z3 H Q=>t Z3 H fun c H1=>Q (!c) H1
theorem oE(ha:PT X a tA):PW X (.BoolOp .And [a] pos) tA:=by
 intro wh pins s Z3 H Q I h
 refine isTrue_and (thn (ha pins s Z3 H Q I h) fun c s1 e=>?_)
 cases c with
 |true=>exact isTrue_and_nil e
 |false=>exact e
theorem tO(ha:PT X a tA):PW X (.BoolOp .Or [a] pos) tA:=by
 intro wh pins s Z3 H Q I h
 refine isTrue_or (thn (ha pins s Z3 H Q I h) fun c s1 e=>?_)
 cases c with
 |false=>exact isTrue_or_nil e
 |true=>exact e
theorem tQ(ha:PT X a tA)(hb:PW X (.BoolOp .And (b::rest) pos) tB'):PW X (.BoolOp .And (a::b::rest) pos) (K3 tA tB'):=by
 intro wh pins s Z3 H Q I h
 refine isTrue_and (thn (ha pins s Z3 H _ I h) fun c s1 ⟨H1,I1,q1⟩=>?_)
 cases c with
 |true=>exact hb wh pins s1 Z3 H1 Q I1 q1
 |false=>exact⟨H1,I1,q1⟩
theorem wO(ha:PT X a tA)(hb:PW X (.BoolOp .Or (b::rest) pos) tB'):PW X (.BoolOp .Or (a::b::rest) pos) (tOr tA tB'):=by
 intro wh pins s Z3 H Q I h
 refine isTrue_or (thn (ha pins s Z3 H _ I h) fun c s1 ⟨H1,I1,q1⟩=>?_)
 cases c with
 |true=>exact⟨H1,I1,q1⟩
 |false=>exact hb wh pins s1 Z3 H1 Q I1 q1
theorem tU(ha:PT X a tA):PT X (.UnaryOp .Not a pos) (Hy tA):=by
 intro pins s Z3 H Q I h
 exact isTrue_not (ha pins s Z3 H (fun c H1=>Q (!c) H1) I h)
def wI(ta tb:TE):TE:=fun Z3 H Q=>ta Z3 H fun x H1=>∃c,x=.bl c/\if c=true then tb Z3 H1 Q else Q (.bl false) H1
def wD(ta:TE):TE:=fun Z3 H Q=>ta Z3 H fun x H1=>∃c,x=.bl c/\Q (.bl (!c)) H1
theorem u6{op}{t:TE}(h:PE X a t):PE X (.BoolOp op [a] pos) t:=fun pins s Z3 H Q I hw=>BoolOp_one (h pins s Z3 H Q I hw)
theorem uG(ha:PE X a ta)(hb:PE X (.BoolOp .And (b::rest) pos) tb):PE X (.BoolOp .And (a::b::rest) pos) (wI ta tb):=by
 intro pins s Z3 H Q I h
 refine BoolOp_and (thn (ha pins s Z3 H _ I h) fun v s1 ⟨x,H1,I1,r1,q1⟩=>?_)
 obtain⟨c,rfl,q1⟩:=q1
 cases r1
 refine U47 ?_
 cases c with
 |true=>exact hb pins s1 Z3 H1 Q I1 q1
 |false=>exact⟨.bl false,H1,I1,rfl,q1⟩
theorem u9(ha:PE X a ta):PE X (.UnaryOp .Not a pos) (wD ta):=by
 intro pins s Z3 H Q I h
 refine UnaryOp_ (thn (ha pins s Z3 H _ I h) fun v s1 ⟨x,H1,I1,r1,q1⟩=>?_)
 obtain⟨c,rfl,q1⟩:=q1
 cases r1
 exact not_of (U47 ⟨.bl (!c),H1,I1,rfl,q1⟩)
end
end L2
namespace L2
open PySem PySem.Spec PyProof.Rows
def SqL(K:U0b)(H:Hp)(a:Addr)(xs:List V):Prop :=
 Rd H a (.lst xs) ∨
  ∃(o:Obj)(its:Array Value)(n:Nat),K.lookup a=some o/\o.cls=.type "list"/\o.dict=none/\o.data=.seq its n/\its.size<=sizeLine/\Vals xs its.toList
def SqT(K:U0b)(H:Hp)(a:Addr)(xs:List V):Prop :=
 Rd H a (.tup xs) ∨
  ∃(o:Obj)(its:Array Value)(n:Nat),K.lookup a=some o/\o.cls=.type "tuple"/\o.data=.seq its n/\its.size<=sizeLine/\Vals xs its.toList
def zF:Value->Option V
 |.none=>some .non
 |.bool b=>some (.bl b)
 |.int i _=>some (.int i)
 |.str x _=>some (.str x)
 |.bytes b _=>some (.byt b)
 |.float b _=>some (.flt b)
 |.ref a=>some (.ref a)
 |.type n=>some (.ty n)
 |_=>none
theorem RelV.abs{x:V}{u:Value}(r:RelV x u):zF u=some x:=by
 cases x with
 |non=>cases r;rfl
 |bl _=>cases r;rfl
 |int _=>obtain⟨t,rfl⟩:=r;rfl
 |str _=>obtain⟨t,rfl⟩:=r;rfl
 |byt _=>obtain⟨t,rfl⟩:=r;rfl
 |flt _=>obtain⟨t,rfl⟩:=r;rfl
 |ref _=>cases r;rfl
 |ty _=>cases r;rfl
theorem RelV.inj{x y:V}{u:Value}(r:RelV x u)(q:RelV y u):x=y:=U00 (r.abs.symm.trans q.abs)
theorem Vals.inj:∀{xs ys:List V} {us:List Value},Vals xs us->Vals ys us->xs=ys
 |_,_,_,.nil,.nil=>rfl
 |_,_,_,.cons r t,.cons r' t'=>by rw[r.inj r',Vals.inj t t']
section
variable{X:Cx}{pins:List (Addr×Obj)}{Z3:St}{H:Hp}{s:Shared}{a:Addr}{xs ys:List V}
theorem SqL.of{K:U0b}(h:H a=some (.lst xs)):SqL K H a xs:=.inl (.inl h)
theorem SqT.of{K:U0b}(h:H a=some (.tup xs)):SqT K H a xs:=.inl (.inl h)
theorem Inv.list(I:Inv X pins Z3 H s)(h:SqL X.K H a xs):∃its:List Value,Vals xs its/\PlainL s.heap a its.toArray/\xs.length<=sizeLine:=by
 rcases h with h|⟨o,its,n,hk,hc,hd,hs,hz,r⟩
 .obtain⟨z,its,n,r,e⟩:=h.ok I.hok
  exact⟨its,r,⟨_,n,e,rfl,rfl,rfl⟩,z⟩
 .refine⟨its.toList,r,⟨o,n,I.kIn a o hk,hc,hd,by simpa using hs⟩,?_⟩
  have e:=r.length
  simp only[U0g] at e
  lia
theorem Inv.tuple(I:Inv X pins Z3 H s)(h:SqT X.K H a xs):∃its:List Value,Vals xs its/\IsTup s.heap a its.toArray/\xs.length<=sizeLine:=by
 rcases h with h|⟨o,its,n,hk,hc,hs,hz,r⟩
 .obtain⟨z,its,r,p⟩:=h.ok I.hok
  exact⟨its,r,p,z⟩
 .refine⟨its.toList,r,⟨o,I.kIn a o hk,hc,n,by simpa using hs⟩,?_⟩
  have e:=r.length
  simp only[U0g] at e
  lia
theorem Inv.Yh(I:Inv X pins Z3 H s)(h:SqL X.K H a xs)(h':SqL X.K H a ys):xs=ys:=by
 obtain⟨its,r,⟨o,n,e,_,_,d⟩,_⟩:=I.list h
 obtain⟨its',r',⟨o',n',e',_,_,d'⟩,_⟩:=I.list h'
 rw[e] at e';cases e'
 rw[d] at d'
 injection d' with d1 _
 have:its=its':=by simpa using congrArg Array.toList d1
 subst this
 exact r.inj r'
theorem Inv.fM(I:Inv X pins Z3 H s)(h:SqT X.K H a xs)(h':SqT X.K H a ys):xs=ys:=by
 obtain⟨its,r,⟨o,e,_,n,d⟩,_⟩:=I.tuple h
 obtain⟨its',r',⟨o',e',_,n',d'⟩,_⟩:=I.tuple h'
 rw[e] at e';cases e'
 rw[d] at d'
 injection d' with d1 _
 have:its=its':=by simpa using congrArg Array.toList d1
 subst this
 exact r.inj r'
end
abbrev Cx.wish(X:Cx)(E:Value->Shared->Prop):Cx:={ X with xe:=E }
abbrev Cx.nox(X:Cx):Cx:=X.wish fun _ _=>False
theorem Cx.Ok.wish{X:Cx}(ok:X.Ok)(E:Value->Shared->Prop):(X.wish E).Ok :=
 ⟨ok.mod,ok.kind,ok.glob,ok.blt,ok.above,ok.inj,ok.has,ok.cab,ok.hd,ok.frames,ok.stk,ok.exf,ok.bs,ok.bsz,ok.noex,ok.exfs,ok.N7,ok.frf,ok.sy⟩
theorem Cx.Ok.Lh{X:Cx}{E:Value->Shared->Prop}(ok:(X.wish E).Ok):X.Ok :=
 ⟨ok.mod,ok.kind,ok.glob,ok.blt,ok.above,ok.inj,ok.has,ok.cab,ok.hd,ok.frames,ok.stk,ok.exf,ok.bs,ok.bsz,ok.noex,ok.exfs,ok.N7,ok.frf,ok.sy⟩
section
variable{X:Cx}{pins:List (Addr×Obj)}{Z3:St}{H:Hp}{s:Shared}{E:Value->Shared->Prop}
theorem Inv.wish(I:Inv X pins Z3 H s)(E:Value->Shared->Prop):Inv (X.wish E) pins Z3 H s:=⟨I.ok.wish E,I.os,I.bare,I.base,I.loc,I.cell,I.free,I.freeC,I.pin,I.hok,I.len⟩
theorem Inv.Lh(I:Inv (X.wish E) pins Z3 H s):Inv X pins Z3 H s:=⟨I.ok.Lh,I.os,I.bare,I.base,I.loc,I.cell,I.free,I.freeC,I.pin,I.hok,I.len⟩
theorem SP.Lh{D:Ends}{f:Flow}{s':Shared}(h:SP (X.wish E) pins D f s'):SP X pins D f s':=by
 cases f with
 |next=>obtain⟨ZZ,H',I,q⟩:=h;exact⟨ZZ,H',I.Lh,q⟩
 |brk=>obtain⟨ZZ,H',I,q⟩:=h;exact⟨ZZ,H',I.Lh,q⟩
 |cont=>obtain⟨ZZ,H',I,q⟩:=h;exact⟨ZZ,H',I.Lh,q⟩
 |ret u=>obtain⟨v,ZZ,H',I,r,q⟩:=h;exact⟨v,ZZ,H',I.Lh,r,q⟩
theorem PSs.nox{st:List Stmt}{t:TS}(h:PSs X.nox st t):PSs X st t:=fun pins s Z3 H D I hw =>
 U5q (h pins s Z3 H D (I.wish _) hw) (fun _ _ q=>q.Lh) fun _ _ z=>U5b z
end
section
variable{X:Cx}{st:Stmt}{rest:List Stmt}{t u:TS}{e:Expr}{te:TE}{pos:Pos}
def wF:TS:=fun D Z3 H=>D.nx Z3 H
def yR(t u:TS):TS:=fun D Z3 H=>t { D with nx:=u D } Z3 H
theorem oM:PSs X [] wF:=fun _ _ Z3 H _ I h=>U7d ⟨Z3,H,I,h⟩
theorem jX(h1:PS X st t)(h2:PSs X rest u):PSs X (st::rest) (yR t u):=by
 intro pins s Z3 H D I h
 refine wpAny_execs_cons (thn (h1 pins s Z3 H { D with nx:=u D } I h) fun f s1 q=>?_)
 cases f with
 |next =>
  obtain⟨ZZ,H',I',q⟩:=q
  exact h2 pins s1 ZZ H' D I' q
 |ret v=>exact q
 |brk=>exact q
 |cont=>exact q
theorem oK(h1:PS X st t):PSs X [st] t:=by
 intro pins s Z3 H D I h
 refine wpAny_execs_cons (thn (h1 pins s Z3 H D I h) fun f s1 q=>?_)
 cases f with
 |next=>exact U7d q
 |ret v=>exact q
 |brk=>exact q
 |cont=>exact q
theorem Inv.quiet{pins:List (Addr×Obj)}{Z3:St}{H:Hp}{s:Shared}(I:Inv X pins Z3 H s):interactive X.env=false:=by simp[interactive,I.ok.kind]
def wG(te:TE):TS:=fun D Z3 H=>te Z3 H fun _ H1=>D.nx Z3 H1
theorem oO(he:PE X e te)(hs:swapsWith e none pos.line X.env=pure false:=by rfl):PS X (.Expr e pos) (wG te):=by
 intro pins s Z3 H D I h
 exact wpAny_Expr_any (thn (he pins s Z3 H _ I h) fun v s1 ⟨x,H1,I1,r1,q1⟩=>⟨Z3,H1,I1,q1⟩) I.quiet hs
def yS(te:TE):TS:=fun D Z3 H=>te Z3 H D.rt
theorem tW(he:PE X e te):PS X (.Return (some e) pos) (yS te):=by
 intro pins s Z3 H D I h
 exact wpAny_Return_some (thn (he pins s Z3 H _ I h) fun v s1 ⟨x,H1,I1,r1,q1⟩=>⟨x,Z3,H1,I1,r1,q1⟩)
def yW(c:TT)(t u:TS):TS:=fun D Z3 H=>c Z3 H fun b H1=>if b=true then t D Z3 H1 else u D Z3 H1
theorem wQ{c:Expr}{a b:List Stmt}{tc:TT}(hc:PT X c tc)(ha:PSs X a t)(hb:PSs X b u):PS X (.If c a b pos) (yW tc t u):=by
 intro pins s Z3 H D I h
 refine wpAny_If (thn (hc pins s Z3 H _ I h) fun d s1 ⟨H1,I1,q1⟩=>?_)
 cases d with
 |true=>exact ha pins s1 Z3 H1 D I1 q1
 |false=>exact hb pins s1 Z3 H1 D I1 q1
def tD:TS:=fun _ _ _=>False
theorem jZ:PS X st tD:=fun _ _ _ _ _ _ h=>h.elim
end
abbrev TG:=V->St->Hp->(St->Hp->Prop)->Prop
abbrev TGs:=List V->St->Hp->(St->Hp->Prop)->Prop
def PG(X:Cx)(target:Expr)(t:TG):Prop :=
 ∀(pins:List (Addr×Obj))(s:Shared)(Z3:St)(H:Hp)(v:V)(u:Value)(Q:St->Hp->Prop),Inv X pins Z3 H s->RelV v u->t v Z3 H Q ->
  wpAny `ai X.A (assign target X.env u) (fun _ s'=>∃ZZ H',Inv X pins ZZ H' s'/\Q ZZ H') X.xe s
def PGs(X:Cx)(ts:List Expr)(t:TGs):Prop :=
 ∀(pins:List (Addr×Obj))(s:Shared)(Z3:St)(H:Hp)(vs:List V)(us:List Value)(Q:St->Hp->Prop),Inv X pins Z3 H s->Vals vs us->t vs Z3 H Q ->
  wpAny `ai X.A (assignInOrder ((assignEach ts X.env).map (·.2)) us) (fun _ s'=>∃ZZ H',Inv X pins ZZ H' s'/\Q ZZ H') X.xe s
abbrev iZ:=V->V->V->Hp->(Hp->Prop)->Prop
def sV(X:Cx)(t:iZ):Prop :=
 ∀(pins:List (Addr×Obj))(s:Shared)(Z3:St)(H:Hp)(o i v:V)(ov iv u:Value)(Q:Hp->Prop),Inv X pins Z3 H s->RelV o ov->RelV i iv->RelV v u->t o i v H Q ->
  wpAny `ai X.A (setItem ov iv u) (fun _ s'=>∃H',Inv X pins Z3 H' s'/\Q H') X.xe s
section
variable{X:Cx}{pos:Pos}
def XM(i:Nat):TG:=fun v Z3 H Q=>Q (Z3.set i (some v)) H
theorem oX{i:Nat}{x:Str}(hN:X.N.Nodup)(hi:X.N[i]?=some x)(hx:Loc X.env.scope x)(hf:X.fn x=true∨X.env.scope.names.lookup x=some .local:=by first|exact .inl rfl|exact .inr rfl|assumption):PG X (.Name x pos) (XM i):=by
 intro pins s Z3 H v u Q I r h
 exact wpAny_assign_Name (YC I hN hi hx r (fun s' I'=>⟨_,H,I',h⟩) hf)
def iU:TGs:=fun vs Z3 H Q=>vs=[]/\Q Z3 H
def bZ(t:TG)(u:TGs):TGs:=fun vs Z3 H Q=>∃v r,vs=v::r/\t v Z3 H fun ZZ H'=>u r ZZ H' Q
theorem oW:PGs X [] iU:=by
 intro pins s Z3 H vs us Q I r h
 obtain⟨e,h⟩:=h
 subst e
 cases r
 exact assignInOrder_nil ⟨Z3,H,I,h⟩
theorem jd{e:Expr}{es:List Expr}{t:TG}{u:TGs}(h1:PG X e t)(h2:PGs X es u)
  (hs:(assignEach (e::es) X.env).map (·.2)=assign e X.env::(assignEach es X.env).map (·.2):=by rfl):PGs X (e::es) (bZ t u):=by
 intro pins s Z3 H vs us Q I r h
 obtain⟨v,vr,e1,h⟩:=h
 subst e1
 cases r with
 |cons r rr =>
  rw[hs]
  refine assignInOrder_cons (thn (h1 pins s Z3 H _ _ _ I r h) fun _ s1 ⟨ZU,H1,I1,q1⟩=>?_)
  exact h2 pins s1 ZU H1 _ _ Q I1 rr q1
def iT(K:U0b)(n:Nat)(t:TGs):TG:=fun v Z3 H Q=>∃a xs,v=.ref a/\SqT K H a xs/\xs.length=n/\t xs Z3 H Q
theorem tZ{es:List Expr}{k:Nat}{t:TGs}{n:Nat}(hc:X.calm=true)(h:PGs X es t)
  (hn:(assignEach es X.env).length=n:=by rfl) (hst:(assignEach es X.env).findIdx? (·.1)=none:=by rfl):PG X (.Tuple es k pos) (iT X.K n t):=by
 intro pins s Z3 H v u Q I r hw
 obtain⟨a,xs,e1,hq,hl,hw⟩:=hw
 subst e1
 cases r
 obtain⟨its,rv,ht,hz⟩:=I.tuple hq
 refine assign_Tuple_tuple (I.ok.hd hc) ht (by simp[hn,←hl,rv.length]) hst fun h' hx=>?_
 have I1:Inv X pins Z3 H { s with heap:=h' }:=I.kept (t':=s.toks) fun b o e=>hx b o (U02 (U0o e)) e
 exact h pins _ Z3 H xs _ Q I1 (by simpa using rv) hw
def zA(to ti:TE)(t:iZ):TG:=fun v Z3 H Q=>to Z3 H fun o H1=>ti Z3 H1 fun i H2=>t o i v H2 fun H3=>Q Z3 H3
theorem tu{o i:Expr}{to ti:TE}{t:iZ}(ho:PE X o to)(hi:PE X i ti)(hs:sV X t)
  (ha:∀v,assign (.Subscript o i pos) X.env v=(do
   let ov ←holding [v] (eval o X.env)
   let iv ←holding [v,ov] (eval i X.env)
   standAt pos
   holding [v,ov,iv] (setItem ov iv v)
   release [v,ov,iv] []):=by intro _;rfl):PG X (.Subscript o i pos) (zA to ti t):=by
 intro pins s Z3 H v u Q I r h
 rw[ha]
 refine U0 (U2j (thn (ho pins s Z3 H _ I h) fun ov s1 ⟨x,H1,I1,r1,q1⟩=>?_))
 refine U0 (U2j (thn (hi pins s1 Z3 H1 _ I1 q1) fun iv s2 ⟨y,H2,I2,r2,q2⟩=>?_))
 refine U0 (wpAny_standAt (U0 (U2j (thn (hs pins s2 Z3 H2 x y v ov iv u _ I2 r1 r2 r q2) fun _ s3 ⟨H3,I3,q3⟩=>?_))))
 exact wpAny_release ⟨Z3,H3,I3,q3⟩
def rM(te:TE)(g:TG):TS:=fun D Z3 H=>te Z3 H fun x H1=>g x Z3 H1 D.nx
theorem dU{tg e:Expr}{te:TE}{g:TG}(he:PE X e te)(hg:PG X tg g)(hs:swapsWithSole [tg] e pos.line X.env=pure false:=by rfl)(hw:swappedStores [tg] e X.env=pure none:=by rfl)
  (h1:(assignEach [tg] X.env).map (·.2)=[assign tg X.env]:=by rfl):PS X (.Assign [tg] e pos) (rM te g):=by
 intro pins s Z3 H D I h
 refine wpAny_Assign_stores (thn (he pins s Z3 H _ I h) fun v s1 ⟨x,H1,I1,r1,q1⟩=>?_) hs hw
 rw[h1]
 exact thn (hg pins s1 Z3 H1 x v _ I1 r1 q1) fun _ s2 q=>q
theorem tV{i:Nat}{x:Str}{e:Expr}{te:TE}{pos':Pos}(hN:X.N.Nodup)(hi:X.N[i]?=some x)(hx:Loc X.env.scope x)(he:PE X e te)(hs:swapsWith e (some (.Name x pos')) pos.line X.env=pure false:=by rfl)(hf:X.fn x=true∨X.env.scope.names.lookup x=some .local:=by first|exact .inl rfl|exact .inr rfl|assumption) :
  PS X (.Assign [.Name x pos'] e pos) (rM te (XM i)):=by
 intro pins s Z3 H D I h
 refine wpAny_Assign_Name (thn (he pins s Z3 H _ I h) fun v s1 ⟨y,H1,I1,r1,q1⟩=>?_) hs
 exact YC I1 hN hi hx r1 (fun s2 I2=>⟨_,H1,I2,q1⟩) hf
end
section
variable{X:Cx}{pos:Pos}
def sZ(c:TT)(tb:TS):TS:=fun D Z3 H=>∃W:Nat->St->Hp->Prop,(∃m,W m Z3 H)/\∀m Z3 H,W m Z3 H ->
 c Z3 H fun b H1=>if b=true then ∃N:St->Hp->Prop,(∀ZZ H',N ZZ H'->∃m',m'<m/\W m' ZZ H')/\tb { D with nx:=N,ct:=N,bk:=D.nx } Z3 H1 else D.nx Z3 H1
theorem jY{c:Expr}{body:List Stmt}{tc:TT}{tb:TS}(hp:PassesOwn `ai X.A X.env X.xe)(hc:PT X c tc)(hb:PSs X body tb):PS X (.While c body [] pos) (sZ tc tb):=by
 intro pins s Z3 H D I h
 obtain⟨W,⟨m0,w0⟩,turn⟩:=h
 refine wpAny_While (codeAny_whileLoop (fun n s'=>∃ZZ H',Inv X pins ZZ H' s'/\W n ZZ H') ?_ m0 ⟨Z3,H,I,w0⟩)
 rintro n s1 ⟨ZU,H1,I1,w1⟩
 refine U4y hp (thn (hc pins s1 ZU H1 _ I1 (turn n ZU H1 w1)) fun b s2 ⟨H2,I2,q2⟩=>?_)
 cases b with
 |true =>
  obtain⟨N,hN,q2⟩:=q2
  rw[if_pos rfl]
  refine U4y hp (thn (hb pins s2 ZU H2 _ I2 q2) fun f s3 q3=>?_)
  cases f with
  |next =>
   obtain⟨ZT,H3,I3,n3⟩:=q3
   obtain⟨m',hm,w3⟩:=hN ZT H3 n3
   exact⟨m',hm,ZT,H3,I3,w3⟩
  |cont =>
   obtain⟨ZT,H3,I3,n3⟩:=q3
   obtain⟨m',hm,w3⟩:=hN ZT H3 n3
   exact⟨m',hm,ZT,H3,I3,w3⟩
  |brk=>exact q3
  |ret v=>exact q3
 |false =>
  rw[if_neg U1e]
  exact U7d ⟨ZU,H2,I2,q2⟩
end
structure It where
 go:Nat->Hp->Prop
 yld:Nat->Hp->V->Hp->Prop
 stop:Nat->Hp->Prop
def Oh(X:Cx)(pins:List (Addr×Obj))(H:Hp)(b:Addr):Prop :=
 H b=none/\b≠X.env.locals/\b ∉ X.fs/\(b∈X.ex∨X.s₀.heap.objs.size<=b)/\(∀x c,X.env.cells.lookup x=some c->c≠b)/\∀p∈X.pn++pins,p.1≠b
theorem Inv.Xd{X:Cx}{pins:List (Addr×Obj)}{Z3:St}{H H':Hp}{s:Shared}{b:Addr}(I:Inv X pins Z3 H s)(hb:s.heap.objs.size<=b)(hn:H' b=none):Oh X pins H' b:=by
 refine⟨hn,U4d (U1k I.lt hb),I.iQ hb,.inr (U1b I.sz hb),fun x c e z=>?_,fun p hp z=>?_⟩
 .obtain⟨v,q⟩:=I.cell x c e
  exact absurd (U1k q.lt (by rw[z];exact hb)) (U4g _)
 .exact absurd (U1k (U0o (I.pin p hp).1) (by rw[z];exact hb)) (U4g _)
structure Turn(P:Program)(w:World)(K:U0b)(tg:Expr)(J:It)(fp:List Addr)(it:Addr)(tn:Nat->Heap->Prop):Prop where
 mem:it∈fp
 obj:∀i h,tn i h->∀b∈fp,∃o,h.get? b=some o/\∀v,o.data≠.cell v
 keep:∀i h h',tn i h->(∀b∈fp,∀o,h.get? b=some o->h'.get? b=some o)->tn i h'
 item:∀(X:Cx),X.prog=P->X.w=w->X.K=K->X.calm=true->∀(i:Nat)(pins:List (Addr×Obj))(s:Shared)(Z3:St)(H:Hp)(E:Value->Shared->Prop),Inv X pins Z3 H s->(∀b∈fp,Oh X pins H b)->tn i s.heap->J.go i H ->
  wpAny (model P w) X.A (pyNext (.ref it)) (fun r s1=>∃u,r=some u /\
   wpAny (model P w) X.A (letOwnedTupleGo tg (.ref it) u) (fun _ s2=>∃x H',Inv X pins Z3 H' s2/\RelV x u/\J.yld i H x H'/\tn (i+1) s2.heap/\∀b∈fp,H' b=none) E s1) E s
 done:∀(X:Cx),X.prog=P->X.w=w->X.K=K->X.calm=true->∀(i:Nat)(pins:List (Addr×Obj))(s:Shared)(Z3:St)(H:Hp)(E:Value->Shared->Prop),Inv X pins Z3 H s->(∀b∈fp,Oh X pins H b)->tn i s.heap->J.stop i H ->
  wpAny (model P w) X.A (pyNext (.ref it)) (fun r s1=>r=none/\Inv X pins Z3 H s1) E s
 self:∀(A:Around)(i:Nat)(s:Shared)(Q:Value->Shared->Prop)(E:Value->Shared->Prop),tn i s.heap->Q (.ref it) s->wpAny (model P w) A (pyIter (.ref it)) Q E s
abbrev TI:=St->Hp->(It->Hp->Prop)->Prop
def PIE(X:Cx)(pins:List (Addr×Obj))(Z3:St)(tg:Expr)(R:It->Hp->Prop)(itv:Value)(s2:Shared):Prop :=
 ∃(it:Addr)(fp:List Addr)(tn:Nat->Heap->Prop)(J:It)(H':Hp),itv=.ref it/\Inv X pins Z3 H' s2/\Turn X.prog X.w X.K tg J fp it tn/\tn 0 s2.heap/\(∀b∈fp,Oh X pins H' b)/\R J H'
def PI(X:Cx)(tg iter:Expr)(wi:TI):Prop :=
 ∀(pins:List (Addr×Obj))(s:Shared)(Z3:St)(H:Hp)(R:It->Hp->Prop),Inv X pins Z3 H s->wi Z3 H R ->
  wpAny `ai X.A (eval iter X.env) (fun v s1=>wpAny `ai X.A (pyIter v) (PIE X pins Z3 tg R) X.xe s1) X.xe s
theorem bY{M:Model}{A:Around}{E:Value->Shared->Prop}{s:Shared}{tg:Expr}{it:Addr}{u:Value}{o:Obj}{n:String}{vs:Array Value}{Q:Unit->Shared->Prop}(ho:s.heap.get? it=some o)(hc:o.cls=.type n)(hd:o.data=.fields vs)
  (hn:["enumerate","zip","dict_itemiterator","dict_reverseitemiterator","odict_iterator","itertools.zip_longest","itertools.pairwise"].contains n=false) (hQ:Q () s):wpAny M A (letOwnedTupleGo tg (.ref it) u) Q E s:=by
 unfold letOwnedTupleGo
 cases tg<;>first
  |exact U0e hQ
  |(cases u<;>first
    |exact U0e hQ
    |(refine U0 (wpAny_load ho ?_)
      rw[hc,hd]
      show wpAny M A (if (["enumerate","zip","dict_itemiterator","dict_reverseitemiterator","odict_iterator","itertools.zip_longest","itertools.pairwise"].contains n&&vs[0]?==some (rawInt _))=true then _ else _) Q E s
      rw[if_neg (by intro h;rw[hn,U8w] at h;cases h)]
      exact U0e hQ))
def Itl(K:U0b)(a:Addr):It :=
 ⟨fun i H=>∃xs x,SqL K H a xs/\xs[i]?=some x,fun i H x H'=>H'=H/\∀xs,SqL K H a xs->xs[i]?=some x,fun i H=>∃xs,SqL K H a xs/\xs.length<=i⟩
def Itt(K:U0b)(a:Addr):It :=
 ⟨fun i H=>∃xs x,SqT K H a xs/\xs[i]?=some x,fun i H x H'=>H'=H/\∀xs,SqT K H a xs->xs[i]?=some x,fun i H=>∃xs,SqT K H a xs/\xs.length<=i⟩
def Itr(lo:Int)(n:Nat):It:=⟨fun i _=>i<n,fun i H x H'=>H'=H/\x=.int (lo+i),fun i _=>n<=i⟩
theorem fK{P:Program}{w:World}{K:U0b}{tg:Expr}(a it:Addr):Turn P w K tg (Itl K a) [it] it (fun i h=>h.IsListIter it a i) where
 mem:=by simp
 obj:=fun i h st b hb=>by
  have e:b=it:=by simpa using hb
  subst e
  obtain⟨o,e,c,d⟩:=st
  exact⟨o,e,fun v z=>by rw[d] at z;cases z⟩
 keep:=fun i h h' st k=>st.at fun o e=>k it (by simp) o e
 item:=by
  intro X hP hw hK hc i pins s Z3 H E I hf st hg
  subst hP hw hK
  obtain⟨xs,x,hq,hx⟩:=hg
  obtain⟨its,rv,p,hz⟩:=I.list hq
  obtain⟨u,hu,ru⟩:=rv.get hx
  obtain⟨f0,f1,f2,f3,f4,f5⟩:=hf it (by simp)
  refine wpAny_pyNext_list_item st p.isList (x:=u) (by simpa using hu) fun h' st' sb=>?_
  have I1:Inv X pins Z3 H { s with heap:=h' }:=I.turned (t':=s.toks) (fun b o hb e=>(sb.2 b hb).trans e) f0 f1 f3 f4 f5
  obtain⟨o,e,c,d⟩:=id st'
  exact⟨u,rfl,bY (s:={ s with heap:=h' }) e c d (by decide) ⟨x,H,I1,ru,⟨rfl,fun ys hy=>by rw[I.Yh hy hq];exact hx⟩,st',fun b hb=>(hf b hb).1⟩⟩
 done:=by
  intro X hP hw hK hc i pins s Z3 H E I hf st hg
  subst hP hw hK
  obtain⟨xs,hq,hx⟩:=hg
  obtain⟨its,rv,p,hz⟩:=I.list hq
  obtain⟨f0,f1,f2,f3,f4,f5⟩:=hf it (by simp)
  have hl:=rv.length
  exact wpAny_pyNext_list_end (I.ok.hd hc) st p.isList (by simp;lia) fun h' eb=>⟨rfl,I.turned (t':=s.toks) (fun b o hb e=>eb b o hb e) f0 f1 f3 f4 f5⟩
 self:=fun _ _ _ _ _ st h=>wpAny_pyIter_listiter st h
theorem bw{P:Program}{w:World}{K:U0b}{tg:Expr}(a it:Addr):Turn P w K tg (Itt K a) [it] it (fun i h=>h.IsTupleIter it a i) where
 mem:=by simp
 obj:=fun i h st b hb=>by
  have e:b=it:=by simpa using hb
  subst e
  obtain⟨o,e,c,d⟩:=st
  exact⟨o,e,fun v z=>by rw[d] at z;cases z⟩
 keep:=fun i h h' st k=>st.at fun o e=>k it (by simp) o e
 item:=by
  intro X hP hw hK hc i pins s Z3 H E I hf st hg
  subst hP hw hK
  obtain⟨xs,x,hq,hx⟩:=hg
  obtain⟨its,rv,p,hz⟩:=I.tuple hq
  obtain⟨u,hu,ru⟩:=rv.get hx
  obtain⟨f0,f1,f2,f3,f4,f5⟩:=hf it (by simp)
  refine wpAny_pyNext_tuple_item st (show s.heap.IsTuple a its.toArray from p) (x:=u) (by simpa using hu) fun h' st' sb=>?_
  have I1:Inv X pins Z3 H { s with heap:=h' }:=I.turned (t':=s.toks) (fun b o hb e=>(sb.2 b hb).trans e) f0 f1 f3 f4 f5
  obtain⟨o,e,c,d⟩:=id st'
  exact⟨u,rfl,bY (s:={ s with heap:=h' }) e c d (by decide) ⟨x,H,I1,ru,⟨rfl,fun ys hy=>by rw[I.fM hy hq];exact hx⟩,st',fun b hb=>(hf b hb).1⟩⟩
 done:=by
  intro X hP hw hK hc i pins s Z3 H E I hf st hg
  subst hP hw hK
  obtain⟨xs,hq,hx⟩:=hg
  obtain⟨its,rv,p,hz⟩:=I.tuple hq
  obtain⟨f0,f1,f2,f3,f4,f5⟩:=hf it (by simp)
  have hl:=rv.length
  exact wpAny_pyNext_tuple_end (I.ok.hd hc) st (show s.heap.IsTuple a its.toArray from p) (by simp;lia) fun h' eb=>⟨rfl,I.turned (t':=s.toks) (fun b o hb e=>eb b o hb e) f0 f1 f3 f4 f5⟩
 self:=fun _ _ _ _ _ st h=>wpAny_pyIter_tupleiter st h
theorem cB{P:Program}{w:World}{K:U0b}{tg:Expr}(it:Addr)(lo:Int)(n:Nat):Turn P w K tg (Itr lo n) [it] it (fun i h=>IsRangeIter h it (lo+(i:Nat)*1) ((n:Int)-(i:Nat)) 1) where
 mem:=by simp
 obj:=fun i h st b hb=>by
  have e:b=it:=by simpa using hb
  subst e
  exact⟨_,st,fun v z=>by
   have z':Data.fields _=Data.cell v:=z
   cases z'⟩
 keep:=fun i h h' st k=>k it (by simp) _ st
 item:=by
  intro X hP hw hK hc i pins s Z3 H E I hf st hg
  subst hP hw hK
  obtain⟨f0,f1,f2,f3,f4,f5⟩:=hf it (by simp)
  have W:=Walks.range (prog:=X.prog) (w:=X.w) (I.ok.hd hc) it lo 1 n
  refine W.item i s _ _ hg st fun v h' tk hv st' kk=>?_
  obtain⟨t,rfl⟩:=hv
  have I1:Inv X pins Z3 H { s with heap:=h',toks:=tk }:=I.turned (fun b o hb e=>kk b o (by simpa using hb) e) f0 f1 f3 f4 f5
  refine⟨_,rfl,bY (s:={ s with heap:=h',toks:=tk }) (n:="range_iterator") st' rfl rfl (by decide) ⟨.int (lo+i),H,I1,⟨t,?_⟩,⟨rfl,rfl⟩,st',fun b hb=>(hf b hb).1⟩⟩
  rw[Int.mul_one]
 done:=by
  intro X hP hw hK hc i pins s Z3 H E I hf st hg
  subst hP hw hK
  obtain⟨f0,f1,f2,f3,f4,f5⟩:=hf it (by simp)
  exact wpAny_pyNext_range_end (I.ok.hd hc) st (by have:n<=i:=hg;lia) fun h' eb=>⟨rfl,I.turned (t':=s.toks) (fun b o hb e=>eb b o hb e) f0 f1 f3 f4 f5⟩
 self:=fun _ _ _ _ _ st h=>wpAny_pyIter_rangeiter st h
end L2
namespace L2
open PySem PySem.Spec PyProof.Rows
section
variable{X:Cx}{tg:Expr}
theorem jV{pins:List (Addr×Obj)}{Z3:St}{H:Hp}{s:Shared}{R:It->Hp->Prop}{E:Value->Shared->Prop}{lo hi:Int}{t u v:Tok}{tk:Nat}(I:Inv X pins Z3 H s)(h1:-(2^62)<=lo)(h2:lo<2^62)(h3:-(2^62)<=hi)(h4:hi<2^62)
  (q:R (Itr lo (hi-lo).toNat) H):wpAny `ai X.A (pyIter `bq) (PIE X pins Z3 tg R) E { s with heap:=s.heap.push { cls:=.type "range",data:=.fields #[.int lo t,.int hi u,.int 1 v] },toks:=tk }:=by
 refine wpAny_pyIter_range (IsRange.new ..) (small_one h1 h2 h3 h4) ?_
 have I1:Inv X pins Z3 H { s with heap:=s.heap.push { cls:=.type "range",data:=.fields #[.int lo t,.int hi u,.int 1 v] },toks:=tk }:=I.kept fun b o e=>U0c _ e
 refine⟨(s.heap.push { cls:=.type "range",data:=.fields #[.int lo t,.int hi u,.int 1 v] }).objs.size,[(s.heap.push { cls:=.type "range",data:=.fields #[.int lo t,.int hi u,.int 1 v] }).objs.size],_,_,H,rfl,
  I1.kept (t':=tk) fun b o e=>U0c _ e,cB _ lo (hi-lo).toNat,?_,fun b hb=>?_,q⟩
 .have e1:lo+((0:Nat):Int)*1=lo:=by simp
  have e2:(((hi-lo).toNat:Nat):Int)-((0:Nat):Int)=Builtin.Range.rangeSize lo hi 1:=by rw[rangeSize_one];split<;>lia
  show IsRangeIter _ _ (lo+((0:Nat):Int)*1) ((((hi-lo).toNat:Nat):Int)-((0:Nat):Int)) 1
  rw[e1,e2]
  exact U0u _ rfl
 .have e:b=(s.heap.push { cls:=.type "range",data:=.fields #[.int lo t,.int hi u,.int 1 v] }).objs.size:=by simpa using hb
  subst e
  exact I1.Xd (U0l _) (I1.hok.fresh (U0l _))
def xW(ta:TA):TI:=fun Z3 H R=>ta Z3 H fun vs H1=>∃j:Int,vs=[.int j]/\-(2^62)<=j/\j<2^62/\R (Itr 0 j.toNat) H1
theorem gA{a:Expr}{ta:TA}{p pos:Pos}(hg:Gl X "range")(hm:X.mg "range"=none)(ha:PA X [a] ta)(hs:starEach [a] X.env=[(false,eval a X.env)]:=by rfl):PI X tg (.Call (.Name "range" p) [a] [] pos) (xW ta):=by
 intro pins s Z3 H R I h
 refine Call_ (PB I hg hm boot_range (U4u (thn (ha pos pins s Z3 H _ I h) fun us s1 ⟨vs,H1,I1,r1,q1⟩=>?_) hs rfl))
 obtain⟨j,e,q1,q2,q⟩:=q1
 subst e
 cases r1 with
 |cons r rr =>
  cases rr
  obtain⟨t,rfl⟩:=r
  exact call_range_1 (jV I1 (by lia) (by lia) q1 q2 (by simpa using q))
def yX(wi:TI)(g:TG)(tb:TS):TS:=fun D Z3 H=>wi Z3 H fun J H1=>∃W:Nat->Nat->St->Hp->Prop,(∃m,W 0 m Z3 H1)/\∀i m Z3 H,W i m Z3 H ->
 (J.stop i H/\D.nx Z3 H)∨(J.go i H/\∃N:St->Hp->Prop,(∀ZZ H',N ZZ H'->∃m',m'<m/\W (i+1) m' ZZ H')/\∀x H',J.yld i H x H'->g x Z3 H' fun ZY H2=>tb { D with nx:=N,ct:=N,bk:=D.nx } ZY H2)
def Ln(fp:List Addr)(h:Heap):List (Addr×Obj):=fp.filterMap fun b=>(h.get? b).map fun o=>(b,o)
theorem Ma{fp:List Addr}{h:Heap}{b:Addr}{o:Obj}(hb:b∈fp)(e:h.get? b=some o):(b,o)∈Ln fp h:=U71.mpr ⟨b,hb,by rw[e];rfl⟩
theorem WQ{fp:List Addr}{h:Heap}{p:Addr×Obj}(hp:p∈Ln fp h):p.1∈fp/\h.get? p.1=some p.2:=by
 obtain⟨b,hb,e⟩:=U71.mp hp
 cases q:h.get? b with
 |none=>rw[q] at e;cases e
 |some o =>
  rw[q] at e
  have e':(b,o)=p:=U00 e
  subst e'
  exact⟨hb,q⟩
theorem Inv.pinned{pins:List (Addr×Obj)}{Z3:St}{H:Hp}{s:Shared}{fp:List Addr}(I:Inv X pins Z3 H s)(hf:∀b∈fp,Oh X pins H b)(ho:∀b∈fp,∃o,s.heap.get? b=some o/\∀v,o.data≠.cell v):Inv X (pins++Ln fp s.heap) Z3 H s :=
 I.Ri fun p hp=>(U0z.mp hp).elim (fun z=>I.pin p (U0y _ z)) fun z=>by
  obtain⟨hb,e⟩:=WQ z
  obtain⟨f0,f1,f2,_⟩:=hf p.1 hb
  obtain⟨o,e',d⟩:=ho p.1 hb
  rw[e] at e';cases e'
  exact⟨e,f0,f1,f2,d⟩
theorem Inv.Q7{pins pl:List (Addr×Obj)}{Z3:St}{H:Hp}{s:Shared}(I:Inv X (pins++pl) Z3 H s):Inv X pins Z3 H s:=I.Ri fun p hp=>I.pin p (U0y _ (U14 _ hp))
theorem tX{iter:Expr}{body:List Stmt}{wi:TI}{g:TG}{tb:TS}{pos:Pos}(hp:PassesOwn `ai X.A X.env X.xe)(hc:X.calm=true)(hi:PI X tg iter wi)(hg:PG X tg g)(hb:PSs X body tb)
  (hs:∀x,foldedSetIterable iter X.env x=pure x:=by intro _;rfl):PS X (.For tg iter body [] pos) (yX wi g tb):=by
 intro pins s Z3 H D I h
 refine wpAny_For (thn (hi pins s Z3 H _ I h) fun v s1 h1=>thn h1 fun itv s2 h2=>?_) hs
 obtain⟨it,fp,tn,J,H2,e,I2,T,st2,f2,W,⟨m0,w0⟩,turn⟩:=h2
 subst e
 have stat:∀{H':Hp},(∀b∈fp,H' b=none)->∀b∈fp,Oh X pins H' b:=fun hn b hb=>⟨hn b hb,(f2 b hb).2⟩
 refine codeAny_forLoop_any (fun n s'=>∃i ZZ H',Inv X pins ZZ H' s'/\tn i s'.heap/\(∀b∈fp,H' b=none)/\W i n ZZ H') ?_ m0 ⟨0,Z3,H2,I2,st2,fun b hb=>(f2 b hb).1,w0⟩
 rintro n s3 ⟨i,ZT,H3,I3,st3,fr3,w3⟩
 rcases turn i n ZT H3 w3 with ⟨stop,qn⟩|⟨go,N,hN,step⟩
 .refine U4y hp (thn (T.done X rfl rfl rfl hc i pins s3 ZT H3 X.xe I3 (stat fr3) st3 stop) fun r s4 ⟨hr,I4⟩=>?_)
  subst hr
  exact U7d ⟨ZT,H3,I4,qn⟩
 .refine U4y hp (thn (T.item X rfl rfl rfl hc i pins s3 ZT H3 X.xe I3 (stat fr3) st3 go) fun r s4 ⟨u,hr,h4⟩=>?_)
  subst hr
  refine U4y hp (thn h4 fun _ s5 ⟨x,H5,I5,r5,y5,st5,fr5⟩=>?_)
  have I5':=I5.pinned (stat fr5) (T.obj _ _ st5)
  refine U4y hp (thn (hg _ s5 ZT H5 x u _ I5' r5 (step x H5 y5)) fun _ s6 ⟨ZA,H6,I6,q6⟩=>?_)
  refine U4y hp (thn (hb _ s6 ZA H6 _ I6 q6) fun f s7 q7=>?_)
  have again:∀{ZO:St} {H7:Hp},Inv X (pins++Ln fp s5.heap) ZO H7 s7->N ZO H7->∃m,m<n/\∃i ZZ H',Inv X pins ZZ H' s7/\tn i s7.heap/\(∀b∈fp,H' b=none)/\W i m ZZ H':=fun {ZO H7} I7 n7=>by
   obtain⟨m',hm,w7⟩:=hN ZO H7 n7
   refine⟨m',hm,i+1,ZO,H7,I7.Q7,T.keep _ _ _ st5 fun b hb o e=>(I7.pin (b,o) (U0y _ (U0y _ (Ma hb e)))).1,fun b hb=>?_,w7⟩
   obtain⟨o,e,d⟩:=T.obj _ _ st5 b hb
   exact(I7.pin (b,o) (U0y _ (U0y _ (Ma hb e)))).2.1
  cases f with
  |next=>obtain⟨ZO,H7,I7,n7⟩:=q7;exact again I7 n7
  |cont=>obtain⟨ZO,H7,I7,n7⟩:=q7;exact again I7 n7
  |brk=>obtain⟨ZO,H7,I7,q7⟩:=q7;exact⟨ZO,H7,I7.Q7,q7⟩
  |ret v=>obtain⟨x7,ZO,H7,I7,r7,q7⟩:=q7;exact⟨x7,ZO,H7,I7.Q7,r7,q7⟩
end
end L2
namespace L2
open PySem PySem.Spec PyProof.Rows
abbrev R2:=V->V->Hp->VK->Prop
def OpR(X:Cx)(f:Value->Value->Sem Value)(r:R2):Prop :=
 ∀(pins:List (Addr×Obj))(s:Shared)(Z3:St)(H:Hp)(x y:V)(v u:Value)(Q:VK),Inv X pins Z3 H s->RelV x v->RelV y u->r x y H Q ->
  wpAny `ai X.A (f v u) (EP X pins Z3 Q) X.xe s
def UnR(X:Cx)(f:Value->Sem Value)(r:V->Hp->VK->Prop):Prop :=
 ∀(pins:List (Addr×Obj))(s:Shared)(Z3:St)(H:Hp)(x:V)(v:Value)(Q:VK),Inv X pins Z3 H s->RelV x v->r x H Q ->
  wpAny `ai X.A (f v) (EP X pins Z3 Q) X.xe s
def Df(X:Cx)(f:Value)(r:List V->Hp->VK->Prop):Prop :=
 ∀(pins:List (Addr×Obj))(s:Shared)(Z3:St)(H:Hp)(xs:List V)(us:List Value)(Q:VK),Inv X pins Z3 H s->Vals xs us->r xs H Q ->
  wpAny `ai X.A (call f us) (EP X pins Z3 Q) X.xe s
def tOp(r:R2)(ta tb:TE):TE:=fun Z3 H Q=>ta Z3 H fun x H1=>tb Z3 H1 fun y H2=>r x y H2 Q
def tUn(r:V->Hp->VK->Prop)(ta:TE):TE:=fun Z3 H Q=>ta Z3 H fun x H1=>r x H1 Q
def rI(C:Int->Int->Prop)(g:Int->Int->V):R2:=fun x y H Q=>∃i j,x=.int i/\y=.int j/\C i j/\Q (g i j) H
def rI0(g:Int->Int->V):R2:=fun x y H Q=>∃i j,x=.int i/\y=.int j/\Q (g i j) H
def rU(g:Int->V):V->Hp->VK->Prop:=fun x H Q=>∃i,x=.int i/\Q (g i) H
section
variable{X:Cx}{a b c:Expr}{ta tb tc:TE}{pos:Pos}
theorem iY(ha:PE X a ta)(hb:PE X b tb){pins:List (Addr×Obj)}{s:Shared}{Z3:St}{H:Hp}{R:V->V->Hp->Prop}(I:Inv X pins Z3 H s)
  (h:ta Z3 H fun x H1=>tb Z3 H1 fun y H2=>R x y H2) {Q:Value->Shared->Prop} {f:Value->Value->Sem Value}
  (hf:∀v u s2 x y H2,Inv X pins Z3 H2 s2->RelV x v->RelV y u->R x y H2->wpAny `ai X.A (f v u) Q X.xe s2) :
  wpAny `ai X.A (eval a X.env) (fun v s₁=>wpAny `ai X.A (eval b X.env) (fun u s₂=>wpAny `ai X.A (f v u) Q X.xe s₂) X.xe s₁) X.xe s:=by
 refine thn (ha pins s Z3 H _ I h) fun v s1 ⟨x,H1,I1,r1,q1⟩=>?_
 refine thn (hb pins s1 Z3 H1 _ I1 q1) fun u s2 ⟨y,H2,I2,r2,q2⟩=>?_
 exact hf v u s2 x y H2 I2 r1 r2 q2
theorem wU{op:Operator}{r:R2}(ho:OpR X (binaryOp op) r)(ha:PE X a ta)(hb:PE X b tb):PE X (.BinOp a op b pos) (tOp r ta tb):=by
 intro pins s Z3 H Q I h
 exact wpAny_BinOp (iY ha hb I h fun v u s2 x y H2 I2 rx ry q=>ho pins s2 Z3 H2 x y v u Q I2 rx ry q)
theorem wR{op:UnaryOp}{r:V->Hp->VK->Prop}(ho:UnR X (unaryOp op) r)(ha:PE X a ta):PE X (.UnaryOp op a pos) (tUn r ta):=by
 intro pins s Z3 H Q I h
 exact UnaryOp_ (thn (ha pins s Z3 H _ I h) fun v s1 ⟨x,H1,I1,r1,q1⟩=>ho pins s1 Z3 H1 x v Q I1 r1 q1)
theorem opI{f:Value->Value->Sem Value}{C:Int->Int->Prop}{g:Int->Int->Int}
  (rule:∀(i j:Int)(t u:Tok)(s:Shared)(Q:Value->Shared->Prop)(E:Value->Shared->Prop),C i j->Q (.int (g i j) s.toks) { s with toks:=s.toks+1 }->wpAny (model X.prog X.w) X.A (f (.int i t) (.int j u)) Q E s) :
  OpR X f (rI C fun i j=>.int (g i j)):=by
 intro pins s Z3 H x y v u Q I rx ry h
 obtain⟨i,j,rfl,rfl,hc,q⟩:=h
 obtain⟨t,rfl⟩:=rx
 obtain⟨t',rfl⟩:=ry
 exact rule i j t t' s _ _ hc ⟨.int (g i j),H,I.tok _,⟨_,rfl⟩,q⟩
theorem sG{f:Value->Value->Sem Value}{g:Int->Int->Int}
  (rule:∀(i j:Int)(t u:Tok)(s:Shared)(Q:Value->Shared->Prop)(E:Value->Shared->Prop),Q (.int (g i j) s.toks) { s with toks:=s.toks+1 }->wpAny (model X.prog X.w) X.A (f (.int i t) (.int j u)) Q E s) :
  OpR X f (rI0 fun i j=>.int (g i j)):=by
 intro pins s Z3 H x y v u Q I rx ry h
 obtain⟨i,j,rfl,rfl,q⟩:=h
 obtain⟨t,rfl⟩:=rx
 obtain⟨t',rfl⟩:=ry
 exact rule i j t t' s _ _ ⟨.int (g i j),H,I.tok _,⟨_,rfl⟩,q⟩
theorem bI{f:Value->Value->Sem Value}{g:Int->Int->Bool}
  (rule:∀(i j:Int)(t u:Tok)(s:Shared)(Q:Value->Shared->Prop)(E:Value->Shared->Prop),Q (.bool (g i j)) s->wpAny `ai X.A (f (.int i t) (.int j u)) Q E s) :
  OpR X f (rI0 fun i j=>.bl (g i j)):=by
 intro pins s Z3 H x y v u Q I rx ry h
 obtain⟨i,j,rfl,rfl,q⟩:=h
 obtain⟨t,rfl⟩:=rx
 obtain⟨t',rfl⟩:=ry
 exact rule i j t t' s _ _ ⟨.bl (g i j),H,I,rfl,q⟩
def iz(i j:Int):Prop:=0<=j/\j<=1000000/\i.natAbs<2^64
def Xh(i j:Int):Prop:=(-(2^64)<i/\i<2^64)∨(-(2^64)<j/\j<2^64)
theorem Xh.ok{i j:Int}(h:Xh i j):IntMulOk i j:=by
 rcases h with ⟨h1,h2⟩|⟨h1,h2⟩
 .exact .of_left (intBits_le_64 h1 h2)
 .exact .of_right (intBits_le_64 h1 h2)
theorem uO:OpR X (binaryOp .Add) (rI0 fun i j=>.int (i+j)):=sG fun _ _ _ _ _ _ _ q=>add_int q
theorem Qq:OpR X (binaryOp .Sub) (rI0 fun i j=>.int (i-j)):=sG fun _ _ _ _ _ _ _ q=>sub_int q
theorem uK:OpR X (binaryOp .Mult) (rI Xh fun i j=>.int (i*j)):=opI fun _ _ _ _ _ _ _ hc q=>mul_int q hc.ok
theorem NQ:OpR X (binaryOp .Mod) (rI (fun _ j=>0<j) fun i j=>.int (i%j)):=opI fun i j _ _ _ _ _ hc q=>by
 have h1:(0:Int)<j:=hc
 exact mod_int' (by lia) (by rw[Int.fmod_eq_emod_of_nonneg i (by lia)];exact q)
theorem Oz:OpR X (binaryOp .Pow) (rI iz fun i j=>.int (i^j.toNat)):=opI fun _ _ _ _ _ _ _ hc q=>pow_int_small hc.1 hc.2.1 hc.2.2 q
theorem unI{f:Value->Sem Value}{g:Int->Int}
  (rule:∀(i:Int)(t:Tok)(s:Shared)(Q:Value->Shared->Prop)(E:Value->Shared->Prop),Q (.int (g i) s.toks) { s with toks:=s.toks+1 }->wpAny (model X.prog X.w) X.A (f (.int i t)) Q E s) :
  UnR X f (rU fun i=>.int (g i)):=by
 intro pins s Z3 H x v Q I rx h
 obtain⟨i,rfl,q⟩:=h
 obtain⟨t,rfl⟩:=rx
 exact rule i t s _ _ ⟨.int (g i),H,I.tok _,⟨_,rfl⟩,q⟩
theorem Li:UnR X (unaryOp .USub) (rU fun i=>.int (-i)):=unI fun _ _ _ _ _ q=>neg_int q
end
def rN:V->V->Bool
 |.non,.non=>true|.non,.int _=>true|.int _,.non=>true|.non,.bl _=>true|.bl _,.non=>true|.non,.str _=>true|.str _,.non=>true
 |.int _,.int _=>true|.bl _,.bl _=>true|.str _,.str _=>true|.byt _,.byt _=>true
 |.int _,.str _=>true|.str _,.int _=>true|.bl _,.str _=>true|.str _,.bl _=>true
 |_,_=>false
def rEq:R2:=fun x y H Q=>rN x y=true/\Q (.bl (decide (x=y))) H
def rNe:R2:=fun x y H Q=>rN x y=true/\Q (.bl (!decide (x=y))) H
theorem ak{i j:Int}:decide (V.int i=V.int j)=(i==j):=by
 rw[U4z]
 simp
theorem fD{i j:Bool}:decide (V.bl i=V.bl j)=(i==j):=by
 rw[U4z]
 simp
theorem aj{i j:Str}:decide (V.str i=V.str j)=(i==j):=by
 rw[U4z]
 simp
theorem ao{i j:Array UInt8}:decide (V.byt i=V.byt j)=(i.toList==j.toList):=by
 rw[U4z]
 cases i
 cases j
 simp
section
variable{X:Cx}{a b c:Expr}{ta tb tc:TE}{pos:Pos}
theorem Cq{pins:List (Addr×Obj)}{Z3:St}{H:Hp}{s:Shared}{Q:VK}{k k':Bool}(I:Inv X pins Z3 H s)(q:Q (.bl k) H)(e:k=k'):EP X pins Z3 Q (.bool k') s:=by
 subst e
 exact⟨.bl k,H,I,rfl,q⟩
theorem wj:OpR X (compareOp .Eq) rEq:=by
 intro pins s Z3 H x y v u Q I rx ry h
 obtain⟨hs,q⟩:=h
 cases x with
 |non =>
  cases rx
  cases y with
  |non=>cases ry;exact PySem.EqNone.eq_none_none (Cq I q (by simp))
  |bl j=>cases ry;exact PySem.EqNone.eq_none_bool (Cq I q (by simp))
  |int j=>obtain⟨t',rfl⟩:=ry;exact PySem.EqNone.eq_none_int (Cq I q (by simp))
  |str j=>obtain⟨t',rfl⟩:=ry;exact PySem.EqNone.eq_none_str (Cq I q (by simp))
  |_=>exact absurd (show false=true from hs) U1e
 |bl i =>
  cases rx
  cases y with
  |non=>cases ry;exact PySem.EqNone.eq_bool_none (Cq I q (by simp))
  |bl j=>cases ry;exact eq_bool (Cq I q fD)
  |str j=>obtain⟨t',rfl⟩:=ry;exact PySem.EqMixed.eq_bool_str (Cq I q (by simp))
  |_=>exact absurd (show false=true from hs) U1e
 |int i =>
  obtain⟨t,rfl⟩:=rx
  cases y with
  |non=>cases ry;exact PySem.EqNone.eq_int_none (Cq I q (by simp))
  |int j=>obtain⟨t',rfl⟩:=ry;exact eq_int (Cq I q ak)
  |str j=>obtain⟨t',rfl⟩:=ry;exact PySem.EqMixed.eq_int_str (Cq I q (by simp))
  |_=>exact absurd (show false=true from hs) U1e
 |str i =>
  obtain⟨t,rfl⟩:=rx
  cases y with
  |non=>cases ry;exact PySem.EqNone.eq_str_none (Cq I q (by simp))
  |bl j=>cases ry;exact PySem.EqMixed.eq_str_bool (Cq I q (by simp))
  |int j=>obtain⟨t',rfl⟩:=ry;exact PySem.EqMixed.eq_str_int (Cq I q (by simp))
  |str j=>obtain⟨t',rfl⟩:=ry;exact eq_str (Cq I q aj)
  |_=>exact absurd (show false=true from hs) U1e
 |byt i =>
  obtain⟨t,rfl⟩:=rx
  cases y with
  |byt j=>obtain⟨t',rfl⟩:=ry;exact PySem.W.eq_bytes (Cq I q ao)
  |_=>exact absurd (show false=true from hs) U1e
 |_=>cases y<;>exact absurd (show false=true from hs) U1e
theorem wg:OpR X (compareOp .NotEq) rNe:=by
 intro pins s Z3 H x y v u Q I rx ry h
 obtain⟨hs,q⟩:=h
 cases x with
 |non =>
  cases rx
  cases y with
  |non=>cases ry;exact PySem.EqNone.ne_none_none (Cq I q (by simp))
  |bl j=>cases ry;exact PySem.EqNone.ne_none_bool (Cq I q (by simp))
  |int j=>obtain⟨t',rfl⟩:=ry;exact PySem.EqNone.ne_none_int (Cq I q (by simp))
  |str j=>obtain⟨t',rfl⟩:=ry;exact PySem.EqNone.ne_none_str (Cq I q (by simp))
  |_=>exact absurd (show false=true from hs) U1e
 |bl i =>
  cases rx
  cases y with
  |non=>cases ry;exact PySem.EqNone.ne_bool_none (Cq I q (by simp))
  |bl j=>cases ry;exact ne_bool (Cq I q (congrArg not fD))
  |str j=>obtain⟨t',rfl⟩:=ry;exact PySem.EqMixed.ne_bool_str (Cq I q (by simp))
  |_=>exact absurd (show false=true from hs) U1e
 |int i =>
  obtain⟨t,rfl⟩:=rx
  cases y with
  |non=>cases ry;exact PySem.EqNone.ne_int_none (Cq I q (by simp))
  |int j=>obtain⟨t',rfl⟩:=ry;exact ne_int (Cq I q (congrArg not ak))
  |str j=>obtain⟨t',rfl⟩:=ry;exact PySem.EqMixed.ne_int_str (Cq I q (by simp))
  |_=>exact absurd (show false=true from hs) U1e
 |str i =>
  obtain⟨t,rfl⟩:=rx
  cases y with
  |non=>cases ry;exact PySem.EqNone.ne_str_none (Cq I q (by simp))
  |bl j=>cases ry;exact PySem.EqMixed.ne_str_bool (Cq I q (by simp))
  |int j=>obtain⟨t',rfl⟩:=ry;exact PySem.EqMixed.ne_str_int (Cq I q (by simp))
  |str j=>obtain⟨t',rfl⟩:=ry;exact ne_str (Cq I q (congrArg not aj))
  |_=>exact absurd (show false=true from hs) U1e
 |byt i =>
  obtain⟨t,rfl⟩:=rx
  cases y with
  |byt j=>obtain⟨t',rfl⟩:=ry;exact PySem.W.ne_bytes (Cq I q (congrArg not ao))
  |_=>exact absurd (show false=true from hs) U1e
 |_=>cases y<;>exact absurd (show false=true from hs) U1e
theorem bU:OpR X (compareOp .Lt) (rI0 fun i j=>.bl (decide (i<j))):=bI fun _ _ _ _ _ _ _ q=>lt_int q
theorem lq:OpR X (compareOp .LtE) (rI0 fun i j=>.bl (decide (i<=j))):=bI fun _ _ _ _ _ _ _ q=>le_int q
theorem LK:OpR X (compareOp .Gt) (rI0 fun i j=>.bl (decide (j<i))):=bI fun _ _ _ _ _ _ _ q=>gt_int q
theorem UL:OpR X (compareOp .GtE) (rI0 fun i j=>.bl (decide (j<=i))):=bI fun _ _ _ _ _ _ _ q=>ge_int q
theorem OpR.or{f:Value->Value->Sem Value}{r r':R2}(h:OpR X f r)(h':OpR X f r'):OpR X f (fun x y H Q=>r x y H Q∨r' x y H Q):=by
 intro pins s Z3 H x y v u Q I rx ry q
 rcases q with q|q
 .exact h pins s Z3 H x y v u Q I rx ry q
 .exact h' pins s Z3 H x y v u Q I rx ry q
theorem Bw(b:Expr){op:CmpOp}(h:op≠.In:=by decide)(h2:op≠.NotIn:=by decide):behindInMarks op b=false:=by
 have e1:(op==CmpOp.In)=false:=by cases op<;>first|rfl|exact absurd rfl h
 have e2:(op==CmpOp.NotIn)=false:=by cases op<;>first|rfl|exact absurd rfl h2
 cases b<;>simp[behindInMarks,e1,e2]
theorem oZ{op:CmpOp}{r:R2}(ho:OpR X (compareOp op) r)(ha:PE X a ta)(hb:PE X b tb)(hm:behindInMarks op b=false):PE X (.Compare a [op] [b] pos) (tOp r ta tb):=by
 intro pins s Z3 H Q I h
 exact wpAny_Compare1 (iY ha hb I h fun v u s2 x y H2 I2 rx ry q=>ho pins s2 Z3 H2 x y v u Q I2 rx ry q) hm
def lR(t:TE):TT:=fun Z3 H Q=>t Z3 H fun x H'=>∃k,x=.bl k/\Q k H'
theorem oJ{op:CmpOp}{r:R2}(ho:OpR X (compareOp op) r)(ha:PE X a ta)(hb:PE X b tb)(hm:behindInMarks op b=false):PT X (.Compare a [op] [b] pos) (lR (tOp r ta tb)):=by
 intro pins s Z3 H Q I h
 refine wpAny_isTrue_Compare1 (thn (ha pins s Z3 H _ I h) fun v s1 ⟨x,H1,I1,r1,q1⟩=>thn (hb pins s1 Z3 H1 _ I1 q1) fun u s2 ⟨y,H2,I2,r2,q2⟩ =>
  thn (ho pins s2 Z3 H2 x y v u _ I2 r1 r2 q2) fun c s3 ⟨z,H3,I3,r3,k,e,q3⟩=>?_) hm
 subst e
 cases r3
 exact U47 ⟨H3,I3,q3⟩
theorem Qt:(sizeLine:Nat)<2^63:=by rw[sizeLine_eq];decide
theorem cL:OpR X (binaryOp .Add) (fun x y H Q=>∃i j,x=.str i/\y=.str j/\i.length+j.length<=sizeLine/\Q (.str (i++j)) H):=by
 intro pins s Z3 H x y v u Q I rx ry h
 obtain⟨i,j,rfl,rfl,hz,q⟩:=h
 obtain⟨t,rfl⟩:=rx
 obtain⟨t',rfl⟩:=ry
 exact add_str (fun t' tk=>⟨.str (i++j),H,I.tok _,⟨_,rfl⟩,q⟩) hz
theorem vals1{x:V}{us:List Value}(r:Vals [x] us):∃u,us=[u]/\RelV x u:=by
 cases r with
 |cons r1 r2=>cases r2;exact⟨_,rfl,r1⟩
theorem vals2{x y:V}{us:List Value}(r:Vals [x,y] us):∃u w',us=[u,w']/\RelV x u/\RelV y w':=by
 cases r with
 |cons r1 r2 =>
  cases r2 with
  |cons r3 r4=>cases r4;exact⟨_,_,rfl,r1,r3⟩
theorem iB(hc:X.calm=true):Df X (.builtin "max") (fun xs H Q=>∃i j,xs=[.int i,.int j]/\Q (.int (if j>i then j else i)) H):=by
 intro pins s Z3 H xs us Q I r h
 obtain⟨i,j,rfl,q⟩:=h
 obtain⟨u,w',rfl,⟨t,rfl⟩,⟨t',rfl⟩⟩:=vals2 r
 refine max_two_ints (I.ok.hd hc) fun h' tk k=>⟨_,H,I.kept k,?_,q⟩
 by_cases hj:j>i
 .rw[if_pos hj,if_pos hj];exact⟨_,rfl⟩
 .rw[if_neg hj,if_neg hj];exact⟨_,rfl⟩
theorem Wn(hc:X.calm=true):Df X (.builtin "min") (fun xs H Q=>∃i j,xs=[.int i,.int j]/\Q (.int (if j<i then j else i)) H):=by
 intro pins s Z3 H xs us Q I r h
 obtain⟨i,j,rfl,q⟩:=h
 obtain⟨u,w',rfl,⟨t,rfl⟩,⟨t',rfl⟩⟩:=vals2 r
 refine min_two_ints (I.ok.hd hc) fun h' tk k=>⟨_,H,I.kept k,?_,q⟩
 by_cases hj:j<i
 .rw[if_pos hj,if_pos hj];exact⟨_,rfl⟩
 .rw[if_neg hj,if_neg hj];exact⟨_,rfl⟩
theorem Wo:Df X (.type "int") (fun xs H Q=>(∃i,xs=[.int i]/\Q (.int i) H)∨∃k,xs=[.bl k]/\Q (.int (if k then 1 else 0)) H):=by
 intro pins s Z3 H xs us Q I r h
 rcases h with ⟨i,rfl,q⟩|⟨k,rfl,q⟩
 .obtain⟨u,rfl,t,rfl⟩:=vals1 r
  exact call_int_int ⟨.int i,H,I,⟨_,rfl⟩,q⟩
 .obtain⟨u,rfl,r1⟩:=vals1 r
  cases r1
  exact call_int_bool ⟨.int (if k then 1 else 0),H,I.tok _,⟨_,rfl⟩,q⟩
end
end L2
namespace L2
open PySem PySem.Spec PyProof.Rows
structure iw(h:Heap)(x dx C:Addr)(mA:Str->Option Value):Prop where
 obj:h.get? x=some (U8s C dx)
 ns:h.Ns1 dx mA
 ne:dx≠x
theorem gH{h:Heap}{dx:Addr}{mA:Str->Option Value}(n:h.Ns1 dx mA):∃od,h.get? dx=some od/\∀name,U8x name od=some (mA name):=by
 obtain⟨o,es,ep,ho,hd,hk,_,hm⟩:=n
 refine⟨o,ho,fun name=>?_⟩
 have e:=hm name
 unfold nsFind findBy at e
 rw[←Array.find?_toList] at e
 unfold U8x
 rw[hd]
 dsimp only
 split
 .rename_i y q
  rw[q] at e
  exact congrArg some e
 .rename_i q
  rw[q] at e
  have a:es.toList.any (·.refKey)=false:=by
   rw[List.any_eq_false]
   intro y hy
   obtain⟨z,t,hkey⟩:=hk y (Array.mem_toList_iff.mp hy)
   simp[DictEntry.refKey,hkey]
  have a':¬es.toList.any (·.refKey)=true:=by rw[a];exact U1e
  rw[if_neg a']
  exact congrArg some e
theorem iw.look{h:Heap}{x dx C:Addr}{mA:Str->Option Value}(I:iw h x dx C mA):∃od,PySem.W.InstAt h x (U8s C dx) C (some od)/\∀name,U8x name od=some (mA name) :=
 let ⟨od,ho,hl⟩:=gH I.ns
 ⟨od,⟨I.obj,rfl,rfl,ho⟩,hl⟩
section
variable{prog:Program}{w:World}{A:Around}{E:Value->Shared->Prop}{s:Shared}{K:U0b}{x dx C f:Addr}{mA:Str->Option Value}{name:Str}{v:Value}
end
section
variable{P:Program}{w:World}{H H':Hp}{h h':Heap}{a C dx:Addr}{fs fs':List (Str×V)}
theorem qI(hok:HOk P w H h)(e:H a=some (.ins C dx fs)):∃mA,iw h a dx C mA/\(∀f,iu (fs.lookup f) (mA f))/\PySem.Within mA (fs.map (·.1))/\fs.length<=1000/\H dx=some (.own a):=by
 obtain⟨d,z,ne,ob,mA,n,r,q⟩:=(show Dm P w H h a (.ins C dx fs) from hok a _ e)
 exact⟨mA,⟨ob,n,ne⟩,r,q,z,d⟩
end
structure Cls(K:U0b)(C:Addr):Prop where
 pg:PySem.W.plainGet K C Str.empty=true
 hd:PySem.W.hasDictIn K C=true
 po:PySem.W.plainOver K C=true
 sa:U6q K (.ref C) "__setattr__"=some (some (.builtin "object.__setattr__"))
theorem Cls.get{K:U0b}{C:Addr}(c:Cls K C)(f:Str):PySem.W.plainGet K C f=true:=c.pg
structure Con(K:U0b)(C:Addr)(f:Str)(v:V)(u:Value):Prop where
 at_:U6q K (.ref C) f=some (some u)
 rel:RelV v u
 get:PySem.W.specialIn K u "__get__"=some none
 cp:PySem.W.copiedNames.contains f=false
structure Meth(K:U0b)(C:Addr)(m:Str)(f:Addr):Prop where
 at_:U6q K (.ref C) m=some (some (.ref f))
 fn:PySem.W.isFn K (.ref f)=true
 kp:U1g K (.ref f)=true
section
variable{X:Cx}{pins:List (Addr×Obj)}{Z3:St}{H:Hp}{s:Shared}{a C dx:Addr}{fs:List (Str×V)}{f:Str}{v:V}{A:Around}{E:Value->Shared->Prop}
end
section
variable{X:Cx}{o e value:Expr}{f:Str}{pos pos' tpos:Pos}{ta tv:TE}
end
section
variable{X:Cx}{pins:List (Addr×Obj)}{Z3:St}{H:Hp}{s:Shared}{A:Around}{E:Value->Shared->Prop}{Q:Value->Shared->Prop}{c:Value}{b:Bool}
inductive Jp (K:U0b) (H:Hp):V->Value->Prop where
 |non:Jp K H .non (.type "NoneType")
 |bl (x:Bool):Jp K H (.bl x) (.type "bool")
 |int (i:Int):Jp K H (.int i) (.type "int")
 |str (x:Str):Jp K H (.str x) (.type "str")
 |flt (x:UInt64):Jp K H (.flt x) (.type "float")
 |lst {a:Addr} {xs:List V} (e:H a=some (.lst xs)):Jp K H (.ref a) (.type "list")
 |frz {a:Addr} {o:Obj} {xs:List V} (e:H a=some (.frz o (.lst xs))):Jp K H (.ref a) (.type "list")
 |tup {a:Addr} {xs:List V} (e:H a=some (.tup xs)):Jp K H (.ref a) (.type "tuple")
 |dK {a:Addr} {kvs:List (Key×V)} (e:H a=some (.dK kvs)):Jp K H (.ref a) (.type "dict")
 |dT {a:Addr} {kvs:List (List Key×V)} (e:H a=some (.dT kvs)):Jp K H (.ref a) (.type "dict")
 |ins {a C dx:Addr} {fs:List (Str×V)} (e:H a=some (.ins C dx fs)) (cl:Cls K C) (ha:U6q K (.ref C) "__class__"=some (some (.builtin "object.__class__")))
   (hn:PySem.W.specialIn K (.builtin "object.__class__") "__get__"=some (some (.builtin "getset_descriptor.__get__"))) (htk:PySem.W.takesIn K (.builtin "object.__class__")=some true)
   (hm:PySem.W.mroIn K C (.type "object")=some true):Jp K H (.ref a) (.ref C)
theorem gJ{x:V}{u t:Value}(I:Inv X pins Z3 H s)(rx:RelV x u)(ty:Jp X.K H x t)(e:U38 X.K t c=some b)(h:∀tk,Q (.bool b) { s with toks:=tk }) :
  wpAny `ai A (call (.builtin "isinstance") [u,c]) Q E s:=by
 cases ty with
 |non=>cases (show u=U3 from rx);exact U3m PySem.W.kitx_none I.kIn U8j e (fun z=>nomatch z) h
 |bl y=>cases (show u=U5a y from rx);exact U3m PySem.W.kitx_bool I.kIn U8j e (fun z=>nomatch z) h
 |int i=>obtain⟨t,q⟩:=(show ∃t,u=U70 i t from rx);cases q;exact U3m PySem.W.kitx_int I.kIn U8j e (fun z=>nomatch z) h
 |str y=>obtain⟨t,q⟩:=(show ∃t,u=Value.str y t from rx);cases q;exact U3m PySem.W.kitx_str I.kIn U8j e (fun z=>nomatch z) h
 |flt y=>obtain⟨t,q⟩:=(show ∃t,u=Value.float y t from rx);cases q;exact U3m PySem.W.kitx_float I.kIn U8j e (fun z=>nomatch z) h
 |@lst a xs ea =>
  cases (show u=U24 a from rx)
  obtain⟨_,_,n,_,h1⟩:=(show Dm X.prog X.w H s.heap a (.lst xs) from I.hok a _ ea)
  exact U3m PySem.W.kitx_list I.kIn ⟨_,h1,rfl⟩ e (fun z=>nomatch z) h
 |@frz a ob xs ea =>
  cases (show u=U24 a from rx)
  obtain⟨_,_,_,n,_,h1⟩:=(show Dm X.prog X.w H s.heap a (.frz ob (.lst xs)) from I.hok a _ ea)
  exact U3m PySem.W.kitx_list I.kIn ⟨_,h1,rfl⟩ e (fun z=>nomatch z) h
 |@tup a xs ea =>
  cases (show u=U24 a from rx)
  obtain⟨_,_,_,p⟩:=(show Dm X.prog X.w H s.heap a (.tup xs) from I.hok a _ ea)
  obtain⟨o,h1,h2,_⟩:=p
  exact U3m PySem.W.kitx_tuple I.kIn ⟨o,h1,h2⟩ e (fun z=>nomatch z) h
 |@dK a kvs ea =>
  cases (show u=U24 a from rx)
  obtain⟨_,_,vs,_,p⟩:=(show Dm X.prog X.w H s.heap a (.dK kvs) from I.hok a _ ea)
  obtain⟨o,es,ep,h1,h2,_⟩:=p
  exact U3m PySem.W.kitx_dict I.kIn ⟨o,h1,h2.1⟩ e (fun z=>nomatch z) h
 |@dT a kvs ea =>
  cases (show u=U24 a from rx)
  obtain⟨_,_,xs,_,o,es,ep,h1,h2,_⟩:=(show Dm X.prog X.w H s.heap a (.dT kvs) from I.hok a _ ea)
  exact U3m PySem.W.kitx_dict I.kIn ⟨o,h1,h2.1⟩ e (fun z=>nomatch z) h
 |@ins a C dx fs ea cl ha hn htk hm =>
  cases (show u=U24 a from rx)
  obtain⟨mA,O,_⟩:=qI I.hok ea
  obtain⟨od,J,_⟩:=O.look
  exact U3m (PySem.W.kitx_own (cl.get _) cl.hd ha hn htk hm) I.kIn J e (fun z=>nomatch z) h
end
end L2
namespace L2
open PySem PySem.Spec PyProof.Rows
structure Eb(k:Nat)(A:Around):Prop where
 hd:A.handled=none
 dp:A.depth+3*k+5<recursionLimit
 un:A.units+16*k+200<cLine
 gd:A.guards=some []
theorem Eb.mono{j k:Nat}{A:Around}(r:Eb k A)(h:j<=k):Eb j A:=⟨r.hd,by have:=r.dp;lia,by have:=r.un;lia,r.gd⟩
theorem Eb.deeper{k:Nat}{A:Around}(r:Eb (k+1) A)(env:Env):Eb k (A.deeper env) :=
 ⟨r.hd,by have:=r.dp;show A.depth+1+3*k+5<_;lia,by have:=r.un;show A.units+3+16*k+200<_;lia,r.gd⟩
theorem Eb.depth{k:Nat}{A:Around}(r:Eb k A):A.depth<recursionLimit:=by have:=r.dp;lia
theorem Eb.units{k:Nat}{A:Around}(r:Eb k A):A.units+64<cLine:=by have:=r.un;lia
def yU:TA:=fun _ H Q=>Q [] H
def wH(ta:TE)(tr:TA):TA:=fun Z3 H Q=>ta Z3 H fun x H1=>tr Z3 H1 fun xs H2=>Q (x::xs) H2
section
variable{X:Cx}{e:Expr}{es:List Expr}{te:TE}{t:TA}{pos:Pos}
theorem Lp:PA X [] yU:=fun _ _ _ _ H Q I h=>Calls.spliced_nil ⟨[],H,I,.nil,h⟩
theorem Jv(ha:PE X e te)(hr:PA X es t)(hs:starEach (e::es) X.env=`bt::starEach es X.env:=by rfl):PA X (e::es) (wH te t):=by
 intro pos pins s Z3 H Q I h
 rw[hs]
 show wpAny _ _ (spliced (`bt::backTo pos (starEach es X.env))) _ _ s
 refine Calls.spliced_cons (thn (ha pins s Z3 H _ I h) fun u s1 ⟨x,H1,I1,r1,q1⟩=>?_)
 exact thn (hr pos pins s1 Z3 H1 _ I1 q1) fun us s2 ⟨xs,H2,I2,r2,q2⟩=>⟨x::xs,H2,I2,.cons r1 r2,q2⟩
def rJ(t:TA):TE:=fun Z3 H Q=>t Z3 H fun xs H1=>xs.length<=sizeLine/\∀p,H1 p=none->Q (.ref p) (upd H1 p (.tup xs))
def yV(t:TA):TE:=fun Z3 H Q=>t Z3 H fun xs H1=>xs.length<=sizeLine/\∀p,H1 p=none->Q (.ref p) (upd H1 p (.lst xs))
theorem u5{x1}(h:PA X es t):PE X (.Tuple es x1 pos) (rJ t):=by
 intro pins s Z3 H Q I hq
 refine wpAny_Tuple_spliced (thn (h pos pins s Z3 H _ I hq) fun us s1 ⟨xs,H1,I1,r,z,q⟩=>⟨by rw[←r.length];exact z,?_⟩)
 have hf:H1 s1.heap.objs.size=none:=I1.hok.fresh (U0l _)
 refine⟨.ref s1.heap.objs.size,upd H1 s1.heap.objs.size (.tup xs),I1.laid (t':=s1.toks) (fun b u e=>U0c _ e) (U0l _) ?_,rfl,q _ hf⟩
 exact⟨z,us,r,⟨_,U0u _ rfl,rfl,_,rfl⟩⟩
theorem dX(h:PA X es t):PE X (.List es pos) (yV t):=by
 intro pins s Z3 H Q I hq
 refine wpAny_List_spliced (thn (h pos pins s Z3 H _ I hq) fun us s1 ⟨xs,H1,I1,r,z,q⟩=>⟨by rw[←r.length];exact z,?_⟩)
 have hf:H1 s1.heap.objs.size=none:=I1.hok.fresh (U0l _)
 refine⟨.ref s1.heap.objs.size,upd H1 s1.heap.objs.size (.lst xs),I1.laid (t':=s1.toks) (fun b u e=>U0c _ e) (U0l _) ?_,rfl,q _ hf⟩
 exact⟨z,us,0,r,U0u _ rfl⟩
end
abbrev Sp:=List V->Hp->VK->XK->Prop
abbrev CXT:=List Env->Hp->Shared->XK->Value->Shared->Prop
structure bM(P:Program)(w:World)(K:U0b)(mg:Str->Option Value)(base:Heap)(A:Around)(outer:List Env)(s:Shared)(H:Hp):Prop where
 frames:A.frames=some outer
 mod:Mod K mg base
 bs:∀b o,base.get? b=some o->s.heap.get? b=some o/\H b=none
 bsz:base.objs.size<=s.heap.objs.size
 N7:s.heap.FunFrames base outer
 frf:∀b∈frs outer,H b=none
 hok:HOk P w H s.heap
 bare:AllBare s.gens
 sy:H sysModules=none
def CE(outer:List Env)(P:Program)(w:World)(H:Hp)(s:Shared)(Q:VK)(u:Value)(s':Shared):Prop :=
 ∃v H',s'.os=s.os/\AllBare s'.gens/\Un (frs outer) [] H H' s.heap s'.heap/\HOk P w H' s'.heap/\RelV v u/\Q v H'
def CR(CX:CXT)(outer:List Env)(P:Program)(w:World)(H:Hp)(s:Shared)(Q:VK)(E:XK)(r:Result)(s':Shared):Prop :=
 match r with
 |.ok (.ret u)=>CE outer P w H s Q u s'
 |.ok _=>False
 |.error e=>CX outer H s E e s'
structure DY(P:Program)(w:World)(K:U0b)(mg:Str->Option Value)(base:Heap)(CX:CXT)(k:Nat)(f:Addr)(fd:FuncData)(ps:List Str)(sp:Sp):Prop where
 len:∀vs H Q E,sp vs H Q E->vs.length=ps.length
 run:∀(A:Around)(outer:List Env)(s:Shared)(H:Hp)(args:Args)(us:List Value)(vs:List V)(Q:VK)(E:XK),Eb k A->bM P w K mg base A outer s H->BindsTo s fd args (ps.zip us)->Vals vs us->sp vs H Q E ->
  codeAny (model P w) A (.call (.ref f) args) (CR CX outer P w H s Q E) s
theorem DY.mono{P:Program}{w:World}{K:U0b}{mg:Str->Option Value}{base:Heap}{CX:CXT}{j k:Nat}{f:Addr}{fd:FuncData}{ps:List Str}{sp:Sp}(F:DY P w K mg base CX j f fd ps sp)(h:j<=k) :
  DY P w K mg base CX k f fd ps sp:=⟨F.len,fun A outer s H args us vs Q E hr=>F.run A outer s H args us vs Q E (hr.mono h)⟩
theorem DY.imp{P:Program}{w:World}{K:U0b}{mg:Str->Option Value}{base:Heap}{CX:CXT}{k:Nat}{f:Addr}{fd:FuncData}{ps:List Str}{sp sp':Sp}(F:DY P w K mg base CX k f fd ps sp)
  (h:∀vs H Q E,sp' vs H Q E->sp vs H Q E):DY P w K mg base CX k f fd ps sp' :=
 ⟨fun vs H Q E q=>F.len vs H Q E (h _ _ _ _ q),fun A outer s H args us vs Q E hr he hb hv hs=>F.run A outer s H args us vs Q E hr he hb hv (h _ _ _ _ hs)⟩
section
variable{X:Cx}{pins:List (Addr×Obj)}{Z3:St}{H:Hp}{s s':Shared}
theorem Inv.env0(I:Inv X pins Z3 H s):bM X.prog X.w X.K X.mg X.base X.A X.stack s H :=
 ⟨I.ok.frames,I.ok.mod,I.bs,U1b I.ok.bsz I.sz,I.stack,I.Zx,I.hok,I.bare,I.Sw⟩
theorem Inv.after{Q:VK}{u:Value}(I:Inv X pins Z3 H s)(h:CE X.stack X.prog X.w H s Q u s'):EP X pins Z3 Q u s':=by
 obtain⟨v,H',os,bare,un,hok,r,q⟩:=h
 obtain⟨hh,g,d,t,os'⟩:=s'
 obtain rfl:os'=s.os:=os
 exact⟨v,H',I.call (h':=hh) (g':=g) (d':=d) (t':=t) (ch:=[]) un hok bare (fun b z=>absurd z (by simp)),r,q⟩
end
def lU(sp:Sp)(dvs:List V)(E:XK)(t:TA):TE:=fun Z3 H Q=>t Z3 H fun vs H1=>sp (vs++dvs) H1 Q E
def Binds(K:U0b)(fd:FuncData)(ps:List Str)(ds:List Value):Prop :=
 ∀(s:Shared)(us:List Value),K.In s.heap->(us++ds).length=ps.length->BindsTo s fd ⟨us,[]⟩ (ps.zip (us++ds))
theorem Binds.all{K:U0b}{fd:FuncData}{ps:List Str}(h:∀us:List Value,us.length=ps.length->bindArgs fd ⟨us,[]⟩=pure (ps.zip us)):Binds K fd ps []:=fun s us _ hl=>by
 rw[U1o] at hl ⊢
 exact .of_eq (h us hl)
def Passes(CX:CXT)(X:Cx)(E:XK):Prop:=∀(pins:List (Addr×Obj))(Z3:St)(H:Hp)(s:Shared)(e:Value)(s':Shared),Inv X pins Z3 H s->CX X.stack H s E e s'->X.xe e s'
section
variable{X:Cx}{CX:CXT}{k:Nat}{f C:Addr}{fd:FuncData}{ps:List Str}{sp:Sp}{dvs:List V}{ds:List Value}{E:XK}{x m:Str}{p pos apos:Pos}{e o:Expr}{es:List Expr}{ta:TE}{t:TA}
theorem tL{pins:List (Addr×Obj)}{Z3:St}{H:Hp}{s:Shared}{Q:VK}{us:List Value}{vs:List V}(F:DY X.prog X.w X.K X.mg X.base CX k f fd ps sp)(hr:Eb k X.A)(hb:Binds X.K fd ps ds)(hd:Vals dvs ds)(hx:Passes CX X E)
  (I:Inv X pins Z3 H s) (r:Vals vs us) (h:sp (vs++dvs) H Q E):wpAny `ai X.A (call (.ref f) us) (EP X pins Z3 Q) X.xe s:=by
 have r2:Vals (vs++dvs) (us++ds):=r.append hd
 have hl:(us++ds).length=ps.length:=by rw[←r2.length];exact F.len _ _ _ _ h
 refine wpAny_call (codeAny_mono (F.run X.A X.stack s H ⟨us,[]⟩ (us++ds) (vs++dvs) Q E hr I.env0 (hb s us I.kIn hl) r2 h) fun r s' hq=>?_)
 cases r with
 |error e=>exact hx pins Z3 H s e s' I hq
 |ok fl =>
  cases fl with
  |ret u=>exact I.after hq
  |next=>exact U5b hq
  |brk=>exact U5b hq
  |cont=>exact U5b hq
theorem ou(F:DY X.prog X.w X.K X.mg X.base CX k f fd ps sp)(hr:Eb k X.A)(hg:Gl X x)(hm:X.mg x=some (.ref f))(hk:U1g X.K (.ref f)=true)(hb:Binds X.K fd ps ds)(hd:Vals dvs ds)(hx:Passes CX X E)
  (ha:PA X (e::es) t) (hdb:(x==("__debug__":Str))=false:=by decide) (he:starEach (e::es) X.env=`bt::starEach es X.env:=by rfl) (hpl:(`bu).any (·.1)=false:=by rfl) :
  PE X (.Call (.Name x p) (e::es) [] pos) (lU sp dvs E t):=by
 intro pins s Z3 H Q I h
 refine U72 (pU I hg hm ?_ hdb)
 refine PySem.W.callWith_K (h₀:=X.base) I.ok.mod.kin hk (thn (ha pos pins s Z3 H _ I h) fun us s1 ⟨vs,H1,I1,r,q⟩=>⟨I1.kIn,?_⟩) he hpl
 exact tL F hr hb hd hx I1 r q
structure Mk(K:U0b)(C f:Addr):Prop where
 makes:PySem.W.makesIn K C=true
 init:U6q K (.ref C) "__init__"=some (some (.ref f))
 fn:PySem.W.isFn K (.ref f)=true
 kp:U1g K (.ref C)=true
end
section
variable{X:Cx}{CX:CXT}{k:Nat}{f C:Addr}{fd:FuncData}{ps ks:List Str}{sp:Sp}{E:XK}{x m:Str}{p pos apos kpos:Pos}{e o:Expr}{es:List Expr}{kws:List Keyword}{te ta:TE}{t tk:TA}{nm:Option Str}
structure zp(K:U0b)(fd:FuncData)(ps ks:List Str)(g:List Value->List Value->List Value)(gV:List V->List V->List V):Prop where
 to:∀(s:Shared)(us ws:List Value),K.In s.heap->(g us ws).length=ps.length->BindsTo s fd ⟨us,ks.zip ws⟩ (ps.zip (g us ws))
 rel:∀{vs:List V} {us:List Value} {zs:List V} {ws:List Value},Vals vs us->Vals zs ws->Vals (gV vs zs) (g us ws)
variable{g:List Value->List Value->List Value}{gV:List V->List V->List V}
end
structure Cp(N P:List Str)(sc:Scope):Prop where
 kind:sc.kind=.function
 co:sc.isCoroutine=false
 gen:sc.isGenerator=false
 nd:N.Nodup
 pre:N.take P.length=P
 par:∀x∈P,sc.names.lookup x=some .local∨sc.names.lookup x=some .cell
 nofree:∀y∈sc.names,y.2≠.free
theorem Wr{kindOf:Str->Option NameKind}{x:Str}:∀{binds:List (Str×Value)} {m:Str->Option Value},(∀v,(x,v) ∉ binds)->bindL kindOf binds m x=m x
 |[],_,_=>rfl
 |(n,v)::r,m,h=>by
  unfold bindL
  rw[Wr fun w hw=>h w (U0k _ hw)]
  split
  .have:x≠n:=by rintro rfl;exact h v U0i
   simp[this]
  .rfl
theorem Wt{kindOf:Str->Option NameKind}{x:Str}:∀{binds:List (Str×Value)} {m:Str->Option Value},(∀v,(x,v) ∉ binds)->bindC kindOf binds m x=m x
 |[],_,_=>rfl
 |(n,v)::r,m,h=>by
  unfold bindC
  rw[Wt fun w hw=>h w (U0k _ hw)]
  split
  .rfl
  .have:x≠n:=by rintro rfl;exact h v U0i
   simp[this]
theorem Ws{kindOf:Str->Option NameKind}{x:Str}{v:Value}:∀{P:List Str} {vs:List Value} {i:Nat} {m:Str->Option Value},P.Nodup->P[i]?=some x->vs[i]?=some v->kindOf x=some .local ->
  bindL kindOf (P.zip vs) m x=some v
 |[],_,_,_,_,h,_,_=>by simp at h
 |_::_,[],_,_,_,_,h,_=>by simp at h
 |p::P,w::vs,0,m,nd,h1,h2,hk=>by
  simp at h1 h2;subst h1;subst h2
  show bindL kindOf ((p,w)::P.zip vs) m p=_
  unfold bindL
  rw[Wr fun v hv=>(U3y.mp nd).1 (U40 hv).1,if_pos hk]
  simp
 |p::P,w::vs,i+1,m,nd,h1,h2,hk=>by
  show bindL kindOf ((p,w)::P.zip vs) m x=_
  unfold bindL
  exact Ws (i:=i) (U3y.mp nd).2 (by simpa using h1) (by simpa using h2) hk
theorem Wu{kindOf:Str->Option NameKind}{x:Str}{v:Value}:∀{P:List Str} {vs:List Value} {i:Nat} {m:Str->Option Value},P.Nodup->P[i]?=some x->vs[i]?=some v->kindOf x≠some .local ->
  bindC kindOf (P.zip vs) m x=some v
 |[],_,_,_,_,h,_,_=>by simp at h
 |_::_,[],_,_,_,_,h,_=>by simp at h
 |p::P,w::vs,0,m,nd,h1,h2,hk=>by
  simp at h1 h2;subst h1;subst h2
  show bindC kindOf ((p,w)::P.zip vs) m p=_
  unfold bindC
  rw[Wt fun v hv=>(U3y.mp nd).1 (U40 hv).1,if_neg hk]
  simp
 |p::P,w::vs,i+1,m,nd,h1,h2,hk=>by
  show bindC kindOf ((p,w)::P.zip vs) m x=_
  unfold bindC
  exact Wu (i:=i) (U3y.mp nd).2 (by simpa using h1) (by simpa using h2) hk
def start(N:List Str)(vs:List V):St:=vs.map some++U08 (N.length-vs.length) none
def Qj(CX:CXT)(P:Program)(w:World)(K:U0b)(mg:Str->Option Value)(base:Heap)(N:List Str)(qual:Str)(scope:Scope)(f:Addr)(cd:Value)(A:Around)(outer:List Env)(s:Shared)(H:Hp)(E:XK):Cx where
 prog:=P
 w:=w
 K:=K
 mg:=mg
 base:=base
 A:=A.deeper (envOfC qual scope s.heap.objs.size f cd)
 N:=N
 s₀:=s
 H₀:=H
 env:=envOfC qual scope s.heap.objs.size f cd
 outer:=outer
 stack:=envOfC qual scope s.heap.objs.size f cd::outer
 ex:=[]
 calm:=true
 fn:=fun _=>true
 pn:=[]
 xe:=fun e s'=>wpAny (model P w) (A.deeper (envOfC qual scope s.heap.objs.size f cd)) (leaving (envOfC qual scope s.heap.objs.size f cd) e) (fun _ s''=>CX outer H s E e s'') (fun e' s''=>CX outer H s E e' s'') s'
theorem Yr{sc:Scope}{n:Nat}{x:Str}(h:sc.names.lookup x=some .cell):∃c,(cellsFrom n sc.names []).lookup x=some c:=by
 have q:=U62 sc.names n [] (.inl h)
 exact U4n.mp q
theorem gK{CX:CXT}{P:Program}{w:World}{K:U0b}{mg:Str->Option Value}{base:Heap}{N ps:List Str}{qual:Str}{scope:Scope}{f:Addr}{cd:Value}{A:Around}{outer:List Env}{s s1:Shared}{H:Hp}{E:XK}{us:List Value}{vs:List V}
  (S:Cp N ps scope) (hd:A.handled=none) (e0:bM P w K mg base A outer s H) (hl:vs.length=ps.length) (r:Vals vs us)
  (x:InCallC s s.heap.objs.size (bindL (envOfC qual scope s.heap.objs.size f cd).kindOf (ps.zip us) fun _=>none) (cellsFrom (s.heap.objs.size+1) scope.names []) (bindC (envOfC qual scope s.heap.objs.size f cd).kindOf (ps.zip us) fun _=>none) s1) :
  Inv (Qj CX P w K mg base N qual scope f cd A outer s H E) [] (start N vs) H s1:=by
 have hpl:ps.length<=N.length:=by have:=congrArg U3n S.pre;rw[U1q] at this;lia
 obtain⟨h1,tk,rfl,hk⟩:=x.done
 have noA:∀b:Addr,b ∉ (Qj CX P w K mg base N qual scope f cd A outer s H E).ex:=fun b z=>absurd (show b∈([]:List Addr) from z) (by simp)
 refine⟨⟨e0.mod,S.kind,rfl,rfl,U0l _,fun y z c h1 h2=>?_,fun y hy=>?_,fun y c _ h=>?_,fun _=>hd,Around.frames_deeper e0.frames,.inr ⟨rfl,rfl⟩,fun b z=>absurd z (noA b),e0.bs,e0.bsz,fun b _ _=>noA b,fun b z=>absurd z (noA b),e0.N7,e0.frf,e0.sy⟩,
  rfl,e0.bare,Un.kept hk,⟨_,x.toInCall.ns,fun i y v h1 h2 h3=>?_⟩,fun y c h=>⟨_,x.cell y c h⟩,e0.hok.fresh (U0l _),fun y c h=>?_,fun p hp=>absurd (show p∈([]:List (Addr×Obj)) from hp) (by simp),e0.hok.kept hk,?_⟩
 .exact name_of_addr x.apart (U3d h1) (U3d h2)
 .have hy:scope.names.lookup y=some .cell∨scope.names.lookup y=some .free:=hy
  rcases hy with hy|hy
  .exact Yr hy
  .exact absurd rfl (S.nofree _ (U3d hy))
 .exact U2g (x.above y c (U3d h))
 .have hi:i<vs.length:=by
   unfold start at h2
   by_cases hi:i<vs.length
   .exact hi
   .rw[U1h (by simpa using hi)] at h2
    rw[U5o] at h2
    split at h2<;>cases h2
  have ha:vs[i]?=some v:=by
   unfold start at h2
   rw[U01 (by simpa using hi),U07] at h2
   cases e:vs[i]? with
   |none=>rw[e] at h2;cases h2
   |some a=>rw[e] at h2;cases h2;rfl
  obtain⟨u,hu,rv⟩:=r.get ha
  have hp:ps[i]?=some y:=by
   rw[←S.pre,List.getElem?_take_of_lt (by lia)];exact h1
  have ndP:ps.Nodup:=by rw[←S.pre];exact S.nd.sublist (U48 _ _)
  refine⟨u,rv,?_⟩
  rcases S.par y (U1p hp) with k|k
  .exact .inl ⟨k,Ws ndP hp hu k⟩
  .obtain⟨c,e⟩:=Yr (n:=s.heap.objs.size+1) k
   refine .inr ⟨.inl k,c,e,?_⟩
   have q:=x.cell y c e
   rw[Wu ndP hp hu (by show scope.names.lookup y≠_;rw[k];decide)] at q
   exact q
 .exact e0.hok.fresh (U2g (x.above y c (U3d h)))
 .unfold start
  show _=N.length
  rw[U0p,U0d,U2d]
  lia
theorem xZ{CX:CXT}{P:Program}{w:World}{K:U0b}{mg:Str->Option Value}{base:Heap}{k:Nat}{f:Addr}{name qual:Str}{params:Arguments}{body:List Stmt}{scope:Scope}{dV kV doc pm cdv ct oc:Value}{an od:Option Addr}
  {osl:Array (Option Value)} {N ps:List Str} {sp:Sp} (lk:K.lookup f=some ⟨oc,od,.func (U1r name qual params body scope dV kV doc pm an cdv ct),osl⟩) (hcd:U1s K cdv qual=true) (S:Cp N ps scope)
  (len:∀vs H Q E,sp vs H Q E->vs.length=ps.length)
  (hbody:∀(A:Around)(outer:List Env)(s:Shared)(H:Hp)(vs:List V)(Q:VK)(E:XK),Eb k (A.deeper (envOfC qual scope s.heap.objs.size f cdv))->sp vs H Q E ->
   ∃t,PSs (Qj CX P w K mg base N qual scope f cdv A outer s H E) body t/\t { nx:=fun _ H'=>Q .non H',rt:=Q } (start N vs) H) :
  DY P w K mg base CX (k+1) f (U1r name qual params body scope dV kV doc pm an cdv ct) ps sp:=by
 refine⟨len,fun A outer s H args us vs Q E hr e0 hb r hsp=>?_⟩
 have hl:=len _ _ _ _ hsp
 have KX:K.In s.heap:=e0.mod.kin.keeps fun b o e=>(e0.bs b o e).1
 have lim:s.heap.NoLimit:=e0.mod.nolimit.keeps fun b o e=>(e0.bs b o e).1
 have hkind:∀y∈ps.zip us,scope.names.lookup y.1=some .local∨(scope.names.lookup y.1=some .cell/\((cellsFrom (s.heap.objs.size+1) scope.names []).lookup y.1).isSome=true):=fun⟨n,v⟩ hy=>by
  rcases S.par n (U40 hy).1 with q|q
  .exact .inl q
  .exact .inr ⟨q,U62 _ _ _ (.inl q)⟩
 refine codeAny_call_function hr.depth (KX _ _ lk) rfl S.co S.gen rfl (PySem.W.codeRec_of KX hcd) (hb _ _ _ _ ?_)
 refine wpAny_newFunctionEnv_cells S.kind hkind fun env he s1 x=>?_
 subst he
 refine⟨lim.keeps x.toInCall.keep,codeAny_func ?_⟩
 obtain⟨t,ht,hq⟩:=hbody A outer s H vs Q E (hr.deeper _) hsp
 have I:Inv (Qj CX P w K mg base N qual scope f cdv A outer s H E) [] (start N vs) H s1:=gK S hr.hd e0 hl r x
 refine U5q (ht [] s1 (start N vs) H _ I hq) (fun fl s' hs=>?_) fun e s' hs=>hs
 have fin:∀{ZZ:St} {H':Hp} {v:V} {u:Value},Inv (Qj CX P w K mg base N qual scope f cdv A outer s H E) [] ZZ H' s'->RelV v u->Q v H'->CE outer P w H s Q u s' :=
  fun {ZZ H' v u} J rv q=>⟨v,H',J.os,J.bare,J.base,J.hok,rv,q⟩
 cases fl with
 |ret u =>
  obtain⟨v,ZZ,H',J,rv,q⟩:=hs
  exact fin J rv q
 |next =>
  obtain⟨ZZ,H',J,q⟩:=hs
  exact fin (v:=V.non) (u:=U3) J rfl q
 |brk =>
  obtain⟨_,_,_,q⟩:=hs
  exact U5b q
 |cont =>
  obtain⟨_,_,_,q⟩:=hs
  exact U5b q
end L2
namespace L2
open PySem PySem.Spec PyProof.Rows
section
variable{X:Cx}{x:Str}{p pos:Pos}{e:Expr}{es:List Expr}{t:TA}{id T:String}{r:List V->Hp->VK->Prop}
def tCB(r:List V->Hp->VK->Prop)(t:TA):TE:=fun Z3 H Q=>t Z3 H fun vs H1=>r vs H1 Q
theorem Ng(hc:Df X (.builtin id) r)(hg:Gl X x)(hm:X.mg x=none)(hv:bootBuiltins x=some (.builtin id))(ha:PA X (e::es) t)(hn:x≠"__name__":=by decide)(hdb:(x==("__debug__":Str))=false:=by decide)
  (he:starEach (e::es) X.env=`bt::starEach es X.env:=by rfl) (hpl:(`bu).any (·.1)=false:=by rfl):PE X (.Call (.Name x p) (e::es) [] pos) (tCB r t):=by
 intro pins s Z3 H Q I h
 refine U72 (PB I hg hm hv ?_ hn hdb)
 exact PyProof.Rows.callWith_builtin1 (thn (ha pos pins s Z3 H _ I h) fun us s1 ⟨vs,H1,I1,r1,q1⟩=>hc pins s1 Z3 H1 vs us Q I1 r1 q1) he hpl
theorem Lw(hc:Df X (.type T) r)(hg:Gl X x)(hm:X.mg x=none)(hv:bootBuiltins x=some (.type T))(ha:PA X (e::es) t)(hn:x≠"__name__":=by decide)(hdb:(x==("__debug__":Str))=false:=by decide)
  (he:starEach (e::es) X.env=`bt::starEach es X.env:=by rfl) (hpl:(`bu).any (·.1)=false:=by rfl):PE X (.Call (.Name x p) (e::es) [] pos) (tCB r t):=by
 intro pins s Z3 H Q I h
 refine U72 (PB I hg hm hv ?_ hn hdb)
 exact U4u (thn (ha pos pins s Z3 H _ I h) fun us s1 ⟨vs,H1,I1,r1,q1⟩=>hc pins s1 Z3 H1 vs us Q I1 r1 q1) he hpl
end
end L2
namespace HT
open PySem PyProof.Rows
def lexLt:List Int->List Int->Bool
 |[],[]=>false
 |[],_::_=>true
 |_::_,[]=>false
 |x::xs,y::ys=>if x=y then lexLt xs ys else decide (x<y)
theorem Gd(x y:Int)(xs ys:List Int):lexLt (x::xs) (y::ys)=if x=y then lexLt xs ys else decide (x<y):=rfl
theorem QZ:lexLt [] []=false:=rfl
theorem W2(y:Int)(ys:List Int):lexLt [] (y::ys)=true:=rfl
theorem W3(x:Int)(xs:List Int):lexLt (x::xs) []=false:=rfl
theorem kZ(A:Around)(s:Shared)(a:Int)(t:Tok)(c:Int)(u:Tok):∃e,U83 A s (.int a t) (.int c u) e/\(e=true↔a=c) :=
 ⟨(a==c),U83.int_int a t c u,by simp⟩
theorem jU(A:Around)(s:Shared)(a:Int)(t:Tok)(c:Int)(u:Tok)(prog:Program)(w:World)(E:Value->Shared->Prop)(Q:Value->Shared->Prop)(h:Q (.bool (decide (a<c))) s) :
  wpAny `am A (richCompare .Lt (.int a t) (.int c u)) Q E s :=
 (PyProof.Rows.lt_int h:wpAny `am A (compareOp .Lt (.int a t) (.int c u)) Q E s)
section
open PySem.SeqAt
open PySem.AutoSeq1 (wpAny_loadPart')
open PySem.MeetsSeq PySem.MeetsSeq2 PySem.MeetsSeq3
theorem Wx(l b:Addr)(items items2:Array Value)(n n2:Nat)(dd dd2:Option Addr)(sl sl2:Array (Option Value))(ns ms:List Int)(hi:IntsAre items.toList ns)(hj:IntsAre items2.toList ms) :
  Meets (Builtin.«tuple.__lt__» ⟨[.ref l,.ref b],[]⟩)
   (fun _ R s=>s.heap.get? l=some { cls:=.type "tuple",dict:=dd,data:=.seq items n,slots:=sl }/\s.heap.get? b=some { cls:=.type "tuple",dict:=dd2,data:=.seq items2 n2,slots:=sl2 } /\
    R (.ok (.ret (.bool (lexLt ns ms)))) s) :=
 .of_wp fun prog w A R s h=>by
  obtain⟨hp,g,d,tk,os⟩:=s;obtain⟨hl,hb,h⟩:=h
  have f2:=AutoSeq1.sub_tuple_tuple
  have z1:items.size=ns.length:=by rw[←hi.length];simp
  have z2:items2.size=ms.length:=by rw[←hj.length];simp
  wp_walk using wpAny_loadPart' hl,wpAny_loadPart' hb,U67 _ (fun rest b s'=>b.1=none/\s'=⟨hp,g,d,tk,os⟩/\∃(vs ws:List Value)(ns' ms':List Int),rest=vs.zip ws /\
   IntsAre vs ns'/\IntsAre ws ms'/\ns'.length+items2.size=ms'.length+items.size/\R (.ok (.ret (.bool (lexLt ns' ms')))) ⟨hp,g,d,tk,os⟩) _
  case turn =>
   rintro⟨y,x⟩ rest b s' ⟨hb',rfl,vs,ws,ns',ms',hz,hvi,hwi,hlen,hR⟩
   cases hvi with
   |nil=>rw[List.zip_nil_left] at hz;cases hz
   |cons a t hvi' =>
    cases hwi with
    |nil=>rw[List.zip_nil_right] at hz;cases hz
    |cons c u hwi' =>
     rw[U4j] at hz
     injection hz with hyx hrest
     injection hyx with hy hx
     subst hy hx
     rw[Gd] at hR
     simp only[U0f] at hlen
     obtain⟨e,he,hiff⟩:=kZ A.in1 ⟨hp,g,d,tk,os⟩ a t c u
     refine U0 (he prog w _ _ ?_)
     cases e with
     |true =>
      rw[if_pos (hiff.mp rfl)] at hR
      wp_walk
      exact⟨rfl,rfl,_,_,_,_,hrest,hvi',hwi',by lia,hR⟩
     |false =>
      rw[if_neg (fun q=>absurd (hiff.mpr q) U1e)] at hR
      have hri:=jU A.in1 ⟨hp,g,d,tk,os⟩ a t c u prog w
      wp_walk using hri
      exact⟨_,rfl,by simpa using hR⟩
  case fin =>
   rintro⟨b1,b2⟩ s' ⟨hb',rfl,vs,ws,ns',ms',hz,hvi,hwi,hlen,hR⟩
   simp only at hb'
   subst hb'
   have hv:lexLt ns' ms'=decide (items.size<items2.size):=by
    cases hvi with
    |nil =>
     cases hwi with
     |nil =>
      simp only[U1m] at hlen
      rw[QZ]
      exact(decide_eq_false (by lia)).symm
     |cons c u hw =>
      simp only[U1m,U0f] at hlen
      rw[W2]
      exact(decide_eq_true (by lia)).symm
    |cons a t hv =>
     cases hwi with
     |nil =>
      simp only[U1m,U0f] at hlen
      rw[W3]
      exact(decide_eq_false (by lia)).symm
     |cons c u hw =>
      rw[U4j] at hz
      cases hz
   rw[hv] at hR
   wp_walk
   exact⟨_,rfl,by simpa [Builtin.Tuple.tupleCompareSizes] using hR⟩
  case h =>
   exact⟨rfl,rfl,items.toList,items2.toList,ns,ms,rfl,hi,hj,by lia,h⟩
end
section
variable{prog:Program}{w:World}{A:Around}{E:Value->Shared->Prop}{s:Shared}
theorem V4{l b:Addr}{items items2:Array Value}{ns ms:List Int}{Q:Value->Shared->Prop}(hl:IsTup s.heap l items)(hb:IsTup s.heap b items2)(hi:IntsAre items.toList ns)(hj:IntsAre items2.toList ms)
  (hu:A.units<cLine) (h:Q (.bool (lexLt ns ms)) s):wpAny `am A (compareOp .Lt (.ref l) (.ref b)) Q E s:=by
 obtain⟨⟨cls,dd,data,sl⟩,ho,hc,n,hd⟩:=id hl
 obtain⟨⟨cls2,dd2,data2,sl2⟩,ho2,hc2,n2,hd2⟩:=id hb
 simp only at hc hd hc2 hd2
 subst hc hd hc2 hd2
 exact richCompare_meets_room (op:=.Lt) ⟨_,ho,rfl⟩ ⟨_,ho2,rfl⟩ PySem.F.slot_tuple_lt PySem.F.entry_tuple_lt (PySem.F.args_tuple_lt_2 _ _) (Wx l b items items2 n n2 dd dd2 sl sl2 ns ms hi hj)
  ⟨ho,ho2,show U5a (lexLt ns ms)≠Value.notImplemented/\Q (.bool (lexLt ns ms)) s from ⟨(fun x=>nomatch x),h⟩⟩ hu
theorem qT{t b:Addr}{vs ws:List Value}{Q:Value->Shared->Prop}(ht:IsTup s.heap t vs.toArray)(hb:IsTup s.heap b ws.toArray)(hv:vs≠[])
  (h1:ws=[]->Q (.ref t) s) (h2:ws≠[]->Q `bq { s with heap:=s.heap.push { cls:=.type "tuple",data:=.seq (vs++ws).toArray } })
  (hsz:vs.length+ws.length<=sizeLine):wpAny `am A (binaryOp .Add (.ref t) (.ref b)) Q E s:=by
 obtain⟨⟨cls,dd,data,sl⟩,ho,hc,n,hd⟩:=id ht
 obtain⟨⟨cls2,dd2,data2,sl2⟩,ho2,hc2,n2,hd2⟩:=id hb
 simp only at hc hd hc2 hd2
 subst hc hd hc2 hd2
 have e:vs.toArray++ws.toArray=(vs++ws).toArray:=by simp
 by_cases hw:ws=[]
 .exact concat_meets ⟨_,ho,rfl⟩ ⟨_,ho2,rfl⟩ noFill_tuple_add seq_tuple_add U63 U6u (U6j _ _)
   (tuple_addW1 t b vs.toArray ws.toArray n n2 dd dd2 sl sl2 (by simpa using hv) (by simp[hw])) ⟨ho,ho2,h1 hw⟩
 .refine concat_meets ⟨_,ho,rfl⟩ ⟨_,ho2,rfl⟩ noFill_tuple_add seq_tuple_add U63 U6u (U6j _ _)
   (tuple_addW2 t b vs.toArray ws.toArray n n2 dd dd2 sl sl2 (by simpa using hv) (by simpa using hw) (by rw[U0n,U0n];exact hsz)) ⟨ho,ho2,?_⟩
  rw[e]
  exact h2 hw
def sIx(n d:Nat):Option Int->Nat
 |none=>d
 |some v=>if v<0 then (v+(n:Int)).toNat else min v.toNat n
theorem tK(n d:Nat)(hd:d<=n)(o:Option Int):sIx n d o<=n:=by
 cases o with
 |none=>exact hd
 |some v =>
  show(if v<0 then (v+(n:Int)).toNat else min v.toNat n)<=n
  by_cases hv:v<0
  .rw[if_pos hv];lia
  .rw[if_neg hv];exact Nat.min_le_right _ _
theorem aq(v:Int)(n d:Nat):(if v<0 then max (v+(n:Int)) 0 else min v (n:Int))=((sIx n d (some v):Nat):Int):=by
 show(if v<0 then max (v+(n:Int)) 0 else min v (n:Int))=(((if v<0 then (v+(n:Int)).toNat else min v.toNat n):Nat):Int)
 by_cases hv:v<0
 .simp only[if_pos hv];lia
 .simp only[if_neg hv];lia
theorem dF(lo hi:Option Int)(n:Nat):U6g lo hi 1 (n:Int)=(((sIx n 0 lo:Nat):Int),((sIx n n hi:Nat):Int)):=by
 have h1:¬((1:Int)<0):=by lia
 unfold U6g
 simp only[h1,if_false]
 refine U8l ?_ ?_
 .cases lo with
  |none=>rfl
  |some v=>exact aq v n 0
 .cases hi with
  |none=>rfl
  |some v=>exact aq v n n
theorem cJ(i j:Nat):U5c (i:Int) (j:Int) 1=j-i:=by
 unfold U5c
 have h1:(1:Int)>0:=by lia
 simp only[h1,if_true,Int.ediv_one]
 split<;>lia
theorem V3{v:Value}{o:Option Int}{Q:Option Int->Shared->Prop}(p:IsPart v o)(h:Q o s):wpAny `am A (Builtin.Slice.slicePartIndex v) Q E s:=by
 cases p with
 |none=>exact slicePart_none h
 |int i t=>exact slicePart_int h
theorem Nr{sl:Addr}{vl vu:Value}{lo hi:Option Int}{n:Nat}{Q:Int×Int×Nat->Shared->Prop}(hs:s.heap.IsSliceOf sl vl vu .none)(pl:IsPart vl lo)(pu:IsPart vu hi)
  (h:Q (((sIx n 0 lo:Nat):Int),1,sIx n n hi-sIx n 0 lo) s):wpAny `am A (Builtin.Slice.sliceApplied (.ref sl) (pure (n:Int))) Q E s:=by
 obtain⟨os,hos,hcs,hds⟩:=id hs
 unfold Builtin.Slice.sliceApplied Builtin.Slice.sliceFields
 refine U0 (U0 (U3o hos hds (x:=vl) rfl (U0 (U3o hos hds (x:=vu) rfl (U0 (U3o hos hds (x:=.none) rfl (U0e ?_)))))))
 refine U0 (slicePart_none ?_)
 show wpAny _ _ (if ((1:Int)==0)=true then _ else _) _ _ s
 rw[if_neg (by decide)]
 refine U0 (V3 pl (U0 (V3 pu (U0 (U0e ?_)))))
 show wpAny _ _ (match U6g lo hi 1 (n:Int) with|(lo,hi)=>pure (lo,(1:Int),U5c lo hi 1)) _ _ s
 rw[dF lo hi n]
 show wpAny _ _ (pure (((sIx n 0 lo:Nat):Int),(1:Int),U5c ((sIx n 0 lo:Nat):Int) ((sIx n n hi:Nat):Int) 1)) _ _ s
 rw[cJ]
 exact U0e h
theorem jc(xs:Array Value)(i k:Nat):((U3e k).filterMap fun(m:Nat)=>xs[((i:Int)+(m:Int)*1).toNat]?).toArray=((xs.toList.drop i).take k).toArray:=by
 have e:(fun(m:Nat)=>xs[((i:Int)+(m:Int)*1).toNat]?)=fun m=>xs[i+m]?:=by
  funext m
  have:((i:Int)+(m:Int)*1).toNat=i+m:=by lia
  rw[this]
 rw[e]
 have:=pick_run xs i k
 rw[List.filterMap_map] at this
 have e2:((fun x=>xs[x]?)∘fun x=>i+x)=fun m=>xs[i+m]?:=rfl
 rw[e2] at this
 rw[this]
theorem S6{t sl:Addr}{items:Array Value}{vl vu:Value}{lo hi:Option Int}{Q:Value->Shared->Prop}(ht:IsTup s.heap t items)(hs:s.heap.IsSliceOf sl vl vu .none)(pl:IsPart vl lo)(pu:IsPart vu hi)
  (hw:¬(sIx items.size 0 lo=0/\sIx items.size items.size hi=items.size))
  (h:Q `bq { s with heap:=s.heap.push { cls:=.type "tuple",data:=.seq ((items.toList.drop (sIx items.size 0 lo)).take (sIx items.size items.size hi-sIx items.size 0 lo)).toArray } })
  (hsz:items.size<=sizeLine):wpAny `am A (getItem (.ref t) (.ref sl)) Q E s:=by
 have htake:sizeOk (.seq ((items.toList.drop (sIx items.size 0 lo)).take (sIx items.size items.size hi-sIx items.size 0 lo)).toArray):=by
  show((items.toList.drop (sIx items.size 0 lo)).take (sIx items.size items.size hi-sIx items.size 0 lo)).toArray.size<=sizeLine
  rw[U0n,U1q,U2h,U0g]
  lia
 have hj:sIx items.size items.size hi<=items.size:=tK _ _ (U0l _) hi
 obtain⟨os,hos,hcs,hds⟩:=id hs
 have hTs:s.TypeIs (.ref sl) "slice":=⟨os,hos,hcs⟩
 unfold getItem
 try with_reducible refine U2j ?_
 first|refine U0 (U0e ?_)|skip
 refine U0 (wpAny_sequenceKey ht.typeIs (by decide) ?_)
 refine U0 (wpAny_callSpecial?_slot (name:=U4v "__getitem__") ht.typeIs U27
  (U2m U27 ht.typeIs entry_tuple_getitem ?_ (args_tuple_getitem _ _)))
 show wpAny _ _ (Builtin.Tuple.tupleItemsOf (.ref t) >>= _) _ _ s
 refine U0 (tupleItemsOf_ ht ?_)
 refine U0 (U6k hTs ?_)
 rw[if_pos (by decide)]
 refine U0 (Nr hs pl pu ?_)
 have hno:¬((((sIx items.size 0 lo:Nat):Int)==0&&(1:Int)==1&&(sIx items.size items.size hi-sIx items.size 0 lo)==items.size)=true):=by
  intro q
  rw[U0v,U0v] at q
  have q1:((sIx items.size 0 lo:Nat):Int)=0:=eq_of_beq q.1.1
  have q2:sIx items.size items.size hi-sIx items.size 0 lo=items.size:=eq_of_beq q.2
  exact hw ⟨by lia,by lia⟩
 show wpAny _ _ (if (((sIx items.size 0 lo:Nat):Int)==0&&(1:Int)==1&&(sIx items.size items.size hi-sIx items.size 0 lo)==items.size)=true then _ else _) _ _ s
 rw[if_neg hno,jc]
 first
  |exact U0 (m:=U5i _) (U2n (U0e ⟨_,rfl,U0e h⟩) htake)
  |exact U0 (m:=U5i _) (U2n (U0 (U0e (U0e ⟨_,rfl,U0e h⟩))) htake)
  |exact U0 (U0 (m:=U5i _) (U2n (U0e (U0e ⟨_,rfl,U0e h⟩)) htake))
  |exact U0 (U0 (m:=U5i _) (U2n (U0e ⟨_,rfl,U0e h⟩) htake))
end
end HT
namespace L2
open PySem PySem.Spec PyProof.Rows
abbrev TO:=St->Hp->(Option Int->Hp->Prop)->Prop
def PO(X:Cx)(e:Option Expr)(t:TO):Prop :=
 ∀(pins:List (Addr×Obj))(s:Shared)(Z3:St)(H:Hp)(Q:Option Int->Hp->Prop),Inv X pins Z3 H s->t Z3 H Q ->
  wpAny `ai X.A (evalPart e X.env) (fun u s'=>∃o H',Inv X pins Z3 H' s'/\IsPart u o/\Q o H') X.xe s
def nO:TO:=fun _ H Q=>Q none H
def wC(t:TE):TO:=fun Z3 H Q=>t Z3 H fun x H1=>∃i,x=.int i/\Q (some i) H1
theorem intsAre_of{ns:List Int}:∀{us:List Value},Vals (ns.map V.int) us->IntsAre us ns:=by
 induction ns with
 |nil=>intro us r;rw[U2a] at r;cases r;exact .nil
 |cons n ns ih =>
  intro us r
  rw[U0r] at r
  cases r with
  |cons r1 r2 =>
   obtain⟨t,e⟩:=r1
   subst e
   exact .cons n t (ih r2)
section
variable{X:Cx}{e:Expr}{te:TE}{lo hi:Option Expr}{tl th:TO}{pos p2:Pos}
theorem oU:PO X none nO:=by
 intro pins s Z3 H Q I h
 rw[evalPart_none]
 exact U0e ⟨none,H,I,.none,h⟩
theorem oR(h:PE X e te):PO X (some e) (wC te):=by
 intro pins s Z3 H Q I hw
 rw[evalPart_some]
 refine thn (h pins s Z3 H _ I hw) fun u s1 ⟨x,H1,I1,r1,q1⟩=>?_
 obtain⟨i,rfl,q⟩:=q1
 obtain⟨t,rfl⟩:=r1
 exact⟨some i,H1,I1,.int i t,q⟩
def SlR(X:Cx)(r:V->Option Int->Option Int->Hp->VK->Prop):Prop :=
 ∀(pins:List (Addr×Obj))(s:Shared)(Z3:St)(H:Hp)(x:V)(v vl vu:Value)(lo hi:Option Int)(sl:Addr)(Q:VK),Inv X pins Z3 H s->RelV x v->s.heap.IsSliceOf sl vl vu .none->IsPart vl lo->IsPart vu hi->r x lo hi H Q ->
  ∃T id,typeLookup (.type T) "__getitem__"=pure (some (.builtin id))/\s.TypeIs v T/\wpAny `ai X.A (getItem v (.ref sl)) (EP X pins Z3 Q) X.xe s
theorem SlR.or{r r':V->Option Int->Option Int->Hp->VK->Prop}(h:SlR X r)(h':SlR X r'):SlR X (fun x lo hi H Q=>r x lo hi H Q∨r' x lo hi H Q):=by
 intro pins s Z3 H x v vl vu lo hi sl Q I rx hs pl pu q
 rcases q with q|q
 .exact h pins s Z3 H x v vl vu lo hi sl Q I rx hs pl pu q
 .exact h' pins s Z3 H x v vl vu lo hi sl Q I rx hs pl pu q
def tSl(r:V->Option Int->Option Int->Hp->VK->Prop)(te:TE)(tl th:TO):TE:=fun Z3 H Q=>te Z3 H fun x H1=>tl Z3 H1 fun l H2=>th Z3 H2 fun u H3=>r x l u H3 Q
theorem je{r:V->Option Int->Option Int->Hp->VK->Prop}(hr:SlR X r)(he:PE X e te)(hl:PO X lo tl)(hu:PO X hi th):PE X (.Subscript e (.Slice lo hi none p2) pos) (tSl r te tl th):=by
 intro pins s Z3 H Q I h
 refine Subscript_ (thn (he pins s Z3 H _ I h) fun v s1 ⟨x,H1,I1,r1,q1⟩=>?_)
 refine wpAny_Slice (thn (hl pins s1 Z3 H1 _ I1 q1) fun vl s2 ⟨l,H2,I2,pl,q2⟩=>thn (hu pins s2 Z3 H2 _ I2 q2) fun vu s3 ⟨u,H3,I3,pu,q3⟩=>?_)
 rw[evalPart_none]
 refine U0e ?_
 have I4:Inv X pins Z3 H3 { s3 with heap:=s3.heap.push { cls:=.type "slice",data:=.fields #[vl,vu,.none] } }:=I3.kept (t':=s3.toks) fun b ob q=>U0c _ q
 obtain⟨T,id,hT,ht,hg⟩:=hr pins { s3 with heap:=s3.heap.push { cls:=.type "slice",data:=.fields #[vl,vu,.none] } } Z3 H3 x v vl vu l u s3.heap.objs.size Q I4 r1 (Heap.IsSliceOf.new ..) pl pu q3
 show wpAny `ai X.A (subscriptTail e (.Slice lo hi none p2) v (.ref s3.heap.objs.size)) (EP X pins Z3 Q) X.xe { s3 with heap:=s3.heap.push { cls:=.type "slice",data:=.fields #[vl,vu,.none] } }
 exact tail_any (ops:=[.ref s3.heap.objs.size,v]) ht hT hg (by with_unfolding_all rfl)
def K5(xs:List V)(lo hi:Option Int):List V:=(xs.drop (HT.sIx xs.length 0 lo)).take (HT.sIx xs.length xs.length hi-HT.sIx xs.length 0 lo)
theorem Ss(xs:List V)(lo hi:Option Int):(K5 xs lo hi).length<=xs.length:=by
 unfold K5
 rw[U1q,U2h]
 lia
def yd(K:U0b):V->Option Int->Option Int->Hp->VK->Prop:=fun x lo hi H Q=>∃a xs,x=.ref a/\SqT K H a xs /\
 ¬(HT.sIx xs.length 0 lo=0/\HT.sIx xs.length xs.length hi=xs.length)/\∀p,H p=none->Q (.ref p) (upd H p (.tup (K5 xs lo hi)))
theorem tE:SlR X (yd X.K):=by
 intro pins s Z3 H x v vl vu lo hi sl Q I rx hs pl pu h
 obtain⟨a,xs,rfl,hx,hw,q⟩:=h
 cases rx
 obtain⟨its,r,ht,hz⟩:=I.tuple hx
 have hlen:its.toArray.size=xs.length:=by rw[U0n];exact r.length.symm
 refine⟨"tuple",_,U27.lookup,ht.typeIs,?_⟩
 refine HT.S6 ht hs pl pu (by rw[hlen];exact hw) ?_ (by rw[hlen];exact hz)
 rw[hlen]
 refine⟨.ref s.heap.objs.size,_,I.laid (t':=s.toks) (o:=.tup (K5 xs lo hi)) (fun b ob q=>U0c _ q) (U0l _) ?_,rfl,q _ (I.hok.fresh (U0l _))⟩
 exact⟨U1b (Ss xs lo hi) hz,_,(r.drop (HT.sIx xs.length 0 lo)).take (HT.sIx xs.length xs.length hi-HT.sIx xs.length 0 lo),IsTup.new _ _⟩
def iM(K:U0b):R2:=fun x y H Q=>∃a b ns ms,x=.ref a/\y=.ref b/\SqT K H a (ns.map V.int)/\SqT K H b (ms.map V.int)/\Q (.bl (HT.lexLt ns ms)) H
theorem uL(hu:X.A.units<cLine):OpR X (compareOp .Lt) (iM X.K):=by
 intro pins s Z3 H x y v u Q I rx ry h
 obtain⟨a,b,ns,ms,rfl,rfl,ha,hb,q⟩:=h
 cases rx
 cases ry
 obtain⟨its,r1,p1,_⟩:=I.tuple ha
 obtain⟨its2,r2,p2,_⟩:=I.tuple hb
 have i1:IntsAre its.toArray.toList ns:=intsAre_of r1
 have i2:IntsAre its2.toArray.toList ms:=intsAre_of r2
 exact HT.V4 p1 p2 i1 i2 hu ⟨.bl (HT.lexLt ns ms),H,I,rfl,q⟩
def wM(K:U0b):R2:=fun x y H Q=>∃a b xs ys,x=.ref a/\y=.ref b/\SqT K H a xs/\SqT K H b ys/\xs≠[]/\xs.length+ys.length<=sizeLine /\
 (ys=[]->Q (.ref a) H)/\(ys≠[]->∀p,H p=none->Q (.ref p) (upd H p (.tup (xs++ys))))
theorem Vals.Rj{xs:List V}{us:List Value}(r:Vals xs us):us=[]↔xs=[]:=by
 cases r with
 |nil=>simp
 |cons _ _=>simp
theorem pF:OpR X (binaryOp .Add) (wM X.K):=by
 intro pins s Z3 H x y v u Q I rx ry h
 obtain⟨a,b,xs,ys,rfl,rfl,ha,hb,hx,hz,q1,q2⟩:=h
 cases rx
 cases ry
 obtain⟨its,r1,p1,_⟩:=I.tuple ha
 obtain⟨its2,r2,p2,_⟩:=I.tuple hb
 refine HT.qT p1 p2 (fun z=>hx (r1.Rj.mp z)) (fun z=>⟨.ref a,H,I,rfl,q1 (r2.Rj.mp z)⟩) (fun z=>?_) (by rw[←r1.length,←r2.length];exact hz)
 refine⟨.ref s.heap.objs.size,_,I.laid (t':=s.toks) (o:=.tup (xs++ys)) (fun b ob q=>U0c _ q) (U0l _) ?_,rfl,q2 (fun w=>z (r2.Rj.mpr w)) _ (I.hok.fresh (U0l _))⟩
 exact⟨by rw[U0p];exact hz,_,r1.append r2,IsTup.new _ _⟩
end
end L2
namespace L2
open PySem PySem.Spec PyProof.Rows
def ixN(n:Nat)(i:Int):Option Nat:=if 0<=i then (if i<n then some i.toNat else none) else if -(n:Int)<=i then some (i+n).toNat else none
def atI{Zs:Type}(xs:List Zs)(i:Int):Option Zs:=(ixN xs.length i).bind fun j=>xs[j]?
theorem aR{n:Nat}{i:Int}{j:Nat}(h:ixN n i=some j):seqIndex? i n=some j/\j<n/\-(n:Int)<=i/\i<n:=by
 unfold ixN at h
 by_cases h0:0<=i
 .rw[if_pos h0] at h
  by_cases h1:i<n
  .rw[if_pos h1] at h
   have e:i.toNat=j:=U00 h
   exact⟨by rw[seqIndex_of h0 h1,e],by lia,by lia,h1⟩
  .rw[if_neg h1] at h;cases h
 .rw[if_neg h0] at h
  by_cases h1:-(n:Int)<=i
  .rw[if_pos h1] at h
   have e:(i+n).toNat=j:=U00 h
   exact⟨by rw[seqIndex_neg (by lia) h1,e],by lia,h1,by lia⟩
  .rw[if_neg h1] at h;cases h
theorem Vz{Zs:Type}{xs:List Zs}{i:Int}{v:Zs}(h:atI xs i=some v):∃j,seqIndex? i xs.length=some j/\xs[j]?=some v/\j<xs.length/\-(xs.length:Int)<=i/\i<xs.length:=by
 unfold atI at h
 cases e:ixN xs.length i with
 |none=>rw[e] at h;cases h
 |some j =>
  rw[e] at h
  obtain⟨h1,h2,h3,h4⟩:=aR e
  exact⟨j,h1,h,h2,h3,h4⟩
theorem Vy{Zs:Type}{xs:List Zs}{j:Nat}{v:Zs}(h:xs[j]?=some v):atI xs (j:Int)=some v:=by
 have hj:j<xs.length:=(U0j.mp h).1
 have e:ixN xs.length (j:Int)=some j:=by
  unfold ixN
  rw[if_pos (by lia),if_pos (by lia)];simp
 unfold atI;rw[e];exact h
theorem Tt{Zs:Type}(xs:List Zs)(v:Zs):atI (xs++[v]) (-1)=some v:=by
 have hl:(xs++[v]).length=xs.length+1:=by simp
 have e:ixN (xs++[v]).length (-1)=some xs.length:=by
  unfold ixN
  rw[hl,if_neg (by decide),if_pos (by lia)]
  congr 1
  lia
 unfold atI
 rw[e]
 show(xs++[v])[xs.length]?=some v
 simp
def bF(b:Expr):Prop:=∀o i,subscripted b false o i=operate [o,i] (getItem o i)
def IxR(X:Cx)(r:R2):Prop :=
 ∀(value slice:Expr)(pins:List (Addr×Obj))(s:Shared)(Z3:St)(H:Hp)(x y:V)(v u:Value)(Q:VK),Inv X pins Z3 H s->RelV x v->RelV y u->r x y H Q ->
  subscripted slice false v u=operate [v,u] (getItem v u)->wpAny `ai X.A (subscriptTail value slice v u) (EP X pins Z3 Q) X.xe s
def MtR(X:Cx)(id:String)(r:V->List V->Hp->VK->Prop):Prop :=
 ∀(pins:List (Addr×Obj))(s:Shared)(Z3:St)(H:Hp)(x:V)(xs:List V)(v:Value)(us:List Value)(Q:VK),Inv X pins Z3 H s->RelV x v->Vals xs us->r x xs H Q ->
  wpAny `ai X.A (call (.builtin id) (v::us)) (EP X pins Z3 Q) X.xe s
section
variable{X:Cx}{a b:Expr}{ta tb:TE}{pos:Pos}
theorem IxR.or{r r':R2}(h:IxR X r)(h':IxR X r'):IxR X (fun x y H Q=>r x y H Q∨r' x y H Q):=by
 intro value slice pins s Z3 H x y v u Q I rx ry q hs
 rcases q with q|q
 .exact h value slice pins s Z3 H x y v u Q I rx ry q hs
 .exact h' value slice pins s Z3 H x y v u Q I rx ry q hs
theorem wV{r:R2}(hr:IxR X r)(ha:PE X a ta)(hb:PE X b tb)(hs:bF b):PE X (.Subscript a b pos) (tOp r ta tb):=by
 intro pins s Z3 H Q I h
 exact Subscript_ (iY ha hb I h fun v u s2 x y H2 I2 rx ry q=>hr a b pins s2 Z3 H2 x y v u Q I2 rx ry q (hs _ _))
def rZ(K:U0b):R2:=fun x y H Q=>∃p xs i v,x=.ref p/\y=.int i/\SqL K H p xs/\atI xs i=some v/\Q v H
def rW(K:U0b):R2:=fun x y H Q=>∃p xs i v,x=.ref p/\y=.int i/\SqT K H p xs/\atI xs i=some v/\Q v H
def rY:R2:=fun x y H Q=>∃z i c,x=.str z/\y=.int i/\z.length<=sizeLine/\atI z.cps.toList i=some c/\Q (.str ⟨#[c]⟩) H
theorem qF:IxR X (rZ X.K):=by
 intro value slice pins s Z3 H x y v u Q I rx ry h hs
 obtain⟨p,xs,i,z,rfl,rfl,hq,he,q⟩:=h
 cases rx
 obtain⟨t,rfl⟩:=ry
 obtain⟨its,r,pl,hz⟩:=I.list hq
 obtain⟨j,h1,h2,h3,h4,h5⟩:=Vz he
 obtain⟨w,ew,rw'⟩:=r.get h2
 have hl:=r.length
 have hn:=Qt
 have fin:EP X pins Z3 Q w s:=⟨z,H,I,rw',q⟩
 by_cases h0:0<=i
 .have hj:i.toNat=j:=by
   rw[seqIndex_of h0 h5] at h1
   exact U00 h1
  exact item_listR pl.isList h0 (by lia) (by rw[hj];simpa using ew) fin hs
 .have hj:(i+(its.toArray.size:Int)).toNat=j:=by
   rw[seqIndex_neg (by lia) h4] at h1
   rw[U0n,←hl]
   exact U00 h1
  exact subscriptTail_builtinR (x:=w) pl.isList.typeIs slot_list_getitem.lookup
   (wpAny_getItem_list_neg (Q:=fun r s'=>r=w/\EP X pins Z3 Q r s') pl.isList (by lia) (by rw[U0n]<;>lia) (by lia) (by rw[hj];simpa using ew) ⟨rfl,fin⟩) hs
theorem uq:IxR X (rW X.K):=by
 intro value slice pins s Z3 H x y v u Q I rx ry h hs
 obtain⟨p,xs,i,z,rfl,rfl,hq,he,q⟩:=h
 cases rx
 obtain⟨t,rfl⟩:=ry
 obtain⟨its,r,pl,hz⟩:=I.tuple hq
 obtain⟨j,h1,h2,h3,h4,h5⟩:=Vz he
 obtain⟨w,ew,rw'⟩:=r.get h2
 have hl:=r.length
 have hn:=Qt
 have fin:EP X pins Z3 Q w s:=⟨z,H,I,rw',q⟩
 exact subscriptTail_builtinR (x:=w) pl.typeIs slot_tuple_getitem.lookup
  (getItem_tuple (j:=j) (Q:=fun r s'=>r=w/\EP X pins Z3 Q r s') pl (by lia) (by lia) (by rw[U0n,←hl];exact h1) (by simpa using ew) ⟨rfl,fin⟩) hs
theorem ur:IxR X rY:=by
 intro value slice pins s Z3 H x y v u Q I rx ry h hs
 obtain⟨z,i,c,rfl,rfl,hz,he,q⟩:=h
 obtain⟨t,rfl⟩:=rx
 obtain⟨t',rfl⟩:=ry
 obtain⟨j,h1,h2,h3,h4,h5⟩:=Vz he
 have hl:z.cps.toList.length=z.length:=by simp[Str.length]
 rw[hl] at h1 h4 h5
 have hn:=Qt
 exact tail_any (typeIs_str s z t) slot_str_getitem.lookup (getItem_str (c:=c) (by
  have e1:decide (i < -(2^63:Int))=false:=decide_eq_false (by lia)
  have e2:decide (i≥2^63)=false:=decide_eq_false (by lia)
  rw[e1,e2,Bool.or_false]) (by rw[h1];simpa using h2) ⟨.str ⟨#[c]⟩,H,I.tok _,⟨_,rfl⟩,q⟩) hs
def rIx(K:U0b):R2:=fun x y H Q=>rZ K x y H Q∨rW K x y H Q∨rY x y H Q
theorem Av:IxR X (rIx X.K):=qF.or (uq.or ur)
theorem cQ(its:List Value)(n j:Nat)(u:Value):U1y (·.setIfInBounds j u) { cls:=.type "list",data:=.seq its.toArray n }={ cls:=.type "list",data:=.seq (its.set j u).toArray n }:=by
 simp[U1y]
theorem Inv.lst{pins:List (Addr×Obj)}{Z3:St}{H:Hp}{s:Shared}{p:Addr}{xs:List V}(I:Inv X pins Z3 H s)(h:H p=some (.lst xs)) :
  ∃(its:List Value)(n:Nat),Vals xs its/\s.heap.get? p=some { cls:=.type "list",data:=.seq its.toArray n }/\xs.length<=sizeLine:=by
 obtain⟨z,its,n,r,e⟩:=I.hok p _ h
 exact⟨its,n,r,e,z⟩
theorem Inv.uV{pins:List (Addr×Obj)}{Z3:St}{H:Hp}{s:Shared}{p:Addr}{xs ys:List V}{its its':List Value}{n n':Nat}{f:Obj->Obj}(I:Inv X pins Z3 H s)(h:H p=some (.lst xs))
  (ho:s.heap.get? p=some { cls:=.type "list",data:=.seq its.toArray n }) (hf:f { cls:=.type "list",data:=.seq its.toArray n }={ cls:=.type "list",data:=.seq its'.toArray n' }) (r:Vals ys its') (hz:ys.length<=sizeLine) (t:Nat) :
  Inv X pins Z3 (upd H p (.lst ys)) { s with heap:=s.heap.update p f,toks:=t }:=by
 have e:(s.heap.update p f).get? p=some { cls:=.type "list",data:=.seq its'.toArray n' }:=by
  rw[U3i f ho (by rw[hf]<;>rfl),hf]
 refine I.write (x:=p) (e:=p) (by rw[h];trivial) (.inl rfl) (fun b u hb q=>(U1n _ _ (U2s hb)).trans q) ⟨_,e⟩ ?_
 exact⟨hz,its',n',r,e⟩
def wJ:V->V->V->Hp->(Hp->Prop)->Prop:=fun o i v H Q=>∃p xs k j,o=.ref p/\i=.int k/\H p=some (.lst xs)/\ixN xs.length k=some j/\Q (upd H p (.lst (xs.set j v)))
theorem set_list:sV X wJ:=by
 intro pins s Z3 H o i v ov iv u Q I ro ri rv h
 obtain⟨p,xs,k,j,rfl,rfl,hp,hj,q⟩:=h
 cases ro
 obtain⟨t,rfl⟩:=ri
 obtain⟨its,n,r,ho,hz⟩:=I.lst hp
 obtain⟨h1,h2,h3,h4⟩:=aR hj
 have hl:=r.length
 have hn:=Qt
 have I':Inv X pins Z3 (upd H p (.lst (xs.set j v))) { s with heap:=s.heap.update p (U1y (·.setIfInBounds j u)) } :=
  I.uV hp ho (cQ its n j u) (r.set rv j) (by rw[U5r];exact hz) s.toks
 by_cases h0:0<=k
 .have hk:k.toNat=j:=by
   rw[seqIndex_of h0 h4] at h1
   exact U00 h1
  exact PySem.W.ki_setAt ho h0 (by lia) (by rw[U0n,←hl];exact h4) (by rw[hk];exact⟨_,I',q⟩)
 .have hk:(k+(its.toArray.size:Int)).toNat=j:=by
   rw[seqIndex_neg (by lia) h3] at h1
   rw[U0n,←hl]
   exact U00 h1
  exact PySem.W.ki_setBack ho (by lia) (by rw[U0n,←hl];exact h3) (by lia) (by rw[hk];exact⟨_,I',q⟩)
theorem Yv(lo hi:Option Int)(n:Nat):(sliceBounds lo hi none n).1=((HT.sIx n 0 lo:Nat):Int)/\(sliceBounds lo hi none n).2.1=((HT.sIx n n hi:Nat):Int)/\(sliceBounds lo hi none n).2.2=1:=by
 refine⟨?_,?_,rfl⟩
 .cases lo with
  |none=>simp[sliceBounds,HT.sIx]
  |some i =>
   simp only[sliceBounds,HT.sIx,Option.getD_none,show(1:Int)>0 by decide,if_true]
   by_cases h:i<0
   .simp only[h,if_true]<;>lia
   .simp only[h,if_false]<;>lia
 .cases hi with
  |none=>simp[sliceBounds,HT.sIx]
  |some i =>
   simp only[sliceBounds,HT.sIx,Option.getD_none,show(1:Int)>0 by decide,if_true]
   by_cases h:i<0
   .simp only[h,if_true]<;>lia
   .simp only[h,if_false]<;>lia
theorem Wy(its:List Value)(lo hi:Option Int):slicePick its.toArray lo hi none=((its.drop (HT.sIx its.length 0 lo)).take (HT.sIx its.length its.length hi-HT.sIx its.length 0 lo)).toArray:=by
 obtain⟨h1,h2,h3⟩:=Yv lo hi its.toArray.size
 unfold slicePick
 rw[h1,h2,h3]
 simp only[sliceRange_one,pick_run,U0n]<;>rfl
def rP(K:U0b):V->Option Int->Option Int->Hp->VK->Prop:=fun x lo hi H Q=>∃a xs,x=.ref a/\SqL K H a xs/\∀p,H p=none->Q (.ref p) (upd H p (.lst (K5 xs lo hi)))
theorem nR:SlR X (rP X.K):=by
 intro pins s Z3 H x v vl vu lo hi sl Q I rx hs pl pu h
 obtain⟨a,xs,rfl,hx,q⟩:=h
 cases rx
 obtain⟨its,r,ht,hz⟩:=I.list hx
 have hlen:=r.length
 refine⟨"list",_,slot_list_getitem.lookup,ht.isList.typeIs,?_⟩
 refine wpAny_getItem_list_slice ht.isList hs pl pu .none (by simp) ?_ (by rw[U0n]<;>lia)
 rw[Wy,←hlen]
 refine⟨.ref s.heap.objs.size,_,I.laid (t':=s.toks) (o:=.lst (K5 xs lo hi)) (fun b ob q=>U0c _ q) (U0l _) ?_,rfl,q _ (I.hok.fresh (U0l _))⟩
 exact⟨U1b (Ss xs lo hi) hz,_,0,(r.drop (HT.sIx xs.length 0 lo)).take (HT.sIx xs.length xs.length hi-HT.sIx xs.length 0 lo),U0u _ rfl⟩
theorem GF:Df X (.builtin "len") (fun xs H Q=>∃p ys,xs=[.ref p]/\(SqL X.K H p ys∨SqT X.K H p ys)/\Q (.int ys.length) H):=by
 intro pins s Z3 H xs us Q I r h
 obtain⟨p,ys,rfl,hq,q⟩:=h
 obtain⟨u,rfl,rx⟩:=vals1 r
 cases rx
 have hn:=Qt
 rcases hq with hq|hq
 .obtain⟨its,r',pl,hz⟩:=I.list hq
  have hlen:=r'.length
  exact Calls.call_len_list pl.isList (by simp only[U0n]<;>lia) ⟨.int ys.length,H,I.tok _,⟨s.toks+1,by rw[U0n,hlen]⟩,q⟩
 .obtain⟨its,r',pl,hz⟩:=I.tuple hq
  have hlen:=r'.length
  exact len_tuple pl (by simp only[U0n]<;>lia) ⟨.int ys.length,H,I.tok _,⟨s.toks+1,by rw[U0n,hlen]⟩,q⟩
theorem Df.or{f:Value}{r r':List V->Hp->VK->Prop}(h:Df X f r)(h':Df X f r'):Df X f (fun xs H Q=>r xs H Q∨r' xs H Q):=by
 intro pins s Z3 H xs us Q I rs q
 rcases q with q|q
 .exact h pins s Z3 H xs us Q I rs q
 .exact h' pins s Z3 H xs us Q I rs q
theorem ZK:Df X (.type "list") (fun xs H Q=>∃p ys,xs=[.ref p]/\(SqL X.K H p ys∨SqT X.K H p ys)/\∀l,H l=none->Q (.ref l) (upd H l (.lst ys))):=by
 intro pins s Z3 H xs us Q I r h
 obtain⟨p,ys,rfl,hq,q⟩:=h
 obtain⟨u,rfl,rx⟩:=vals1 r
 cases rx
 have fin:∀(its:List Value),Vals ys its->ys.length<=sizeLine->∀(h':Heap)(c':Nat),(∀b o',s.heap.get? b=some o'->h'.get? b=some o') ->
   h'.get? s.heap.objs.size=some { cls:=.type "list",dict:=none,data:=.seq its.toArray c',slots:=#[] }->EP X pins Z3 Q `bq { s with heap:=h' }:=fun its r' hz h' c' kp e =>
  ⟨.ref s.heap.objs.size,_,I.laid (t':=s.toks) kp (U0l _) (show Dm X.prog X.w _ h' _ (.lst ys) from ⟨hz,its,c',r',e⟩),rfl,q _ (I.hok.fresh (U0l _))⟩
 rcases hq with hq|hq
 .obtain⟨its,r',pl,hz⟩:=I.list hq
  have hlen:=r'.length
  obtain⟨o,ho,hc,n,hd⟩:=pl.isList
  exact call_list_seq p (.inl rfl) ho hc hd (fun h' c' kp e=>fin its r' hz h' c' kp e) (by simp only[U0n]<;>lia)
 .obtain⟨its,r',pl,hz⟩:=I.tuple hq
  have hlen:=r'.length
  obtain⟨o,ho,hc,n,hd⟩:=pl
  exact call_list_seq p (.inr rfl) ho hc hd (fun h' c' kp e=>fin its r' hz h' c' kp e) (by simp only[U0n]<;>lia)
def tyV(K:U0b)(T:String)(x:V)(H:Hp):Prop:=match x with
 |.str _=>T="str"
 |.int _=>T="int"
 |.ref p=>(T="list"/\∃xs,SqL K H p xs)∨(T="tuple"/\∃o,K.lookup p=some o/\o.cls=.type "tuple"/\o.dict=none) ∨
   (T="dict"/\((∃kvs,H p=some (.dK kvs))∨∃kvs,H p=some (.dT kvs)))∨(T="set"/\∃S n,H p=some (.set S n))
 |_=>False
theorem dG{pins:List (Addr×Obj)}{Z3:St}{H:Hp}{s:Shared}{T:String}{x:V}{v:Value}(I:Inv X pins Z3 H s)(r:RelV x v)(ty:tyV X.K T x H) :
  s.TypeIs v T/\∀a,v=.ref a->∃ob,s.heap.get? a=some ob/\ob.dict=none:=by
 cases x with
 |str z =>
  obtain⟨t,rfl⟩:=r
  cases (show T="str" from ty)
  exact⟨typeIs_str s z t,fun _ e=>nomatch e⟩
 |int i =>
  obtain⟨t,rfl⟩:=r
  cases (show T="int" from ty)
  exact⟨typeIs_int s i t,fun _ e=>nomatch e⟩
 |ref p =>
  cases r
  rcases ty with ⟨rfl,xs,hq⟩|⟨rfl,o,hk,hc,hd⟩|⟨rfl,hk⟩|⟨rfl,S,n,hk⟩
  .obtain⟨its,_,pl,_⟩:=I.list hq
   refine⟨pl.isList.typeIs,fun a e=>?_⟩
   cases e
   obtain⟨o,n,e,c,hd,_⟩:=pl
   exact⟨o,e,hd⟩
  .refine⟨⟨o,I.kIn p o hk,hc⟩,fun a e=>?_⟩
   cases e
   exact⟨o,I.kIn _ o hk,hd⟩
  .have z:∃o,s.heap.get? p=some o/\o.ExactDict:=by
    rcases hk with ⟨kvs,hk⟩|⟨kvs,hk⟩
    .obtain⟨_,_,_,_,o,_,_,e,ex,_⟩:=I.hok p _ hk
     exact⟨o,e,ex⟩
    .obtain⟨_,_,_,_,o,_,_,e,ex,_⟩:=I.hok p _ hk
     exact⟨o,e,ex⟩
   obtain⟨o,e,ex⟩:=z
   refine⟨⟨o,e,ex.1⟩,fun a e2=>?_⟩
   cases e2
   exact⟨o,e,ex.2.1⟩
  .obtain⟨o,_,_,_,e,ex,_⟩:=I.hok p _ hk
   refine⟨⟨o,e,ex.1⟩,fun a e2=>?_⟩
   cases e2
   exact⟨o,e,ex.2.1⟩
 |_=>exact U5b ty
def rK(K:U0b)(T:String)(r:V->List V->Hp->VK->Prop)(to:TE):TE:=fun Z3 H Q=>to Z3 H fun x H1=>tyV K T x H1/\r x [] H1 Q
def tBM(K:U0b)(T:String)(r:V->List V->Hp->VK->Prop)(to:TE)(t:TA):TE:=fun Z3 H Q=>to Z3 H fun x H1=>tyV K T x H1/\t Z3 H1 fun xs H2=>r x xs H2 Q
variable{o e:Expr}{es:List Expr}{to:TE}{t:TA}{name:Str}{apos cpos:Pos}{T id:String}{r:V->List V->Hp->VK->Prop}
theorem uF(pa:PlainAttrs T)(slot:Slot T name id)(hty:typeOf (.builtin id)=pure (.type "method_descriptor"))(hm:MtR X id r)(ho:PE X o to)
  (hbase:attributeBase o name X.env (eval o X.env)=eval o X.env:=by rfl) (hline:(apos.endLine==cpos.line)=true:=by rfl):PE X (.Call (.Attribute o name apos) [] [] cpos) (rK X.K T r to):=by
 intro pins s Z3 H Q I h
 refine wpAny_Call_method0_late hbase hline (thn (ho pins s Z3 H _ I h) fun v s1 ⟨x,H1,I1,r1,ty,q1⟩=>?_)
 obtain⟨h1,h2⟩:=dG I1 r1 ty
 exact⟨T,id,pa,slot,hty,h1,h2,Calls.callWith_builtin rfl (PySem.evalArgs_none (hm pins s1 Z3 H1 x [] v [] Q I1 r1 .nil q1))⟩
theorem wW(pa:PlainAttrs T)(slot:Slot T name id)(hty:typeOf (.builtin id)=pure (.type "method_descriptor"))(hm:MtR X id r)(ho:PE X o to)(ha:PA X (e::es) t)
  (hbase:attributeBase o name X.env (eval o X.env)=eval o X.env:=by rfl)
  (hfew:((backTo cpos (starEach (e::es) X.env)).all (fun x=>!x.1)&&(backToKw cpos (keywordEach [] X.env)).all (fun x=>x.1.isSome)
   && decide ((e::es).length+([]:List Keyword).length+(if ([]:List Keyword).isEmpty then 0 else 1)<30))=true:=by rfl)
  (hline:(apos.endLine==cpos.line)=true:=by rfl) (hs:starEach (e::es) X.env=`bt::starEach es X.env:=by rfl) (hplain:(backTo cpos (starEach es X.env)).any (·.1)=false:=by rfl) :
  PE X (.Call (.Attribute o name apos) (e::es) [] cpos) (tBM X.K T r to t):=by
 intro pins s Z3 H Q I h
 refine wpAny_Call_method_late hbase hfew hline rfl (thn (ho pins s Z3 H _ I h) fun v s1 ⟨x,H1,I1,r1,ty,q1⟩=>?_)
 obtain⟨h1,h2⟩:=dG I1 r1 ty
 refine⟨T,id,pa,slot,hty,h1,h2,?_⟩
 have hA:=ha cpos pins s1 Z3 H1 _ I1 q1
 rw[hs] at hA ⊢
 refine Calls.callWith_builtin (by show(false||(backTo cpos (starEach es X.env)).any (·.1))=false;rw[hplain]<;>rfl) (Calls.evalArgs_plain ?_)
 exact thn hA fun us s2 ⟨vs,H2,I2,r2,q2⟩=>hm pins s2 Z3 H2 x vs v us Q I2 r1 r2 q2
end
end L2
namespace L2
open PySem PySem.Spec PyProof.Rows
def MtM(X:Cx)(id:String)(r:V->List V->Hp->VK->Prop):Prop :=
 ∀(pins:List (Addr×Obj))(s:Shared)(Z3:St)(H:Hp)(x:V)(xs:List V)(v:Value)(us:List Value)(Q:VK),Inv X pins Z3 H s->RelV x v->Vals xs us->r x xs H Q ->
  wpAny `ai X.A (call (.builtin id) (v::us)) (EP X pins Z3 Q) X.xe s
theorem Vals.one:∀{x:V} {us:List Value},Vals [x] us->∃u,us=[u]/\RelV x u
 |_,_,.cons r .nil=>⟨_,rfl,r⟩
theorem Vals.zero:∀{us:List Value},Vals [] us->us=[]
 |_,.nil=>rfl
theorem Vals.rep{xs:List V}{us:List Value}(h:Vals xs us):∀k:Nat,Vals (U08 k xs).flatten (U08 k us).flatten
 |0=>.nil
 |k+1=>by
  rw[U03,U03,U3f,U3f]
  exact Vals.append h (Vals.rep h k)
theorem foldl_rep(its:List Value):∀(k:Nat)(acc:List Value),
  U7e (fun x1 x2=>x1++x2) acc.toArray (U08 k its.toArray)=(acc++(U08 k its).flatten).toArray
 |0,acc=>by simp
 |k+1,acc=>by
  have e:acc.toArray++its.toArray=(acc++its).toArray:=by simp
  have e2:(acc++its)++(U08 k its).flatten=acc++(U08 (k+1) its).flatten:=by
   rw[U03,U3f,U04]
  rw[←e2,←foldl_rep its k (acc++its),←e,U03,U2t]
section
variable{X:Cx}{pins:List (Addr×Obj)}{Z3:St}{H:Hp}{s:Shared}{l b:Addr}{xs ys zs:List V}
theorem Inv.iR{its its':List Value}{n:Nat}{f:Array Value->Array Value}{t':Nat}(I:Inv X pins Z3 H s)(hH:H l=some (.lst xs))
  (e:s.heap.get? l=some { cls:=.type "list",data:=.seq its.toArray n }) (hf:f its.toArray=its'.toArray) (hv:Vals ys its') (hz:ys.length<=sizeLine) :
  Inv X pins Z3 (upd H l (.lst ys)) { s with heap:=s.heap.update l (U1y f),toks:=t' }:=by
 have q:=PySem.IsL.update e f
 rw[hf] at q
 refine I.write (x:=l) (e:=l) (by rw[hH];exact trivial) (.inl rfl) (fun b' u hb hu=>(U1n s.heap (U1y f) (U2s hb)).trans hu) ⟨_,q⟩ ?_
 exact⟨hz,its',_,hv,q⟩
theorem Inv.sJ{its:List Value}{t':Nat}(I:Inv X pins Z3 H s)(hv:Vals ys its)(hz:ys.length<=sizeLine) :
  Inv X pins Z3 (upd H s.heap.objs.size (.lst ys)) { s with heap:=s.heap.push { cls:=.type "list",data:=.seq its.toArray },toks:=t' } :=
 I.laid (fun _ _ q=>U0c _ q) (U0l _) ⟨hz,its,0,hv,U0u _ rfl⟩
theorem Inv.fresh(I:Inv X pins Z3 H s):H s.heap.objs.size=none:=I.hok.fresh (U0l _)
theorem Inv.Sx(I:Inv X pins Z3 H s)(hH:H l=some (.lst xs)):xs.length<=sizeLine/\∃(its:List Value)(n:Nat),Vals xs its/\xs.length=its.length/\s.heap.get? l=some { cls:=.type "list",data:=.seq its.toArray n }:=by
 obtain⟨z,its,n,r,e⟩:=I.hok l _ hH
 exact⟨z,its,n,r,r.length,e⟩
theorem YZ{n:Nat}(h:n<=sizeLine):U5j n=false:=by
 unfold U5j
 exact decide_eq_false (by lia)
end
section
variable{X:Cx}
def aG:V->List V->Hp->VK->Prop:=fun x vs H Q=>∃l xs y,x=.ref l/\vs=[y]/\H l=some (.lst xs)/\xs.length<sizeLine/\Q .non (upd H l (.lst (xs++[y])))
theorem Jy:MtM X "list.append" aG:=by
 intro pins s Z3 H x vs v us Q I rx rv h
 obtain⟨l,xs,y,rfl,rfl,hH,hz,q⟩:=h
 cases rx
 obtain⟨u,rfl,ru⟩:=rv.one
 obtain⟨z,its,n,r,hl,e⟩:=I.Sx hH
 refine call_meets F.slot_list_append ⟨_,e,rfl⟩ F.entry_list_append (F.args_list_append_2 _ _) (PySem.list_append l its.toArray n u (by rw[U0n];lia)) ⟨e,?_⟩
 refine⟨.non,_,I.iR (its':=its++[u]) hH e (by simp) (r.append (.cons ru .nil)) ?_,rfl,q⟩
 rw[U0p,U4k]
 lia
def aF:V->List V->Hp->VK->Prop:=fun x vs H Q=>∃l b xs zs,x=.ref l/\vs=[.ref b]/\H l=some (.lst xs)/\H b=some (.lst zs)/\xs.length+zs.length<=sizeLine/\Q .non (upd H l (.lst (xs++zs)))
theorem gG:MtM X "list.extend" aF:=by
 intro pins s Z3 H x vs v us Q I rx rv h
 obtain⟨l,b,xs,zs,rfl,rfl,hH,hB,hz,q⟩:=h
 cases rx
 obtain⟨u,rfl,ru⟩:=rv.one
 cases ru
 obtain⟨z,its,n,r,hl,e⟩:=I.Sx hH
 obtain⟨z2,its2,n2,r2,hl2,e2⟩:=I.Sx hB
 have hsz:its.toArray.size+its2.toArray.size<=sizeLine:=by rw[U0n,U0n];lia
 have hlong:¬(!its.toArray.isEmpty&&U5j (its.toArray.size+its2.toArray.size))=true:=by
  rw[YZ hsz,U8y]
  exact U1e
 refine call_meets F.slot_list_extend ⟨_,e,rfl⟩ F.entry_list_extend (F.args_list_extend_2 _ _)
  (AutoSeq1.list_extend_list_list_0 l its.toArray n b its2.toArray n2 hlong (by rw[U0n];lia) (by lia)) ⟨e,e2,?_⟩
 refine⟨.non,_,I.iR (its':=its++its2) hH e (by simp) (r.append r2) ?_,rfl,q⟩
 rw[U0p]
 lia
def dR:V->List V->Hp->VK->Prop:=fun x vs H Q=>∃l xs,x=.ref l/\vs=[]/\H l=some (.lst xs)/\Q .non (upd H l (.lst []))
theorem jj:MtM X "list.clear" dR:=by
 intro pins s Z3 H x vs v us Q I rx rv h
 obtain⟨l,xs,rfl,rfl,hH,q⟩:=h
 cases rx
 have hus:=rv.zero
 subst hus
 obtain⟨z,its,n,r,hl,e⟩:=I.Sx hH
 refine call_meets F.slot_list_clear ⟨_,e,rfl⟩ F.entry_list_clear (F.args_list_clear_1 _) (AutoSeq1.list_clear_list_0 l its.toArray n (by rw[U0n];lia)) ⟨e,?_⟩
 exact⟨.non,_,I.iR (its':=[]) (ys:=[]) hH e rfl .nil (U25 _),rfl,q⟩
def sE:R2:=fun x y H Q=>∃l b xs zs,x=.ref l/\y=.ref b/\H l=some (.lst xs)/\H b=some (.lst zs)/\xs.length+zs.length<=sizeLine/\∀p,H p=none->Q (.ref p) (upd H p (.lst (xs++zs)))
theorem uN:OpR X (binaryOp .Add) sE:=by
 intro pins s Z3 H x y v u Q I rx ry h
 obtain⟨l,b,xs,zs,rfl,rfl,hH,hB,hz,q⟩:=h
 cases rx
 cases ry
 obtain⟨z,its,n,r,hl,e⟩:=I.Sx hH
 obtain⟨z2,its2,n2,r2,hl2,e2⟩:=I.Sx hB
 refine PySem.P.add_list e e2 ?_ (by rw[U0n,U0n];lia)
 have ea:its.toArray++its2.toArray=(its++its2).toArray:=by simp
 rw[ea]
 exact⟨.ref _,_,I.sJ (t':=s.toks) (r.append r2) (by rw[U0p];lia),rfl,q _ I.fresh⟩
def rT:R2:=fun x y H Q=>∃l k xs,x=.ref l/\y=.int k/\H l=some (.lst xs)/\-(2^63)<=k/\k<2^63/\xs.length*k.toNat<=sizeLine /\
 ∀p,H p=none->Q (.ref p) (upd H p (.lst (U08 k.toNat xs).flatten))
theorem len_rep{Zs:Type}(xs:List Zs)(k:Nat):(U08 k xs).flatten.length=k*xs.length:=by
 induction k with
 |zero=>simp
 |succ k ih=>rw[U03,U3f,U0p,ih,U88,Nat.add_comm]
theorem uI:OpR X (binaryOp .Mult) rT:=by
 intro pins s Z3 H x y v u Q I rx ry h
 obtain⟨l,k,xs,rfl,rfl,hH,h1,h2,hz,q⟩:=h
 cases rx
 obtain⟨t,rfl⟩:=ry
 obtain⟨z,its,n,r,hl,e⟩:=I.Sx hH
 have hlen:its.toArray.size*k.toNat<=sizeLine:=by rw[U0n,←hl];exact hz
 have hcap:¬its.toArray.size*k.toNat>(2^63-1)/8:=by
  have:(sizeLine:Nat)<=(2^63-1)/8:=by decide
  lia
 have hfit:¬(!Builtin.List.listFitsIndex k)=true:=by
  rw[fitsIndex_both h1 h2]
  exact U1e
 have hlong:¬U5j (its.toArray.size*k.toNat)=true:=by
  rw[YZ hlen]
  exact U1e
 have hnew:U7e (fun x1 x2=>x1++x2) #[] (U08 (if its.toArray.isEmpty=true then 0 else k.toNat) its.toArray)=(U08 k.toNat its).flatten.toArray:=by
  have f0:∀m:Nat,U7e (fun x1 x2=>x1++x2) #[] (U08 m its.toArray)=(U08 m its).flatten.toArray:=fun m=>by
   have:=foldl_rep its m []
   rw[U1v] at this
   exact this
  rw[f0]
  cases its with
  |nil=>simp
  |cons a r'=>rw[if_neg (by simp)]
 refine wpAny_binaryOp_repeat_ref (T:="list") (U:="int") (by decide) ⟨_,e,rfl⟩ (fun s'=>typeIs_int s' k t) noFill_list_mul F.fills_int_mul F.slot_int_rmul repeat_list F.slot_int_index.lookup
  (call_meets F.slot_int_rmul (typeIs_int s k t) F.entry_int_rmul (F.args_int_rmul_2 _ _) (int___rmul___int_list k t l its.toArray n)
   ⟨e,rfl,⟨_,e,rfl⟩,call_meets F.slot_list_mul ⟨_,e,rfl⟩ F.entry_list_mul (F.args_list_mul_2 _ _) (AutoListH.list___mul___list_int_3 l its.toArray n k t hfit hcap hlong) ⟨e,?_⟩⟩)
 rw[hnew]
 exact⟨.ref _,_,I.sJ (t':=s.toks) (r.rep k.toNat) (by rw[len_rep,U8m];exact hz),rfl,q _ I.fresh⟩
end
section
variable{prog:Program}{w:World}{A:Around}{E:Value->Shared->Prop}{s:Shared}
set_option maxRecDepth 100000 in
end
section
variable{X:Cx}
end
end L2
namespace Att
open PySem PySem.W PySem.Calls PyProof.Rows
theorem VL{P:Params}{h:Heap}:∀(ns:List Int)(vs:List Value),WellAll P h vs (ns.map WData.int)->IntsAre vs ns:=by
 intro ns
 induction ns with
 |nil =>
  intro vs w
  rw[U2a] at w
  cases w
  exact .nil
 |cons n ns ih =>
  intro vs w
  rw[U0r] at w
  cases w with
  |cons a b =>
   cases a
   exact .cons _ _ (ih _ b)
theorem fX{l:OpenLaw}{n:Nat}(hn:l.most=some n){P:Params}{h:Heap}{args:List WData}{vals:List Value}
  (hpre:l.row.toRowW.claim.pre args=true) (hwl:WellAll P h vals args) :
  ∃a vs ns,vals=[U24 a]/\args=[WData.list (ns.map WData.int)]/\h.get? a=some { cls:=.type "list",data:=.seq vs.toArray }/\IntsAre vs ns/\ns.length<=n:=by
 have hsh:WShape.hasAll [] args [.list .int]=true:=(pre_splitW hpre).1
 have hc:l.pre.holds [] { args:=args }=true:=(pre_splitW hpre).2
 obtain⟨d,r,rfl,h1,h2⟩:=hasAllW_cons hsh
 obtain rfl:=hasAllW_nil h2
 obtain⟨xs,rfl,h3⟩:=hasW_list h1
 obtain⟨ns,rfl⟩:=items_int h3
 have hlen:ns.length<=n:=by
  unfold OpenLaw.pre at hc
  have h4:(WTm.not (.lt (.lit (.int (n:Int))) (.len (.arg 0)))).holds [] { args:=[.list (ns.map .int)] }=true:=by
   have h4:=(holds_andW hc).1
   rw[hn] at h4
   exact h4
  have h5:=condW_of h4 (w_not (w_lt w_lit (w_len_list (w_arg rfl))))
  rw[U0d] at h5
  refine Nat.le_of_not_lt fun q=>?_
  have q':(n:Int)<((ns.length:Nat):Int):=by lia
  first
   |(rw[decide_eq_true q'] at h5;exact absurd h5 (by decide))
   |(simp at h5;lia)
 cases hwl with
 |cons w1 w2 =>
  cases w2
  cases w1 with
  |list ho hall=>exact⟨_,_,ns,rfl,rfl,ho,VL ns _ hall,hlen⟩
theorem fj(l:OpenLaw)(args:List WData):l.row.toRowW.claim.post args (.bool true) args=true :=
 postW_of (r:=l.row.toRowW) (X:=(true==true))
  (show WShape.has [] (.bool true) .bool=true by first|rfl|decide|simp[WShape.has,WShape.arms,WShape.armsAll])
  (show(WTm.eq .res (.lit (.bool true))).value [] { args:=args,res:=some (.bool true),after:=args }=some (.bool (true==true)) from w_eq_bool (w_res rfl) w_lit) rfl
theorem cR{R:WRecords}{cl:Str->Option Addr}{h:Heap}{a:Addr}{ds:List WData}{as:List Addr}(r:ReadsAllW R cl h [.ref a] [.list ds] as)(lo:∀b∈as,(b==sysModules)=false):a≠sysModules:=by
 cases r with
 |cons r1 _ =>
  cases r1 with
  |list _ _ _ _=>exact fun z=>by have:=lo a (by simp);rw[z] at this;simp at this
theorem Zo{l:OpenLaw}{n:Nat}{q:Program}{loose:List Str}{XP:(Str->Option Value)->Heap->Prop}{YP:World->Heap->Prop}{d:DefRec}
  (hn:l.most=some n) (hdf:d.params.defaults=[])
  (call:∀(w:World)(s₀ s₁:Shared)(mg mb:Str->Option Value)(fa:Addr)(o:Obj)(pm cd doc:Value)(a:Addr)(vs:List Value)(ns:List Int),
   Ground q loose [] XP w s₀ mg mb s₁.heap->YP w s₁.heap ->
   s₁.heap.get? fa=some o->o.data=.func (docDef d.name d.params d.body d.scope pm cd doc)->s₁.heap.CodeRec cd d.name->mg d.name=some (.ref fa) ->
   s₁.heap.get? a=some { cls:=.type "list",data:=.seq vs.toArray }->IntsAre vs ns->ns.length<=n->a≠sysModules->s₁.gens=#[] ->
   codeAny (model l.prog w) callerA (.call (.ref fa) ⟨[.ref a],[]⟩) (fun r s'=>r=.ok (.ret (.bool true))/\OldK s₁.heap s'.heap/\s'.os=s₁.os/\AllBare s'.gens) s₁) :
  WalkO q loose XP YP l.row.toRowW d [] (fun f vs=>U84 f vs):=by
 intro w s₀ s₁ mg mb G Y fa o pm cd doc dV kV ho hd hcd hD hmg hg args vals as hpre hlay hrd hwl hlo
 obtain rfl:dV=.none:=Dflts.none hD hdf
 obtain rfl:kV=.none:=Dflts.noKw hD
 obtain⟨a,vs,ns,rfl,rfl,hobj,hints,hlen⟩:=fX hn hpre hwl
 refine enter_call (codeAny_mono (call w s₀ s₁ mg mb fa o pm cd doc a vs ns G Y ho (fd_plain hd) hcd hmg hobj hints hlen (cR hrd hlo) hg) fun r s' hq=>?_)
 obtain⟨rfl,h2,h3,h4⟩:=hq
 exact⟨.inl ⟨.bool true,.bool true,[],rfl,fun _=>rfl,.bool true,fj l _,fun _=>⟨U8d,fun _ hm=>(nomatch hm)⟩⟩,h2,h3,h4⟩
section
variable{prog:Program}{w:World}{A:Around}{E:Value->Shared->Prop}{s:Shared}{K:Frag}
end
end Att
namespace L2
open PySem PySem.Spec PyProof.Rows
theorem O4:∀{vs:List Value} {ns:List Int},IntsAre vs ns->Vals (ns.map V.int) vs
 |_,_,.nil=>.nil
 |_,_,.cons n t h=>.cons ⟨t,rfl⟩ (O4 h)
def Only(H:Hp):Prop:=∀b,H b=none∨∃o xs,H b=some (.frz o (.lst xs))
theorem jq{P:Program}{w:World}{K:U0b}{mg mb:Str->Option Value}{CX:CXT}{k:Nat}{fa a:Addr}{fd:FuncData}{x:Str}{sp:Sp}{s₁:Shared}{vs:List Value}{ns:List Int}
  (KX:K.In s₁.heap) (hns:s₁.heap.Ns mainGlobals mg) (hb:s₁.heap.Ns builtinsNs mb) (hbb:∀x:Str,x≠"__name__"->mb x=bootBuiltins x) (hlim:s₁.heap.NoLimit) (hg:s₁.gens=#[])
  (ha:s₁.heap.get? a=some { cls:=.type "list",data:=.seq vs.toArray }) (hi:IntsAre vs ns) (hl:ns.length<=sizeLine) (hasy:a≠sysModules) (hr:Eb k callerA)
  (F:∀base:Heap,K.In base->base.Ns mainGlobals mg->DY P w K mg base CX k fa fd [x] sp) (hbind:∀(s:Shared)(u:Value),BindsTo s fd ⟨[u],[]⟩ [(x,u)])
  (hsp:∀H:Hp,Only H->SqL K H a (ns.map V.int)->sp [.ref a] H (fun v _=>v=.bl true) fun _ _ _=>False)
  (hCX:∀H e s',CX [] H s₁ (fun _ _ _=>False) e s'->False) :
  codeAny (model P w) callerA (.call (.ref fa) ⟨[.ref a],[]⟩) (fun r s'=>r=.ok (.ret (.bool true))/\OldK s₁.heap s'.heap/\s'.os=s₁.os/\AllBare s'.gens) s₁:=by
 have rv:=O4 hi
 have lenV:=hi.length
 have core:∀H:Hp,Only H->SqL K H a (ns.map V.int)->HOk P w H s₁.heap->(∀b,H b≠none->b=a)->(H a≠none->K.lookup a=none) ->
   codeAny (model P w) callerA (.call (.ref fa) ⟨[.ref a],[]⟩) (fun r s'=>r=.ok (.ret (.bool true))/\OldK s₁.heap s'.heap/\s'.os=s₁.os/\AllBare s'.gens) s₁:=by
  intro H hO hS hok hA hK
  have base_of:∀{b:Addr} {o:Obj},s₁.heap.get? b=some o->H b=none->(Px s₁.heap H).get? b=some o:=fun e n=>kJ e n
  have noA:∀{b:Addr} {o:Obj} {es:Array DictEntry} {ep:Nat},s₁.heap.get? b=some o->o.data=.dict es ep->H b=none:=fun {b o es ep} e d=>by
   cases q:H b with
   |none=>rfl
   |some u =>
    have e':b=a:=hA b (by rw[q];simp)
    subst e'
    rw[ha] at e;cases e
    have d':Data.seq vs.toArray _=Data.dict es ep:=d
    cases d'
  have nsK:∀{b:Addr} {m:Str->Option Value},s₁.heap.Ns b m->(Px s₁.heap H).Ns b m:=fun {b m} ⟨o,es,ep,e,d,r⟩=>⟨o,es,ep,base_of e (noA e d),d,r⟩
  have hKb:K.In (Px s₁.heap H):=fun b o e=>base_of (KX b o e) (by
   cases q:H b with
   |none=>rfl
   |some u =>
    have e':b=a:=hA b (by rw[q];simp)
    subst e'
    rw[hK (by rw[q];simp)] at e;cases e)
  have hM:Mod K mg (Px s₁.heap H):=⟨hKb,nsK hns,⟨mb,nsK hb,hbb⟩,let ⟨mc,h1,h2⟩:=hlim;⟨mc,nsK h1,h2⟩⟩
  have e0:bM P w K mg (Px s₁.heap H) callerA [] s₁ H:=⟨rfl,hM,fun b o e=>pI e,U89 (gQ _ _),trivial,fun b hb=>absurd (show b∈([]:List Addr) from hb) (by simp),hok,.of_eq hg,U4m fun z=>hasy (hA _ z).symm⟩
  refine codeAny_mono ((F _ hKb (nsK hns)).run callerA [] s₁ H ⟨[.ref a],[]⟩ [.ref a] [.ref a] _ _ hr e0 (hbind s₁ (.ref a)) (.cons rfl .nil) (hsp H hO hS)) fun r s' h=>?_
  cases r with
  |error e=>exact(hCX H e s' h).elim
  |ok fl =>
   cases fl with
   |next=>exact U5b h
   |brk=>exact U5b h
   |cont=>exact U5b h
   |ret u =>
    obtain⟨v,H',os,bare,un,hok',r',q⟩:=h
    have q':v=.bl true:=q
    subst q'
    obtain rfl:u=U5a true:=r'
    refine⟨rfl,OldK.of_keep fun b o e=>?_,os,bare⟩
    cases q:H b with
    |none=>exact un.keep b o e q (by intro z;exact absurd (show b∈([]:List Addr) from z) (by simp)) (by simp)
    |some u =>
     rcases hO b with z|⟨ob,xs,z⟩
     .rw[q] at z;cases z
     .have z2:=un.frzs b ob _ z
      obtain⟨e1,_⟩:=hok b _ z
      obtain⟨e2,_⟩:=hok' b _ z2
      rw[e] at e1;cases e1
      exact e2
 cases hk:K.lookup a with
 |some o =>
  have e:=KX a o hk
  rw[ha] at e
  cases e
  refine core (fun _=>none) (fun _=>.inl rfl) (.inr ⟨_,vs.toArray,_,hk,rfl,rfl,rfl,by rw[U0n,lenV];exact hl,by simpa using rv⟩) (fun b u z=>by have z':(none:Option HO)=some u:=z;cases z') (fun b z=>absurd rfl z) fun z=>absurd rfl z
 |none =>
  refine core (fun b=>if b=a then some (.frz { cls:=.type "list",data:=.seq vs.toArray } (.lst (ns.map V.int))) else none) (fun b=>?_) (.inl (.inr ⟨{ cls:=.type "list",data:=.seq vs.toArray },if_pos rfl⟩)) (fun b u z=>?_) (fun b z=>?_) fun _=>hk
  .by_cases hb:b=a
   .exact .inr ⟨_,_,if_pos hb⟩
   .exact .inl (if_neg hb)
  .by_cases hb:b=a
   .have z':=(if_pos hb).symm.trans z
    cases z'
    subst hb
    exact⟨ha,by rw[U0d];exact hl,vs,_,rv,ha⟩
   .have z':=(if_neg hb).symm.trans z
    cases z'
  .by_cases hb:b=a
   .exact hb
   .exact absurd (if_neg hb) z
end L2
namespace L2
open PySem PySem.Spec PyProof.Rows
abbrev KOf{K:U0b}{h:Heap}(_:K.In h):U0b:=K
theorem walk_of{l:U7f}{n k:Nat}{q:Program}{loose:List Str}{XP:(Str->Option Value)->Heap->Prop}{YP:World->Heap->Prop}{d:DefRec}{K:Params->U0b}{CX:World->CXT}{sp:World->Sp}{x:Str}
  (hn:l.most=some n) (hn2:n<=sizeLine) (hdf:d.params.defaults=[]) (hr:Eb k callerA)
  (hY:∀(w:World)(h:Heap),YP w h->(K w.params).In h)
  (F:∀(w:World)(mg:Str->Option Value)(fa:Addr)(h:Heap),(K w.params).In h->h.Ns mainGlobals mg->mg d.name=some (.ref fa) ->
   ∃fd:FuncData,(∀(s:Shared)(u:Value),BindsTo s fd ⟨[u],[]⟩ [(x,u)]) /\
    ∀base:Heap,(K w.params).In base->base.Ns mainGlobals mg->DY l.prog w (K w.params) mg base (CX w) k fa fd [x] (sp w))
  (hsp:∀(w:World)(H:Hp)(a:Addr)(ns:List Int),ns.length<=n->Only H->SqL (K w.params) H a (ns.map V.int)->sp w [.ref a] H (fun v _=>v=.bl true) fun _ _ _=>False)
  (hCX:∀(w:World)(H:Hp)(s:Shared)(e:Value)(s':Shared),CX w [] H s (fun _ _ _=>False) e s'->False) :
  U85 q loose XP YP l.row.toRowW d [] (fun f vs=>U84 f vs):=by
 refine Att.Zo hn hdf fun w s₀ s₁ mg mb fa o pm cd doc a vs ns G Y ho hd hcd hmg hobj hints hlen hasy hg=>?_
 have KX:=hY w _ Y
 obtain⟨fd,hb,hF⟩:=F w mg fa _ KX G.T.g hmg
 exact jq KX G.T.g G.T.b G.T.builtins G.T.nolimit hg hobj hints (U1b hlen hn2) hasy hr hF hb (fun H hO hS=>hsp w H a ns hlen hO hS) fun H e s'=>hCX w H s₁ e s'
theorem j6{l:U7f}{n k:Nat}{q:Program}{loose:List Str}{XP:(Str->Option Value)->Heap->Prop}{YP:World->Heap->Prop}{d:DefRec}{K:Params->U0b}{CX:CXT}{sp:U0b->Sp}{x:Str}
  (hn:l.most=some n) (hn2:n<=sizeLine) (hdf:d.params.defaults=[]) (hr:Eb k callerA)
  (hY:∀(w:World)(h:Heap),YP w h->(K w.params).In h)
  (F:∀(w:World)(mg:Str->Option Value)(fa:Addr)(h:Heap),(K w.params).In h->h.Ns mainGlobals mg->mg d.name=some (.ref fa) ->
   ∃fd:FuncData,(∀(s:Shared)(u:Value),BindsTo s fd ⟨[u],[]⟩ [(x,u)]) /\
    ∀base:Heap,(K w.params).In base->base.Ns mainGlobals mg->DY l.prog w (K w.params) mg base CX k fa fd [x] (sp (K w.params)))
  (hsp:∀(K:U0b)(H:Hp)(a:Addr)(ns:List Int),ns.length<=n->Only H->SqL K H a (ns.map V.int)->sp K [.ref a] H (fun v _=>v=.bl true) fun _ _ _=>False)
  (hCX:∀(H:Hp)(s:Shared)(e:Value)(s':Shared),CX [] H s (fun _ _ _=>False) e s'->False) :
  U85 q loose XP YP l.row.toRowW d [] (fun f vs=>U84 f vs) :=
 walk_of (K:=K) (CX:=fun _=>CX) (sp:=fun w=>sp (K w.params)) hn hn2 hdf hr hY F (fun w H a ns h1 h2 h3=>hsp (K w.params) H a ns h1 h2 h3) fun _ H s e s'=>hCX H s e s'
end L2
namespace L2
open PySem PySem.Spec PyProof.Rows
def Cm(s:Stmt):Arguments:=match s with
 |.FunctionDef _ a _ _ _ _ _ _ _ _=>a
 |_=>{ posonlyargs:=[],args:=[],vararg:=none,kwonlyargs:=[],kw_defaults:=[],kwarg:=none,defaults:=[] }
def CV(s:Stmt):List Stmt:=match s with
 |.FunctionDef _ _ b _ _ _ _ _ _ _=>b
 |_=>[]
def Am(s:Stmt):Scope:=match s with
 |.FunctionDef _ _ _ _ _ _ sc _ _ _=>sc
 |_=>{ kind:=.function,names:=[],isGenerator:=false,isCoroutine:=false }
abbrev CX0:CXT:=fun _ _ _ _ _ _=>False
abbrev E0:XK:=fun _ _ _=>False
theorem wY{X:Cx}:Passes CX0 X E0:=fun _ _ _ _ _ _ _ h=>h.elim
structure Fun(K:U0b)(x qual:Str)(st:Stmt)(f:Addr)(fd:FuncData):Prop where
 ex:∃(oc:Value)(od:Option Addr)(kV doc pm:Value)(an:Option Addr)(cdv ct:Value)(osl:Array (Option Value)),
  fd=U1r x qual (Cm st) (CV st) (Am st) .none kV doc pm an cdv ct/\K.lookup f=some ⟨oc,od,.func fd,osl⟩/\U1s K cdv qual=true
 kp:U1g K (.ref f)=true
section
variable{P:Program}{w:World}{K:U0b}{mg:Str->Option Value}{base:Heap}
theorem Fun.ok{x qual:Str}{st:Stmt}{f:Addr}{fd:FuncData}{N ps:List Str}{k:Nat}{sp:Sp}(F:Fun K x qual st f fd)(S:Cp N ps (Am st))(len:∀vs H Q E,sp vs H Q E->vs.length=ps.length)
  (hbody:∀(cdv:Value)(A:Around)(outer:List Env)(s:Shared)(H:Hp)(vs:List V)(Q:VK)(E:XK),Eb k (A.deeper (envOfC qual (Am st) s.heap.objs.size f cdv))->sp vs H Q E ->
   ∃t,PSs (Qj CX0 P w K mg base N qual (Am st) f cdv A outer s H E).nox (CV st) t/\t { nx:=fun _ H'=>Q .non H',rt:=Q } (start N vs) H):DY P w K mg base CX0 (k+1) f fd ps sp:=by
 obtain⟨oc,od,kV,doc,pm,an,cdv,ct,osl,rfl,lk,hcd⟩:=F.ex
 refine xZ lk hcd S len fun A outer s H vs Q E hr hsp=>?_
 obtain⟨t,h,q⟩:=hbody cdv A outer s H vs Q E hr hsp
 exact⟨t,h.nox,q⟩
theorem Fun.binds{x qual:Str}{st:Stmt}{f:Addr}{fd:FuncData}{ps:List Str}(F:Fun K x qual st f fd)
  (h:∀(kV doc pm:Value)(an:Option Addr)(cdv ct:Value)(us:List Value),us.length=ps.length->bindArgs (U1r x qual (Cm st) (CV st) (Am st) .none kV doc pm an cdv ct) ⟨us,[]⟩=pure (ps.zip us)):Binds K fd ps []:=by
 obtain⟨oc,od,kV,doc,pm,an,cdv,ct,osl,rfl,lk,hcd⟩:=F.ex
 exact .all (h kV doc pm an cdv ct)
theorem Ec{x qual:Str}{st:Stmt}{f:Addr}{oc:Value}{od an:Option Addr}{osl:Array (Option Value)}{kV doc pm cdv ct:Value}(l:K.lookup f=some ⟨oc,od,.func (U1r x qual (Cm st) (CV st) (Am st) .none kV doc pm an cdv ct),osl⟩)
  (c:U1s K cdv qual=true) (k:U1g K (.ref f)=true):Fun K x qual st f (U1r x qual (Cm st) (CV st) (Am st) .none kV doc pm an cdv ct):=⟨⟨oc,od,kV,doc,pm,an,cdv,ct,osl,rfl,l,c⟩,k⟩
end
theorem R8{n:Nat}(h:n<=1000):n<sizeLine:=U4l h (by decide)
section
variable{X:Cx}
theorem pv(i:Nat){x:Str}{pos:Pos}(hN:X.N[i]?=some x:=by rfl)(hv:Vis X.env.scope x:=by first|exact U9 rfl|exact U8n (U9 rfl)|exact U8n (U8n rfl))(hd:(x==("__debug__":Str))=false:=by decide)
  (hcd:(x==("__classdict__":Str))=false:=by decide):PE X (.Name x pos) (rH i):=dW hN hv hd hcd
end
def Same(H H':Hp):Prop:=∀b o,H b=some o->H' b=some o
theorem Same.refl(H:Hp):Same H H:=fun _ _ h=>h
theorem Same.free{H H':Hp}(e:Same H H'){l:Addr}(h:H' l=Option.none):H l=Option.none:=by
 cases q:H l with
 |none=>rfl
 |some o =>
  rw[e l o q] at h
  cases h
end L2
end
section
namespace SetP
open PySem
def Gh(xs:Array Nat):Prop:=xs.toList.Pairwise (·<·)
theorem YL:Gh #[]:=U8d
theorem cH(n:Nat):Gh (Array.range n):=by
 unfold Gh
 rw[Array.toList_range]
 exact U64
theorem Gh.lt{xs:Array Nat}(h:Gh xs){i k:Nat}(hik:i<k)(hk:k<xs.size):xs.getD i 0<xs.getD k 0:=by
 have q:=U1w.mp h i k (by rw[U0g];lia) (by rw[U0g];exact hk) hik
 rw[U16,U16,U05 (by lia),U05 hk]
 simpa using q
theorem Gh.le{xs:Array Nat}(h:Gh xs){i k:Nat}(hik:i<=k)(hk:k<xs.size):xs.getD i 0<=xs.getD k 0:=by
 rcases U73 hik with z|z
 .exact U2g (h.lt z hk)
 .rw[z];exact U0l _
theorem Vu{xs:Array Nat}{j:Nat}(h:Gh xs):∀(fuel lo hi:Nat),lo<=hi->hi<=xs.size->hi-lo<=fuel->(∀i,i<lo->xs.getD i 0<j)->(∀i,hi<=i->i<xs.size->j<=xs.getD i 0) ->
  U5v xs j fuel lo hi<=xs.size/\(∀i,i<U5v xs j fuel lo hi->xs.getD i 0<j)/\∀i,U5v xs j fuel lo hi<=i->i<xs.size->j<=xs.getD i 0
 |0,lo,hi,h1,h2,h3,h4,h5=>by
  have e:lo=hi:=by lia
  subst e
  unfold U5v
  exact⟨h2,h4,h5⟩
 |fuel+1,lo,hi,h1,h2,h3,h4,h5=>by
  unfold U5v
  by_cases hlt:lo<hi
  .rw[if_pos hlt]
   have hm:(lo+hi)/2<hi:=by lia
   have hl:lo<=(lo+hi)/2:=by lia
   have e:xs.getD ((lo+hi)/2) j=xs.getD ((lo+hi)/2) 0:=by
    rw[U16,U16,U05 (by lia)]
    rfl
   dsimp only
   rw[e]
   by_cases hc:xs.getD ((lo+hi)/2) 0<j
   .rw[if_pos hc]
    exact Vu h fuel _ hi (by lia) h2 (by lia) (fun i hi'=>U4l (h.le (by lia) (by lia)) hc) h5
   .rw[if_neg hc]
    exact Vu h fuel lo _ (by lia) (by lia) (by lia) h4 (fun i hi' hs=>U1b (Nat.le_of_not_lt hc) (h.le hi' hs))
  .rw[if_neg hlt]
   have e:lo=hi:=by lia
   subst e
   exact⟨h2,h4,h5⟩
theorem Mj{xs:Array Nat}{j:Nat}(h:Gh xs):U1f xs j<=xs.size/\(∀i,i<U1f xs j->xs.getD i 0<j)/\∀i,U1f xs j<=i->i<xs.size->j<=xs.getD i 0:=by
 unfold U1f
 exact Vu h xs.size 0 xs.size (U25 _) (U0l _) (by lia) (fun i hi=>absurd hi (U3a _)) fun i h1 h2=>absurd h2 (by lia)
theorem VG{xs:Array Nat}(h:Gh xs){i:Nat}(hi:i<xs.size):U1f xs (xs.getD i 0+1)=i+1:=by
 obtain⟨a,b,c⟩:=Mj (j:=xs.getD i 0+1) h
 generalize U1f xs (xs.getD i 0+1)=r at a b c
 rcases U5w r (i+1) with z|z|z
 .have:=c i (by lia) hi;lia
 .exact z
 .have h1:=b (i+1) z
  have h2:xs.getD i 0<xs.getD (i+1) 0:=h.lt (U58 i) (by lia)
  lia
theorem VF{xs:Array Nat}(h:Gh xs):U1f xs 0=0:=by
 obtain⟨a,b,c⟩:=Mj (j:=0) h
 generalize U1f xs 0=r at a b c
 cases r with
 |zero=>rfl
 |succ r=>exact absurd (b 0 (by lia)) (U3a _)
theorem S9{xs:Array Nat}{j:Nat}(h:Gh xs)(hn:xs[U1f xs j]?≠some j):Gh (U3g xs (U1f xs j) j):=by
 obtain⟨a,b,c⟩:=Mj (j:=j) h
 unfold Gh
 rw[U31]
 generalize U1f xs j=p at a b c hn
 have getT:∀i,i<xs.size->xs.toList[i]?=some (xs.getD i 0):=fun i hi=>by
  rw[U1a,U16,U05 hi];rfl
 refine U06.mpr ⟨h.sublist (U48 _ _),U11.mpr ⟨fun y hy=>?_,h.sublist (U8e _ _)⟩,fun x hx y hy=>?_⟩
 .obtain⟨i,hi⟩:=U1l.mp hy
  rw[U74] at hi
  have hlt:p+i<xs.size:=by
   have:=(U0j.mp hi).1
   rwa [U0g] at this
  rw[getT _ hlt] at hi
  have e:=U00 hi
  have h1:=c (p+i) (U59 _ _) hlt
  rw[←e]
  rcases U73 h1 with z|z
  .exact z
  .exfalso
   have hp:p<xs.size:=by lia
   have h2:=c p (U0l _) hp
   have h3:=h.le (U59 p i) hlt
   have h4:xs.getD p 0=j:=by lia
   apply hn
   have:=getT p hp
   rw[U1a] at this
   rw[this,h4]
 .have hxj:x<j:=by
   obtain⟨i,hi⟩:=U1l.mp hx
   have hip:i<p:=by
    have:=(U0j.mp hi).1
    rw[U1q] at this;lia
   rw[List.getElem?_take_of_lt hip] at hi
   have hlt:i<xs.size:=by
    have:=(U0j.mp hi).1
    rwa [U0g] at this
   rw[getT _ hlt] at hi
   rw[←U00 hi]
   exact b i hip
  rcases U0h.mp hy with z|z
  .rw[z];exact hxj
  .obtain⟨i,hi⟩:=U1l.mp z
   rw[U74] at hi
   have hlt:p+i<xs.size:=by
    have:=(U0j.mp hi).1
    rwa [U0g] at this
   rw[getT _ hlt] at hi
   rw[←U00 hi]
   exact U1k hxj (c (p+i) (U59 _ _) hlt)
def Off(t:SetTable)(j:Nat):Prop:=t.place[U1f t.place j]?≠some j
theorem SM{t:SetTable}{j:Nat}(h:∀i,t.slot j≠.live i):Off t j:=fun e=>by
 apply h (U1f t.place j)
 unfold U77
 dsimp only
 rw[e]
 simp
theorem RG{t:SetTable}{f:Nat->Int}{h:Int}{j:Nat}{d:Option Nat}:∀(fuel:Nat)(p:U8z),(∀d,p.dummy=some d->Off t d)->U3h t f h fuel p=some (.empty j d)->Off t j/\∀d',d=some d'->Off t d'
 |0,_,_,e=>by unfold U3h at e;cases e
 |fuel+1,p,hp,e=>by
  unfold U3h at e
  cases hs:t.slot p.j with
  |empty =>
   rw[hs] at e
   have e':=U00 e
   cases e'
   exact⟨SM (fun i z=>by rw[hs] at z;exact SetTable.Slot.noConfusion z),hp⟩
  |dummy =>
   rw[hs] at e
   refine RG fuel _ (fun d' hd=>?_) e
   have hd':(t.advance { p with dummy:=some p.j }).dummy=some p.j:=by
    unfold SetTable.advance;dsimp only;split<;>rfl
   rw[hd'] at hd
   cases hd
   exact SM fun i z=>by rw[hs] at z;cases z
  |live i =>
   rw[hs] at e
   dsimp only at e
   split at e
   .cases e
   .refine RG fuel _ (fun d' hd=>hp d' ?_) e
    rw[←hd]
    unfold SetTable.advance
    split<;>rfl
theorem ZD{t:SetTable}{h:Int}{j:Nat}{b:Bool}(e:t.freeSlot h=some (j,b)):Off t j:=by
 unfold SetTable.freeSlot at e
 split at e
 .rename_i j' d q
  unfold U3v at q
  obtain⟨o1,o2⟩:=RG _ _ (fun d hd=>by unfold SetTable.probeStart at hd;cases hd) q
  have e':=U00 e
  cases d with
  |none=>cases e';exact o1
  |some d=>cases e';exact o2 _ rfl
 .cases e
def TabOk(L:Bool)(t:SetTable):Prop:=Gh t.place/\t.led=L
theorem TabOk.fresh(L:Bool)(f m:Nat):TabOk L (.fresh f m L):=⟨YL,rfl⟩
theorem TabOk.standIn{L:Bool}{t:SetTable}(h:TabOk L t)(n:Nat):TabOk L (t.standIn n):=⟨cH n,h.2⟩
theorem TabOk.orStandIn{L:Bool}{t:SetTable}(h:TabOk L t)(n:Nat):TabOk L (t.orStandIn n):=by
 unfold SetTable.orStandIn
 split
 .exact h
 .exact h.standIn n
theorem TabOk.nA{L:Bool}{t:SetTable}(h:TabOk L t)(b:Bool):TabOk L { t with plain:=b }:=h
theorem cV{L:Bool}{t:SetTable}(h:TabOk L t)(es:Array (Int×Value))(k:Int)(x:Value):TabOk L (layNew t es k x).2.1:=by
 unfold layNew
 split
 .rename_i slot wasDummy q
  exact TabOk.orStandIn (t:=(t.put slot).1) ⟨S9 h.1 (ZD q),h.2⟩ _
 .exact h.standIn _
theorem QC{Zs:Type}(g:Nat->Option Zs):∀l:List Nat,List.Sublist ((l.filterMap fun j=>(g j).map (j,·)).map (·.1)) l
 |[]=>List.Sublist.slnil
 |j::r=>by
  rw[U6d]
  cases hg:g j with
  |none=>exact(QC g r).cons j
  |some a=>exact(QC g r).cons_cons j
theorem Yy{L:Bool}{t:SetTable}(h:TabOk L t)(es:Array (Int×Value))(n:Nat):TabOk L (relayAll t es n).2.1:=by
 unfold relayAll
 split
 .rename_i t' order q
  dsimp only
  split
  .unfold SetTable.relaid SetTable.laid at q
   cases ho:U2v (U3p n-1) (es.map (·.1)) with
   |none=>rw[ho] at q;cases q
   |some owner =>
    rw[ho] at q
    have q':=U00 q
    cases q'
    refine⟨?_,h.2⟩
    show U5p (·<·) (List.toArray _).toList
    exact U64.sublist (QC (fun j=>owner.getD j none) _)
  .exact h.standIn _
 .exact h.standIn _
end SetP
end
section
set_option maxRecDepth 100000
namespace SetP
open PySem PyProof.Rows
abbrev Ik(w:World):Bool:=!(w.params.followText "set-order")
structure SetT(prog:Program)(w:World)(h:Heap)(a:Addr)(ds:List Int):Prop where
 nd:ds.Nodup
 ex:∃o es ep t,h.get? a=some o/\o.ExactSet/\o.data=.set es ep t/\ElemsOf (intKind prog w) es.toList/\(∀k,decide (k∈ds)=true↔∃e∈es.toList,(intKind prog w).is k e.2=true) /\
  es.size<scanBound/\t.fits es.size=true/\es.size=ds.length/\TabOk (Ik w) t
def Ek(ds:List Int)(k:Int):List Int:=if k∈ds then ds else ds++[k]
theorem Tv{ds:List Int}(h:ds.Nodup)(k:Int):(Ek ds k).Nodup:=by
 unfold Ek
 split
 .exact h
 .rename_i hk
  exact U6x.mpr ⟨h,by simp,fun a ha b hb=>by rw[U0q] at hb;subst hb;rintro rfl;exact hk ha⟩
theorem WR{ds:List Int}{k j:Int}:j∈Ek ds k↔j∈ds∨j=k:=by
 unfold Ek
 split
 .rename_i hk
  exact⟨.inl,fun z=>z.elim id fun e=>e ▸ hk⟩
 .rw[U0z,U0q]
theorem iH(ds:List Int)(k:Int):(Ek ds k).length<=ds.length+1:=by
 unfold Ek
 split
 .lia
 .rw[U0p,U4k];lia
section
variable{prog:Program}{w:World}{A:Around}{E:Value->Shared->Prop}{s:Shared}
theorem SetT.sameBut{h h':Heap}{a:Addr}{ds:List Int}(x:SetT prog w h a ds)(hs:∀o,h.get? a=some o->h'.get? a=some o):SetT prog w h' a ds:=by
 obtain⟨nd,o,es,ep,t,e,r⟩:=x
 exact⟨nd,o,es,ep,t,hs o e,r⟩
theorem SetT.stored{h:Heap}{a:Addr}{o:Obj}{es es':Array (Int×Value)}{ep:Nat}{t t':SetTable}{ds:List Int}(ho:h.get? a=some o)(hex:o.ExactSet)(hd:o.data=.set es ep t)(nd:ds.Nodup)
  (hel:ElemsOf (intKind prog w) es'.toList) (hm:∀k,decide (k∈ds)=true↔∃e∈es'.toList,(intKind prog w).is k e.2=true) (hb:es'.size<scanBound) (hf:t'.fits es'.size=true) (hn:es'.size=ds.length) (ht:TabOk (Ik w) t') :
  (h.update a (U7g es' t')).get? a=some { o with data:=.set es' (ep+1) t' }/\SetT prog w (h.update a (U7g es' t')) a ds:=by
 obtain⟨g,_⟩:=SetOf_store (knd:=intKind prog w) ho hex hd hel hm hb hf
 exact⟨g,nd,_,es',ep+1,t',g,hex,rfl,hel,hm,hb,hf,hn,ht⟩
theorem Ww{g:Bool->Sem Unit}(hg:∀(b:Bool)(s₁:Shared)(Q':Unit->Shared->Prop),Q' () s₁->wpAny `am A (g b) Q' E s₁)
  {a:Addr} {o:Obj} {es es1:Array (Int×Value)} {ep:Nat} {t t2:SetTable} {ds:List Int} (ho:s.heap.get? a=some o) (hex:o.ExactSet) (hd:o.data=.set es ep t) (nd:ds.Nodup)
  (hel:ElemsOf (intKind prog w) es1.toList) (hm:∀k,decide (k∈ds)=true↔∃e∈es1.toList,(intKind prog w).is k e.2=true) (hb:es1.size<scanBound) (hf:t2.fits es1.size=true) (hn:es1.size=ds.length) (ht:TabOk (Ik w) t2)
  {dummy:Bool} {R:Option Bool->Shared->Prop} (h:∀h',U1c a s.heap h'->SetT prog w h' a ds->R (some true) { s with heap:=h' }) :
  wpAny `am A (do
    storeSet a es1 t2
    if (!dummy&&t2.tooFull)=true then do
      g (relayAll t2 es1 (U29 es1.size)).2.2
      storeSet a (relayAll t2 es1 (U29 es1.size)).1 (relayAll t2 es1 (U29 es1.size)).2.1
      pure (some true)
     else pure (some true)) R E s:=by
 obtain⟨g1,T1⟩:=SetT.stored (prog:=prog) (w:=w) ho hex hd nd hel hm hb hf hn ht
 have sb1:=U13 s.heap a (U7g es1 t2)
 refine U0 (U6y ho hd ?_ (fits_of_scanBound hb))
 split
 .have p:=relayAll_perm t2 es1 (U29 es1.size)
  have f:=relayAll_fits t2 es1 (U29 es1.size)
  have tb:=Yy ht es1 (U29 es1.size)
  generalize relayAll t2 es1 (U29 es1.size)=RR at p f tb
  obtain⟨es2,t3,gave⟩:=RR
  have sz:es2.size=es1.size:=by simpa using p.length_eq
  have T2:=SetT.stored (prog:=prog) (w:=w) (es':=es2) (t':=t3) g1 hex rfl nd (hel.perm p) (fun k=>(hm k).trans ⟨fun⟨e,he,q⟩=>⟨e,p.mem_iff.mpr he,q⟩,fun⟨e,he,q⟩=>⟨e,p.mem_iff.mp he,q⟩⟩)
   (by rw[sz];exact hb) f (by rw[sz];exact hn) tb
  refine U0 (hg _ _ _ (U0 (U6y g1 rfl ?_ (fits_of_scanBound (by show es2.size<_;rw[sz];exact hb)))))
  exact U0e (h _ (sb1.trans (U13 _ a _)) T2.2)
 .exact U0e (h _ sb1 T1)
theorem Zq{a:Addr}{ds:List Int}{k:Int}{t0:Tok}{Q:Bool->Shared->Prop}(hS:SetT prog w s.heap a ds)(room:ds.length+1<scanBound)
  (h:∀b h',U1c a s.heap h'->SetT prog w h' a (Ek ds k)->Q b { s with heap:=h' }):wpAny (model prog w) A (setAddHashed a (.int k t0) ((intKind prog w).hash k)) Q E s:=by
 obtain⟨nd,o,es,ep,t,ho,hex,hd,hel,hm,hb,hf,hn,ht⟩:=hS
 have hkey:(intKind prog w).is k (.int k t0)=true:=intKind_is prog w k t0
 have hsc:(U70 k t0).scannable=true:=rfl
 unfold setAddHashed setAddHashedIn
 refine U2j (U0 (U26 ho hd hf ?_))
 dsimp only
 rw[byScan_of hsc hb hel,if_pos rfl]
 unfold setAddByScan
 refine U0 (U0 (U39 (U0 (wpAny_setScan_of hkey ho hd hf hel ?_))))
 cases hr:List.findIdx? (fun e=>(intKind prog w).is k e.2) es.toList with
 |some j =>
  obtain⟨hj,hpj,_⟩:=List.findIdx?_eq_some_iff_getElem.mp hr
  have hk:k∈ds:=of_decide_eq_true ((hm k).mpr ⟨es.toList[j],U3c hj,hpj⟩)
  refine U0e (U0e ?_)
  have q:=h false s.heap (U1c.refl a s.heap) (by
   have e:Ek ds k=ds:=by unfold Ek;rw[if_pos hk]
   rw[e];exact⟨nd,o,es,ep,t,ho,hex,hd,hel,hm,hb,hf,hn,ht⟩)
  cases s;exact q
 |none =>
  have hk:k ∉ ds:=fun z=>by
   obtain⟨e,he,hp⟩:=(hm k).mp (decide_eq_true z)
   have q:=List.findIdx?_eq_none_iff.mp hr e he
   rw[hp] at q;cases q
  have eA:Ek ds k=ds++[k]:=by unfold Ek;rw[if_neg hk]
  have p:=layNew_perm t es ((intKind prog w).hash k) (.int k t0)
  have f:=layNew_fits t es ((intKind prog w).hash k) (.int k t0)
  have tb:=cV ht es ((intKind prog w).hash k) (.int k t0)
  generalize layNew t es ((intKind prog w).hash k) (.int k t0)=LL at p f tb
  obtain⟨es1,t1,dummy,gave⟩:=LL
  dsimp only at p f tb ⊢
  rw[U8f] at p
  have hel1:ElemsOf (intKind prog w) es1.toList:=(hel.push hkey hsc).perm p
  have sz:es1.size=(Ek ds k).length:=by
   have q:=p.length_eq
   rw[U0g,U0p,U4k,U0g] at q
   rw[q,eA,U0p,U4k,hn]
  have hm1:∀j,decide (j∈Ek ds k)=true↔∃e∈es1.toList,(intKind prog w).is j e.2=true:=fun j=>by
   rw[←mem_push_iff (S:=fun k'=>decide (k'∈ds)) hkey hm p j]
   simp only[decide_eq_true_eq,Bool.or_eq_true,WR]
  have hb1:es1.size<scanBound:=by rw[sz,eA,U0p,U4k];exact room
  refine U0 ?_
  have gw:∀(b:Bool)(s₁:Shared)(Q':Unit->Shared->Prop),Q' () s₁->wpAny `am A (match b with|true=>rule "set.scan.the-table-gave-way"|false=>pure ()) Q' E s₁:=fun b s₁ Q' q=>by
   cases b
   .exact U0e q
   .exact U39 q
  refine gw _ _ _ ?_
  split
  .refine U0 ?_
   rw[hashByValue_scannable 8 hsc]
   refine U0e (Ww gw ho hex hd (Tv nd k) hel1 hm1 hb1 ?_ sz ?_ fun h' sb T=>U0e (h true h' sb T))
   .split
    .exact f
    .exact SetTable.fits_plain_off f
   .split
    .exact tb
    .exact tb.nA false
  .refine U0 (U0e ?_)
   rw[if_pos rfl]
   exact Ww gw ho hex hd (Tv nd k) hel1 hm1 hb1 f sz tb fun h' sb T=>U0e (h true h' sb T)
end
end SetP
end
section
set_option maxRecDepth 100000
namespace SetP
open PySem PyProof.Rows
theorem Wg:entryFor table "set.update.loop"=some Builtin.«set.update.loop»:=entryFor_of_tree (by kernel_rfl)
theorem RJ:plainId "set.update.loop"=true:=by decide +kernel
def once(ns:List Int):List Int:=ns.foldl Ek []
theorem gC(ns:List Int)(k:Int):once (ns++[k])=Ek (once ns) k:=by unfold once;rw[U49];rfl
theorem Ie:∀(ns:List Int),(once ns).Nodup/\(once ns).length<=ns.length/\∀j,j∈once ns↔j∈ns:=by
 intro ns
 have all:∀(ns ds:List Int),ds.Nodup->(ns.foldl Ek ds).Nodup/\(ns.foldl Ek ds).length<=ds.length+ns.length/\∀j,j∈ns.foldl Ek ds↔j∈ds∨j∈ns:=by
  intro ns
  induction ns with
  |nil=>intro ds h;exact⟨h,by simp,fun j=>by simp⟩
  |cons n r ih =>
   intro ds h
   obtain⟨a,b,c⟩:=ih (Ek ds n) (Tv h n)
   refine⟨a,?_,fun j=>?_⟩
   .have:=iH ds n
    rw[U2t,U0f];lia
   .rw[U2t,c j,WR,U0h]
    constructor
    .rintro((z|z)|z)
     .exact .inl z
     .exact .inr (.inl z)
     .exact .inr (.inr z)
    .rintro(z|z|z)
     .exact .inl (.inl z)
     .exact .inl (.inr z)
     .exact .inr z
 obtain⟨a,b,c⟩:=all ns [] U6r
 exact⟨a,by rw[U1m,U3b] at b;exact b,fun j=>by rw[show once ns=ns.foldl Ek [] from rfl,c j];simp⟩
theorem Ym:∀(ns ds:List Int),ds.length<=(ns.foldl Ek ds).length
 |[],ds=>U0l _
 |n::r,ds=>by
  have h:ds.length<=(Ek ds n).length:=by
   unfold Ek
   split<;>simp
  exact U1b h (Ym r (Ek ds n))
theorem gB(ns:List Int)(i:Nat):(once (ns.take i)).length<=(once ns).length:=by
 have:=Ym (ns.drop i) (once (ns.take i))
 unfold once at this ⊢
 rw[←U49,U1t] at this
 exact this
section
variable{prog:Program}{w:World}{A:Around}{E:Value->Shared->Prop}{s:Shared}
theorem j7{R:Result->Shared->Prop}{S I l:Addr}{items:Array Value}(hh:A.handled=none)(hSI:S<I)(hlS:l<S)(P:Nat->Heap->Prop)
  (keep:∀i h h',(∀b o,b<=S->h.get? b=some o->h'.get? b=some o)->P i h->P i h')
  (step:∀(i:Nat)(hi:i<items.size)(s:Shared)(Q:Bool->Shared->Prop)(E:Value->Shared->Prop),P i s.heap->(∀b h' tk,U1c S s.heap h'->P (i+1) h'->Q b { s with heap:=h',toks:=tk })->wpAny (model prog w) A.in1 (setAdd S items[i]) Q E s) :
  ∀(k i:Nat)(s:Shared),items.size-i=k->i<=items.size->s.heap.IsListIter I l i->s.heap.IsList l items->P i s.heap ->
   (∀h' tk,(∀b o,b≠S->b≠I->s.heap.get? b=some o->h'.get? b=some o)->P items.size h'->R (.ok (.ret .none)) { s with heap:=h',toks:=tk }) ->
   codeAny `am A (.builtin "set.update.loop" ⟨[.ref S,.ref I],[]⟩) R s:=by
 have nSI:S≠I:=U02 hSI
 have nSl:S≠l:=U4d hlS
 have nIl:I≠l:=U4d (U4c hlS hSI)
 intro k
 induction k with
 |zero =>
  intro i s hk hi' it il T hR
  have e:i=items.size:=by lia
  subst e
  refine codeAny_builtin Wg ?_
  rw[U5d RJ _]
  show wpAny _ A.in1 (pyNext (.ref I) >>= _) _ _ s
  refine U0 (wpAny_pyNext_list_end hh it il (by simp) fun h' eb=>?_)
  show wpAny _ A.in1 (ret U3) _ _ _
  exact U0e (hR h' s.toks (fun b o _ hbI q=>eb b o hbI q) (keep _ _ _ (fun b o hb q=>eb b o (U02 (U4l hb hSI)) q) T))
 |succ k ih =>
  intro i s hk hi' it il T hR
  have hlt:i<items.size:=by lia
  refine codeAny_builtin Wg ?_
  rw[U5d RJ _]
  show wpAny _ A.in1 (pyNext (.ref I) >>= _) _ _ s
  refine U0 (wpAny_pyNext_list_item it il (x:=items[i]) (by simp[hlt]) fun h1 it1 sb1=>?_)
  show wpAny _ A.in1 (holding [items[i]] (setAdd S items[i]) >>= _) _ _ _
  have T1:P i h1:=keep _ _ _ (fun b o hb q=>(sb1.2 b (U02 (U4l hb hSI))).trans q) T
  have il1:h1.IsList l items:=by
   obtain⟨o,ho,r⟩:=il
   exact⟨o,(sb1.2 l nIl.symm).trans ho,r⟩
  refine U0 (U2j (step i hlt { s with heap:=h1 } _ _ T1 fun b h2 t2 sb2 T2=>?_))
  refine U0e ⟨plainId_quiet RJ _,ih (i+1) _ (by lia) hlt ?_ ?_ T2 fun h' tk hk' T'=>?_⟩
  .obtain⟨o,ho,r⟩:=it1
   exact⟨o,(sb2.2 I nSI.symm).trans ho,r⟩
  .obtain⟨o,ho,r⟩:=il1
   exact⟨o,(sb2.2 l nSl.symm).trans ho,r⟩
  .exact hR h' tk (fun c o hcS hcI q=>hk' c o hcS hcI ((sb2.2 c hcS).trans ((sb1.2 c hcI).trans q))) T'
theorem xO(a:Value){Q₁:Value->Shared->Prop}
  (h:Q₁ `bq { s with heap:=s.heap.push { cls:=.type "set",dict:=none,data:=.set #[] 0 (.fresh 0 0 (Ik w)) } }) :
  codeAny `am A (.call (.builtin "set.__new__") ⟨[.type "set",a],[]⟩) (wants Q₁ E) s:=by
 refine codeAny_of_tree ?_
 have hck:checkBuiltinCall "set.__new__" ⟨[.type "set",a],[]⟩=pure ():=by kernel_rfl
 show wpAny _ A.in1 (checkBuiltinCall "set.__new__" ⟨[.type "set",a],[]⟩ >>= fun _=>again (.builtin "set.__new__" ⟨[.type "set",a],[]⟩)) _ _ s
 rw[hck]
 refine U0 (U0e (U0e ⟨plainId_quiet F.plain_set_new _,codeAny_builtin F.entry_set_new ?_⟩))
 rw[U5d F.plain_set_new _]
 have hsub:=sub_set_self
 unfold Builtin.«set.__new__» Builtin.Frozenset.newClass
 obtain⟨hp,g,d,tk,os⟩:=s
 dsimp only
 wp_walk
 refine U5k (U0e ?_)
 simp only[newObj]
 exact U0 (wpAny_alloc (U0e (U0e h)))
theorem kE{M:Model}{self a:Value}{Q:Unit->Shared->Prop}(hT:s.TypeIs self "set")(hQ:Q () s):wpAny M A (checkBuiltinCall "set.__init__" ⟨[self,a],[]⟩) Q E s:=by
 simp only[checkBuiltinCall,kind_set_init,split_set_init,sig_set_init]
 refine U0 (U68 hT sub_set_self ?_)
 simp only[U36,U0s,if_false]
 unfold Bind.checkArgs
 dsimp only
 refine U0 (m:=Bind.printed "set" true _ _) (printed_name (by decide) ?_)
 refine U0 (m:=Bind.printed "*" false _ _) (printed_star (self:=self) rfl hT fun short=>?_)
 have one:(if (U6z.self==U6z.none)=true then [self,a].length else [self,a].length-1)=1:=by
  have z:(U6z.self==U6z.none)=false:=by decide
  simp[z]
 rw[one]
 simp only[U2a]
 have z1:(U45==U45)=true:=by decide
 have z2:(U45==U4w.posOrKw)=false:=by decide
 have z3:(U45==U4w.varPos)=false:=by decide
 have fine:Bind.check ⟨.positional,"set","*",.self,[⟨"iterable",.posOnly,false⟩]⟩ "set" short 1 []=pure ():=by
  simp[Bind.check,Bind.checkCount,Bind.isPositional,z1,z2,z3]
 rw[fine]
 exact U0e hQ
set_option maxHeartbeats 3200000 in
theorem Zy{l:Addr}{items:Array Value}{Q:Value->Shared->Prop}(hh:A.handled=none)(hl:s.heap.IsList l items)(P:Nat->Heap->Prop)
  (keep:∀i h h',(∀b o,b<=s.heap.objs.size->h.get? b=some o->h'.get? b=some o)->P i h->P i h')
  (step:∀(A':Around),A'.units<=A.units+4->∀(i:Nat)(hi:i<items.size)(s':Shared)(Q:Bool->Shared->Prop)(E:Value->Shared->Prop),P i s'.heap->(∀b h' tk,U1c s.heap.objs.size s'.heap h'->P (i+1) h'->Q b { s' with heap:=h',toks:=tk })->wpAny (model prog w) A' (setAdd s.heap.objs.size items[i]) Q E s')
  (init:∀h',(∀b o,s.heap.get? b=some o->h'.get? b=some o)->h'.get? s.heap.objs.size=some { cls:=.type "set",dict:=none,data:=.set #[] 0 (.fresh 0 0 (Ik w)) }->P 0 h')
  (h:∀h' tk,(∀b o,s.heap.get? b=some o->h'.get? b=some o)->P items.size h'->Q `bq { s with heap:=h',toks:=tk }) :
  wpAny `am A (call (.type "set") [.ref l]) Q E s:=by
 have hmade:=U5l.made
 have hsub:=U5l.sub
 have h1:=U5l.notType
 have h2:=U5l.canCreate
 have hct:checkTypeCall "set" ⟨[.ref l],[]⟩=pure ():=by kernel_rfl
 obtain⟨c,tl,hmro⟩:=U5l.mro
 refine wpAny_call (codeAny_of_tree ?_)
 show wpAny _ _ (callAny (.type "set") ⟨[.ref l],[]⟩) _ _ s
 refine U0e ⟨Code.quiet_builtin _ (by decide +kernel),codeAny_builtin F.entry_type_call ?_⟩
 rw[Around.under_plain (weight_type_call_type "set" [.ref l] []) rfl]
 repeat (any_goals (first|assumption|wp_step))
 refine codeAny_mono (xO (.ref l) (E:=E) (Q₁:=fun obj s₁=>obj=.ref s.heap.objs.size/\s₁={ s with heap:=s.heap.push { cls:=.type "set",dict:=none,data:=.set #[] 0 (.fresh 0 0 (Ik w)) } }) ⟨rfl,rfl⟩) fun r s₁ hr=>?_
 cases r with
 |error e=>exact hr
 |ok fl =>
  cases fl with
  |ret obj =>
   obtain⟨rfl,rfl⟩:=hr
   generalize hg1:s.heap.push { cls:=.type "set",dict:=none,data:=.set #[] 0 (.fresh 0 0 (Ik w)) }=g1
   have e1:g1.get? s.heap.objs.size=some { cls:=.type "set",dict:=none,data:=.set #[] 0 (.fresh 0 0 (Ik w)) }:=hg1 ▸ U0u _ rfl
   have k1:∀b o,s.heap.get? b=some o->g1.get? b=some o:=fun b o q=>hg1 ▸ U0c _ q
   have z1:g1.objs.size=s.heap.objs.size+1:=by rw[←hg1,U2u]
   have hT:U78 { s with heap:=g1 } (.ref s.heap.objs.size) "set":=⟨_,e1,rfl⟩
   have hli:=U5l.init.lookup
   have hbi:=U5l.init.bind `bq
   repeat (any_goals (first|assumption|wp_step))
   refine codeAny_mono (codeAny_call_builtin (R:=wants (fun r s₂=>r=.none/\∃h' tk,s₂={ s with heap:=h',toks:=tk }/\(∀b o,s.heap.get? b=some o->h'.get? b=some o)/\P items.size h') E)
    U5l.init.plain F.entry_set_init (kE hT ?_)) fun r₂ s₂ hr₂=>?_
   .obtain⟨ol,hol,hcl,nl,hdl⟩:=hl
    obtain⟨ocls,odict,odata,oslots⟩:=ol
    simp only at hcl hdl
    subst hcl hdl
    have q1:g1.get? l=some { cls:=.type "list",dict:=odict,data:=.seq items nl,slots:=oslots }:=k1 _ _ hol
    have il:g1.IsList l items:=⟨_,q1,rfl,nl,rfl⟩
    have hlS:l<s.heap.objs.size:=U0o hol
    have hs1:isSubtype (.type "list") (.type "set")=pure false:=by rw[isSubtype_type];kernel_rfl
    have hs2:isSubtype (.type "list") (.type "frozenset")=pure false:=by rw[isSubtype_type];kernel_rfl
    have hs3:(U22 "list"==U22 "dict")=false:=by decide
    unfold Builtin.«set.__init__» noKeywords Builtin.Frozenset.updateFrom
    generalize hPI:pyIter=PI
    wp_walk
    subst hPI
    refine U5x il (U0 (wpAny_runValue ?_))
    refine j7 (l:=l) (items:=items) (by simpa using hh) (by rw[z1];exact U58 _) hlS P keep (fun i hi s' Q' E'=>step _ ?_ i hi s' Q' E') (items.size-0) 0 _ (by lia) (U25 _) ⟨_,U0u _ rfl,rfl,rfl⟩ ?_ ?_ ?_
    .simp
    .obtain⟨o,ho,r⟩:=il
     exact⟨o,U0c _ ho,r⟩
    .exact init _ (fun b o q=>U0c _ (k1 b o q)) (U0c _ e1)
    .intro h' tk hk T
     show wpAny _ _ _ _ _ _
     refine U0e ?_
     show wpAny _ _ (ret U3) _ _ _
     refine U0e ⟨rfl,h',tk,rfl,fun b o q=>?_,T⟩
     have hb':=U0o q
     exact hk b o (U02 hb') (by rw[z1];exact U02 (U5y hb')) (U0c _ (k1 b o q))
   .cases r₂ with
    |error e=>exact hr₂
    |ok fl₂ =>
     cases fl₂ with
     |ret r =>
      obtain⟨rfl,h',tk,rfl,hk,T⟩:=hr₂
      repeat (any_goals (first|assumption|wp_step))
      exact h h' tk hk T
     |_=>exact hr₂.elim
  |_=>exact hr.elim
theorem nZ{l:Addr}{items:Array Value}{ns:List Int}{Q:Value->Shared->Prop}(hh:A.handled=none)(hl:s.heap.IsList l items)(hi:IntsAre items.toList ns)(hb:(once ns).length+1<scanBound)
  (h:∀h' tk,(∀b o,s.heap.get? b=some o->h'.get? b=some o)->SetT prog w h' s.heap.objs.size (once ns)->Q `bq { s with heap:=h',toks:=tk }) :
  wpAny `am A (call (.type "set") [.ref l]) Q E s:=by
 have hlen:items.size=ns.length:=by have:=hi.length;simpa using this
 refine Zy hh hl (fun i h=>SetT prog w h s.heap.objs.size (once (ns.take i))) (fun i h h' k T=>T.sameBut fun o q=>k _ o (U0l _) q) (fun A' _ i hlt s' Q' E' T hQ=>?_) (fun h' k e=>?_) fun h' tk k T=>?_
 .have hn:i<ns.length:=by lia
  obtain⟨t0,hv⟩:∃t0,items[i]=.int ns[i] t0:=by
   have all:∀{vs:List Value} {ms:List Int},IntsAre vs ms->∀(j:Nat)(h1:j<vs.length)(h2:j<ms.length),∃t0,vs[j]=.int ms[j] t0:=by
    intro vs ms r
    induction r with
    |nil=>intro j h1;simp at h1
    |cons n t _ ih=>intro j h1 h2;cases j with
     |zero=>exact⟨t,rfl⟩
     |succ j=>exact ih j (by simpa using h1) (by simpa using h2)
   have q:=all hi i (by simpa using hlt) hn
   simpa using q
  rw[hv]
  unfold setAdd
  refine U2j (U0 ((intKind prog w).pyHash (k:=ns[i]) (intKind_is _ _ _ _) ?_))
  refine Zq (s:={ s' with toks:=s'.toks+1 }) T (by have q:=gB ns i;lia) fun b h2 sb2 T2=>hQ _ _ _ sb2 ?_
  rw[List.take_succ_eq_append_getElem hn,gC];exact T2
 .exact⟨U6r,_,#[],0,_,e,⟨rfl,rfl,rfl⟩,rfl,fun e he=>by simp at he,fun k=>by simp[once],by decide,by rfl,rfl,TabOk.fresh _ _ _⟩
 .rw[U12 (by lia)] at T
  exact h h' tk k T
end
end SetP
end
section
set_option maxRecDepth 100000
namespace SetP
open PySem PyProof.Rows
theorem QV{Zs:Type}:∀(l:List Zs)(i:Nat)(h:i<l.length),(l[i]::l.eraseIdx i).Perm l
 |[],i,h=>absurd h (by simp)
 |x::r,0,_=>U5g _
 |x::r,i+1,h=>(U17.swap x _ _).trans (U51 x (QV r i (by simpa using h)))
theorem SJ:∀{ds ns:List Int},ds.Nodup->(∀k,k∈ds->k∈ns)->ns.length<=ds.length->ns.Perm ds
 |[],ns,_,_,h=>by
  have e:ns=[]:=U3q.mp (by simpa using h)
  rw[e]
 |d::r,ns,nd,sub,h=>by
  have hd:d∈ns:=sub d U0i
  have p:=List.perm_cons_erase hd
  obtain⟨h1,h2⟩:=U3y.mp nd
  refine p.trans (U51 d (SJ h2 (fun k hk=>?_) ?_))
  .have hne:k≠d:=fun e=>h1 (e ▸ hk)
   exact(U7h hne).mpr (sub k (U0k _ hk))
  .rw[U6l hd]
   rw[U0f] at h
   omega
theorem aJ{Zs:Type}(next:Nat->Nat):∀(fuel k:Nat)(left:List Zs)(out:Array Zs),left.length=fuel->(pickOrder.go next fuel k left out).toList.Perm (out.toList++left)
 |0,_,left,out,h=>by
  have e:left=[]:=U3q.mp h
  subst e
  unfold pickOrder.go
  simp
 |fuel+1,k,left,out,h=>by
  unfold pickOrder.go
  have hi:next k%left.length<left.length:=U7i _ (by omega)
  rw[U0w hi]
  dsimp only
  refine(aJ next fuel (k+1) _ _ (by rw[List.length_eraseIdx_of_lt hi];omega)).trans ?_
  rw[U8f,U04]
  exact U2e _ (QV _ _ hi)
theorem fu{Zs:Type}(next:Nat->Nat)(xs:Array Zs):(pickOrder next xs).toList.Perm xs.toList:=by
 unfold pickOrder
 simpa using aJ next xs.size 0 xs.toList #[] (by simp)
section
variable{M:Model}{A:Around}{E:Value->Shared->Prop}
theorem cu{src:Source}{n:Nat}{s:Shared}{Q:Nat->Shared->Prop}(hn:n≠0)(h:∀i d',i<n->Q i { s with drawn:=d' }):wpAny M A (choose src n) Q E s :=
 fun _ _ _=>⟨hn,h _ _ (U7i _ (Nat.pos_of_ne_zero hn))⟩
theorem Qc{Zs:Type}:∀(n:Nat)(xs:List Zs)(s:Shared)(Q:List Zs->Shared->Prop),xs.length<=n->(∀ys d',ys.Perm xs->Q ys { s with drawn:=d' })->wpAny M A (drawOrder n xs) Q E s
 |0,xs,s,Q,h,q=>by
  have e:xs=[]:=U3q.mp (by omega)
  subst e
  unfold drawOrder
  exact U0e (q [] s.drawn (U5g _))
 |n+1,[],s,Q,h,q=>by
  unfold drawOrder
  exact U0e (q [] s.drawn (U5g _))
 |n+1,x::xs,s,Q,h,q=>by
  unfold drawOrder
  refine U0 (cu (by simp) fun i d' hi=>?_)
  rw[U0w hi]
  dsimp only
  refine U0 (Qc n _ _ _ (by rw[List.length_eraseIdx_of_lt hi];simp at h ⊢;omega) fun ys d'' p=>U0e (q _ d'' ?_))
  exact(U51 _ p).trans (QV _ _ hi)
end
theorem Es:Slot "set_iterator" "__next__" "set_iterator.__next__" :=
 .of (owner:="set_iterator") (n:="__next__") (by rw[typeLookup_type,builtinLookup_eq_fast];kernel_rfl) (by decide +kernel) (by decide +kernel) (by decide +kernel)
  (by first|exact .inl (by decide +kernel)|exact .inr (by decide +kernel)) (by rw[isSubtype_type];kernel_rfl)
theorem Ny:entryFor table "set_iterator.__next__"=some Builtin.«set_iterator.__next__»:=entryFor_of_tree (by kernel_rfl)
theorem Ob(a:Value):argsOk "set_iterator.__next__" ⟨[a],[]⟩:=by unfold argsOk;kernel_rfl
theorem W4:entryFor table "set.__iter__"=some Builtin.«frozenset.__iter__» :=
 entryFor_alias (id':="frozenset.__iter__") (by kernel_rfl) rfl (by decide +kernel) (by kernel_rfl)
def Jd(first:Value)(i:Nat)(S:Addr)(n ep:Nat):Obj:={ cls:=.type "set_iterator",data:=.fields #[first,.int i 0,.ref S,.int n 0,.int ep 0] }
inductive Road (w:World) (h:Heap) (es:Array (Int×Value)) (ep:Nat) (t:SetTable) (S it T:Addr) (vs:List Value) (i:Nat):Value->Prop
 |text (k:Int):w.params.followText "set-order"=true->(∀(j:Nat),vs[j]?=((pickOrder (w.params.setOrder S ep) es)[j]?).map fun(e:Int×Value)=>e.2)->Road w h es ep t S it T vs i (.int k 0)
 |plain:w.params.followText "set-order"=false->(!t.plain&&decide (es.size>1))=false->TabOk true t->(∀(j:Nat),vs[j]?=(es[j]?).map fun(e:Int×Value)=>e.2)->Road w h es ep t S it T vs i (.int ((if i=0 then 0 else t.place.getD (i-1) 0+1:Nat):Int) 0)
 |drawn (ps:List Nat):T≠it->h.get? T=some { cls:=.type "tuple",data:=.seq (ps.map fun(p:Nat)=>rawInt p).toArray 0 }->(∀p∈ps,p<es.size)->(∀(j:Nat),vs[j]?=(ps[j]?).bind fun p=>(es[p]?).map fun(e:Int×Value)=>e.2)->Road w h es ep t S it T vs i (.ref T)
structure MN(w:World)(h:Heap)(it S T:Addr)(vs:List Value)(i:Nat):Prop where
 ne:it≠S
 ex:∃o es ep t first,h.get? S=some o/\o.data=.set es ep t/\t.fits es.size=true/\vs.length=es.size/\h.get? it=some (Jd first i S es.size ep)/\Road w h es ep t S it T vs i first
section
variable{prog:Program}{w:World}{A:Around}{E:Value->Shared->Prop}{s:Shared}
theorem MN.keep{h h':Heap}{it S T:Addr}{vs:List Value}{i:Nat}(x:MN w h it S T vs i)(k:∀b∈[it,S,T],∀o,h.get? b=some o->h'.get? b=some o):MN w h' it S T vs i:=by
 obtain⟨ne,o,es,ep,t,first,a,b,c,d,e,r⟩:=x
 refine⟨ne,o,es,ep,t,first,k S (by simp) _ a,b,c,d,k it (by simp) _ e,?_⟩
 cases r with
 |text k1 z1 z2=>exact .text k1 z1 z2
 |plain z1 z2 z3 z4=>exact .plain z1 z2 z3 z4
 |drawn ps z1 z2 z3 z4=>exact .drawn ps z1 (k T (by simp) _ z2) z3 z4
def T4(w:World)(h:Heap)(S:Addr)(es:Array (Int×Value)):Prop:=∃o ep t,h.get? S=some o/\o.ExactSet/\o.data=.set es ep t/\es.size<scanBound/\t.fits es.size=true/\TabOk (Ik w) t
def Uw(es:Array (Int×Value))(vs:List Value):Prop:=∃l:List (Int×Value),l.Perm es.toList/\vs=l.map (·.2)
theorem T4.sameBut{h h':Heap}{a:Addr}{es:Array (Int×Value)}(x:T4 w h a es)(hs:∀o,h.get? a=some o->h'.get? a=some o):T4 w h' a es:=by
 obtain⟨o,ep,t,e,r⟩:=x
 exact⟨o,ep,t,hs o e,r⟩
theorem SetT.ints{h:Heap}{S:Addr}{ds:List Int}(hS:SetT prog w h S ds):∃es,T4 w h S es/\es.size=ds.length/\∀vs,Uw es vs->∃ns,IntsAre vs ns/\ns.Perm ds:=by
 obtain⟨nd,o,es,ep,t,ho,hex,hd,hel,hm,hb,hf,hn,ht⟩:=hS
 have intsV:∀(l:List (Int×Value)),ElemsOf (intKind prog w) l->∃ns,IntsAre (l.map (·.2)) ns/\∀k,k∈ns↔∃e∈l,(intKind prog w).is k e.2=true:=by
  intro l
  induction l with
  |nil=>intro _;exact⟨[],.nil,fun k=>by simp⟩
  |cons e r ih =>
   intro he
   obtain⟨ns,a,b⟩:=ih he.tail
   obtain⟨⟨k0,hk0,_⟩,_⟩:=he.head
   obtain⟨t0,e0⟩:=U6w (show U7y k0 e.2=true from hk0)
   refine⟨k0::ns,by rw[U0r,e0];exact .cons k0 t0 a,fun k=>?_⟩
   rw[U0h,b k]
   constructor
   .rintro(z|⟨e',he',q⟩)
    .exact⟨e,U0i,by rw[z];exact hk0⟩
    .exact⟨e',U0k _ he',q⟩
   .rintro⟨e',he',q⟩
    rcases U0h.mp he' with z|z
    .subst z;exact .inl ((intKind prog w).inj _ _ _ q hk0)
    .exact .inr ⟨e',z,q⟩
 refine⟨es,⟨o,ep,t,ho,hex,hd,hb,hf,ht⟩,hn,fun vs ⟨l,p,e⟩=>?_⟩
 subst e
 obtain⟨ns,a,b⟩:=intsV l (hel.perm p)
 refine⟨ns,a,?_⟩
 have hsub:ds ⊆ ns:=fun k hk=>(b k).mpr (by
  obtain⟨e,he,q⟩:=(hm k).mp (decide_eq_true hk)
  exact⟨e,p.mem_iff.mpr he,q⟩)
 have hle:ns.length<=ds.length:=by
  have q1:(l.map (·.2)).length=ns.length:=IntsAre.length a
  rw[U0d] at q1
  exact U89 (by rw[←q1,p.length_eq,U0g,hn])
 exact SJ nd (fun k hk=>hsub hk) hle
theorem uw{S:Addr}{es:Array (Int×Value)}{Q:Value->Shared->Prop}(hS:T4 w s.heap S es)
  (h:∀h' d' it T vs,(∀b o,s.heap.get? b=some o->h'.get? b=some o)->s.heap.objs.size<=it->(T=S∨s.heap.objs.size<=T)->MN w h' it S T vs 0->Uw es vs->Q (.ref it) { s with heap:=h',drawn:=d' }) :
  wpAny `am A (pyIter (.ref S)) Q E s:=by
 obtain⟨o,ep,t,ho,hex,hd,hb,hf,ht⟩:=hS
 have hT:s.TypeIs (.ref S) "set":=⟨o,ho,hex.1⟩
 have hlt:=U0o ho
 have fin:∀(l:List (Int×Value)),l.Perm es.toList->Uw es (l.map (·.2)):=fun l p=>⟨l,p,rfl⟩
 refine wpAny_pyIter_slot hT F.slot_set_iter (U2m F.slot_set_iter hT W4 ?_ (F.args_set_iter_1 _))
 unfold Builtin.«frozenset.__iter__» Builtin.Frozenset.slot0 slotArgs
 simp only[U8o,U36,U0s,↓reduceIte,bind_assoc,U1m,bne_self_eq_false]
 unfold Builtin.Frozenset.addrOf Builtin.Frozenset.sizeOf
 refine U0 (U0e ?_)
 try dsimp only
 refine U0 (U0e ?_)
 refine U0 (U0 (U7s ho hd hf (U0e ?_)))
 unfold setDrawn setsByText
 simp only[bind_assoc]
 refine U0 (U26 ho hd hf ?_)
 refine U0 (U5k ?_)
 refine U0 (U0e (U0 (U0e ?_)))
 show wpAny `am A.in1 (if (!(w.params.followText "set-order")&&(!t.plain&&decide (es.size>1)))=true then _ else _) _ _ s
 have len2:∀(ps:List Nat),ps.Perm (U3e es.size)->((ps.filterMap fun p=>es[p]?)).Perm es.toList/\∀(j:Nat),((ps.filterMap fun p=>es[p]?).map (·.2))[j]?=(ps[j]?).bind fun p=>(es[p]?).map fun(e:Int×Value)=>e.2:=fun ps p=>by
  refine⟨(p.filterMap _).trans (by rw[filterMap_getElem?_range]),?_⟩
  have all:∀(ps:List Nat),(∀p∈ps,p<es.size)->∀(j:Nat),((ps.filterMap fun p=>es[p]?).map (·.2))[j]?=(ps[j]?).bind fun p=>(es[p]?).map fun(e:Int×Value)=>e.2:=by
   intro ps
   induction ps with
   |nil=>intro _ j;simp
   |cons q r ih =>
    intro hq j
    have hq':q<es.size:=hq q U0i
    rw[List.filterMap_cons_some (b:=es[q]) (by simp[hq'])]
    cases j with
    |zero=>simp[hq']
    |succ j=>simpa using ih (fun p hp=>hq p (U0k _ hp)) j
  exact all ps fun q hq=>U2y.mp (p.mem_iff.mp hq)
 split
 .rename_i hc
  refine U0 (Qc es.size (U3e es.size) s _ (by simp) fun ps d' p=>?_)
  obtain⟨p1,p2⟩:=len2 ps p
  refine U0 (U2n ?_ ?_)
  .refine U0 (wpAny_setEpoch_of (U0c _ ho) hd hf ?_)
   refine U0 (U2n (U0e ⟨_,rfl,"set_iterator",_,⟨_,U0u _ rfl,rfl⟩,Es.lookup,?_⟩))
   refine h _ d' _ s.heap.objs.size ((ps.filterMap fun p=>es[p]?).map (·.2)) (fun b o' e=>U0c _ (U0c _ e)) ?_ (.inr (U0l _)) ?_ (fin _ p1)
   .show s.heap.objs.size<=(s.heap.push _).objs.size
    rw[U2u];exact U6c _
   .refine⟨?_,o,es,ep,t,_,U0c _ (U0c _ ho),hd,hf,?_,U0u _ rfl,.drawn ps ?_ (U0c _ (U0u _ rfl)) (fun q hq=>U2y.mp (p.mem_iff.mp hq)) p2⟩
    .show(s.heap.push _).objs.size≠S
     rw[U2u];exact U4d (U5y hlt)
    .rw[U0d,p1.length_eq,U0g]
    .show s.heap.objs.size≠(s.heap.push _).objs.size
     rw[U2u];exact U02 (U58 _)
  .show _<=sizeLine
   rw[U0n,U0d,p.length_eq,U5z]
   exact fits_of_scanBound hb
 .rename_i hc
  refine U0 (U0e (U0 (wpAny_setEpoch_of ho hd hf ?_)))
  refine U0 (U2n (U0e ⟨_,rfl,"set_iterator",_,⟨_,U0u _ rfl,rfl⟩,Es.lookup,?_⟩))
  by_cases ht':w.params.followText "set-order"=true
  .have pp:=fu (w.params.setOrder S ep) es
   have q:=h (s.heap.push (Jd (rawInt 0) 0 S es.size ep)) s.drawn s.heap.objs.size S ((pickOrder (w.params.setOrder S ep) es).toList.map (·.2)) (fun b o' e=>U0c _ e) (U0l _) (.inl rfl)
    ⟨U4d hlt,o,es,ep,t,_,U0c _ ho,hd,hf,by rw[U0d,pp.length_eq,U0g],U0u _ rfl,.text 0 ht' fun j=>by rw[U07,U1a]⟩ (fin _ pp)
   exact q
  .have hf':w.params.followText "set-order"=false:=by simpa using ht'
   have hL:Ik w=true:=by show(!_)=true;rw[hf'];rfl
   rw[hL] at ht
   have hdr:(!t.plain&&decide (es.size>1))=false:=by
    rw[hf'] at hc
    simpa using hc
   have q:=h (s.heap.push (Jd (rawInt 0) 0 S es.size ep)) s.drawn s.heap.objs.size S (es.toList.map (·.2)) (fun b o' e=>U0c _ e) (U0l _) (.inl rfl)
    ⟨U4d hlt,o,es,ep,t,_,U0c _ ho,hd,hf,by rw[U0d,U0g],U0u _ rfl,.plain hf' hdr ht fun j=>by rw[U07,U1a]⟩ (fin _ (U5g _))
   exact q
end
end SetP
end
section
set_option maxRecDepth 100000
namespace SetP
open PySem PyProof.Rows
section
variable{prog:Program}{w:World}{A:Around}{E:Value->Shared->Prop}{s:Shared}
theorem V5(first x:Value)(i:Nat)(S:Addr)(n ep:Nat):U4p (·.setIfInBounds 0 x) (Jd first i S n ep)=Jd x i S n ep:=rfl
theorem cX(first:Value)(i:Nat)(S:Addr)(n ep:Nat):U4p (·.setIfInBounds 1 (rawInt ((i:Int)+1))) (Jd first i S n ep)=Jd first (i+1) S n ep:=rfl
theorem RT{S:Addr}{o:Obj}{es:Array (Int×Value)}{ep slot given:Nat}{t:SetTable}{Q:Option (Value×Nat)->Shared->Prop}(ho:s.heap.get? S=some o)(hd:o.data=.set es ep t)(hf:t.fits es.size=true)
  (z:w.params.followText "set-order"=true) (h:Q (((pickOrder (w.params.setOrder S ep) es)[given]?).map fun e=>(e.2,slot)) s):wpAny `am A (setNext S slot given ep) Q E s:=by
 unfold setNext
 refine U0 (U26 ho hd hf ?_)
 unfold setsByText
 refine U0 (U0 (U5k (U0e ?_)))
 show wpAny _ _ (if (w.params.followText "set-order")=true then _ else _) _ _ s
 rw[if_pos z]
 show wpAny _ _ (if (ep != ep)=true then _ else _) _ _ s
 rw[if_neg (by simp)]
 unfold setWalk
 refine U0 (U0 (U26 ho hd hf ?_))
 unfold setsByText
 refine U0 (U0 (U5k (U0e ?_)))
 show wpAny _ _ (if (w.params.followText "set-order")=true then _ else _) _ _ s
 rw[if_pos z]
 exact U0 (U5k (U0e (U0e h)))
theorem QW{S:Addr}{o:Obj}{es:Array (Int×Value)}{ep slot given:Nat}{t:SetTable}{Q:Option (Value×Nat)->Shared->Prop}(ho:s.heap.get? S=some o)(hd:o.data=.set es ep t)(hf:t.fits es.size=true)
  (z:w.params.followText "set-order"=false) (z2:(!t.plain&&decide (es.size>1))=false) (z3:t.led=true)
  (h:Q (match es[U1f t.place slot]?,t.place[U1f t.place slot]? with|some (_,x),some j=>some (x,j+1)|_,_=>none) s):wpAny (model prog w) A (setNext S slot given ep) Q E s:=by
 unfold setNext
 refine U0 (U26 ho hd hf ?_)
 unfold setsByText
 refine U0 (U0 (U5k (U0e ?_)))
 show wpAny _ _ (if (w.params.followText "set-order")=true then _ else _) _ _ s
 rw[if_neg (by rw[z];simp)]
 show wpAny _ _ (if (!t.plain&&decide (es.size>1))=true then _ else _) _ _ s
 rw[if_neg (by rw[z2];simp)]
 refine U0 ?_
 show wpAny _ _ (if (!t.led&&!es.isEmpty)=true then _ else _) _ _ s
 rw[if_neg (by rw[z3];simp)]
 exact U0e (U0e h)
theorem cP{it S T:Addr}{vs:List Value}{i:Nat}{v:Value}{Q:Option Value->Shared->Prop}(x:MN w s.heap it S T vs i)(hv:vs[i]?=some v)
  (h:∀h',U1c it s.heap h'->MN w h' it S T vs (i+1)->Q (some v) { s with heap:=h' }):wpAny (model prog w) A (pyNext (.ref it)) Q E s:=by
 obtain⟨ne,o,es,ep,t,first,ho,hd,hf,hl,hi,r⟩:=x
 have hT:s.TypeIs (.ref it) "set_iterator":=⟨_,hi,rfl⟩
 unfold pyNext
 refine U0 (U6a (wpAny_callSpecial?_slot (name:=U4v "__next__") hT Es (U2m Es hT Ny ?_ (Ob _))))
 unfold Builtin.«set_iterator.__next__» slotArgs
 simp only[U8o,U36,U0s,↓reduceIte,U1m,bne_self_eq_false]
 refine U0 (U0e ?_)
 refine U0 (wpAny_fieldsOf hi rfl ?_)
 show wpAny _ _ (setEntries S >>= _) _ _ s
 refine U0 (U7s ho hd hf ?_)
 show wpAny _ _ (if ((es.size:Int) != (es.size:Int))=true then _ else _) _ _ s
 rw[if_neg (by simp)]
 have lt:i<vs.length:=(U0j.mp hv).1
 have upd1:∀{h1:Heap} {f1:Value},h1.get? it=some (Jd f1 i S es.size ep)->(h1.update it (U4p (·.setIfInBounds 1 (rawInt ((i:Int)+1))))).get? it=some (Jd f1 (i+1) S es.size ep):=fun {h1 f1} e=>by
  rw[←cX f1 i S es.size ep];exact U3i _ e rfl
 have upd0:∀{h1:Heap} {f1 y:Value},h1.get? it=some (Jd f1 i S es.size ep)->(h1.update it (U4p (·.setIfInBounds 0 y))).get? it=some (Jd y i S es.size ep):=fun {h1 f1 y} e=>by
  rw[←V5 f1 y i S es.size ep];exact U3i _ e rfl
 cases r with
 |text k z1 z2 =>
  show wpAny _ _ (setNext S k.toNat i ep >>= _) _ _ s
  refine U0 (RT ho hd hf z1 ?_)
  have q:=z2 i
  rw[hv] at q
  cases hp:(pickOrder (w.params.setOrder S ep) es)[i]? with
  |none=>rw[hp] at q;cases q
  |some e =>
   rw[hp] at q
   have q':v=e.2:=U00 q
   subst q'
   refine U0 (U3w hi rfl (by simp) (U0 (U3w (upd0 hi) rfl (by simp) (U0e ⟨_,rfl,U0e (h _ ((U13 ..).trans (U13 ..)) ⟨ne,o,es,ep,t,_,?_,hd,hf,hl,upd1 (upd0 hi),.text _ z1 z2⟩)⟩))))
   rw[U1n _ _ ne,U1n _ _ ne];exact ho
 |plain z1 z2 z3 z4 =>
  show wpAny _ _ (setNext S (Int.toNat ((if i=0 then 0 else t.place.getD (i-1) 0+1:Nat):Int)) i ep >>= _) _ _ s
  rw[U5]
  refine U0 (QW ho hd hf z1 z2 z3.2 ?_)
  have psz:t.place.size=es.size:=by
   have q:=hf
   simp only[U79,U0v,beq_iff_eq] at q
   exact q.1
  have hb:U1f t.place (if i=0 then 0 else t.place.getD (i-1) 0+1)=i:=by
   cases i with
   |zero=>rw[if_pos rfl];exact VF z3.1
   |succ i=>rw[if_neg (by lia)];exact VG z3.1 (by lia)
  rw[hb]
  have q:=z4 i
  rw[hv] at q
  have hie:i<es.size:=by lia
  have hip:i<t.place.size:=by lia
  rw[U05 hie] at q ⊢
  rw[U05 hip]
  have q':v=es[i].2:=U00 q
  subst q'
  show wpAny _ _ (setField (.ref it) 0 (rawInt ((t.place[i]+1:Nat):Int)) >>= _) _ _ s
  refine U0 (U3w hi rfl (by simp) (U0 (U3w (upd0 hi) rfl (by simp) (U0e ⟨_,rfl,U0e (h _ ((U13 ..).trans (U13 ..)) ⟨ne,o,es,ep,t,_,?_,hd,hf,hl,upd1 (upd0 hi),?_⟩)⟩))))
  .rw[U1n _ _ ne,U1n _ _ ne];exact ho
  .have e:t.place[i]=t.place.getD (i+1-1) 0:=by
    rw[U16,Nat.add_sub_cancel,U05 hip];rfl
   have rr:∀hp:Heap,Road w hp es ep t S it T vs (i+1) (.int ((t.place[i]+1:Nat):Int) 0):=fun hp=>by
    have r1:Road w hp es ep t S it T vs (i+1) (.int ((if i+1=0 then 0 else t.place.getD (i+1-1) 0+1:Nat):Int) 0):=.plain z1 z2 z3 z4
    rw[if_neg (by lia),←e] at r1
    exact r1
   exact rr _
 |drawn ps z1 z2 z3 z4 =>
  show wpAny _ _ (seqItems? (.ref T) >>= _) _ _ s
  refine U0 (U3j z2 rfl ?_)
  have q:=z4 i
  rw[hv] at q
  cases hp:ps[i]? with
  |none=>rw[hp] at q;cases q
  |some p =>
   rw[hp] at q
   have hlt:p<es.size:=z3 p (U1p hp)
   have q2:some v=(es[p]?).map fun(e:Int×Value)=>e.2:=q
   rw[U05 hlt] at q2
   have q':v=es[p].2:=U00 q2
   subst q'
   have hg:((ps.map fun(p:Nat)=>rawInt p).toArray)[i]?=some (rawInt p):=by
    rw[U52,U07,hp];rfl
   show wpAny _ _ (match ((ps.map fun(p:Nat)=>rawInt p).toArray)[(i:Int).toNat]? with|some (.int place _)=>_|some _=>_|none=>_) _ _ s
   rw[U5,hg]
   show wpAny _ _ (setNextDrawn S p ep >>= _) _ _ s
   unfold setNextDrawn
   refine U0 (U0 (U26 ho hd hf ?_))
   show wpAny _ _ (if (ep != ep)=true then _ else _) _ _ s
   rw[if_neg (by simp)]
   dsimp only
   rw[U05 hlt]
   refine U0e ?_
   refine U0 (U3w hi rfl (by simp) (U0e ⟨_,rfl,U0e (h _ (U13 ..) ⟨ne,o,es,ep,t,_,?_,hd,hf,hl,upd1 hi,.drawn ps z1 ?_ z3 z4⟩)⟩))
   .rw[U1n _ _ ne];exact ho
   .rw[U1n _ _ z1.symm];exact z2
theorem gF{it S T:Addr}{vs:List Value}{Q:Option Value->Shared->Prop}(hh:A.handled=none)(x:MN w s.heap it S T vs vs.length)
  (h:∀h',U7z it s.heap h'->Q none { s with heap:=h' }):wpAny (model prog w) A (pyNext (.ref it)) Q E s:=by
 obtain⟨ne,o,es,ep,t,first,ho,hd,hf,hl,hi,r⟩:=x
 have hT:s.TypeIs (.ref it) "set_iterator":=⟨_,hi,rfl⟩
 unfold pyNext
 refine U0 (U6a (wpAny_callSpecial?_slot (name:=U4v "__next__") hT Es (U2m Es hT Ny ?_ (Ob _))))
 unfold Builtin.«set_iterator.__next__» slotArgs
 simp only[U8o,U36,U0s,↓reduceIte,U1m,bne_self_eq_false]
 refine U0 (U0e ?_)
 refine U0 (wpAny_fieldsOf hi rfl ?_)
 show wpAny _ _ (setEntries S >>= _) _ _ s
 refine U0 (U7s ho hd hf ?_)
 show wpAny _ _ (if ((es.size:Int) != (es.size:Int))=true then _ else _) _ _ s
 rw[if_neg (by simp)]
 have stop:∀{s1:Shared},U7z it s.heap s1.heap->s1={ s with heap:=s1.heap }->wpAny (model prog w) A.in1 (newExc (.type "StopIteration") [] >>= fun e=>(raiseNew e:Sem Fin)) (fun fin s'=>∃v,fin=.done (.ret v)/\wpAny (model prog w) A (pure (some v)) Q E s')
   (fun e s'=>wpAny `am A (do if ←isInstance e (.type "StopIteration") then pure none else throw e) Q E s') s1:=fun {s1} eb es1=>by
  refine U0 ?_
  simp only[newExc,newTuple]
  refine U0 (U2n ?_ (by size_fits))
  refine U0 (m:=firstArgMember _ _) (wpAny_of_eq (a:=U3) (by first|rfl|(simp only[firstArgMember];rfl)) ?_)
  refine U2n ?_ (by size_fits)
  simp only[raiseNew]
  refine U0 (wpAny_handled ?_)
  rw[show A.in1.handled=none from hh]
  refine U0 (U0e (wpAny_throw ?_))
  refine U0 (U68 (T:="StopIteration") (b:=true) ⟨_,U0u _ rfl,rfl⟩ isSubtype_stop ?_)
  rw[if_pos rfl,es1]
  exact U0e (h _ ((eb.push _).push _))
 cases r with
 |text k z1 z2 =>
  show wpAny _ _ (setNext S k.toNat vs.length ep >>= _) _ _ s
  refine U0 (RT ho hd hf z1 ?_)
  have q:=z2 vs.length
  rw[U53 (U0l _)] at q
  cases hp:(pickOrder (w.params.setOrder S ep) es)[vs.length]? with
  |some e=>rw[hp] at q;cases q
  |none =>
   refine U0 (U3w hi rfl (by simp) ?_)
   exact stop (s1:={ s with heap:=s.heap.update it (U4p (·.setIfInBounds 2 U3)) }) (U13 ..).extBut rfl
 |plain z1 z2 z3 z4 =>
  generalize hsl:(if vs.length=0 then 0 else t.place.getD (vs.length-1) 0+1:Nat)=sl
  show wpAny _ _ (setNext S (Int.toNat (sl:Int)) vs.length ep >>= _) _ _ s
  rw[U5]
  refine U0 (QW ho hd hf z1 z2 z3.2 ?_)
  have psz:t.place.size=es.size:=by
   have q:=hf
   simp only[U79,U0v,beq_iff_eq] at q
   exact q.1
  have hb:U1f t.place sl=vs.length:=by
   rw[←hsl]
   generalize vs.length=n at hl
   cases n with
   |zero=>rw[if_pos rfl];exact VF z3.1
   |succ i=>rw[if_neg (by lia)];exact VG z3.1 (by lia)
  rw[hb,hl,Array.getElem?_eq_none (U0l _)]
  refine U0 (U3w hi rfl (by simp) ?_)
  exact stop (s1:={ s with heap:=s.heap.update it (U4p (·.setIfInBounds 2 U3)) }) (U13 ..).extBut rfl
 |drawn ps z1 z2 z3 z4 =>
  show wpAny _ _ (seqItems? (.ref T) >>= _) _ _ s
  refine U0 (U3j z2 rfl ?_)
  have q:=z4 vs.length
  rw[U53 (U0l _)] at q
  have hg:((ps.map fun(p:Nat)=>rawInt p).toArray)[vs.length]?=none:=by
   rw[U52,U07]
   cases hp:ps[vs.length]? with
   |none=>rfl
   |some p =>
    rw[hp] at q
    have hlt:p<es.size:=z3 p (U1p hp)
    have q2:none=(es[p]?).map fun(e:Int×Value)=>e.2:=q
    rw[U05 hlt] at q2
    cases q2
  show wpAny _ _ (match ((ps.map fun(p:Nat)=>rawInt p).toArray)[(vs.length:Int).toNat]? with|some (.int place _)=>_|some _=>_|none=>_) _ _ s
  rw[U5,hg]
  refine U0 (U3w hi rfl (by simp) ?_)
  have e0:(s.heap.update it (U4p (·.setIfInBounds 0 (rawInt 0)))).get? it=some (Jd (rawInt 0) vs.length S es.size ep):=by
   rw[←V5 (.ref T) (rawInt 0) vs.length S es.size ep];exact U3i _ hi rfl
  refine U0 (U3w e0 rfl (by simp) ?_)
  exact stop (s1:={ s with heap:=(s.heap.update it (U4p (·.setIfInBounds 0 (rawInt 0)))).update it (U4p (·.setIfInBounds 2 U3)) }) ((U13 ..).trans (U13 ..)).extBut rfl
end
end SetP
end
section
set_option maxRecDepth 100000
namespace SetP
open PySem PyProof.Rows
theorem OJ:Slot "set_iterator" "__iter__" "set_iterator.__iter__" :=
 .of (owner:="set_iterator") (n:="__iter__") (by rw[typeLookup_type,builtinLookup_eq_fast];kernel_rfl) (by decide +kernel) (by decide +kernel) (by decide +kernel)
  (by first|exact .inl (by decide +kernel)|exact .inr (by decide +kernel)) (by rw[isSubtype_type];kernel_rfl)
theorem UG:entryFor table "set_iterator.__iter__"=some Builtin.«dict_keyiterator.__iter__» :=
 entryFor_alias (id':="dict_keyiterator.__iter__") (by kernel_rfl) rfl (by decide +kernel) (by kernel_rfl)
theorem Va(a:Value):argsOk "set_iterator.__iter__" ⟨[a],[]⟩:=by unfold argsOk;kernel_rfl
theorem cU:typeLookup (.type "set") "__len__"=pure (some (.builtin "set.__len__")):=F.slot_set_len.lookup
section
variable{prog:Program}{w:World}{A:Around}{E:Value->Shared->Prop}{s:Shared}
theorem n8(hh:A.handled=none)(it S T:Addr)(vs:List Value):Walks prog w A it [it,S,T] [it] vs.length (fun i v=>vs[i]?=some v) (fun i h=>MN w h it S T vs i) where
 sub:=fun b hb=>by simp at hb;subst hb;simp
 frame:=fun i h h' x k=>x.keep fun b hb o e=>k b hb o e
 item:=fun i s Q E hi x hQ=>by
  have hv:vs[i]?=some vs[i]:=U0w hi
  exact cP x hv fun h' sb x'=>hQ _ h' s.toks hv x' fun b o hb e=>(sb.2 b (by simpa using hb)).trans e
 done:=fun s Q E x hQ=>gF hh x fun h' eb=>hQ h' s.toks fun b o hb e=>eb b o (by simpa using hb) e
 self:=fun i s Q E x hQ=>by
  obtain⟨_,o,es,ep,t,first,_,_,_,_,hi,_⟩:=x
  have hT:s.TypeIs (.ref it) "set_iterator":=⟨_,hi,rfl⟩
  refine wpAny_pyIter_slot hT OJ (U2m OJ hT UG ?_ (Va _))
  show wpAny _ _ (ret (.ref it)) _ _ s
  exact U0e ⟨_,rfl,"set_iterator",_,hT,Es.lookup,hQ⟩
theorem uy{S:Addr}{Q:Bool->Shared->Prop}(hT:s.TypeIs (.ref S) "set")(h:Q false s):wpAny `am A (Builtin.List.listLengthHint (.ref S)) Q E s:=by
 unfold Builtin.List.listLengthHint
 refine U0 (wpAny_specialOf hT cU ?_)
 have hs:splitId "set.__len__"=some ("set","__len__"):=by decide +kernel
 dsimp only
 rw[hs]
 dsimp only
 refine U0 (U68 hT sub_set_self ?_)
 simp only[U36,U0s,if_false]
 refine U0 (U6k hT ?_)
 exact U0e h
theorem Wk{S:Addr}{es:Array (Int×Value)}{Q:List Value->Shared->Prop}(hh:A.handled=none)(hS:T4 w s.heap S es)
  (h:∀h' d' tk vs,(∀b o,s.heap.get? b=some o->h'.get? b=some o)->Uw es vs->Q vs { s with heap:=h',drawn:=d',toks:=tk }):wpAny (model prog w) A (collect (.ref S)) Q E s:=by
 obtain⟨o,ho,hex,hbs⟩:∃o,s.heap.get? S=some o/\o.ExactSet/\es.size<scanBound:=by
  obtain⟨o,ep,t,ho,hex,_,hb,_⟩:=hS
  exact⟨o,ho,hex,hb⟩
 have hlt:=U0o ho
 unfold collect
 refine U0 (wpAny_runValue (codeAny_builtin F.entry_proto_collect ?_))
 rw[U5d F.plain_proto_collect _]
 show wpAny _ A.in1 (newList [] >>= fun l=>again (.builtin "list.__iadd__" ⟨[l,.ref S],[]⟩)) _ _ s
 refine U0 (U2n (U0e ⟨plainId_quiet F.plain_list_iadd _,codeAny_builtin F.entry_list_iadd ?_⟩))
 rw[U5d F.plain_list_iadd _]
 generalize hL:s.heap.objs.size=L
 generalize hg:s.heap.push { cls:=.type "list",dict:=none,data:=.seq ([]:List Value).toArray }=g
 have k1:∀b o,s.heap.get? b=some o->g.get? b=some o:=fun b o e=>hg ▸ U0c _ e
 have hLg:g.get? L=some { cls:=.type "list",data:=.seq ([]:List Value).toArray }:=hg ▸ hL ▸ U0u _ rfl
 have hsz:g.objs.size=L+1:=by rw[←hg,U2u,hL]
 have hLS:L≠S:=by rw[←hL];exact U4d hlt
 have hT:U78 { s with heap:=g } (.ref S) "set":=⟨o,k1 _ _ ho,hex.1⟩
 show wpAny _ A.in1 (Builtin.List.listExtendWith (.ref L) (.ref S) (.ref L)) _ _ _
 unfold Builtin.List.listExtendWith
 refine U0 (U6k hT ?_)
 have h1:Builtin.List.listSameRef (.ref L) (.ref S)=false:=by simp[Builtin.List.listSameRef,hLS]
 have h2:(U22 "set"==U22 "list")=false:=by decide
 have h3:(U22 "set"==U22 "tuple")=false:=by decide
 simp only[h1,h2,h3,Bool.or_false,U0s,if_false]
 refine U0 (uw (s:={ s with heap:=g }) (hS.sameBut fun o e=>k1 _ _ e) fun g2 d2 it T vs k2 hit hTT x hIn=>?_)
 have hT2:U78 { s with heap:=g2,drawn:=d2 } (.ref S) "set":=⟨o,k2 _ _ (k1 _ _ ho),hex.1⟩
 refine U0 (U2j (uy hT2 ?_))
 have hit':L<it:=by
  have hit2:g.objs.size<=it:=hit
  lia
 show wpAny _ A.in1 (rule "list.extend.makes-room" >>= fun _=>Builtin.List.listTouch (.ref L) >>= fun _=>again (.builtin "list.extend.loop" ⟨[.ref L,.ref it,.ref L],[]⟩)) _ _ _
 refine U0 (U39 (U0 ?_))
 have e1:=k2 _ _ hLg
 show wpAny _ A.in1 (updateSeq L (·.push .none) >>= fun _=>updateSeq L (·.pop)) _ _ _
 refine U0 (wpAny_updateSeq e1 rfl ?_)
 have e2:=U3i (U1y (·.push U3)) e1 rfl
 refine wpAny_updateSeq e2 rfl ?_
 have e3:=U3i (U1y (·.pop)) e2 rfl
 have oth:∀b o,b≠L->g2.get? b=some o->((g2.update L (U1y (·.push U3))).update L (U1y (·.pop))).get? b=some o:=fun b o hb e=>(U1n _ _ (U2s hb)).trans ((U1n _ _ (U2s hb)).trans e)
 have hz:vs.length<=sizeLine:=by
  obtain⟨l,p,e⟩:=hIn
  rw[e,U0d,p.length_eq,U0g]
  exact fits_of_scanBound hbs
 have nin:L ∉ [it,S,T]:=fun z=>by
  simp only[U0h,U1z,or_false] at z
  rcases z with z|z|z
  .lia
  .exact hLS z
  .rcases hTT with q|q
   .exact hLS (z.trans q)
   .have q':g.objs.size<=T:=q
    lia
 have W:=(n8 (prog:=prog) (w:=w) (A:=A.in1) (by simpa using hh) it S T vs).toS
 have x3:MN w ((g2.update L (U1y (·.push U3))).update L (U1y (·.pop))) it S T vs 0:=x.keep fun b hb o e=>oth b o (fun z=>nin (z ▸ hb)) e
 refine U0e ⟨plainId_quiet F.plain_extend_loop _,codeAny_extend_loopS W hz L nin _ vs.length 0 _ _ _ (by lia) (U25 _) x3 e3 (ItemsOf.nil _) fun s' acc c hm hS' hacc=>?_⟩
 show wpAny _ A (load L >>= _) _ _ s'
 refine U0 (wpAny_load hS' ?_)
 have eacc:acc.toList=vs:=by
  apply U8g
  intro j
  rw[U1a]
  cases hj:acc[j]? with
  |some v=>exact(hacc.2 j v hj).symm
  |none =>
   have:acc.size<=j:=by simpa using hj
   rw[hacc.1] at this
   exact(U53 this).symm
 obtain⟨h',g',d',tk,os'⟩:=s'
 have q1:g'=s.gens:=hm.gens
 have q2:os'=s.os:=hm.os
 subst q1 q2
 refine U0e ?_
 show Q acc.toList _
 rw[eacc]
 refine h h' d' tk vs (fun b o e=>hm.heap b o ?_ (oth b o ?_ (k2 _ _ (k1 _ _ e)))) hIn
 .have hb:b<L:=by rw[←hL];exact U0o e
  intro z
  rcases U0h.mp z with z|z
  .exact absurd z (U02 hb)
  .exact absurd (U0q.mp z) (U02 (U4c hb hit'))
 .exact U02 (by rw[←hL];exact U0o e)
theorem Wj{S:Addr}{ds:List Int}{Q:List Value->Shared->Prop}(hh:A.handled=none)(hS:SetT prog w s.heap S ds)
  (h:∀h' d' tk vs ns,(∀b o,s.heap.get? b=some o->h'.get? b=some o)->IntsAre vs ns->ns.Perm ds->Q vs { s with heap:=h',drawn:=d',toks:=tk }):wpAny (model prog w) A (collect (.ref S)) Q E s:=by
 obtain⟨es,W,_,q⟩:=hS.ints
 refine Wk hh W fun h' d' tk vs k i=>?_
 obtain⟨ns,a,b⟩:=q vs i
 exact h h' d' tk vs ns k a b
theorem Hx{h:Heap}{a:Addr}{vs:List Value}{n:Nat}{out:Array Value}(ho:h.get? a=some (seqObj "list" vs.toArray n)):∃n',(sortedHeap h a vs out).get? a=some (seqObj "list" out n'):=by
 unfold sortedHeap
 have q1:=get?_update_seq ho (fun _=>#[])
 exact⟨_,get?_update_seq (U0c _ (U0c _ q1)) (fun _=>out)⟩
theorem HX{h:Heap}{a b:Addr}{vs:List Value}{out:Array Value}{o:Obj}(hb:b≠a)(ho:h.get? b=some o):(sortedHeap h a vs out).get? b=some o:=by
 unfold sortedHeap
 rw[U1n _ _ (U2s hb)]
 exact U0c _ (U0c _ ((U1n _ _ (U2s hb)).trans ho))
theorem jJ{S:Addr}{ds:List Int}{Q:Value->Shared->Prop}(hh:A.handled=none)(hS:SetT prog w s.heap S ds)(h64:ds.length<64)
  (h:∀h' d' tk l vs ns n,(∀b o,s.heap.get? b=some o->h'.get? b=some o)->(∀b o,s.heap.get? b=some o->b<l)->h'.get? l=some { cls:=.type "list",data:=.seq vs n }->IntsAre vs.toList ns->ns.Perm ds->ns.Pairwise (·<=·)->Q (.ref l) { s with heap:=h',drawn:=d',toks:=tk }) :
  wpAny `am A (call (.builtin "sorted") [.ref S]) Q E s:=by
 refine U5e kind_sorted plain_sorted entry_sorted (args_sorted1 _) ?_
 unfold Builtin.«sorted»
 refine U0 (m:=checkCount "sorted" 1 1 _) (U0e ?_)
 refine U0 (Wj (A:=A.in1) (by simpa using hh) hS fun h1 d1 t1 vs ns k1 hi hp=>?_)
 have hv64:vs.length<64:=by rw[show vs.length=ns.length from IntsAre.length hi,hp.length_eq];exact h64
 refine U0 (U6b ?_)
 have hoL:(h1.push (seqObj "list" vs.toArray 0)).get? h1.objs.size=some (seqObj "list" vs.toArray 0):=U0u _ rfl
 show wpAny _ _ _ _ _ { s with heap:=h1.push (seqObj "list" vs.toArray 0),drawn:=d1,toks:=t1 }
 refine U0 (U2j (U2m slot_list_sort ⟨_,hoL,rfl⟩ entry_list_sort (list_sort_tree hoL hi hv64 fun out ns' a1 a2 a3=>⟨_,rfl,?_⟩) (args_list_sort _)))
 refine U0e ⟨_,rfl,?_⟩
 have old:∀b o,s.heap.get? b=some o->b≠h1.objs.size:=fun b o e=>U02 (U0o (k1 b o e))
 obtain⟨n',e'⟩:=Hx (out:=out) hoL
 refine h _ d1 t1 h1.objs.size out ns' n' (fun b o e=>HX (old b o e) (U0c _ (k1 b o e))) (fun b o e=>U0o (k1 b o e)) e' a1 (a2.trans hp) a3
end
end SetP
end
section
namespace L2
open PySem PySem.Spec PyProof.Rows
def PTs(X:Cx)(ifs:List Expr)(t:TT):Prop :=
 ∀(pins:List (Addr×Obj))(s:Shared)(Z3:St)(H:Hp)(Q:Bool->Hp->Prop),Inv X pins Z3 H s->t Z3 H Q ->
  wpAny `ai X.A (forIn ifs true fun c r=>if r=true then do let ok ←isTrue c X.env (eval c X.env);pure (U41 ok) else pure (U41 r)) (TP X pins Z3 Q) X.xe s
def J7:TT:=fun _ H Q=>Q true H
theorem oH{X:Cx}:PTs X [] J7:=fun _ _ _ H _ I h=>U0e ⟨H,I,h⟩
theorem oG{X:Cx}{c:Expr}{t:TT}(h:PT X c t):PTs X [c] t:=by
 intro pins s Z3 H Q I hw
 rw[U6h]
 simp only[if_true]
 refine U0 (U0 (thn (h pins s Z3 H Q I hw) fun b s1 hb=>U0e ?_))
 show wpAny _ _ (pure b) _ _ _
 exact U0e hb
def Low(k:Nat)(g:TG):Prop:=∀x Z3 H Q,g x Z3 H Q->g x Z3 H fun ZZ H'=>Q ZZ H'/\ZZ.length=Z3.length/\∀j,k<=j->ZZ[j]?=Z3[j]?
def Xf(k:Nat)(g:TGs):Prop:=∀x Z3 H Q,g x Z3 H Q->g x Z3 H fun ZZ H'=>Q ZZ H'/\ZZ.length=Z3.length/\∀j,k<=j->ZZ[j]?=Z3[j]?
theorem jl{k i:Nat}(h:i<k):Low k (XM i):=fun x Z3 H Q q =>
 ⟨q,U5r ..,fun j hj=>U37 (by lia)⟩
theorem pO{k:Nat}:Xf k iU:=fun _ _ _ _ ⟨e,q⟩=>⟨e,q,rfl,fun _ _=>rfl⟩
theorem jm{k:Nat}{t:TG}{u:TGs}(ht:Low k t)(hu:Xf k u)(mono:∀x Z3 H Q Q',(∀ZZ H',Q ZZ H'->Q' ZZ H')->t x Z3 H Q->t x Z3 H Q')
  (monoU:∀x Z3 H Q Q',(∀ZZ H',Q ZZ H'->Q' ZZ H')->u x Z3 H Q->u x Z3 H Q'):Xf k (bZ t u):=fun x Z3 H Q ⟨v,r,e,q⟩=>by
 refine⟨v,r,e,mono v Z3 H _ _ (fun ZU H1 z=>?_) (ht v Z3 H _ q)⟩
 obtain⟨z1,z2,z3⟩:=z
 exact monoU r ZU H1 _ _ (fun ZY H2 y=>⟨y.1,y.2.1.trans z2,fun j hj=>(y.2.2 j hj).trans (z3 j hj)⟩) (hu r ZU H1 _ z1)
theorem pN{K:U0b}{n k:Nat}{t:TGs}(h:Xf k t):Low k (iT K n t):=fun x Z3 H Q ⟨a,xs,e,hs,hl,q⟩=>⟨a,xs,e,hs,hl,h xs Z3 H Q q⟩
def compLook(sc:Scope)(N N2:List Str)(k:Nat)(caps:List Nat)(scope:Scope):Bool :=
 decide (scope.kind=.function)&&scope.names.all (fun y=>decide (y.2≠.cell)||decide (scope.names.lookup y.1=some .cell))&&scope.names.all (fun y=>decide (y.2≠.local)||decide (scope.names.lookup y.1=some .local)) &&
 scope.names.all (fun y=>decide (y.2≠.free)||decide (sc.names.lookup y.1=some .cell)||decide (sc.names.lookup y.1=some .free))&&decide N2.Nodup&&decide (N2.length=k+caps.length) &&
 (U3e caps.length).all fun j=>match caps[j]?,N2[k+j]? with
  |some i,some y=>decide (N[i]?=some y)&&decide (scope.names.lookup y=some .free)
  |_,_=>false
structure Dp(sc:Scope)(N N2:List Str)(k:Nat)(caps:List Nat)(scope:Scope):Prop where
 kind:scope.kind=.function
 one:∀y∈scope.names,y.2=.cell->scope.names.lookup y.1=some .cell
 loc:∀y∈scope.names,y.2=.local->scope.names.lookup y.1=some .local
 free:∀y∈scope.names,y.2=.free->sc.names.lookup y.1=some .cell∨sc.names.lookup y.1=some .free
 nd:N2.Nodup
 len:N2.length=k+caps.length
 cap:∀j i,caps[j]?=some i->∃y,N2[k+j]?=some y/\N[i]?=some y/\scope.names.lookup y=some .free
theorem Dp.of{sc:Scope}{N N2:List Str}{k:Nat}{caps:List Nat}{scope:Scope}(h:compLook sc N N2 k caps scope=true):Dp sc N N2 k caps scope:=by
 unfold compLook at h
 simp only[U0v,U32,Bool.or_eq_true,decide_eq_true_eq] at h
 obtain⟨⟨⟨⟨⟨⟨h1,h2⟩,h3⟩,h4⟩,h5⟩,h6⟩,h7⟩:=h
 refine⟨h1,fun y hy e=>?_,fun y hy e=>?_,fun y hy e=>?_,h5,h6,fun j i e=>?_⟩
 .rcases h2 y hy with z|z
  .exact absurd e z
  .exact z
 .rcases h3 y hy with z|z
  .exact absurd e z
  .exact z
 .rcases h4 y hy with (z|z)|z
  .exact absurd e z
  .exact .inl z
  .exact .inr z
 .have hj:j∈U3e caps.length:=U2y.mpr (U0j.mp e).1
  have q:=h7 j hj
  rw[e] at q
  cases hy:N2[k+j]? with
  |none=>rw[hy] at q;exact absurd q (by simp)
  |some y =>
   rw[hy] at q
   simp only[U0v,decide_eq_true_eq] at q
   exact⟨y,rfl,q.1,q.2⟩
theorem RV{env:Env}:∀{names:List (Str×NameKind)} {x:Str},names.lookup x=some .free ->
  (names.map fun(n,k)=>if (k==U2o&&env.scope.kind==.function&&env.kindOf n==some .cell) then (n,U4h) else (n,k)).lookup x=some .cell ∨
  (names.map fun(n,k)=>if (k==U2o&&env.scope.kind==.function&&env.kindOf n==some .cell) then (n,U4h) else (n,k)).lookup x=some .free
 |[],_,h=>by simp at h
 |(n,k)::r,x,h=>by
  have ih:=@RV env r x
  show U8u x ((if (k==U2o&&env.scope.kind==.function&&env.kindOf n==some .cell)=true then (n,U4h) else (n,k))::_)=_∨U8u x ((if (k==U2o&&env.scope.kind==.function&&env.kindOf n==some .cell)=true then (n,U4h) else (n,k))::_)=_
  cases hx:x==n with
  |true =>
   simp only[U15,hx] at h
   cases h
   by_cases hc:(U2o==U2o&&env.scope.kind==.function&&env.kindOf n==some .cell)=true
   .rw[if_pos hc];left;simp only[U15,hx]
   .rw[if_neg hc];right;simp only[U15,hx]
  |false =>
   simp only[U15,hx] at h
   by_cases hc:(k==U2o&&env.scope.kind==.function&&env.kindOf n==some .cell)=true
   .rw[if_pos hc];simp only[U15,hx];exact ih h
   .rw[if_neg hc];simp only[U15,hx];exact ih h
theorem RW{env:Env}:∀{names:List (Str×NameKind)} {x:Str},
  ((names.map fun(n,k)=>if (k==U2o&&env.scope.kind==.function&&env.kindOf n==some .cell) then (n,U4h) else (n,k)).lookup x=some .cell ∨
   (names.map fun(n,k)=>if (k==U2o&&env.scope.kind==.function&&env.kindOf n==some .cell) then (n,U4h) else (n,k)).lookup x=some .free)->names.lookup x=some .free∨names.lookup x=some .cell
 |[],_,h=>by simp at h
 |(n,k)::r,x,h=>by
  have ih:=@RW env r x
  cases hx:x==n with
  |true =>
   simp only[U15,hx]
   by_cases hf:k=.free
   .rw[hf];exact .inl rfl
   .have hkf:(k==U2o)=false:=by
     cases k<;>first|rfl|exact absurd rfl hf
    simp only[U0r,hkf,U8w,U0s,if_false,U15,hx] at h
    rcases h with z|z
    .exact .inr z
    .exact absurd (U00 z) hf
  |false =>
   simp only[U15,hx]
   refine ih ?_
   have h':U8u x ((if (k==U2o&&env.scope.kind==.function&&env.kindOf n==some .cell)=true then (n,U4h) else (n,k))::List.map _ r)=some .cell∨U8u x ((if (k==U2o&&env.scope.kind==.function&&env.kindOf n==some .cell)=true then (n,U4h) else (n,k))::List.map _ r)=some .free:=h
   by_cases hcc:(k==U2o&&env.scope.kind==.function&&env.kindOf n==some .cell)=true
   .rw[if_pos hcc] at h';simp only[U15,hx] at h';exact h'
   .rw[if_neg hcc] at h';simp only[U15,hx] at h';exact h'
theorem Hg:∀(names:List (Str×NameKind))(n:Nat)(acc:List (Str×Addr)),cellsFrom n names acc=cellsFrom n names []++acc
 |[],_,_=>rfl
 |(x,k)::r,n,acc=>by
  unfold cellsFrom
  split
  .rw[Hg r (n+1) ((x,n)::acc),Hg r (n+1) [(x,n)],U04];rfl
  .exact Hg r n acc
theorem M8:∀(names:List (Str×NameKind))(n:Nat){x:Str}{c:Addr},(x,c)∈cellsFrom n names []->(x,U4h)∈names
 |[],_,_,_,h=>by simp[cellsFrom] at h
 |(y,k)::r,n,x,c,h=>by
  unfold cellsFrom at h
  split at h
  .rename_i hk
   rw[Hg] at h
   rcases U0z.mp h with z|z
   .exact U0k _ (M8 r (n+1) z)
   .have z':(x,c)=(y,n):=by simpa using z
    have hk':k=.cell:=by simpa using hk
    cases z'
    rw[hk'];exact U0i
  .exact U0k _ (M8 r n h)
theorem cT{cs ds:List (Str×Addr)}{x:Str}{c:Addr}(h:(cs++ds).lookup x=some c):cs.lookup x=some c∨(cs.lookup x=none/\ds.lookup x=some c):=by
 rw[U5s] at h
 cases e:cs.lookup x with
 |none=>rw[e] at h;exact .inr ⟨rfl,h⟩
 |some d=>rw[e] at h;exact .inl h
theorem Zg{M:Model}{A:Around}{E:Value->Shared->Prop}{s:Shared}{scope:Scope}{globals:Addr}{cl:List (Str×Addr)}{qual:Str}{env:Env}{Q:Env->Shared->Prop}
  (hQ:∀h':Heap,h'.Ns s.heap.objs.size (fun _=>none)->(∀b o,s.heap.get? b=some o->h'.get? b=some o)->CellsOk h' (s.heap.objs.size+1) (cellsFrom (s.heap.objs.size+1) scope.names []) ->
   Q { scope,locals:=s.heap.objs.size,globals,cells:=cellsFrom (s.heap.objs.size+1) scope.names []++cl,qual,func:=none,code:=env.code,frame:=env.frame,builtins:=env.builtins } { s with heap:=h' }) :
  wpAny M A (newFunctionEnv scope globals cl [] qual none .none (some env)) Q E s:=by
 simp only[newFunctionEnv,Option.isSome_some,if_true]
 refine U0 (wpAny_alloc ?_)
 refine U0 (wpAny_layCells _ (fun name kind cells=>by cases hkc:kind==U4h<;>simp[hkc]) _ _ _ _ ?_)
 rw[show({ s with heap:=s.heap.push { cls:=.type "dict",data:=.dict #[] } }:Shared).heap.objs.size=s.heap.objs.size+1 from U2u ..]
 have ok:=cellsFrom_ok scope.names (s.heap.push { cls:=.type "dict",data:=.dict #[] }) (s.heap.objs.size+1) [] ⟨fun _ _ hm=>(nomatch hm),U8d⟩ (by rw[U2u];exact U0l _)
 rw[U2u] at ok
 rw[Hg]
 refine U0 ?_
 rw[U80]
 refine U0e (U0e (hQ _ ?_ ?_ ok))
 .exact(Heap.Ns.new s.heap (.type "dict")).keeps (pushCells_keeps _ _)
 .exact fun b o e=>pushCells_keeps _ _ b o (U0c _ e)
theorem VB{scope:Scope}{env:Env}(h:∀y∈scope.names,y.2=.free->∃c,env.cells.lookup y.1=some c) :
  ∃cl,closureFor scope env=pure cl/\(∀x c,cl.lookup x=some c->env.cells.lookup x=some c)/\∀x,scope.names.lookup x=some .free->∃c,cl.lookup x=some c:=by
 have all:∀(names:List (Str×NameKind))(cs:List (Str×Addr)),(∀y∈names,y.2=.free->∃c,env.cells.lookup y.1=some c)->(∀x c,cs.lookup x=some c->env.cells.lookup x=some c) ->
   ∃cl,(forIn names cs (fun(x:Str×NameKind) (cs:List (Str×Addr))=>(match x with
     |(name,kind)=>if (kind==U2o)=true then (cellOf env name >>= fun a=>pure (U41 ((name,a)::cs))) else pure (U41 cs):Sem (ForInStep (List (Str×Addr)))) ):Sem (List (Str×Addr)))=pure cl /\
    (∀x c,cl.lookup x=some c->env.cells.lookup x=some c)/\(∀x c,cs.lookup x=some c->∃c',cl.lookup x=some c')/\∀x,names.lookup x=some .free->∃c,cl.lookup x=some c:=by
  intro names
  induction names with
  |nil=>intro cs _ hc;exact⟨cs,rfl,hc,fun x c e=>⟨c,e⟩,fun x e=>by simp at e⟩
  |cons y r ih =>
   intro cs hy hc
   obtain⟨n,kd⟩:=y
   by_cases hk:kd=.free
   .subst hk
    obtain⟨c,hcn⟩:=hy (n,.free) U0i rfl
    have hc':∀x c',((n,c)::cs).lookup x=some c'->env.cells.lookup x=some c':=fun x c' e=>by
     rw[U15] at e
     cases hx:x==n with
     |true =>
      rw[hx] at e
      have hxn:x=n:=by simpa using hx
      rw[hxn,hcn];exact e
     |false=>rw[hx] at e;exact hc x c' e
    obtain⟨cl,e1,e2,e3,e4⟩:=ih ((n,c)::cs) (fun z hz=>hy z (U0k _ hz)) hc'
    refine⟨cl,?_,e2,fun x c' e=>?_,fun x e=>?_⟩
    .rw[U6h]
     have hb:(U2o==U2o)=true:=rfl
     simp only[hb,if_true,cellOf,hcn,pure_bind]
     exact e1
    .by_cases hx:(x==n)=true
     .exact e3 x c (by rw[U15,hx])
     .have hx':(x==n)=false:=by simpa using hx
      exact e3 x c' (by rw[U15,hx'];exact e)
    .rw[U15] at e
     cases hx:x==n with
     |true=>exact e3 x c (by rw[U15,hx])
     |false=>rw[hx] at e;exact e4 x e
   .have hb:(kd==U2o)=false:=by
     cases kd<;>first|rfl|exact absurd rfl hk
    obtain⟨cl,e1,e2,e3,e4⟩:=ih cs (fun z hz=>hy z (U0k _ hz)) hc
    refine⟨cl,?_,e2,e3,fun x e=>?_⟩
    .rw[U6h]
     simp only[hb,U0s,if_false,pure_bind]
     exact e1
    .rw[U15] at e
     cases hx:x==n with
     |true=>rw[hx] at e;exact absurd (U00 e) hk
     |false=>rw[hx] at e;exact e4 x e
 obtain⟨cl,e1,e2,_,e4⟩:=all scope.names [] h (fun x c e=>by simp at e)
 refine⟨cl,?_,e2,e4⟩
 unfold closureFor
 rw[←bind_pure (pure cl:Sem _),←e1]
abbrev Dg(X:Cx)(N2:List Str)(scope:Scope)(cl:List (Str×Addr))(C:Addr)(s:Shared)(H:Hp)(ex:List Addr):Cx :=
 { X with N:=N2,s₀:=s,H₀:=H,env:=compEnvC scope cl C X.env,outer:=X.stack,ex:=ex,fn:=fun x=>decide (scope.names.lookup x=some .cell),pn:=[],xe:=fun _ _=>False }
def J9(k:Nat)(caps:List Nat)(Z3:St):St:=U08 k none++caps.map fun j=>(Z3[j]?).join
def yD(J:It)(k:Nat)(caps:List Nat)(Z3:St)(g:TG)(tt:TT)(te:TE)(Q:VK)(H1:Hp):Prop:=∃W:Nat->Nat->List V->Hp->Prop,(∃m,W 0 m [] H1)/\∀i m ys H,W i m ys H ->
 (J.stop i H/\∀p,H p=none->Q (.ref p) (upd H p (.lst ys))) ∨
 (J.go i H/\ys.length<sizeLine/\∀x H',J.yld i H x H'->g x (J9 k caps Z3) H' fun ZY H2=>tt ZY H2 fun b H3 =>
  if b=true then te ZY H3 fun v H4=>∃m',m'<m/\W (i+1) m' (ys++[v]) H4 else ∃m',m'<m/\W (i+1) m' ys H3)
def bN(k:Nat)(caps:List Nat)(wi:TI)(g:TG)(tt:TT)(te:TE):TE:=fun Z3 H Q=>wi Z3 H fun J H1=>yD J k caps Z3 g tt te Q H1
theorem bA{k:Nat}{caps:List Nat}{Z3:St}{i:Nat}{v:V}(h:(J9 k caps Z3)[i]?=some (some v)):∃j a,i=k+j/\caps[j]?=some a/\Z3[a]?=some (some v):=by
 unfold J9 at h
 by_cases hi:i<k
 .rw[U01 (by simpa using hi),U5o,if_pos hi] at h
  cases h
 .rw[U1h (by simpa using hi),U2d,U07] at h
  cases e:caps[i-k]? with
  |none=>rw[e] at h;cases h
  |some a =>
   rw[e] at h
   have h':(Z3[a]?).join=some v:=U00 h
   refine⟨i-k,a,by lia,e,?_⟩
   cases e2:Z3[a]? with
   |none=>rw[e2] at h';cases h'
   |some o =>
    rw[e2] at h'
    cases o with
    |none=>cases h'
    |some v' =>
     have h'':some v'=some v:=h'
     rw[h'']
theorem Lb{a b n:Nat}(h1:a<n)(h2:n<=b):a≠b:=by lia
section
variable{X:Cx}{pins:List (Addr×Obj)}{Z3:St}
theorem Inv.but{H:Hp}{s:Shared}{C:Addr}{h':Heap}(I:Inv X pins Z3 H s)(hb:U1c C s.heap h')(hn:H C=none)(hL:C≠X.env.locals)(h1:X.s₀.heap.objs.size<=C)(h2:∀x c,X.env.cells.lookup x=some c->c≠C)(h3:∀p∈X.pn++pins,p.1≠C) :
  Inv X pins Z3 H { s with heap:=h' }:=I.turned (t':=s.toks) (fun b o hne e=>(hb.2 b hne).trans e) hn hL (.inr h1) h2 h3
theorem V9{s2:Shared}{H2:Hp}{elt tg iter:Expr}{ifs:List Expr}{scope:Scope}{pos:Pos}{N2:List Str}{k:Nat}{caps:List Nat}{cl:List (Str×Addr)}{g:TG}{tt:TT}{te:TE}{E:Value->Shared->Prop}
  {it:Addr} {fp:List Addr} {tn:Nat->Heap->Prop} {J:It} {RR:Value->Addr->Result->Shared->Prop} {Qe:List V->Hp->Prop} {W:Nat->Nat->List V->Hp->Prop} {m0:Nat}
  (hc:X.calm=true) (hS:Dp X.env.scope X.N N2 k caps scope) (hlow:Low k g)
  (hcl:∀x c,cl.lookup x=some c->X.env.cells.lookup x=some c) (hcf:∀x,scope.names.lookup x=some .free->∃c,cl.lookup x=some c)
  (hb:∀(cl:List (Str×Addr))(C:Addr)(s:Shared)(H:Hp)(ex:List Addr),PG `bv tg g/\PTs `bv ifs tt/\PE `bv elt te)
  (I2:Inv X pins Z3 H2 s2) (T:Turn X.prog X.w X.K tg J fp it tn) (st2:tn 0 s2.heap) (f2:∀b∈fp,Oh X pins H2 b) (w0:W 0 m0 [] H2)
  (turn:∀i m ys H,W i m ys H->(J.stop i H/\Qe ys H) ∨
   (J.go i H/\ys.length<sizeLine/\∀x H',J.yld i H x H'->g x (J9 k caps Z3) H' fun ZY H2=>tt ZY H2 fun b H3 =>
    if b=true then te ZY H3 fun v H4=>∃m',m'<m/\W (i+1) m' (ys++[v]) H4 else ∃m',m'<m/\W (i+1) m' ys H3))
  (hRR:∀D C s' H' ys,s2.heap.objs.size<=D->s2.heap.objs.size<=C->C≠D->H' D=none->H' C=none->Inv X pins Z3 (upd H' D (.lst ys)) s'->(∃m,s'.heap.Ns C m)->Qe ys H'->RR (.ref D) C (.ok .next) s') :
  wpAny `ai X.A (newList []) (fun acc s₃=>wpAny `ai X.A (newFunctionEnv scope X.env.globals cl [] X.env.qual none .none (some X.env)) (fun cenv s₄ =>
   codeAny `ai X.A (.compStart (.ListComp elt [⟨tg,iter,ifs,0⟩] scope pos) 0 (.ref it) acc { cenv with scope:=relabel scope X.env }) (RR acc cenv.locals) s₄) E s₃) E s2:=by
 refine U2n (Zg fun h₁ hns₁ kp cok=>?_)
 dsimp only at hns₁ kp cok ⊢
 generalize hH3:s2.heap.push { cls:=.type "list",dict:=none,data:=.seq ([]:List Value).toArray }=H3 at hns₁ kp cok ⊢
 have hC:H3.objs.size=s2.heap.objs.size+1:=by rw[←hH3,U2u]
 generalize hDD:s2.heap.objs.size=D at hC
 generalize hCC:H3.objs.size=C at hns₁ cok hC ⊢
 have hDC:D≠C:=by lia
 have szD:s2.heap.objs.size<=D:=U89 hDD
 have szC:s2.heap.objs.size<=C:=by rw[hDD,hC];exact U6c _
 have below:∀b o,s2.heap.get? b=some o->b≠C/\b≠D:=fun b o e=>⟨Lb (U0o e) szC,Lb (U0o e) szD⟩
 have old:∀b o,s2.heap.get? b=some o->h₁.get? b=some o:=fun b o e=>kp b o (hH3 ▸ U0c _ e)
 have hacc:h₁.get? D=some { cls:=.type "list",data:=.seq ([]:List Value).toArray 0 }:=kp _ _ (hH3 ▸ hDD ▸ U0u _ rfl)
 have f2h:∀b∈fp,∃o,s2.heap.get? b=some o:=fun b hbf=>let ⟨o,e,_⟩:=T.obj 0 _ st2 b hbf;⟨o,e⟩
 have okc:∀x c,X.env.cells.lookup x=some c->∃o,s2.heap.get? c=some o:=fun x c e=>let ⟨_,o,ho,_⟩:=I2.cell x c e;⟨o,ho⟩
 have oMem:∀x c,(cellsFrom (C+1) scope.names []).lookup x=some c->C+1<=c/\h₁.IsCell c none/\scope.names.lookup x=some .cell:=fun x c e=>by
  have m:=U3d e
  exact⟨(cok.empty x c m).2,(cok.empty x c m).1,hS.one _ (M8 _ _ m) rfl⟩
 have oHas:∀x,scope.names.lookup x=some .cell->∃c,(cellsFrom (C+1) scope.names []).lookup x=some c:=fun x e=>U4n.mp (U62 scope.names (C+1) [] (.inl e))
 have oApart:=cok.apart
 generalize cellsFrom (C+1) scope.names []=own at oMem oHas oApart ⊢
 have hcs:∀x c,(own++cl).lookup x=some c->(C+1<=c/\h₁.IsCell c none/\own.lookup x=some c)∨X.env.cells.lookup x=some c:=fun x c e=>by
  rcases cT e with z|z
  .exact .inl ⟨(oMem x c z).1,(oMem x c z).2.1,z⟩
  .exact .inr (hcl x c z.2)
 have hlt:∀x c,X.env.cells.lookup x=some c->c<s2.heap.objs.size:=fun x c e=>let ⟨o,ho⟩:=okc x c e;U0o ho
 have OK:(Dg X N2 scope (own++cl) C s2 H2 fp).Ok:=by
  refine⟨I2.ok.mod,hS.kind,I2.ok.glob,I2.ok.blt,?_,fun x y c h1 h2=>?_,fun x hx=>?_,fun x c hf h1=>?_,I2.ok.hd,I2.ok.frames,.inl rfl,fun b hbf=>?_,I2.bs,
   U1b I2.ok.bsz I2.sz,fun b o e hbf=>?_,fun b hbf hb'=>?_,I2.stack,I2.Zx,I2.Sw⟩
  .exact szC
  .rcases hcs x c h1 with z|z
   .rcases hcs y c h2 with z'|z'
    .exact name_of_addr oApart (U3d z.2.2) (U3d z'.2.2)
    .exact absurd (hlt y c z') (Nat.not_lt.mpr (U1b szC (U1b (U6c _) z.1)))
   .rcases hcs y c h2 with z'|z'
    .exact absurd (hlt x c z) (Nat.not_lt.mpr (U1b szC (U1b (U6c _) z'.1)))
    .exact I2.ok.inj x y c z z'
  .rcases RW (env:=X.env) hx with z|z
   .obtain⟨c,e⟩:=hcf x z
    show ∃c,(own++cl).lookup x=some c
    rw[U5s]
    cases q:own.lookup x with
    |none=>exact⟨c,e⟩
    |some d=>exact⟨d,rfl⟩
   .obtain⟨c,e⟩:=oHas x z
    exact⟨c,by show(own++cl).lookup x=some c;rw[U5s,e];rfl⟩
  .obtain⟨d,e⟩:=oHas x (of_decide_eq_true hf)
   have h1':(own++cl).lookup x=some c:=h1
   rw[U5s,e] at h1'
   have e2:d=c:=U00 h1'
   rw[←e2]
   exact U1b szC (U1b (U6c _) (oMem x d e).1)
  .obtain⟨o,e⟩:=f2h b hbf
   refine⟨(below b o e).1,fun x c h1=>?_⟩
   rcases hcs x c h1 with z|z
   .exact fun w=>absurd (U0o e) (by rw[←w];exact Nat.not_lt.mpr (U1b szC (U1b (U6c _) z.1)))
   .exact(f2 b hbf).2.2.2.2.1 x c z
  .rcases(f2 b hbf).2.2.2.1 with z|z
   .exact I2.ok.noex b o e z
   .exact absurd (U1k (U0o (I2.ok.bs b o e).1) z) (U4g _)
  .rcases U0h.mp (I2.Qm b hb') with z|z
   .exact(f2 b hbf).2.1 z
   .exact(f2 b hbf).2.2.1 z
 have fresh:∀a,s2.heap.objs.size<=a->H2 a=none:=fun a ha=>I2.hok.fresh ha
 have I4:∀tk,Inv (Dg X N2 scope (own++cl) C s2 H2 fp) [(D,{ cls:=.type "list",data:=.seq ([]:List Value).toArray 0 })] (J9 k caps Z3) H2 { s2 with heap:=h₁,toks:=tk }:=fun tk=>by
  refine⟨OK,rfl,I2.bare,Un.kept old,⟨_,hns₁,fun i x v e1 e2 e3=>?_⟩,fun x c e=>?_,fresh C szC,fun x c e=>?_,fun p hp=>?_,I2.hok.kept old,?_⟩
  .obtain⟨j,a,rfl,ha,hv⟩:=bA e2
   obtain⟨y,y1,y2,y3⟩:=hS.cap j a ha
   have e1':N2[k+j]?=some x:=e1
   rw[y1] at e1';cases e1'
   have hk:X.env.scope.names.lookup x=some .cell∨X.env.scope.names.lookup x=some .free:=hS.free (x,.free) (U3d y3) rfl
   obtain⟨m',_,hl⟩:=id I2.loc
   obtain⟨u,ru,lk⟩:=hl a x v y2 hv (hk.elim (fun z=>.inr (.inl z)) fun z=>.inr (.inr z))
   refine⟨u,ru,.inr ⟨RV y3,?_⟩⟩
   rcases lk with ⟨kk,_⟩|⟨_,c,e,z⟩
   .have kk':X.env.scope.names.lookup x=some .local:=kk
    rw[kk'] at hk
    rcases hk with z|z<;>cases z
   .obtain⟨c',e'⟩:=hcf x y3
    have e'':=hcl x c' e'
    rw[e] at e'';cases e''
    obtain⟨o,ho,hd⟩:=z
    refine⟨c,?_,o,old c o ho,hd⟩
    show(own++cl).lookup x=some c
    rw[U5s]
    cases q:own.lookup x with
    |none=>exact e'
    |some d=>have:=(oMem x d q).2.2;rw[y3] at this;cases this
  .rcases hcs x c e with z|z
   .exact⟨none,z.2.1⟩
   .obtain⟨v,o,ho,hd⟩:=I2.cell x c z
    exact⟨v,o,old c o ho,hd⟩
  .rcases hcs x c e with z|z
   .exact fresh c (U1b szC (U1b (U6c _) z.1))
   .exact I2.freeC x c z
  .have hp':p∈[(D,({ cls:=.type "list",data:=.seq ([]:List Value).toArray 0 }:Obj))]:=hp
   have e:p=(D,({ cls:=.type "list",data:=.seq ([]:List Value).toArray 0 }:Obj)):=by simpa using hp'
   subst e
   exact⟨hacc,fresh D szD,hDC,fun z=>by
    rcases U0h.mp (I2.Qm D z) with z|z
    .exact Lb I2.lt szD z.symm
    .exact I2.iQ szD z,fun v z=>by cases z⟩
  .show(J9 k caps Z3).length=N2.length
   unfold J9
   rw[U0p,U2d,U0d,hS.len]
 obtain⟨hg,ht,he⟩:=hb (own++cl) C s2 H2 fp
 have loop:∀s₃:Shared,Inv (Dg X N2 scope (own++cl) C s2 H2 fp) [(D,{ cls:=.type "list",data:=.seq ([]:List Value).toArray 0 })] (J9 k caps Z3) H2 s₃->tn 0 s₃.heap ->
   codeAny `ai X.A (.compLoop (.ListComp elt [⟨tg,iter,ifs,0⟩] scope pos) 0 (.ref it) (.ref D) (compEnvC scope (own++cl) C X.env)) (RR (.ref D) C) s₃:=by
  intro s₃ I₃ st₃
  refine codeAny_loop rfl (fun n s'=>∃i ys its nn H',Inv (Dg X N2 scope (own++cl) C s2 H2 fp) [(D,{ cls:=.type "list",data:=.seq (its:List Value).toArray nn })] (J9 k caps Z3) H' s'/\Vals ys its/\tn i s'.heap/\(∀b∈fp,H' b=none)/\ys.length<=sizeLine/\W i n ys H') ?_ m0
   ⟨0,[],[],0,H2,I₃,.nil,st₃,fun b hbf=>(f2 b hbf).1,U25 _,w0⟩
  rintro n s5 ⟨i,ys,its,nn,H5,I5,rv,st5,fr5,hz,w5⟩
  show wpAny _ X.A ((compTurn (.ListComp elt [⟨tg,iter,ifs,0⟩] scope pos) 0 (.ref it) (.ref D) (compEnvC scope (own++cl) C X.env)).onRaise (fun x=>do noteFrame x (compEnvC scope (own++cl) C X.env);theTreesLotGoes x)) _ _ s5
  refine wpAny_noted ?_
  rw[compTurn_list]
  refine U0 (wpAny_standAt (U0 ?_))
  have fpok:∀{H':Hp} {o:Obj},(∀b∈fp,H' b=none)->∀b∈fp,Oh (Dg X N2 scope (own++cl) C s2 H2 fp) [(D,o)] H' b:=fun {H' o} hn b hbf=>by
   obtain⟨ob,e⟩:=f2h b hbf
   refine⟨hn b hbf,(below b ob e).1,OK.exfs b hbf,.inl hbf,(OK.exf b hbf).2,fun p hp z=>?_⟩
   have hp':p∈[(D,o)]:=hp
   have e':p=(D,o):=by simpa using hp'
   subst e'
   exact(below b ob e).2 z.symm
  rcases turn i n ys H5 w5 with ⟨stop,qn⟩|⟨go,hz2,step⟩
  .refine thn (T.done (Dg X N2 scope (own++cl) C s2 H2 fp) rfl rfl rfl hc i _ s5 _ H5 _ I5 (fpok fr5) st5 stop) fun r s6 ⟨hr,I6⟩=>?_
   subst hr
   refine U0e ?_
   obtain⟨pe,pn,pne,pnf,_⟩:=I6.pin (D,{ cls:=.type "list",data:=.seq its.toArray nn }) (U0y _ (U0q.mpr rfl))
   have hD:H5 D=none:=pn
   have hCn:H5 C=none:=I6.free
   refine hRR D C s6 H5 ys szD szC (U2s hDC) hD hCn ?_ ?_ qn
   .have un:Un (frs X.stack) fp H2 (upd H5 D (.lst ys)) s2.heap s6.heap:=by
     have u:=I6.base
     refine⟨u.keep,u.slot,fun b o e n1 n2=>?_,u.there,fun b xs e=>?_,fun b o u' e=>?_,fun b ps e=>?_,fun n=>by rw[Bh (U02 (U1k I2.bL szD))];exact u.sy n⟩
     .rw[Bh (below b o e).2];exact u.free b o e n1 n2
     .rw[Bh (DR (u.tups b xs e) hD)];exact u.tups b xs e
     .rw[Bh (DR (u.frzs b o u' e) hD)];exact u.frzs b o u' e
     .obtain⟨more,q⟩:=u.tbls b ps e
      exact⟨more,by rw[Bh (DR q hD)];exact q⟩
    refine I2.call' I6.os un (fun b u e=>?_) I6.bare (fun b hbf=>⟨(f2 b hbf).2.2.2.1,(f2 b hbf).2.1,(f2 b hbf).2.2.2.2.1,(f2 b hbf).2.2.2.2.2⟩)
    by_cases hbd:b=D
    .subst hbd
     rw[Bq] at e;cases e
     exact⟨hz,its,nn,rv,pe⟩
    .rw[Bh hbd] at e
     exact(I6.hok b u e).stay (fun _ _ _ q=>q) (fun c q=>by rw[Bh (DR q hD)];exact q) fun c xs q=>by rw[Bh (DR q hD)];exact q
   .obtain⟨m,hn,_⟩:=I6.loc
    exact⟨m,hn⟩
  .refine thn (T.item (Dg X N2 scope (own++cl) C s2 H2 fp) rfl rfl rfl hc i _ s5 _ H5 _ I5 (fpok fr5) st5 go) fun r s6 ⟨u,hr,h6⟩=>?_
   subst hr
   refine U0 (thn h6 fun _ s7 ⟨x,H7,I7,r7,y7,st7,fr7⟩=>?_)
   have I7':=I7.pinned (fpok fr7) (T.obj _ _ st7)
   refine U0 (U5q (hg _ s7 _ H7 x u _ I7' r7 (hlow _ _ _ _ (step x H7 y7))) (fun _ s8 ⟨ZE,H8,I8,q8,ql,qk⟩=>?_) fun _ _ z=>z.elim)
   have wk:∀{pl:List (Addr×Obj)} {H9:Hp} {s9:Shared},Inv (Dg X N2 scope (own++cl) C s2 H2 fp) pl ZE H9 s9->Inv (Dg X N2 scope (own++cl) C s2 H2 fp) pl (J9 k caps Z3) H9 s9:=fun {pl H9 s9} I9 =>
    I9.weak ql.symm fun i v e=>by
     obtain⟨j,a,rfl,_,_⟩:=bA e
     rw[qk (k+j) (U59 _ _)];exact e
   have pinD:∀{pl:List (Addr×Obj)} {ZH:St} {H9:Hp} {s9:Shared},Inv (Dg X N2 scope (own++cl) C s2 H2 fp) (((D,({ cls:=.type "list",data:=.seq its.toArray nn }:Obj))::[])++pl) ZH H9 s9->s9.heap.get? D=some { cls:=.type "list",data:=.seq its.toArray nn }/\H9 D=none:=fun {pl ZH H9 s9} I9=>by
    obtain⟨e1,e2,_⟩:=I9.pin (D,_) (U0y _ (U14 _ (U0q.mpr rfl)))
    exact⟨e1,e2⟩
   have stn:∀{pl:List (Addr×Obj)} {ZH:St} {H9:Hp} {s9:Shared},Inv (Dg X N2 scope (own++cl) C s2 H2 fp) (pl++Ln fp s7.heap) ZH H9 s9->tn (i+1) s9.heap/\∀b∈fp,H9 b=none:=fun {pl ZH H9 s9} I9=>by
    refine⟨T.keep _ _ _ st7 fun b hbf o e=>(I9.pin (b,o) (U0y _ (U0y _ (Ma hbf e)))).1,fun b hbf=>?_⟩
    obtain⟨o,e,d⟩:=T.obj _ _ st7 b hbf
    exact(I9.pin (b,o) (U0y _ (U0y _ (Ma hbf e)))).2.1
   refine U0 (U5q (ht _ s8 ZE H8 _ I8 q8) (fun ok s9 ⟨H9,I9,q9⟩=>?_) fun _ _ z=>z.elim)
   cases ok with
   |false =>
    obtain⟨m',hm,w9⟩:=(by simpa using q9:∃m',m'<n/\W (i+1) m' ys H9)
    refine U0e ⟨rfl,m',hm,i+1,ys,its,nn,H9,wk I9.Q7,rv,(stn I9).1,(stn I9).2,hz,w9⟩
   |true =>
    have q9':te ZE H9 fun v H4=>∃m',m'<n/\W (i+1) m' (ys++[v]) H4:=by simpa using q9
    refine U0 (U0 (U5q (he _ s9 ZE H9 _ I9 q9') (fun y s10 ⟨v,H10,I10,r10,q10⟩=>U0 ?_) fun _ _ z=>z.elim))
    obtain⟨m',hm,w10⟩:=q10
    obtain⟨eD,nD⟩:=pinD I10
    have hl:=rv.length
    refine call_meets F.slot_list_append ⟨_,eD,rfl⟩ F.entry_list_append (F.args_list_append_2 _ _) (PySem.list_append D its.toArray nn y (by rw[U0n];lia)) ⟨eD,?_⟩
    refine U0e (U0e ⟨rfl,m',hm,?_⟩)
    obtain⟨n2,qD⟩:∃n2,(s10.heap.update D (U1y fun z=>z.push y)).get? D=some { cls:=.type "list",data:=.seq (its++[y]).toArray n2 }:=by
     have q0:=PySem.IsL.update eD (fun z=>z.push y)
     have hf:its.toArray.push y=(its++[y]).toArray:=by simp
     rw[hf] at q0
     exact⟨_,q0⟩
    have J0:Inv (Dg X N2 scope (own++cl) C s2 H2 fp) (Ln fp s7.heap) (J9 k caps Z3) H10 s10:=wk (I10.Ri fun p hp=>I10.pin p (U0y _ (U0y _ hp)))
    have J1:Inv (Dg X N2 scope (own++cl) C s2 H2 fp) (Ln fp s7.heap) (J9 k caps Z3) H10 { s10 with heap:=s10.heap.update D (U1y fun z=>z.push y),toks:=s10.toks }:=by
     refine J0.turned (fun b o hne e=>(U1n s10.heap _ (U2s hne)).trans e) nD hDC (.inr szD) (fun x c e z=>?_) fun p hp z=>?_
     .rcases hcs x c e with y|y
      .have:=y.1
       rw[z] at this
       lia
      .obtain⟨o,ho⟩:=okc x c y
       exact(below c o ho).2 z
     .have hp':p∈Ln fp s7.heap:=hp
      obtain⟨ob,e⟩:=f2h p.1 (WQ hp').1
      exact(below p.1 ob e).2 z
    have J2:Inv (Dg X N2 scope (own++cl) C s2 H2 fp) [(D,{ cls:=.type "list",data:=.seq (its++[y]).toArray n2 })] (J9 k caps Z3) H10 { s10 with heap:=s10.heap.update D (U1y fun z=>z.push y),toks:=s10.toks }:=by
     refine J1.Ri fun p hp=>?_
     have e:p=(D,{ cls:=.type "list",data:=.seq (its++[y]).toArray n2 }):=U0q.mp hp
     subst e
     exact⟨qD,nD,hDC,fun z=>by
      rcases U0h.mp (I2.Qm D z) with z|z
      .exact Lb I2.lt szD z.symm
      .exact I2.iQ szD z,fun v z=>by cases z⟩
    refine⟨i+1,ys++[v],its++[y],_,H10,J2,rv.append (.cons r10 .nil),?_,(stn I10).2,?_,w10⟩
    .refine T.keep _ _ _ (stn I10).1 fun b hbf o e=>?_
     obtain⟨ob,e'⟩:=f2h b hbf
     exact(U1n s10.heap _ (U2s (below b ob e').2)).trans e
    .rw[U0p,U4k];lia
 have st1:tn 0 h₁:=T.keep _ _ _ st2 fun b hbf o e=>old b o e
 exact codeAny_compStart_list (loop _ (I4 _) st1) (T.self X.A 0 _ _ _ st1 (loop _ (I4 _) st1))
theorem oY{elt tg iter:Expr}{ifs:List Expr}{scope:Scope}{pos:Pos}{N2:List Str}{k:Nat}{caps:List Nat}{wi:TI}{g:TG}{tt:TT}{te:TE}
  (hc:X.calm=true) (hS:Dp X.env.scope X.N N2 k caps scope) (hlow:Low k g) (hi:PI X tg iter wi)
  (hb:∀(cl:List (Str×Addr))(C:Addr)(s:Shared)(H:Hp)(ex:List Addr),PG `bv tg g/\PTs `bv ifs tt/\PE `bv elt te)
  (hs:∀x,foldedSetIterable iter X.env x=pure x:=by intro _;rfl):PE X (.ListComp elt [⟨tg,iter,ifs,0⟩] scope pos) (bN k caps wi g tt te):=by
 intro pins s Z3 H Q I h
 rw[eval_ListComp]
 obtain⟨cl,hcl0,hcl,hcf⟩:=VB (scope:=scope) (env:=X.env) fun y hy e=>I.ok.has y.1 (hS.free y hy e)
 refine wpAny_comprehension_free (use:=none) rfl hs hcl0 hS.kind hS.loc ?_
 refine thn (hi pins s Z3 H _ I h) fun v s1 h1=>thn h1 fun itv s2 h2=>?_
 obtain⟨it,fp,tn,J,H2,e,I2,T,st2,f2,W,⟨m0,w0⟩,turn⟩:=h2
 subst e
 refine V9 (RR:=fun acc C=>compPost `ai X.A X.xe none (EP X pins Z3 Q) acc C) (Qe:=fun ys H=>∀p,H p=none->Q (.ref p) (upd H p (.lst ys))) hc hS hlow hcl hcf hb I2 T st2 f2 w0 turn ?_
 intro D C s' H' ys hD hC hDC nD nC I' hn q
 obtain⟨m,hn⟩:=hn
 refine⟨m,hn,fun h' hsb=>⟨.ref D,_,?_,rfl,q D nD⟩⟩
 refine I'.but hsb (by rw[Bh hDC];exact nC) (fun z=>?_) (U1b I2.sz hC) (fun x c e z=>?_) fun p hp z=>?_
 .exact Lb I2.lt hC z.symm
 .obtain⟨v,o,ho,_⟩:=I2.cell x c e
  exact Lb (U0o ho) hC z
 .exact Lb (U0o (I2.pin p hp).1) hC z
def wA(i:Nat)(t:TE):TS:=fun D Z3 H=>t Z3 H fun v H1=>D.nx (Z3.set i (some v)) H1
theorem oN{elt tg iter:Expr}{ifs:List Expr}{scope:Scope}{pos py spos:Pos}{N2:List Str}{k i:Nat}{y:Str}{caps:List Nat}{wi:TI}{g:TG}{tt:TT}{te:TE}
  (hc:X.calm=true) (hN:X.N.Nodup) (hi':X.N[i]?=some y) (hS:Dp X.env.scope X.N N2 k caps scope) (hlow:Low k g) (hi:PI X tg iter wi)
  (hb:∀(cl:List (Str×Addr))(C:Addr)(s:Shared)(H:Hp)(ex:List Addr),PG `bv tg g/\PTs `bv ifs tt/\PE `bv elt te)
  (hx:X.env.scope.names.lookup y=some .local:=by rfl) (hsw:swapsWith (.ListComp elt [⟨tg,iter,ifs,0⟩] scope pos) (some (.Name y py)) spos.line X.env=pure true:=by rfl)
  (hs:∀x,foldedSetIterable iter X.env x=pure x:=by intro _;rfl):PS X (.Assign [.Name y py] (.ListComp elt [⟨tg,iter,ifs,0⟩] scope pos) spos) (wA i (bN k caps wi g tt te)):=by
 intro pins s Z3 H D0 I h
 obtain⟨cl,hcl0,hcl,hcf⟩:=VB (scope:=scope) (env:=X.env) fun y hy e=>I.ok.has y.1 (hS.free y hy e)
 rw[exec_Assign_Name_used _ _ _ _ hsw]
 refine U0 (wpAny_standAt (U0 ?_))
 show wpAny _ X.A (do let _ ←comprehension (.ListComp elt [⟨tg,iter,ifs,0⟩] scope pos) scope X.env _ (newList []) false (eval iter X.env) (some (assign (.Name y py) X.env))) _ _ s
 refine U0 (U5q (wpAny_comprehension_free (use:=some (assign (.Name y py) X.env)) (Q:=fun _ s'=>SP X pins D0 .next s') rfl hs hcl0 hS.kind hS.loc ?_) (fun _ s' hq=>U0e (U0e hq)) fun _ _ e=>e)
 refine thn (hi pins s Z3 H _ I h) fun v s1 h1=>thn h1 fun itv s2 h2=>?_
 obtain⟨it,fp,tn,J,H2,e,I2,T,st2,f2,W,⟨m0,w0⟩,turn⟩:=h2
 subst e
 refine V9 (RR:=fun acc C=>compPost `ai X.A X.xe (some (assign (.Name y py) X.env)) (fun _ s'=>SP X pins D0 .next s') acc C)
  (Qe:=fun ys H=>∀p,H p=none->D0.nx (Z3.set i (some (.ref p))) (upd H p (.lst ys))) hc hS hlow hcl hcf hb I2 T st2 f2 w0 turn ?_
 intro D C s' H' ys hD hC hDC nD nC I' hn q
 obtain⟨m,hn⟩:=hn
 show wpAny _ X.A (assign (.Name y py) X.env (.ref D)) _ _ _
 refine wpAny_assign_Name (W7 (v:=.ref D) I' hN hi' (.inl hx) rfl (fun s'' I'' ⟨a,hsb,ha⟩=>?_) (.inr hx))
 have hLC:C≠X.env.locals:=fun z=>Lb I2.lt hC z.symm
 have hcC:∀x c,X.env.cells.lookup x=some c->c≠C:=fun x c e z=>by
  obtain⟨v,o,ho,_⟩:=I2.cell x c e
  exact Lb (U0o ho) hC z
 have haC:C≠a:=by
  rcases ha with z|z
  .rw[z];exact hLC
  .exact fun e=>hcC y a z e.symm
 refine⟨m,hn.sameBut hsb haC,fun h' hsb'=>?_⟩
 refine⟨_,_,I''.but hsb' (by rw[Bh hDC];exact nC) hLC (U1b I2.sz hC) hcC fun p hp z=>?_,q D nD⟩
 exact Lb (U0o (I2.pin p hp).1) hC z
end
end L2
end
section
namespace L2
open PySem PySem.Spec PyProof.Rows
theorem Dm.obj{P:Program}{w:World}{H:Hp}{h:Heap}{a:Addr}{o:HO}(x:Dm P w H h a o):∃ob,h.get? a=some ob:=by
 cases o with
 |lst xs=>obtain⟨_,_,_,_,e⟩:=x;exact⟨_,e⟩
 |tup xs=>obtain⟨_,_,_,ob,e,_⟩:=x;exact⟨ob,e⟩
 |dK kvs=>obtain⟨_,_,_,_,o,_,_,e,_⟩:=x;exact⟨o,e⟩
 |dT kvs=>obtain⟨_,_,_,_,o,_,_,e,_⟩:=x;exact⟨o,e⟩
 |set S n=>obtain⟨o,_,_,_,e,_⟩:=x;exact⟨o,e⟩
 |ins C dx fs=>obtain⟨_,_,_,e,_⟩:=x;exact⟨_,e⟩
 |own y=>exact x
 |xd fs=>obtain⟨_,⟨o,_,_,e,_⟩,_⟩:=x;exact⟨o,e⟩
 |rng lo hi=>obtain⟨_,_,_,e⟩:=x;exact⟨_,e⟩
 |frz ob u=>obtain⟨e,_⟩:=x;exact⟨_,e⟩
 |tbl ps=>exact⟨_,x⟩
 |met f y=>exact⟨_,x⟩
 |ext φ=>obtain⟨_,e,_⟩:=x;exact e
section
variable{X:Cx}{pins:List (Addr×Obj)}{Z3:St}{H:Hp}{s:Shared}
theorem Inv.Pb(I:Inv X pins Z3 H s){a:Addr}(h:s.heap.get? a=none):H a=none:=by
 cases q:H a with
 |none=>rfl
 |some o =>
  obtain⟨ob,e⟩:=(I.hok a o q).obj
  rw[h] at e;cases e
theorem Inv.laidN{a:Addr}{o:HO}{h':Heap}{d':Drawn}{t':Nat}(I:Inv X pins Z3 H s)(k:∀b u,s.heap.get? b=some u->h'.get? b=some u)(hn:s.heap.get? a=none)(hsy:sysModules≠a)(new:Dm X.prog X.w (upd H a o) h' a o) :
  Inv X pins Z3 (upd H a o) { s with heap:=h',drawn:=d',toks:=t' }:=by
 have hH:=I.Pb hn
 have ne:∀b u,s.heap.get? b=some u->b≠a:=fun b u e z=>by rw[z,hn] at e;cases e
 refine I.step (g':=s.gens) (ch:=[]) (fun _ z=>nomatch z) (fun b u _ _ _ e _=>k b u e) (fun b u _ _ _ e _=>⟨u.slots,k b u e⟩) (fun b u _ e n=>by rw[Bh (ne b u e)];exact n) (fun b u _ e=>⟨u,k b u e⟩)
  (fun b xs e=>by rw[Bh (DR e hH)];exact e) (fun b u xs e=>by rw[Bh (DR e hH)];exact e) (fun b ps e=>⟨#[],by rw[Bh (DR e hH),e];simp⟩) (fun m hm=>?_) (fun b u e=>?_) I.bare (fun n=>by rw[Bh hsy];exact n)
 .obtain⟨ob,es,ep,e,r⟩:=hm
  exact⟨ob,es,ep,k _ _ e,r⟩
 .by_cases hb:b=a
  .subst hb;rw[Bq] at e;cases e;exact new
  .rw[Bh hb] at e
   exact(I.hok b u e).stay (fun c v _ q=>k c v q) (fun c q=>by rw[Bh (DR q hH)];exact q) fun c xs q=>by rw[Bh (DR q hH)];exact q
end
def Qg(P:Program)(w:World)(a:Addr)(ds:List Int):HO:=.ext fun h=>SetP.SetT P w h a ds
theorem ni{P:Program}{w:World}{H:Hp}{h:Heap}{a:Addr}{ds:List Int}(x:SetP.SetT P w h a ds):Dm P w H h a (Qg P w a ds) :=
 ⟨x,(by obtain⟨_,o,_,_,_,e,_⟩:=x;exact⟨o,e⟩),fun h1 h2 y k=>y.sameBut k⟩
section
variable{X:Cx}
theorem Ys(hc:X.calm=true):Df X (.type "set") (fun xs H Q=>∃p ns,xs=[.ref p]/\SqL X.K H p (ns.map V.int)/\(SetP.once ns).length<1000/\∀a,H a=none->Q (.ref a) (upd H a (Qg X.prog X.w a (SetP.once ns)))):=by
 intro pins s Z3 H xs us Q I r h
 obtain⟨p,ns,rfl,hq,hl,q⟩:=h
 obtain⟨u,rfl,rx⟩:=vals1 r
 cases rx
 obtain⟨its,rv,pl,hz⟩:=I.list hq
 have hlen:=rv.length
 rw[U0d] at hlen
 refine SetP.nZ (I.ok.hd hc) pl.isList (by simpa using intsAre_of rv) (by unfold scanBound;lia) fun h' tk k T=>?_
 have hn:s.heap.get? s.heap.objs.size=none:=U7c (U0l _)
 exact⟨.ref s.heap.objs.size,_,I.laidN (d':=s.drawn) (t':=tk) k hn (U02 I.bL) (ni T),rfl,q _ (I.hok.fresh (U0l _))⟩
theorem W5(hc:X.calm=true):Df X (.builtin "sorted") (fun xs H Q=>∃(a:Addr)(ds:List Int),xs=[.ref a]/\H a=some (Qg X.prog X.w a ds)/\ds.length<64 /\
  ∀(l:Addr)(ns:List Int),H l=none->ns.Perm ds->ns.Pairwise (·<=·)->Q (.ref l) (upd H l (.lst (ns.map V.int)))):=by
 intro pins s Z3 H xs us Q I r h
 obtain⟨a,ds,rfl,hH,hl,q⟩:=h
 obtain⟨u,rfl,rx⟩:=vals1 r
 cases rx
 obtain⟨T,_,_⟩:=(show Dm X.prog X.w H s.heap a (Qg X.prog X.w a ds) from I.hok a _ hH)
 refine SetP.jJ (I.ok.hd hc) T hl fun h' d' tk l vs ns n k hb e hi hp hs=>?_
 have hn:s.heap.get? l=none:=by
  cases q:s.heap.get? l with
  |none=>rfl
  |some o=>exact absurd (hb l o q) (U4g _)
 have hsy:sysModules≠l:=by
  obtain⟨o,_,_,e,_⟩:=I.ok.mod.glob
  exact U02 (U4c (by decide:(1:Nat)<3) (hb _ _ (I.bk _ _ e)))
 have hlen:ns.length<64:=by rw[hp.length_eq];exact hl
 refine⟨.ref l,_,I.laidN (d':=d') (t':=tk) (o:=.lst (ns.map V.int)) k hn hsy ⟨?_,vs.toList,n,O4 hi,by simpa using e⟩,rfl,q l ns (I.Pb hn) hp hs⟩
 rw[U0d]
 exact U2g (R8 (by lia))
theorem ZS{prog:Program}{w:World}{A:Around}{bs:List Bool}{its:List Value}(r:Vals (bs.map V.bl) its):TruthOf prog w A (fun i v=>its.toArray[i]?=some v) (fun i=>bs.getD i false):=by
 intro i v s Q E hP h
 rw[U52] at hP
 have hlen:=r.length
 rw[U0d] at hlen
 have hi:i<bs.length:=by rw[hlen];exact(U0j.mp hP).1
 obtain⟨u,e,ru⟩:=r.get (i:=i) (x:=.bl bs[i]) (by rw[U07,U0w hi];rfl)
 rw[e] at hP;cases hP
 have ru':v=U5a bs[i]:=ru
 subst ru'
 have e2:bs.getD i false=bs[i]:=by rw[U3r,U0w hi];rfl
 have h:Q (bs.getD i false) s:=h
 rw[e2] at h
 exact U47 h
theorem all_range(bs:List Bool):(U3e bs.length).all (fun i=>bs.getD i false)=bs.all id:=by
 rw[U4z,U32,U32]
 constructor
 .intro h b hb
  obtain⟨i,hi⟩:=U1l.mp hb
  have q:=h i (U2y.mpr (U0j.mp hi).1)
  rw[U3r,hi] at q
  exact q
 .intro h i hi
  have hi':=U2y.mp hi
  rw[U3r,U0w hi']
  exact h _ (U3c hi')
theorem Tp(hc:X.calm=true):Df X (.builtin "all") (fun xs H Q=>∃(p:Addr)(bs:List Bool),xs=[.ref p]/\SqL X.K H p (bs.map V.bl)/\Q (.bl (bs.all id)) H):=by
 intro pins s Z3 H xs us Q I r h
 obtain⟨p,bs,rfl,hq,q⟩:=h
 obtain⟨u,rfl,rx⟩:=vals1 r
 cases rx
 obtain⟨its,rv,pl,hz⟩:=I.list hq
 have hlen:=rv.length
 rw[U0d] at hlen
 have hl:=pl.isList
 have hlt:p<s.heap.objs.size:=by obtain⟨o,ho,_⟩:=hl;exact U0o ho
 refine call_all_walk (U5x hl ?_)
 refine⟨s.heap.objs.size,[s.heap.objs.size,p],[s.heap.objs.size],its.toArray.size,_,_,fun i=>bs.getD i false,rfl,Walks.list (by simpa using I.ok.hd hc) s.heap.objs.size p (U02 hlt) its.toArray,⟨⟨_,U0u _ rfl,rfl,rfl⟩,hl.push _⟩,ZS rv,fun h' tk k=>?_⟩
 refine⟨.bl (bs.all id),H,I.kept (h':=h') (t':=tk) fun b o e=>k b o (fun z=>?_) (U0c _ e),?_,q⟩
 .exact absurd (U0q.mp z) (U02 (U0o e))
 .show U5a _=U5a _
  rw[U0n,←hlen,all_range]
theorem CT{K:U0b}{a b:String}{r:Bool}(h:(if (U22 a==U22 b)=true then some true else if PySem.W.kitMeta b=true then (PySem.fastBuiltinMro a).map (·.contains (.type b)) else none)=some r):U38 K (.type a) (.type b)=some r:=h
theorem Zm:Df X (.builtin "isinstance") (fun xs H Q=>∃(x:V)(T:String)(t:Value)(b:Bool),xs=[x,.ty T]/\Jp X.K H x t/\U38 X.K t (.type T)=some b/\Q (.bl b) H):=by
 intro pins s Z3 H xs us Q I r h
 obtain⟨x,T,t,b,rfl,ty,e,q⟩:=h
 obtain⟨u,w',rfl,rx,rt⟩:=vals2 r
 cases (show w'=U22 T from rt)
 exact gJ I rx ty e fun tk=>⟨.bl b,H,I.tok tk,rfl,q⟩
end
end L2
end
section
namespace L2
open PySem PySem.Spec PyProof.Rows
mutual
inductive Tr (N:Addr->Prop) (H:Hp):V->PyData->Prop
 |non:Tr N H .non .none
 |bl (b:Bool):Tr N H (.bl b) (.bool b)
 |int (i:Int):Tr N H (.int i) (.int i)
 |str (x:Str):Tr N H (.str x) (.str x)
 |lst {a:Addr} {xs:List V} {ds:List PyData}:N a->H a=some (.lst xs)->KC N H xs ds->Tr N H (.ref a) (.list ds)
 |tup {a:Addr} {xs:List V} {ds:List PyData}:N a->H a=some (.tup xs)->KC N H xs ds->Tr N H (.ref a) (.tuple ds)
 |dct {a:Addr}:N a->H a=some (.dK [])->Tr N H (.ref a) (.dict [])
inductive KC (N:Addr->Prop) (H:Hp):List V->List PyData->Prop
 |nil:KC N H [] []
 |cons {x:V} {d:PyData} {xs:List V} {ds:List PyData}:Tr N H x d->KC N H xs ds->KC N H (x::xs) (d::ds)
end
section
variable{N N':Addr->Prop}{H H':Hp}
end
section
variable{N:Addr->Prop}{P:Program}{w:World}{H:Hp}{h:Heap}
mutual
theorem Tr.reads(ok:HOk P w H h)(hs:H sysModules=none):∀{v:V} {d:PyData},Tr N H v d->∀u,RelV v u->∃as,Reads h u d as/\sysModules ∉ as
 |_,_,.non,u,r=>⟨[],by cases (show u=U3 from r);exact .none,by simp⟩
 |_,_,.bl b,u,r=>⟨[],by cases (show u=U5a b from r);exact .bool b,by simp⟩
 |_,_,.int i,u,r=>by obtain⟨t,rfl⟩:=(show ∃t,u=U70 i t from r);exact⟨[],.int i t,by simp⟩
 |_,_,.str x,u,r=>by obtain⟨t,rfl⟩:=(show ∃t,u=Value.str x t from r);exact⟨[],.str x t,by simp⟩
 |_,_,.lst (a:=a) (xs:=xs) (ds:=ds) _ hH t,u,r=>by
  cases (show u=U24 a from r)
  obtain⟨_,its,n,rv,e⟩:=(show Dm P w H h a (.lst xs) from ok a _ hH)
  obtain⟨as,ra,na⟩:=KC.reads ok hs t its rv
  refine⟨a::as,.list e rfl rfl (by simpa using ra),fun z=>?_⟩
  rcases U0h.mp z with z|z
  .rw[z] at hs;rw[hs] at hH;cases hH
  .exact na z
 |_,_,.tup (a:=a) (xs:=xs) (ds:=ds) _ hH t,u,r=>by
  cases (show u=U24 a from r)
  obtain⟨_,its,rv,ob,e,c,n,d⟩:=(show Dm P w H h a (.tup xs) from ok a _ hH)
  obtain⟨as,ra,na⟩:=KC.reads ok hs t its rv
  exact⟨as,.tuple e c d (by simpa using ra),na⟩
 |_,_,.dct (a:=a) _ hH,u,r=>by
  cases (show u=U24 a from r)
  obtain⟨_,y,vs,kv,o,es,ep,e,ex,d,el⟩:=(show Dm P w H h a (.dK []) from ok a _ hH)
  cases kv
  have e0:es.toList=[]:=by
   have q:Pairs (Vm P w) es.toList []:=el.2.1
   generalize es.toList=l at q
   cases q
   rfl
  refine⟨[a],.dict (as:=[]) (bs:=[]) e ex.1 d (by rw[e0];exact .nil) (by rw[e0];exact .nil),fun z=>?_⟩
  have z':=U0q.mp z
  rw[←z'] at y
  simp at y
theorem KC.reads(ok:HOk P w H h)(hs:H sysModules=none):∀{xs:List V} {ds:List PyData},KC N H xs ds->∀us,Vals xs us->∃as,ReadsAll h us ds as/\sysModules ∉ as
 |_,_,.nil,us,r=>by cases r;exact⟨[],.nil,by simp⟩
 |_,_,.cons t ts,us,r=>by
  cases r with
  |cons rx rr =>
   obtain⟨as,ra,na⟩:=Tr.reads ok hs t _ rx
   obtain⟨bs,rb,nb⟩:=KC.reads ok hs ts _ rr
   exact⟨as++bs,.cons ra rb,fun z=>(U0z.mp z).elim na nb⟩
end
end
section
variable{X:Cx}
theorem gn{k:Nat}(hr:Eb k X.A):Df X (.builtin "repr") (fun xs H Q=>∃(N:Addr->Prop)(a:Addr)(d:PyData),xs=[.ref a]/\Tr N H (.ref a) d/\d.showable=true/\d.depth<=60/\d.shown.length<=sizeLine/\Q (.str d.shown) H):=by
 intro pins s Z3 H xs us Q I r h
 obtain⟨N,a,d,rfl,t,h1,h2,h3,q⟩:=h
 obtain⟨u,rfl,rx⟩:=vals1 r
 cases rx
 obtain⟨as,ra,na⟩:=t.reads I.hok I.Sw (.ref a) rfl
 have hu:=hr.un
 exact repr_of_reads' ra h1 (fun _=>na) hr.gd (by lia) (fun _ _ e=>e) (fun h' u tk k=>⟨.str d.shown,H,I.kept (h':=h') (t':=tk) k,⟨u,rfl⟩,q⟩) h3
theorem uM{k:Nat}(hr:Eb k X.A):OpR X (compareOp .Eq) (fun x y H Q=>∃(N N':Addr->Prop)(d e:PyData),Tr N H x d/\Tr N' H y e/\U20 d=true/\U20 e=true/\Q (.bl (U6s d e)) H):=by
 intro pins s Z3 H x y v u Q I rx ry h
 obtain⟨N,N',d,e,t1,t2,s1,s2,q⟩:=h
 obtain⟨as,ra,_⟩:=t1.reads I.hok I.Sw v rx
 obtain⟨bs,rb,_⟩:=t2.reads I.hok I.Sw u ry
 exact SeqAt.compareEq_shaped ra rb s1 s2 hr.units ⟨.bl _,H,I,rfl,q⟩
theorem uJ{k:Nat}(hr:Eb k X.A):OpR X (compareOp .NotEq) (fun x y H Q=>∃(N N':Addr->Prop)(d e:PyData),Tr N H x d/\Tr N' H y e/\U20 d=true/\U20 e=true/\Q (.bl (!PyData.eqv d e)) H):=by
 intro pins s Z3 H x y v u Q I rx ry h
 obtain⟨N,N',d,e,t1,t2,s1,s2,q⟩:=h
 obtain⟨as,ra,_⟩:=t1.reads I.hok I.Sw v rx
 obtain⟨bs,rb,_⟩:=t2.reads I.hok I.Sw u ry
 exact SeqAt.compareNe_shaped ra rb s1 s2 hr.units ⟨.bl _,H,I,rfl,q⟩
end
end L2
end
section
namespace HT
open PySem PySem.Spec PyProof.Rows
section
variable{prog:Program}{w:World}{A:Around}{E:Value->Shared->Prop}{s:Shared}
theorem lD{t b:Addr}{ws:List Value}{Q:Value->Shared->Prop}(ht:IsTup s.heap t ([]:List Value).toArray)(hb:IsTup s.heap b ws.toArray)(h:Q (.ref b) s):wpAny `am A (binaryOp .Add (.ref t) (.ref b)) Q E s:=by
 obtain⟨⟨c1,d1,x1,sl1⟩,ho,hc,n,hd⟩:=id ht
 obtain⟨⟨c2,d2,x2,sl2⟩,ho2,hc2,n2,hd2⟩:=id hb
 simp only at hc hd hc2 hd2
 subst hc hd hc2 hd2
 exact concat_meets ⟨_,ho,rfl⟩ ⟨_,ho2,rfl⟩ noFill_tuple_add seq_tuple_add U63 U6u (U6j _ _) (tuple_addW0 t b _ ws.toArray n n2 d1 d2 sl1 sl2 (by simp)) ⟨ho,ho2,h⟩
theorem ZW{t sl:Addr}{items:Array Value}{vl vu:Value}{lo hi:Option Int}{Q:Value->Shared->Prop}(ht:IsTup s.heap t items)(hs:s.heap.IsSliceOf sl vl vu .none)(pl:IsPart vl lo)(pu:IsPart vu hi)
  (hw:sIx items.size 0 lo=0/\sIx items.size items.size hi=items.size) (h:Q (.ref t) s):wpAny `am A (getItem (.ref t) (.ref sl)) Q E s:=by
 obtain⟨os,hos,hcs,hds⟩:=id hs
 have hTs:s.TypeIs (.ref sl) "slice":=⟨os,hos,hcs⟩
 unfold getItem
 try with_reducible refine U2j ?_
 first|refine U0 (U0e ?_)|skip
 refine U0 (wpAny_sequenceKey ht.typeIs (by decide) ?_)
 refine U0 (wpAny_callSpecial?_slot (name:=U4v "__getitem__") ht.typeIs U27 (U2m U27 ht.typeIs entry_tuple_getitem ?_ (args_tuple_getitem _ _)))
 show wpAny _ _ (Builtin.Tuple.tupleItemsOf (.ref t) >>= _) _ _ s
 refine U0 (tupleItemsOf_ ht (U0 (U6k hTs ?_)))
 rw[if_pos (by decide)]
 refine U0 (Nr hs pl pu ?_)
 have yes:(((sIx items.size 0 lo:Nat):Int)==0&&(1:Int)==1&&(sIx items.size items.size hi-sIx items.size 0 lo)==items.size)=true:=by
  rw[hw.1,hw.2];simp
 show wpAny _ _ (if (((sIx items.size 0 lo:Nat):Int)==0&&(1:Int)==1&&(sIx items.size items.size hi-sIx items.size 0 lo)==items.size)=true then _ else _) _ _ s
 rw[if_pos yes]
 unfold Builtin.Tuple.tupleIsExact
 refine U0 (U0 (U6k ht.typeIs (U0e ?_)))
 rw[if_pos (by decide)]
 exact U0 (U39 (U0e ⟨_,rfl,U0e h⟩))
end
end HT
namespace L2
open PySem PySem.Spec PyProof.Rows
theorem Ci{H:Hp}{p:Addr}(h:H p=none)(o:HO):Same H (upd H p o):=fun b u q=>by rw[Bh (DR q h)];exact q
theorem cj(xs:List V)(lo hi:Option Int)(h:HT.sIx xs.length 0 lo=0/\HT.sIx xs.length xs.length hi=xs.length):K5 xs lo hi=xs:=by
 unfold K5
 rw[h.1,h.2,U54,Nat.sub_zero,U69]
section
variable{X:Cx}
theorem pG:OpR X (binaryOp .Add) (fun x y H Q=>∃(a b:Addr)(xs ys:List V),x=.ref a/\y=.ref b/\H a=some (.tup xs)/\H b=some (.tup ys)/\xs.length+ys.length<=sizeLine/\∀p H',Same H H'->H' p=some (.tup (xs++ys))->Q (.ref p) H'):=by
 intro pins s Z3 H x y v u Q I rx ry h
 obtain⟨a,b,xs,ys,rfl,rfl,ha,hb,hz,q⟩:=h
 by_cases hx:xs=[]
 .subst hx
  cases rx
  cases ry
  obtain⟨its,r1,p1,_⟩:=I.tuple (SqT.of ha)
  obtain⟨its2,r2,p2,_⟩:=I.tuple (SqT.of hb)
  cases r1
  exact HT.lD p1 p2 ⟨.ref b,H,I,rfl,q b H `br hb⟩
 .refine pF pins s Z3 H _ _ v u Q I rx ry ⟨a,b,xs,ys,rfl,rfl,SqT.of ha,SqT.of hb,hx,hz,fun z=>?_,fun _ p hp=>q p _ (Ci hp _) Bq⟩
  subst z
  exact q a H `br (by rw[U1o];exact ha)
theorem nQ:SlR X (fun x lo hi H Q=>∃(a:Addr)(xs:List V),x=.ref a/\H a=some (.tup xs)/\∀p H',Same H H'->H' p=some (.tup (K5 xs lo hi))->Q (.ref p) H'):=by
 intro pins s Z3 H x v vl vu lo hi sl Q I rx hs pl pu h
 obtain⟨a,xs,rfl,ha,q⟩:=h
 by_cases hw:HT.sIx xs.length 0 lo=0/\HT.sIx xs.length xs.length hi=xs.length
 .cases rx
  obtain⟨its,r,ht,hz⟩:=I.tuple (SqT.of ha)
  have hlen:its.toArray.size=xs.length:=by rw[U0n];exact r.length.symm
  refine⟨"tuple",_,U27.lookup,ht.typeIs,?_⟩
  exact HT.ZW ht hs pl pu (by rw[hlen];exact hw) ⟨.ref a,H,I,rfl,q a H `br (by rw[cj xs lo hi hw];exact ha)⟩
 .exact tE pins s Z3 H _ v vl vu lo hi sl Q I rx hs pl pu ⟨a,xs,rfl,SqT.of ha,hw,fun p hp=>q p _ (Ci hp _) Bq⟩
end
end L2
end
section
namespace L2
open PySem PySem.Spec PyProof.Rows
def Cal(P:Program)(w:World)(K:U0b)(mg:Str->Option Value)(base:Heap)(x:Str)(k:Nat)(ps:List Str)(sp:Sp):Prop :=
 ∃f fd,DY P w K mg base CX0 k f fd ps sp/\Binds K fd ps []/\U1g K (.ref f)=true/\mg x=some (.ref f)
section
variable{X:Cx}
theorem TX{x:Str}{k k':Nat}{ps:List Str}{sp:Sp}{e:Expr}{es:List Expr}{t:TA}{p pos:Pos}(c:Cal X.prog X.w X.K X.mg X.base x k ps sp)(hr:Eb k' X.A)(hk:k<=k')(hg:Gl X x)(ha:PA X (e::es) t)
  (hdb:(x==("__debug__":Str))=false:=by decide) (he:starEach (e::es) X.env=`bt::starEach es X.env:=by rfl) (hpl:(`bu).any (·.1)=false:=by rfl) :
  PE X (.Call (.Name x p) (e::es) [] pos) (lU sp [] E0 t):=by
 obtain⟨f,fd,F,b,kp,m⟩:=c
 exact ou (F.mono hk) hr hg m kp b .nil wY ha hdb he hpl
theorem YX:OpR X (binaryOp .FloorDiv) (rI (fun _ j=>0<j/\j<2^64) fun i j=>.int (i/j)):=opI fun i j _ _ _ _ _ hc q=>by
 rw[←Int.fdiv_eq_ediv_of_nonneg _ (U4e hc.1)] at q
 refine floordiv_int (Int.ne_of_gt hc.1) q (.inl (PyProof.noPylong_of_log2 ?_))
 have h1:j.natAbs<2^64:=by omega
 have h2:j.natAbs≠0:=by omega
 exact U4c ((Nat.log2_lt h2).mpr h1) (by decide)
end
theorem Nb:bootBuiltins "len"=some (.builtin "len"):=by decide +kernel
theorem Jj:bootBuiltins "isinstance"=some (.builtin "isinstance"):=by decide +kernel
theorem Xz:bootBuiltins "all"=some (.builtin "all"):=by decide +kernel
theorem OD:bootBuiltins "sorted"=some (.builtin "sorted"):=by decide +kernel
theorem Xx:bootBuiltins "min"=some (.builtin "min"):=by decide +kernel
theorem vJ:bootBuiltins "max"=some (.builtin "max"):=by decide +kernel
theorem bB:bootBuiltins "repr"=some (.builtin "repr"):=by decide +kernel
theorem Xw:bootBuiltins "set"=some (.type "set"):=by decide +kernel
theorem bC:bootBuiltins "list"=some (.type "list"):=by decide +kernel
theorem lH:bootBuiltins "tuple"=some (.type "tuple"):=by decide +kernel
theorem Xy:bootBuiltins "int"=some (.type "int"):=by decide +kernel
theorem qU:bootBuiltins "bool"=some (.type "bool"):=by decide +kernel
def Tq:List Str:=["len","isinstance","all","sorted","min","max","abs","repr","set","list","tuple","range","int","bool","str"]
def Blt(mg:Str->Option Value):Prop:=∀x∈Tq,mg x=none
theorem Blt.is{mg:Str->Option Value}(b:Blt mg)(x:Str)(h:Tq.contains x=true:=by decide +kernel):mg x=none:=b x (List.contains_iff_mem.mp h)
def tyName:PyData->String
 |.none=>"NoneType"
 |.bool _=>"bool"
 |.int _=>"int"
 |.str _=>"str"
 |.list _=>"list"
 |.tuple _=>"tuple"
 |.dict _=>"dict"
theorem Tr.ty{N:Addr->Prop}{K:U0b}{H:Hp}{v:V}{d:PyData}(t:Tr N H v d):Jp K H v (.type (tyName d)):=by
 cases t with
 |non=>exact .non
 |bl b=>exact .bl b
 |int i=>exact .int i
 |str x=>exact .str x
 |lst _ h _=>exact .lst h
 |tup _ h _=>exact .tup h
 |dct _ h=>exact .dK h
def Xc(T:String)(d:PyData):Bool:=match T with
 |"int"=>(match d with|.int _=>true|.bool _=>true|_=>false)
 |"bool"=>(match d with|.bool _=>true|_=>false)
 |"tuple"=>(match d with|.tuple _=>true|_=>false)
 |"list"=>(match d with|.list _=>true|_=>false)
 |_=>false
theorem pY{K:U0b}(d:PyData):U38 K (.type (tyName d)) (.type "int")=some (Xc "int" d):=by
 cases d with
 |none=>exact CT (a:="NoneType") (r:=false) (by decide +kernel)
 |bool _=>exact CT (a:="bool") (r:=true) (by decide +kernel)
 |int _=>exact CT (a:="int") (r:=true) (by decide +kernel)
 |str _=>exact CT (a:="str") (r:=false) (by decide +kernel)
 |list _=>exact CT (a:="list") (r:=false) (by decide +kernel)
 |tuple _=>exact CT (a:="tuple") (r:=false) (by decide +kernel)
 |dict _=>exact CT (a:="dict") (r:=false) (by decide +kernel)
theorem jt{K:U0b}(d:PyData):U38 K (.type (tyName d)) (.type "bool")=some (Xc "bool" d):=by
 cases d with
 |none=>exact CT (a:="NoneType") (r:=false) (by decide +kernel)
 |bool _=>exact CT (a:="bool") (r:=true) (by decide +kernel)
 |int _=>exact CT (a:="int") (r:=false) (by decide +kernel)
 |str _=>exact CT (a:="str") (r:=false) (by decide +kernel)
 |list _=>exact CT (a:="list") (r:=false) (by decide +kernel)
 |tuple _=>exact CT (a:="tuple") (r:=false) (by decide +kernel)
 |dict _=>exact CT (a:="dict") (r:=false) (by decide +kernel)
theorem kit_tuple{K:U0b}(d:PyData):U38 K (.type (tyName d)) (.type "tuple")=some (Xc "tuple" d):=by
 cases d with
 |none=>exact CT (a:="NoneType") (r:=false) (by decide +kernel)
 |bool _=>exact CT (a:="bool") (r:=false) (by decide +kernel)
 |int _=>exact CT (a:="int") (r:=false) (by decide +kernel)
 |str _=>exact CT (a:="str") (r:=false) (by decide +kernel)
 |list _=>exact CT (a:="list") (r:=false) (by decide +kernel)
 |tuple _=>exact CT (a:="tuple") (r:=true) (by decide +kernel)
 |dict _=>exact CT (a:="dict") (r:=false) (by decide +kernel)
theorem jr{K:U0b}(d:PyData):U38 K (.type (tyName d)) (.type "list")=some (Xc "list" d):=by
 cases d with
 |none=>exact CT (a:="NoneType") (r:=false) (by decide +kernel)
 |bool _=>exact CT (a:="bool") (r:=false) (by decide +kernel)
 |int _=>exact CT (a:="int") (r:=false) (by decide +kernel)
 |str _=>exact CT (a:="str") (r:=false) (by decide +kernel)
 |list _=>exact CT (a:="list") (r:=true) (by decide +kernel)
 |tuple _=>exact CT (a:="tuple") (r:=false) (by decide +kernel)
 |dict _=>exact CT (a:="dict") (r:=false) (by decide +kernel)
end L2
end
section
namespace L2
open PySem PySem.Spec PyProof.Rows
def Pj:PyData->Bool
 |.none=>true
 |.bool _=>true
 |.int i=>decide (i.natAbs<10^41)
 |.str x=>decide (x.length<=30)&&x.cps.toList.all fun c=>decide (c<16^8)
 |.dict kvs=>kvs.isEmpty
 |_=>false
def fit:List Nat->PyData->Bool
 |w::ws,.list xs=>decide (xs.length<=w)&&xs.all (fit ws)
 |w::ws,.tuple xs=>decide (xs.length<=w)&&xs.all (fit ws)
 |_,d=>Pj d
def bnd:List Nat->Nat
 |[]=>400
 |w::ws=>w*(bnd ws+2)+400
theorem aP{d:PyData}(h:Pj d=true):d.showable=true/\d.depth<=1/\d.shown.length<=400:=by
 cases d with
 |none=>exact⟨rfl,by simp[U33],by decide⟩
 |bool b=>exact⟨rfl,by simp[U33],by cases b<;>decide⟩
 |int i =>
  have hi:i.natAbs<10^41:=of_decide_eq_true h
  refine⟨?_,by simp[U33],?_⟩
  .simp only[U7j,decide_eq_true_eq]
   by_cases h0:i.natAbs=0
   .rw[h0];decide
   .exact U4c ((Nat.log2_lt h0).mpr (U4c hi (by decide:10^41<2^137))) (by decide)
  .have q:=int_text_length_le10 (k:=41) (by decide) hi
   have e:(U6m (.int i)).length=(toString i).length:=by
    show(U4v (toString i)).length=_
    exact PySem.ofString_length _
   rw[e];lia
 |str x =>
  simp only[Pj,U0v,decide_eq_true_eq,U32] at h
  refine⟨rfl,by simp[U33],?_⟩
  have q:=StrLaws.reprText_len x h.2
  simp only[U6m]
  have:=h.1
  lia
 |list xs=>cases h
 |tuple xs=>cases h
 |dict kvs =>
  cases kvs with
  |nil=>exact⟨rfl,by simp[U33,PyData.depthKv],by decide⟩
  |cons a r=>cases h
theorem Vw{ws:List Nat}(ih:∀d,fit ws d=true->d.showable=true/\d.depth<=ws.length+1/\d.shown.length<=bnd ws):∀xs:List PyData,xs.all (fit ws)=true ->
  PyData.showableAll xs=true/\U42 xs<=ws.length+1/\((U5t xs).map (·.length)).sum+2*(U5t xs).length<=xs.length*(bnd ws+2)
 |[],_=>⟨rfl,by simp[U42],by simp[U5t]⟩
 |x::r,h=>by
  rw[List.all_cons,U0v] at h
  obtain⟨a1,a2,a3⟩:=ih x h.1
  obtain⟨b1,b2,b3⟩:=Vw ih r h.2
  refine⟨by simp[PyData.showableAll,a1,b1],by simp only[U42];lia,?_⟩
  simp only[U5t,U0r,List.sum_cons,U0f]
  rw[show(r.length+1)*(bnd ws+2)=r.length*(bnd ws+2)+(bnd ws+2) from U88 _ _]
  lia
theorem eZ:∀(ws:List Nat)(d:PyData),fit ws d=true->d.showable=true/\d.depth<=ws.length+1/\d.shown.length<=bnd ws
 |[],d,h=>by
  have h':Pj d=true:=by
   cases d<;>exact h
  obtain⟨a,b,c⟩:=aP h'
  exact⟨a,b,c⟩
 |w::ws,d,h=>by
  have ih:=eZ ws
  have leaf:Pj d=true->d.showable=true/\d.depth<=(w::ws).length+1/\d.shown.length<=bnd (w::ws):=fun h'=>by
   obtain⟨a,b,c⟩:=aP h'
   refine⟨a,by rw[U0f];lia,U1b c ?_⟩
   unfold bnd;lia
  cases d with
  |list xs =>
   simp only[fit,U0v,decide_eq_true_eq] at h
   obtain⟨a,b,c⟩:=Vw ih xs h.2
   refine⟨by simpa [U7j] using a,by simp only[U33,U0f];lia,?_⟩
   have q:=listText_len_le (U5t xs)
   have m:=U7k (bnd ws+2) h.1
   simp only[U6m,bnd]
   lia
  |tuple xs =>
   simp only[fit,U0v,decide_eq_true_eq] at h
   obtain⟨a,b,c⟩:=Vw ih xs h.2
   refine⟨by simpa [U7j] using a,by simp only[U33,U0f];lia,?_⟩
   have q:=tupleText_len_le (U5t xs)
   have m:=U7k (bnd ws+2) h.1
   simp only[U6m,bnd]
   lia
  |none=>exact leaf h
  |bool b=>exact leaf h
  |int i=>exact leaf h
  |str x=>exact leaf h
  |dict kvs=>exact leaf h
def Nx(n:Nat)(Pv:Nat->List V->Hp->Prop)(i:Nat)(ys:List V)(H:Hp):Prop:=∃m',m'<n-i/\(m'=n-(i+1)/\i+1<=n/\Pv (i+1) ys H)
theorem nx{n:Nat}{Pv:Nat->List V->Hp->Prop}{i:Nat}{ys:List V}{H:Hp}(hi:i<n)(p:Pv (i+1) ys H):Nx n Pv i ys H:=⟨n-(i+1),by lia,rfl,hi,p⟩
section
variable{k:Nat}{caps:List Nat}{Z3:St}{g:TG}{tt:TT}{te:TE}{Q:VK}{H:Hp}
end
def Well(H:Hp)(a:Addr):Prop:=∃x y:Int,H a=some (.lst [.int x,.int y])
end L2
end
section
namespace L2
open PySem PySem.Spec PyProof.Rows
section
variable{a:Addr}{H0:Hp}{Z3:St}{te t1 t2:TE}{ta:TA}{d:PyData}{ds d1 d2:List PyData}{i j:Int}
end
end L2
end
section
namespace L2
open PySem PySem.Spec PyProof.Rows
section
variable{X:Cx}{K:U0b}
abbrev yh(K:U0b):List V->Hp->VK->Prop:=fun xs H Q=>∃p ys,xs=[.ref p]/\(SqL K H p ys∨SqT K H p ys)/\Q (.int ys.length) H
abbrev o9(K:U0b):List V->Hp->VK->Prop:=fun xs H Q=>∃p ys,xs=[.ref p]/\(SqL K H p ys∨SqT K H p ys)/\∀l,H l=none->Q (.ref l) (upd H l (.lst ys))
end
end L2
end
section
namespace Bc
open PySem PySem.Spec PyProof.Rows L2
def sO:PyData->Bool
 |.tuple es=>U60 es&&decide (U42 es<=60)
 |_=>true
def lay:PyData->Bool
 |.tuple ds=>ds.all sO
 |_=>true
abbrev F3:List Nat:=[9,9,9]
def nr(a:Int):Bool:=decide (-(10^9)<=a)&&decide (a<=10^9)
def bx:PyData->Bool
 |.tuple [.int a,.int b]=>nr a&&nr b&&decide (a<b)
 |_=>false
def part(d:PyData):Bool:=fit [9,9] d&&sO d
def good(d:PyData):Bool:=fit F3 d&&lay d
end Bc
end
section
set_option maxRecDepth 100000
namespace HT
open PySem PySem.Spec PyProof.Rows
open AutoSeq1 (wpAny_loadPart')
theorem Tz:fillsNumberSlot (.type "tuple") "mul"=pure false :=
 PySem.fillsNumberSlot_seq (id:="tuple.__mul__") (r:=some (.builtin "tuple.__rmul__")) U5u.lookup (by decide +kernel) PySem.F.slot_tuple_rmul.lookup (by decide +kernel)
theorem fY:seqRepeat? (.type "tuple")=pure (some (.builtin "tuple.__mul__")):=by
 unfold seqRepeat?
 rw[PySem.seqSlot_of (T:="tuple") (name:="__mul__") (id:="tuple.__mul__") U5u.lookup (by decide +kernel),PySem.seqSlot_of (T:="tuple") (name:="__rmul__") (id:="tuple.__rmul__") PySem.F.slot_tuple_rmul.lookup (by decide +kernel)]
 rfl
theorem Z8(a:Int)(t:Tok)(l:Addr)(items:Array Value)(n:Nat)(dd:Option Addr)(sl:Array (Option Value)) :
  Meets (Builtin.«int.__rmul__» ⟨[.int a t,.ref l],[]⟩) (fun _ R s=>s.heap.get? l=some { cls:=.type "tuple",dict:=dd,data:=.seq items n,slots:=sl }/\R (.ok (.ret Value.notImplemented)) s) :=
 .of_wp fun prog w A R s h=>by obtain⟨hp,g,d,tk,os⟩:=s;obtain⟨hl,h⟩:=h;wp_walk using wpAny_loadPart' hl;exact⟨_,rfl,h⟩
theorem jC(l:Addr)(items:Array Value)(n:Nat)(dd:Option Addr)(sl:Array (Option Value))(x:Int)(u:Tok)(hc0:¬(decide (x < -(2^63))||decide (x≥2^63))=true)(hc1:(items.isEmpty||x==1)=true) :
  Meets (Builtin.«tuple.__mul__» ⟨[.ref l,.int x u],[]⟩) (fun _ R s=>s.heap.get? l=some { cls:=.type "tuple",dict:=dd,data:=.seq items n,slots:=sl }/\R (.ok (.ret (U24 l))) { s with heap:=s.heap,toks:=s.toks }) :=
 .of_wp fun prog w A R s h=>by obtain⟨hp,g,d,tk,os⟩:=s;obtain⟨hl,h⟩:=h;have f1:=AutoSeq1.idx_int;wp_walk;refine U8t (decide_eq_false hc0) ?_;wp_walk using wpAny_loadPart' hl;exact⟨_,rfl,h⟩
theorem jB(l:Addr)(items:Array Value)(n:Nat)(dd:Option Addr)(sl:Array (Option Value))(x:Int)(u:Tok)(hc0:¬(decide (x < -(2^63))||decide (x≥2^63))=true)(hc1:¬(items.isEmpty||x==1)=true)
  (hc2:¬(decide (x<=0)||items.isEmpty)=true) (hc3:¬(items.size:Int)*x>(2^63-1)/8) (hc4:¬Builtin.Tuple.tupleTooMany ((items.size:Int)*x)=true) (hsz:(U7e (fun x1 x2=>x1++x2) #[] (U08 x.toNat items)).size<=sizeLine) :
  Meets (Builtin.«tuple.__mul__» ⟨[.ref l,.int x u],[]⟩) (fun _ R s=>s.heap.get? l=some { cls:=.type "tuple",dict:=dd,data:=.seq items n,slots:=sl }/\R (.ok (.ret (U24 s.heap.objs.size))) { s with heap:=s.heap.push { cls:=U22 "tuple",data:=Data.seq (U7e (fun x1 x2=>x1++x2) #[] (U08 x.toNat items)) },toks:=s.toks }) :=
 .of_wp fun prog w A R s h=>by obtain⟨hp,g,d,tk,os⟩:=s;obtain⟨hl,h⟩:=h;have f1:=AutoSeq1.idx_int;wp_walk;refine U8t (decide_eq_false hc0) ?_;wp_walk using wpAny_loadPart' hl;refine U8t (decide_eq_false hc3) ?_;wp_walk;exact⟨_,rfl,h⟩
section
variable{prog:Program}{w:World}{A:Around}{E:Value->Shared->Prop}{s:Shared}
theorem pK{t:Addr}{its:List Value}{k:Int}{u:Tok}{Q:Value->Shared->Prop}(ht:IsTup s.heap t its.toArray)(hne:its≠[])(h1:1<=k)(h2:k<2^60)(hz:its.length*k.toNat<=sizeLine)
  (q1:k=1->Q (.ref t) s) (q2:k≠1->Q `bq { s with heap:=s.heap.push { cls:=.type "tuple",data:=.seq (U08 k.toNat its).flatten.toArray } }) :
  wpAny `am A (binaryOp .Mult (.ref t) (.int k u)) Q E s:=by
 obtain⟨⟨c1,d1,x1,sl1⟩,ho,hc,n,hd⟩:=id ht
 simp only at hc hd
 subst hc hd
 have c0:¬(decide (k < -(2^63))||decide (k≥2^63))=true:=by
  rw[decide_eq_false (by lia),decide_eq_false (by lia)];exact U1e
 have ne:its.toArray.isEmpty=false:=by cases its with|nil=>exact absurd rfl hne|cons _ _=>rfl
 have hnew:U7e (fun x1 x2=>x1++x2) #[] (U08 k.toNat its.toArray)=(U08 k.toNat its).flatten.toArray:=by
  have:=L2.foldl_rep its k.toNat []
  rw[U1v] at this
  exact this
 refine wpAny_binaryOp_repeat_ref (T:="tuple") (U:="int") (by decide) ⟨_,ho,rfl⟩ (fun s'=>typeIs_int s' k u) Tz PySem.F.fills_int_mul PySem.F.slot_int_rmul fY PySem.F.slot_int_index.lookup
  (call_meets PySem.F.slot_int_rmul (typeIs_int s k u) PySem.F.entry_int_rmul (PySem.F.args_int_rmul_2 _ _) (Z8 k u t its.toArray n d1 sl1) ⟨ho,rfl,⟨_,ho,rfl⟩,?_⟩)
 by_cases k1:k=1
 .exact call_meets U5u ⟨_,ho,rfl⟩ PySem.F.entry_tuple_mul (PySem.F.args_tuple_mul_2 _ _) (jC t its.toArray n d1 sl1 k u c0 (by rw[k1];simp)) ⟨ho,q1 k1⟩
 .have e:((its.toArray.size:Nat):Int)*k=((its.length*k.toNat:Nat):Int):=by
   rw[U0n,Int.natCast_mul,Int.toNat_of_nonneg (by lia)]
  have hs:(sizeLine:Nat)=16777216:=by decide
  refine call_meets U5u ⟨_,ho,rfl⟩ PySem.F.entry_tuple_mul (PySem.F.args_tuple_mul_2 _ _) (jB t its.toArray n d1 sl1 k u c0 ?_ ?_ ?_ ?_ ?_) ⟨ho,?_⟩
  .rw[ne];simp[k1]
  .rw[ne,decide_eq_false (by lia)];exact U1e
  .rw[e];lia
  .rw[e]
   unfold Builtin.Tuple.tupleTooMany
   rw[decide_eq_true_eq]
   lia
  .rw[hnew,U0n,L2.len_rep,U8m];exact hz
  .rw[hnew];exact q2 k1
end
end HT
namespace L2
open PySem PySem.Spec PyProof.Rows
abbrev lV:R2:=fun x y H Q=>∃(a:Addr)(k:Int)(xs:List V),x=.ref a/\y=.int k/\H a=some (.tup xs)/\xs≠[]/\1<=k/\k<2^60/\xs.length*k.toNat<=sizeLine/\∀p H',Same H H'->H' p=some (.tup (U08 k.toNat xs).flatten)->Q (.ref p) H'
section
variable{X:Cx}
theorem pC:OpR X (binaryOp .Mult) lV:=by
 intro pins s Z3 H x y v u Q I rx ry h
 obtain⟨a,k,xs,rfl,rfl,ha,hne,k1,k2,hz,q⟩:=h
 cases rx
 obtain⟨t,rfl⟩:=ry
 obtain⟨its,r1,p1,_⟩:=I.tuple (SqT.of ha)
 refine HT.pK p1 (fun z=>hne (r1.Rj.mp z)) k1 k2 (by rw[←r1.length];exact hz) (fun e=>?_) (fun e=>?_)
 .refine⟨.ref a,H,I,rfl,q a H `br ?_⟩
  rw[e]
  simpa using ha
 .refine⟨.ref s.heap.objs.size,_,I.laid (t':=s.toks) (o:=.tup (U08 k.toNat xs).flatten) (fun b ob q=>U0c _ q) (U0l _) ?_,rfl,q _ _ (Ci (I.hok.fresh (U0l _)) _) Bq⟩
  exact⟨by rw[len_rep,U8m];exact hz,_,r1.rep k.toNat,IsTup.new _ _⟩
end
section
variable{X:Cx}
theorem VD{k:Nat}(hr:Eb k X.A):Df X (.builtin "repr") (fun xs H Q=>∃(N:Addr->Prop)(v:V)(d:PyData),xs=[v]/\Tr N H v d/\d.showable=true/\d.depth<=60/\d.shown.length<=sizeLine/\Q (.str d.shown) H):=by
 intro pins s Z3 H xs us Q I r h
 obtain⟨N,v,d,rfl,t,h1,h2,h3,q⟩:=h
 have onRef:∀b,v=.ref b->wpAny `ai X.A (call (.builtin "repr") us) (EP X pins Z3 Q) X.xe s:=fun b e=>by
  subst e
  exact gn hr pins s Z3 H _ us Q I r ⟨N,b,d,rfl,t,h1,h2,h3,q⟩
 cases t with
 |lst _ _ _=>exact onRef _ rfl
 |tup _ _ _=>exact onRef _ rfl
 |dct _ _=>exact onRef _ rfl
 |non =>
  obtain⟨u,rfl,rx⟩:=vals1 r
  cases (show u=U3 from rx)
  exact PySem.P.repr_of_none ⟨.str "None",H,I.tok _,⟨_,rfl⟩,q⟩
 |bl b =>
  obtain⟨u,rfl,rx⟩:=vals1 r
  cases (show u=U5a b from rx)
  exact PySem.P.repr_of_bool ⟨.str (if b then "True" else "False"),H,I.tok _,⟨_,rfl⟩,q⟩
 |int i =>
  obtain⟨u,rfl,rx⟩:=vals1 r
  obtain⟨t,rfl⟩:=rx
  exact PySem.P.repr_of_int (by simpa [U7j] using h1) ⟨.str (toString i),H,I.tok _,⟨_,rfl⟩,q⟩
 |str x =>
  obtain⟨u,rfl,rx⟩:=vals1 r
  obtain⟨t,rfl⟩:=rx
  exact PySem.P.repr_of_str ⟨.str (reprText x),H,I.tok _,⟨_,rfl⟩,q⟩ h3
end
section
variable{a:Addr}{H0:Hp}{Z3:St}{te t1 t2:TE}{ta:TA}{d:PyData}{ds d1 d2:List PyData}{i j:Int}{K:U0b}
end
structure Wq(a q:Addr)(bs:List V)(H:Hp):Prop where
 w:Well H a
 at_:H q=some (.lst bs)
 ne:q≠a
section
variable{a q p:Addr}{bs:List V}{H H':Hp}
abbrev lX:R2:=fun x y H Q=>∃(a b:Addr)(xs ys:List V),x=.ref a/\y=.ref b/\H a=some (.tup xs)/\H b=some (.tup ys)/\xs.length+ys.length<=sizeLine/\∀p H',Same H H'->H' p=some (.tup (xs++ys))->Q (.ref p) H'
abbrev rQ:V->Option Int->Option Int->Hp->VK->Prop:=fun x lo hi H Q=>∃(a:Addr)(xs:List V),x=.ref a/\H a=some (.tup xs)/\∀p H',Same H H'->H' p=some (.tup (K5 xs lo hi))->Q (.ref p) H'
end
end L2
end
section
namespace L2
open PySem PySem.Spec PyProof.Rows
end L2
namespace Bc
open PySem PySem.Spec PyProof.Rows L2
def uR:PyData->Nat
 |.int 1=>20
 |.int 2=>10
 |.int 3=>6
 |_=>0
def zB(n:Nat):PyData->Bool
 |.tuple es=>decide (es.length=n)&&es.all bx
 |_=>false
end Bc
end
section
namespace L2
open PySem PySem.Spec PyProof.Rows
theorem Inv.Vh{X:Cx}{pins:List (Addr×Obj)}{Z3:St}{H:Hp}{s:Shared}{h':Heap}{t':Nat}{fp:List Addr}(I:Inv X pins Z3 H s)(k:∀b o,b ∉ fp->s.heap.get? b=some o->h'.get? b=some o)(hf:∀b∈fp,Oh X pins H b) :
  Inv X pins Z3 H { s with heap:=h',toks:=t' }:=by
 have nit:∀b u,H b=some u->b ∉ fp:=fun b u e z=>by
  have:=(hf b z).1
  rw[this] at e
  cases e
 refine I.step (g':=s.gens) (d':=s.drawn) (ch:=fp) (fun b hb=>?_) (fun b o _ _ hc e _=>k b o hc e) (fun b o _ _ hc e _=>⟨o.slots,k b o hc e⟩) (fun _ _ _ _ n=>n) (fun b o hc e=>⟨o,k b o hc e⟩) (fun _ _ e=>e) (fun _ _ _ e=>e)
  (fun b ps e=>⟨#[],by rw[e];simp⟩) (fun m hm=>?_) (fun b u e=>?_) I.bare id
 .obtain⟨_,a2,_,a4,a5,a6⟩:=hf b hb
  exact⟨a4,a2,a5,a6⟩
 .obtain⟨o,es,ep,ho,r⟩:=hm
  exact⟨o,es,ep,k _ o (fun z=>(hf _ z).2.1 rfl) ho,r⟩
 .refine(I.hok b u e).stay (fun c v hc q=>k c v ?_ q) (fun _ q=>q) fun _ _ q=>q
  rcases hc with z|z
  .rw[z];exact nit b u e
  .exact nit c _ z
theorem Inv.lZ{X:Cx}{pins:List (Addr×Obj)}{Z3:St}{H:Hp}{s:Shared}{h':Heap}{t':Nat}{fp:List Addr}{x y:V}{u v:Value}(I:Inv X pins Z3 H s)(rx:RelV x u)(ry:RelV y v)
  (ht:h'.get? s.heap.objs.size=some { cls:=.type "tuple",data:=.seq #[u,v] }) (k:∀b o,b ∉ fp->s.heap.get? b=some o->h'.get? b=some o) (hf:∀b∈fp,Oh X pins H b) (hlt:∀b∈fp,b<s.heap.objs.size) :
  Inv X pins Z3 (upd H s.heap.objs.size (.tup [x,y])) { s with heap:=h',toks:=t' }:=by
 have I1:=I.laid (h':=s.heap.push { cls:=.type "tuple",data:=.seq #[u,v] }) (t':=s.toks) (a:=s.heap.objs.size) (o:=.tup [x,y]) (fun b ob q=>U0c _ q) (U0l _)
  ⟨(by decide:2<=sizeLine),[u,v],.cons rx (.cons ry .nil),IsTup.new _ _⟩
 refine Inv.Vh (s:={ s with heap:=s.heap.push { cls:=.type "tuple",data:=.seq #[u,v] } }) (h':=h') (t':=t') (fp:=fp) I1 (fun b o hb e=>?_) (fun b hb=>?_)
 .rcases Heap.get?_push_cases e with ⟨z1,z2⟩|z
  .rw[z1,z2]
   exact ht
  .exact k b o hb z
 .obtain⟨a1,a2,a3,a4,a5,a6⟩:=hf b hb
  exact⟨by rw[Bh (U02 (hlt b hb))];exact a1,a2,a3,a4,a5,a6⟩
def Ite(K:U0b)(a:Addr):It :=
 ⟨fun i H=>∃xs x,SqL K H a xs/\xs[i]?=some x,fun i H v H'=>∃p x,H p=none/\v=.ref p/\H'=upd H p (.tup [.int i,x])/\∀xs,SqL K H a xs->xs[i]?=some x,fun i H=>∃xs,SqL K H a xs/\xs.length<=i⟩
theorem fL{P:Program}{w:World}{K:U0b}{elts:List Expr}{x1:Nat}{pos:Pos}(a e it:Addr)(hne:e≠it) :
  Turn P w K (.Tuple elts x1 pos) (Ite K a) [e,it] e (fun i h=>(∃old,IsEnum h e it (i:Nat) old)/\h.IsListIter it a i) where
 mem:=by simp
 obj:=fun i h st b hb=>by
  obtain⟨⟨old,he⟩,o,e1,c,d⟩:=st
  simp only[U0h,U1z,or_false] at hb
  rcases hb with rfl|rfl
  .exact⟨_,he,fun v z=>by cases z⟩
  .exact⟨o,e1,fun v z=>by rw[d] at z;cases z⟩
 keep:=fun i h h' st k=>by
  obtain⟨⟨old,he⟩,hit⟩:=st
  exact⟨⟨old,k e (by simp) _ he⟩,hit.at fun o q=>k it (by simp) o q⟩
 item:=by
  intro X hP hw hK hc i pins s Z3 H E I hf st hg
  subst hP hw hK
  obtain⟨xs,x,hq,hx⟩:=hg
  obtain⟨its,rv,p,hz⟩:=I.list hq
  obtain⟨u,hu,ru⟩:=rv.get hx
  obtain⟨⟨old,he⟩,hit⟩:=st
  have lt1:e<s.heap.objs.size:=U0o he
  have lt2:it<s.heap.objs.size:=by obtain⟨o,q,_⟩:=hit;exact U0o q
  refine wpAny_pyNext_enum_item he hit p.isList (x:=u) (by simpa using hu) hne fun h' eo it' tp sz k=>⟨_,rfl,?_⟩
  refine wpAny_letOwnedTupleGo_enum eo fun h2 e2 sb=>?_
  have ne2:s.heap.objs.size≠e:=U4d lt1
  have J:=I.lZ (h':=h2) (t':=s.toks+1) (fp:=[e,it]) (x:=.int i) (y:=x) (u:=.int i s.toks) (v:=u) ⟨_,rfl⟩ ru (sb.extBut _ _ ne2 tp) (fun b o hb q=>by
   simp only[U0h,U1z,or_false,not_or] at hb
   exact sb.extBut _ _ hb.1 (k b o hb.1 hb.2 q)) hf (fun b hb=>by
   simp only[U0h,U1z,or_false] at hb
   rcases hb with rfl|rfl
   .exact lt1
   .exact lt2)
  refine⟨.ref s.heap.objs.size,_,J,rfl,⟨_,x,I.hok.fresh (U0l _),rfl,rfl,fun ys hy=>by rw[I.Yh hy hq];exact hx⟩,⟨⟨u,e2⟩,it'.at fun o q=>sb.extBut _ _ (U2s hne) q⟩,fun b hb=>?_⟩
  rw[Bh]
  .exact(hf b hb).1
  .simp only[U0h,U1z,or_false] at hb
   rcases hb with rfl|rfl
   .exact U02 lt1
   .exact U02 lt2
 done:=by
  intro X hP hw hK hc i pins s Z3 H E I hf st hg
  subst hP hw hK
  obtain⟨xs,hq,hx⟩:=hg
  obtain⟨its,rv,p,hz⟩:=I.list hq
  obtain⟨⟨old,he⟩,hit⟩:=st
  have hl:=rv.length
  exact wpAny_pyNext_enum_end (I.ok.hd hc) he hit p.isList (by simp;lia) fun h' eb=>⟨rfl,I.Vh (t':=s.toks) (fp:=[e,it]) (fun b o hb q=>eb b o (fun z=>hb (by simp[z])) q) hf⟩
 self:=fun _ _ _ _ _ st h=>by
  obtain⟨⟨old,he⟩,_⟩:=st
  exact wpAny_pyIter_enum he h
abbrev xX(K:U0b)(ta:TA):TI:=fun Z3 H R=>ta Z3 H fun vs H1=>∃a,vs=[.ref a]/\(∃xs,SqL K H1 a xs)/\R (Ite K a) H1
section
variable{X:Cx}
theorem oV{a:Expr}{ta:TA}{p pos:Pos}{elts:List Expr}{x1:Nat}{tpos:Pos}(hg:Gl X "enumerate")(hm:X.mg "enumerate"=none)(ha:PA X [a] ta)(hs:starEach [a] X.env=[(false,eval a X.env)]:=by rfl) :
  PI X (.Tuple elts x1 tpos) (.Call (.Name "enumerate" p) [a] [] pos) (xX X.K ta):=by
 intro pins s Z3 H R I h
 refine Call_ (PB I hg hm (by decide +kernel:bootBuiltins "enumerate"=some (.type "enumerate")) (U4u (thn (ha pos pins s Z3 H _ I h) fun us s1 ⟨vs,H1,I1,r1,q1⟩=>?_) hs rfl))
 obtain⟨l,e,⟨xs,hq⟩,q⟩:=q1
 subst e
 cases r1 with
 |cons r rr =>
  cases rr
  cases r
  obtain⟨its,rv,pl,hz⟩:=I1.list hq
  refine call_enumerate_list pl.isList fun h' e1 i1 sz k=>?_
  refine wpAny_pyIter_enum e1 ?_
  refine⟨s1.heap.objs.size+1,[s1.heap.objs.size+1,s1.heap.objs.size],_,_,H1,rfl,I1.kept (t':=s1.toks) k,fL l _ _ (Nat.succ_ne_self _),⟨⟨_,e1⟩,i1⟩,fun b hb=>?_,q⟩
  have hb':s1.heap.objs.size<=b:=by
   simp only[U0h,U1z,or_false] at hb
   rcases hb with rfl|rfl<;>lia
  exact I1.Xd hb' (I1.hok.fresh hb')
end
end L2
end
section
set_option maxRecDepth 100000
namespace HT
open PySem PySem.Spec PyProof.Rows
section
variable{prog:Program}{w:World}{A:Around}{E:Value->Shared->Prop}{s:Shared}
theorem nextT{it t:Addr}{i:Nat}{ws:Array Value}{x:Value}{Q:Value->Shared->Prop}(c:s.heap.IsTupleIter it t i)(ct:s.heap.IsTuple t ws)(ex:ws[i]?=some x)
  (q:∀h',h'.IsTupleIter it t (i+1)->U1c it s.heap h'->Q x { s with heap:=h' }):wpAny (model prog w) A (U2l (.ref it)) Q E s:=by
 obtain⟨o,e0,e1,e2⟩:=id c
 obtain⟨ot,f0,_,nt,f1⟩:=ct
 unfold U2l
 refine U0 (wpAny_callSpecial?_slot (name:=U4v "__next__") c.typeIs U4i (U2m U4i c.typeIs PySem.F.entry_tuple_iterator_next ?_ (PySem.F.args_tuple_iterator_next_1 _)))
 refine(show wpAny _ _ (field (.ref it) 0 >>= _) _ _ s from U0 (U3o e0 e2 (x:=.ref t) rfl ?_))
 show wpAny _ _ (ite ((U24 t==U3)=true) _ _) _ _ s
 rw[if_neg (by exact U1e)]
 refine(show wpAny _ _ (field (.ref it) 1 >>= _) _ _ s from U0 (U3o e0 e2 (x:=.int i 0) rfl ?_))
 refine(show wpAny _ _ (seqItems? (.ref t) >>= _) _ _ s from U0 (U3j f0 f1 ?_))
 simp only[ex,U5]
 refine U0 (U3w e0 e2 (by simp) (U0e ⟨x,rfl,U0e (q _ ⟨_,U3i _ e0 (Obj.isFreed_of_fields (Obj.data_mapFields e2 _)),(Obj.cls_mapFields ..).trans e1,?_⟩ (U13 ..))⟩))
 rw[Obj.data_mapFields e2]
 simp[rawInt]
theorem uQ{it t:Addr}{i:Nat}{ws:Array Value}{Q:Value->Shared->Prop}(ha:A.handled=none)(c:s.heap.IsTupleIter it t i)(ct:s.heap.IsTuple t ws)(ex:ws[i]?=none)
  (q:∀h' e,U7z it s.heap h'->(∃o,h'.get? e=some o/\o.cls=.type "StopIteration")->E (.ref e) { s with heap:=h' }):wpAny (model prog w) A (U2l (.ref it)) Q E s:=by
 obtain⟨o,e0,e1,e2⟩:=id c
 obtain⟨ot,f0,_,nt,f1⟩:=ct
 unfold U2l
 refine U0 (wpAny_callSpecial?_slot (name:=U4v "__next__") c.typeIs U4i (U2m U4i c.typeIs PySem.F.entry_tuple_iterator_next ?_ (PySem.F.args_tuple_iterator_next_1 _)))
 refine(show wpAny _ _ (field (.ref it) 0 >>= _) _ _ s from U0 (U3o e0 e2 (x:=.ref t) rfl ?_))
 show wpAny _ _ (ite ((U24 t==U3)=true) _ _) _ _ s
 rw[if_neg (by exact U1e)]
 refine(show wpAny _ _ (field (.ref it) 1 >>= _) _ _ s from U0 (U3o e0 e2 (x:=.int i 0) rfl ?_))
 refine(show wpAny _ _ (seqItems? (.ref t) >>= _) _ _ s from U0 (U3j f0 f1 ?_))
 simp only[ex,U5]
 refine U0 (U39 (U0 (U3w e0 e2 (by simp) (show wpAny _ _ (newExc (.type "StopIteration") [] >>= _) _ _ _ from U0 ?_))))
 simp only[newTuple,newExc]
 refine U0 (U2n (U0 (m:=firstArgMember _ _) (wpAny_of_eq (a:=U3) (by first|rfl|(simp only[firstArgMember];rfl)) (U2n ?_ (by size_fits)))) (by size_fits))
 simp only[raiseNew]
 refine U0 (wpAny_handled ?_)
 rw[show A.in1.handled=none from ha]
 exact U0 (U0e (wpAny_throw (q _ _ (((U13 ..).extBut.push _).push _) ⟨_,U0u _ rfl,rfl⟩)))
theorem vD(ha:A.handled=none)(it t:Addr)(ne:t≠it)(ws:Array Value):Draws prog w A it [it,t] ws.size (fun i v=>ws[i]?=some v) (fun i h=>h.IsTupleIter it t i/\h.IsTuple t ws) where
 live:=fun _ _ st=>let ⟨o,e,_⟩:=st.1;⟨o,e⟩
 frame:=fun _ _ _ st k=>⟨st.1.at fun o e=>k it (by simp) o e,st.2.at fun o e=>k t (by simp) o e⟩
 item:=fun i s Q E hi st q=>nextT st.1 st.2 (x:=ws[i]) (by simp[hi]) fun h' c' sb=>q _ h' s.toks (by simp[hi]) ⟨c',st.2.extBut sb.extBut ne⟩ sb
 done:=fun s Q E st q=>uQ ha st.1 st.2 (by simp) q
structure Apart(z TI TO i1 i2:Addr)(fp1 fp2:List Addr):Prop where
 a1:TI≠z
 a2:TO≠z
 a3:TI≠TO
 b1:∀b∈fp1,b≠z/\b≠TO/\b≠i2
 b2:∀b∈fp2,b≠z/\b≠TO/\b≠i1
 c1:i1≠z/\i1≠TO/\i1≠TI
 c2:i2≠z/\i2≠TO/\i2≠TI
 c3:i1≠i2
section
variable{z TI TO i1 i2:Addr}{fp1 fp2:List Addr}{n1 n2 k:Nat}{P1 P2:Nat->Value->Prop}{S1 S2:Nat->Heap->Prop}{a b:Value}
theorem yP{Q:Value->Shared->Prop}(D1:Draws prog w A i1 fp1 n1 P1 S1)(D2:Draws prog w A i2 fp2 n2 P2 S2)(D:Apart z TI TO i1 i2 fp1 fp2)(hZ:IsZip s.heap z TI TO .none)(hI:IsPair s.heap TI (.ref i1) (.ref i2))(hO:IsPair s.heap TO a b)
  (s1:S1 k s.heap) (s2:S2 k s.heap) (k1:k<n1) (k2:k<n2)
  (q:∀x y h' tk,P1 k x->P2 k y->IsZip h' z TI TO (rawInt s.heap.objs.size)->IsPair h' TO x y->S1 (k+1) h'->S2 (k+1) h'->IsPair h' s.heap.objs.size x y->h'.objs.size=s.heap.objs.size+1 ->
   (∀c o,c≠z->c≠TO->c≠i1->c≠i2->s.heap.get? c=some o->h'.get? c=some o)->Q `bq { s with heap:=h',toks:=tk }) :
  wpAny `am A (Builtin.«zip.__next__» ⟨[.ref z],[]⟩) (fun fin s'=>∃v,fin=.done (.ret v)/\Q v s') E s:=by
 obtain⟨hp,g,d,tk0,os⟩:=s
 refine(show wpAny _ _ (field (.ref z) 2 >>= _) _ _ _ from U0 (U3o hZ rfl (x:=.bool false) rfl ?_))
 refine(show wpAny _ _ (field (.ref z) 3 >>= _) _ _ _ from U0 (U3o hZ rfl (x:=.ref TI) rfl (U0 (U3j hI rfl ?_))))
 refine(show wpAny _ _ (U4 (.ref z) >>= _) _ _ _ from U0 ?_)
 unfold U4
 refine U0 (U3o hZ rfl (x:=.none) rfl (U0e ?_))
 simp only[if_true]
 refine U0 (U39 (U0 (U3o hZ rfl (x:=.ref TO) rfl (U0 (U4x hZ (by simp) fun g1 z1 m1=>?_)))))
 replace z1:IsZip g1 z TI TO .ellipsis:=z1
 replace m1:U1c z hp g1:=m1
 refine U0 ?_
 simp only[U7,List.zipIdx_nil,U6h,U80]
 have t1:S1 k g1:=D1.frame _ _ _ s1 fun c hc o e=>m1.extBut _ _ (D.b1 c hc).1 e
 have u1:S2 k g1:=D2.frame _ _ _ s2 fun c hc o e=>m1.extBut _ _ (D.b2 c hc).1 e
 refine U0 (U0 (U65 (show wpAny _ _ (U2l (.ref i1) >>= _) _ _ _ from U0 (D1.item k ⟨g1,g,d,tk0,os⟩ _ _ k1 t1 fun x g2 tk1 px t2 m2=>U0e ?_))))
 replace m2:U1c i1 g1 g2:=m2
 have o2:IsPair g2 TO a b:=m2.extBut _ _ (U2s D.c1.2.1) (m1.extBut _ _ D.a2 hO)
 refine U0 (U3j o2 rfl (U0 (U7l o2 fun g3 o3 m3=>?_)))
 replace o3:IsPair g3 TO x b:=o3
 replace m3:U1c TO g2 g3:=m3
 have u3:S2 k g3:=D2.frame _ _ _ u1 fun c hc o e=>m3.extBut _ _ (D.b2 c hc).2.1 (m2.extBut _ _ (D.b2 c hc).2.2 e)
 refine U0 (wpAny_letGo (U0e ?_))
 refine U0 (U0 (U65 (show wpAny _ _ (U2l (.ref i2) >>= _) _ _ _ from U0 (D2.item k ⟨g3,g,d,tk1,os⟩ _ _ k2 u3 fun y g4 tk2 py u4 m4=>U0e ?_))))
 replace m4:U1c i2 g3 g4:=m4
 have o4:IsPair g4 TO x b:=m4.extBut _ _ (U2s D.c2.2.1) o3
 refine U0 (U3j o4 rfl (U0 (U7l o4 fun g5 o5 m5=>?_)))
 replace o5:IsPair g5 TO x y:=o5
 replace m5:U1c TO g4 g5:=m5
 refine U0 (wpAny_letGo (U0e (U0e (U0 (U3j o5 rfl (U0 (U81 ?_)))))))
 have sz:g5.objs.size=hp.objs.size:=by rw[m5.1,m4.1,m3.1,m2.1,m1.1]
 have z5:IsZip g5 z TI TO .ellipsis:=m5.extBut _ _ (U2s D.a2) (m4.extBut _ _ (U2s D.c2.1) (m3.extBut _ _ (U2s D.a2) (m2.extBut _ _ (U2s D.c1.1) z1)))
 have kk:∀c o,c≠z->c≠TO->c≠i1->c≠i2->hp.get? c=some o->g5.get? c=some o:=fun c o n1 n2 n3 n4 e=>m5.extBut _ _ n2 (m4.extBut _ _ n4 (m3.extBut _ _ n2 (m2.extBut _ _ n3 (m1.extBut _ _ n1 e))))
 have lz:z<g5.objs.size:=U0o z5
 refine(show wpAny _ _ (Builtin.SmallTypes.ownedTupleHandOut (.ref z) (.ref g5.objs.size) >>= _) _ _ _ from U0 ?_)
 unfold Builtin.SmallTypes.ownedTupleHandOut
 have z6:IsZip (g5.push { cls:=.type "tuple",data:=.seq #[x,y] }) z TI TO .ellipsis:=U0c _ z5
 refine U0 (U4x z6 (by simp) fun g7 z7 m7=>?_)
 replace z7:IsZip g7 z TI TO (rawInt g5.objs.size):=z7
 refine U4x z7 (by simp) fun g8 z8 m8=>?_
 replace z8:IsZip g8 z TI TO (rawInt g5.objs.size):=z8
 have up:∀c o,c≠z->g5.get? c=some o->g8.get? c=some o:=fun c o n e=>m8.extBut _ _ n (m7.extBut _ _ n (U0c _ e))
 have p8:IsPair g8 g5.objs.size x y:=m8.extBut _ _ (U4d lz) (m7.extBut _ _ (U4d lz) (U0u _ rfl))
 have w8:g8.objs.size=g5.objs.size+1:=by rw[m8.1,m7.1,U2u]
 rw[sz] at z8 p8 w8
 refine U0e ⟨_,rfl,?_⟩
 show Q (.ref g5.objs.size) _
 rw[sz]
 refine q x y g8 tk2 px py z8 (up _ _ D.a2 o5) ?_ ?_ p8 w8 fun c o n1 n2 n3 n4 e=>up c o n1 (kk c o n1 n2 n3 n4 e)
 .exact D1.frame _ _ _ t2 fun c hc o e=>up _ _ (D.b1 c hc).1 (m5.extBut _ _ (D.b1 c hc).2.1 (m4.extBut _ _ (D.b1 c hc).2.2 (m3.extBut _ _ (D.b1 c hc).2.1 e)))
 .exact D2.frame _ _ _ u4 fun c hc o e=>up _ _ (D.b2 c hc).1 (m5.extBut _ _ (D.b2 c hc).2.1 e)
theorem yQ{Q:PySem.Fin->Shared->Prop}(D1:Draws prog w A i1 fp1 n1 P1 S1)(D2:Draws prog w A i2 fp2 n2 P2 S2)(D:Apart z TI TO i1 i2 fp1 fp2)(hZ:IsZip s.heap z TI TO .none)(hI:IsPair s.heap TI (.ref i1) (.ref i2))(hO:IsPair s.heap TO a b)
  (s1:S1 k s.heap) (s2:S2 k s.heap) (ke:k=n1∨(k<n1/\k=n2))
  (q:∀h' e tk,(∀c o,c≠z->c≠TO->c≠i1->c≠i2->s.heap.get? c=some o->h'.get? c=some o)->(∃o,h'.get? e=some o/\o.cls=.type "StopIteration")->E (.ref e) { s with heap:=h',toks:=tk }) :
  wpAny `am A (Builtin.«zip.__next__» ⟨[.ref z],[]⟩) Q E s:=by
 obtain⟨hp,g,d,tk0,os⟩:=s
 refine(show wpAny _ _ (field (.ref z) 2 >>= _) _ _ _ from U0 (U3o hZ rfl (x:=.bool false) rfl ?_))
 refine(show wpAny _ _ (field (.ref z) 3 >>= _) _ _ _ from U0 (U3o hZ rfl (x:=.ref TI) rfl (U0 (U3j hI rfl ?_))))
 refine(show wpAny _ _ (U4 (.ref z) >>= _) _ _ _ from U0 ?_)
 unfold U4
 refine U0 (U3o hZ rfl (x:=.none) rfl (U0e ?_))
 simp only[if_true]
 refine U0 (U39 (U0 (U3o hZ rfl (x:=.ref TO) rfl (U0 (U4x hZ (by simp) fun g1 z1 m1=>?_)))))
 replace z1:IsZip g1 z TI TO .ellipsis:=z1
 replace m1:U1c z hp g1:=m1
 refine U0 ?_
 simp only[U7,List.zipIdx_nil,U6h,U80]
 have t1:S1 k g1:=D1.frame _ _ _ s1 fun c hc o e=>m1.extBut _ _ (D.b1 c hc).1 e
 have u1:S2 k g1:=D2.frame _ _ _ s2 fun c hc o e=>m1.extBut _ _ (D.b2 c hc).1 e
 rcases ke with ke|⟨k1,ke⟩
 .subst ke
  refine U0 (U0 (U65 (show wpAny _ _ (U2l (.ref i1) >>= _) _ _ _ from U0 (D1.done ⟨g1,g,d,tk0,os⟩ _ _ t1 fun g2 e m2 he=>?_))))
  obtain⟨oe,he1,he2⟩:=he
  replace m2:U7z i1 g1 g2:=m2
  have z2:IsZip g2 z TI TO .ellipsis:=m2 _ _ (U2s D.c1.1) z1
  have ez:e≠z:=fun x=>by subst x;rw[z2] at he1;cases he1;simp at he2
  exact U4x z2 (by simp) fun g3 _ m3=>q g3 e _ (fun c o n1 _ n3 _ x=>m3.extBut _ _ n1 (m2 _ _ n3 (m1.extBut _ _ n1 x))) ⟨oe,m3.extBut _ _ ez he1,he2⟩
 .refine U0 (U0 (U65 (show wpAny _ _ (U2l (.ref i1) >>= _) _ _ _ from U0 (D1.item k ⟨g1,g,d,tk0,os⟩ _ _ k1 t1 fun x g2 tk1 px t2 m2=>U0e ?_))))
  replace m2:U1c i1 g1 g2:=m2
  have o2:IsPair g2 TO a b:=m2.extBut _ _ (U2s D.c1.2.1) (m1.extBut _ _ D.a2 hO)
  refine U0 (U3j o2 rfl (U0 (U7l o2 fun g3 o3 m3=>?_)))
  replace m3:U1c TO g2 g3:=m3
  have u3:S2 k g3:=D2.frame _ _ _ u1 fun c hc o e=>m3.extBut _ _ (D.b2 c hc).2.1 (m2.extBut _ _ (D.b2 c hc).2.2 e)
  rw[ke] at u3
  refine U0 (wpAny_letGo (U0e ?_))
  refine U0 (U0 (U65 (show wpAny _ _ (U2l (.ref i2) >>= _) _ _ _ from U0 (D2.done ⟨g3,g,d,tk1,os⟩ _ _ u3 fun g4 e m4 he=>?_))))
  obtain⟨oe,he1,he2⟩:=he
  replace m4:U7z i2 g3 g4:=m4
  have z4:IsZip g4 z TI TO .ellipsis:=m4 _ _ (U2s D.c2.1) (m3.extBut _ _ (U2s D.a2) (m2.extBut _ _ (U2s D.c1.1) z1))
  have ez:e≠z:=fun x=>by subst x;rw[z4] at he1;cases he1;simp at he2
  exact U4x z4 (by simp) fun g5 _ m5=>q g5 e _ (fun c o n1 n2 n3 n4 x=>m5.extBut _ _ n1 (m4 _ _ n4 (m3.extBut _ _ n2 (m2.extBut _ _ n3 (m1.extBut _ _ n1 x))))) ⟨oe,m5.extBut _ _ ez he1,he2⟩
theorem mV{Q:Option Value->Shared->Prop}(D1:Draws prog w A.in1 i1 fp1 n1 P1 S1)(D2:Draws prog w A.in1 i2 fp2 n2 P2 S2)(D:Apart z TI TO i1 i2 fp1 fp2)(hZ:IsZip s.heap z TI TO .none)(hI:IsPair s.heap TI (.ref i1) (.ref i2))(hO:IsPair s.heap TO a b)
  (s1:S1 k s.heap) (s2:S2 k s.heap) (k1:k<n1) (k2:k<n2)
  (q:∀x y h' tk,P1 k x->P2 k y->IsZip h' z TI TO (rawInt s.heap.objs.size)->IsPair h' TO x y->S1 (k+1) h'->S2 (k+1) h'->IsPair h' s.heap.objs.size x y->h'.objs.size=s.heap.objs.size+1 ->
   (∀c o,c≠z->c≠TO->c≠i1->c≠i2->s.heap.get? c=some o->h'.get? c=some o)->Q (some `bq) { s with heap:=h',toks:=tk }) :
  wpAny `am A (pyNext (.ref z)) Q E s:=by
 have T:s.TypeIs (.ref z) "zip":=⟨_,hZ,rfl⟩
 unfold pyNext
 exact U0 (U6a (wpAny_callSpecial?_slot (name:=U4v "__next__") T U55 (U2m U55 T PySem.F.entry_zip_next (yP D1 D2 D hZ hI hO s1 s2 k1 k2 fun x y h' tk c1 c2 c3 c4 c5 c6 c7 c8 c9=>U0e (q x y h' tk c1 c2 c3 c4 c5 c6 c7 c8 c9)) (PySem.F.args_zip_next_1 _))))
theorem mU{Q:Option Value->Shared->Prop}(D1:Draws prog w A.in1 i1 fp1 n1 P1 S1)(D2:Draws prog w A.in1 i2 fp2 n2 P2 S2)(D:Apart z TI TO i1 i2 fp1 fp2)(hZ:IsZip s.heap z TI TO .none)(hI:IsPair s.heap TI (.ref i1) (.ref i2))(hO:IsPair s.heap TO a b)
  (s1:S1 k s.heap) (s2:S2 k s.heap) (ke:k=n1∨(k<n1/\k=n2))
  (q:∀h' tk,(∀c o,c≠z->c≠TO->c≠i1->c≠i2->s.heap.get? c=some o->h'.get? c=some o)->Q none { s with heap:=h',toks:=tk }):wpAny (model prog w) A (pyNext (.ref z)) Q E s:=by
 have T:s.TypeIs (.ref z) "zip":=⟨_,hZ,rfl⟩
 unfold pyNext
 refine U0 (U6a (wpAny_callSpecial?_slot (name:=U4v "__next__") T U55 (U2m U55 T PySem.F.entry_zip_next (yQ D1 D2 D hZ hI hO s1 s2 ke fun h' e tk kk he=>?_) (PySem.F.args_zip_next_1 _))))
 obtain⟨o,e1,e2⟩:=he
 exact U0 (U68 (T:="StopIteration") (b:=true) ⟨o,e1,e2⟩ isSubtype_stop (U0e (q h' tk kk)))
end
abbrev itO(c:String)(l:Addr):Obj:={ cls:=.type c,data:=.fields #[.ref l,.int 0 0] }
abbrev zt1(c1:String)(h:Heap)(l1:Addr):Heap:=h.push (itO c1 l1)
abbrev zt2(c1 c2:String)(h:Heap)(l1 l2:Addr):Heap:=(zt1 c1 h l1).push (itO c2 l2)
abbrev zt3(c1 c2:String)(h:Heap)(l1 l2:Addr):Heap:=(zt2 c1 c2 h l1 l2).push { cls:=.type "tuple",data:=.seq #[.ref h.objs.size,.ref (zt1 c1 h l1).objs.size] }
abbrev zt4(c1 c2:String)(h:Heap)(l1 l2:Addr):Heap:=(zt3 c1 c2 h l1 l2).push { cls:=.type "tuple",data:=.seq #[.none,.none] }
abbrev zt5(c1 c2:String)(h:Heap)(l1 l2:Addr):Heap:=(zt4 c1 c2 h l1 l2).push { cls:=.type "zip",data:=.fields #[.none,.bool false,.bool false,.ref (zt2 c1 c2 h l1 l2).objs.size,.ref (zt3 c1 c2 h l1 l2).objs.size] }
theorem mW(l1 l2:Addr)(xs ys:Array Value):Meets (Builtin.«zip.__new__» ⟨[.type "zip",.ref l1,.ref l2],[]⟩) (fun _ R s=>s.heap.IsTuple l1 xs/\s.heap.IsTuple l2 ys/\R (.ok (.ret (.ref (zt4 "tuple_iterator" "tuple_iterator" s.heap l1 l2).objs.size))) { s with heap:=zt5 "tuple_iterator" "tuple_iterator" s.heap l1 l2 }) :=
 .of_wp fun prog w A R s h=>by
  obtain⟨hp,g,d,tk,os⟩:=s
  obtain⟨e1,e2,h⟩:=h
  have sub:=sub_zip
  have T1:U7m (U8v ⟨hp,g,d,tk,os⟩) l1 xs:=e1
  have T2:U7m (U8v ⟨hp.push { cls:=.type "tuple_iterator",data:=.fields #[.ref l1,.int 0 0] },g,d,tk,os⟩) l2 ys:=U7m.push e2 _
  wp_walk using U6n T1,U6n T2
  exact⟨_,rfl,h⟩
theorem mX(l1 l2:Addr)(xs ys:Array Value):Meets (Builtin.«zip.__new__» ⟨[.type "zip",.ref l1,.ref l2],[]⟩) (fun _ R s=>s.heap.IsList l1 xs/\s.heap.IsTuple l2 ys/\R (.ok (.ret (.ref (zt4 "list_iterator" "tuple_iterator" s.heap l1 l2).objs.size))) { s with heap:=zt5 "list_iterator" "tuple_iterator" s.heap l1 l2 }) :=
 .of_wp fun prog w A R s h=>by
  obtain⟨hp,g,d,tk,os⟩:=s
  obtain⟨e1,e2,h⟩:=h
  have sub:=sub_zip
  have T1:Heap.IsList (U8v ⟨hp,g,d,tk,os⟩) l1 xs:=e1
  have T2:U7m (U8v ⟨hp.push { cls:=.type "list_iterator",data:=.fields #[.ref l1,.int 0 0] },g,d,tk,os⟩) l2 ys:=U7m.push e2 _
  wp_walk using U5x T1,U6n T2
  exact⟨_,rfl,h⟩
theorem Yt{c1 c2:String}{l1 l2:Addr}{P1 P2:Heap->Prop}{Q:Value->Shared->Prop}(m:Meets (Builtin.«zip.__new__» ⟨[.type "zip",.ref l1,.ref l2],[]⟩) (fun _ R s=>P1 s.heap/\P2 s.heap/\R (.ok (.ret (.ref (zt4 c1 c2 s.heap l1 l2).objs.size))) { s with heap:=zt5 c1 c2 s.heap l1 l2 }))(e1:P1 s.heap)(e2:P2 s.heap)
  (q:∀h',IsZip h' (s.heap.objs.size+4) (s.heap.objs.size+2) (s.heap.objs.size+3) .none->IsPair h' (s.heap.objs.size+2) `bq (.ref (s.heap.objs.size+1))->IsPair h' (s.heap.objs.size+3) .none .none ->
   h'.get? s.heap.objs.size=some (itO c1 l1)->h'.get? (s.heap.objs.size+1)=some (itO c2 l2)->(∀c o,s.heap.get? c=some o->h'.get? c=some o)->Q (.ref (s.heap.objs.size+4)) { s with heap:=h' }) :
  wpAny `am A (call (.type "zip") [.ref l1,.ref l2]) Q E s:=by
 refine callType_new PySem.F.called_zip (by decide) (PySem.F.typeCall_zip_2 _ _) (PySem.F.newCall_zip_2 _ _) (fun obj=>PySem.F.args_object_init_3 obj _ _) PySem.F.entry_zip_new m ⟨e1,e2,?_⟩
 have z1:(zt1 c1 s.heap l1).objs.size=s.heap.objs.size+1:=U2u ..
 have z2:(zt2 c1 c2 s.heap l1 l2).objs.size=s.heap.objs.size+2:=by rw[U2u,z1]
 have z3:(zt3 c1 c2 s.heap l1 l2).objs.size=s.heap.objs.size+3:=by rw[U2u,z2]
 have z4:(zt4 c1 c2 s.heap l1 l2).objs.size=s.heap.objs.size+4:=by rw[U2u,z3]
 have g5:(zt5 c1 c2 s.heap l1 l2).get? (zt4 c1 c2 s.heap l1 l2).objs.size=some _:=U0u _ rfl
 have g4:(zt5 c1 c2 s.heap l1 l2).get? (zt3 c1 c2 s.heap l1 l2).objs.size=some _:=U0c _ (U0u _ rfl)
 have g3:(zt5 c1 c2 s.heap l1 l2).get? (zt2 c1 c2 s.heap l1 l2).objs.size=some _:=U0c _ (U0c _ (U0u _ rfl))
 have g2:(zt5 c1 c2 s.heap l1 l2).get? (zt1 c1 s.heap l1).objs.size=some _:=U0c _ (U0c _ (U0c _ (U0u _ rfl)))
 have g1:(zt5 c1 c2 s.heap l1 l2).get? s.heap.objs.size=some _:=U0c _ (U0c _ (U0c _ (U0c _ (U0u _ rfl))))
 have kk:∀c o,s.heap.get? c=some o->(zt5 c1 c2 s.heap l1 l2).get? c=some o:=fun c o e=>U0c _ (U0c _ (U0c _ (U0c _ (U0c _ e))))
 show _/\_
 rw[z2,z3,z4] at g5
 rw[z1,z2] at g3
 rw[z3] at g4
 rw[z1] at g2
 have Z:IsZip (zt5 c1 c2 s.heap l1 l2) (s.heap.objs.size+4) (s.heap.objs.size+2) (s.heap.objs.size+3) .none:=g5
 rw[z4]
 exact⟨⟨_,Z,rfl⟩,q _ Z g3 g4 g1 g2 kk⟩
theorem lF{l1 l2:Addr}{xs ys:Array Value}{Q:Value->Shared->Prop}(e1:s.heap.IsTuple l1 xs)(e2:s.heap.IsTuple l2 ys)
  (q:∀h',IsZip h' (s.heap.objs.size+4) (s.heap.objs.size+2) (s.heap.objs.size+3) .none->IsPair h' (s.heap.objs.size+2) `bq (.ref (s.heap.objs.size+1))->IsPair h' (s.heap.objs.size+3) .none .none ->
   h'.IsTupleIter s.heap.objs.size l1 0->h'.IsTupleIter (s.heap.objs.size+1) l2 0->(∀c o,s.heap.get? c=some o->h'.get? c=some o)->Q (.ref (s.heap.objs.size+4)) { s with heap:=h' }) :
  wpAny `am A (call (.type "zip") [.ref l1,.ref l2]) Q E s :=
 Yt (P1:=fun h=>h.IsTuple l1 xs) (P2:=fun h=>h.IsTuple l2 ys) (mW l1 l2 xs ys) e1 e2 fun h' c1 c2 c3 c4 c5 k=>q h' c1 c2 c3 ⟨_,c4,rfl,rfl⟩ ⟨_,c5,rfl,rfl⟩ k
theorem lG{l1 l2:Addr}{xs ys:Array Value}{Q:Value->Shared->Prop}(e1:s.heap.IsList l1 xs)(e2:s.heap.IsTuple l2 ys)
  (q:∀h',IsZip h' (s.heap.objs.size+4) (s.heap.objs.size+2) (s.heap.objs.size+3) .none->IsPair h' (s.heap.objs.size+2) `bq (.ref (s.heap.objs.size+1))->IsPair h' (s.heap.objs.size+3) .none .none ->
   h'.IsListIter s.heap.objs.size l1 0->h'.IsTupleIter (s.heap.objs.size+1) l2 0->(∀c o,s.heap.get? c=some o->h'.get? c=some o)->Q (.ref (s.heap.objs.size+4)) { s with heap:=h' }) :
  wpAny `am A (call (.type "zip") [.ref l1,.ref l2]) Q E s :=
 Yt (P1:=fun h=>h.IsList l1 xs) (P2:=fun h=>h.IsTuple l2 ys) (mX l1 l2 xs ys) e1 e2 fun h' c1 c2 c3 c4 c5 k=>q h' c1 c2 c3 ⟨_,c4,rfl,rfl⟩ ⟨_,c5,rfl,rfl⟩ k
end
end HT
end
section
namespace L2
open PySem PySem.Spec PyProof.Rows
def HB(L:Bool)(xs:List V):HO:=if L=true then .lst xs else .tup xs
theorem HB.inj{L:Bool}{xs ys:List V}(h:HB L xs=HB L ys):xs=ys:=by cases L<;>cases h<;>rfl
def Itz(L M:Bool)(a b:Addr):It :=
 ⟨fun i H=>∃xs ys x y,H a=some (HB L xs)/\H b=some (HB M ys)/\xs[i]?=some x/\ys[i]?=some y,
  fun i H v H'=>∃p x y,H p=none/\v=.ref p/\H'=upd H p (.tup [x,y])/\(∀xs,H a=some (HB L xs)->xs[i]?=some x)/\∀ys,H b=some (HB M ys)->ys[i]?=some y,
  fun i H=>∃xs ys,H a=some (HB L xs)/\H b=some (HB M ys)/\(i=xs.length∨(i<xs.length/\i=ys.length))⟩
def Ld(L:Bool)(h:Heap)(it a:Addr)(i:Nat):Prop:=if L=true then h.IsListIter it a i else h.IsTupleIter it a i
def sS(L:Bool)(h:Heap)(a:Addr)(ws:Array Value):Prop:=if L=true then h.IsList a ws else h.IsTuple a ws
theorem Uu{prog:Program}{w:World}{A:Around}(L:Bool)(ha:A.handled=none)(it t:Addr)(ne:t≠it)(ws:Array Value):Draws prog w A it [it,t] ws.size (fun i v=>ws[i]?=some v) (fun i h=>Ld L h it t i/\sS L h t ws):=by
 cases L with
 |true=>exact Draws.list ha it t ne ws
 |false=>exact HT.vD ha it t ne ws
theorem Ld.at{L:Bool}{h h':Heap}{it a:Addr}{i:Nat}(x:Ld L h it a i)(k:∀o,h.get? it=some o->h'.get? it=some o):Ld L h' it a i:=by
 cases L with
 |true=>exact Heap.IsListIter.at x k
 |false=>exact Heap.IsTupleIter.at x k
theorem Ld.obj{L:Bool}{h:Heap}{it a:Addr}{i:Nat}(x:Ld L h it a i):∃o vs,h.get? it=some o/\o.data=.fields vs:=by
 cases L with
 |true=>obtain⟨o,e,_,d⟩:=(show h.IsListIter it a i from x);exact⟨o,_,e,d⟩
 |false=>obtain⟨o,e,_,d⟩:=(show h.IsTupleIter it a i from x);exact⟨o,_,e,d⟩
theorem Inv.Vb{X:Cx}{pins:List (Addr×Obj)}{Z3:St}{H:Hp}{s:Shared}{L:Bool}{a:Addr}{xs:List V}(I:Inv X pins Z3 H s)(h:H a=some (HB L xs)):∃its:List Value,Vals xs its/\sS L s.heap a its.toArray:=by
 cases L with
 |true=>obtain⟨its,rv,p,_⟩:=I.list (SqL.of h);exact⟨its,rv,p.isList⟩
 |false=>obtain⟨its,rv,p,_⟩:=I.tuple (SqT.of h);exact⟨its,rv,p⟩
def xu(L M:Bool)(a b z TI TO i1 i2:Addr)(i:Nat)(h:Heap):Prop:=IsZip h z TI TO .none/\IsPair h TI (.ref i1) (.ref i2)/\(∃c d,IsPair h TO c d)/\Ld L h i1 a i/\Ld M h i2 b i
theorem Yu{z TI TO i1 i2 a b:Addr}(d1:TI≠z)(d2:TO≠z)(d3:TI≠TO)(d4:i1≠z/\i1≠TO/\i1≠TI)(d5:i2≠z/\i2≠TO/\i2≠TI)(d6:i1≠i2)(na:a ∉ [z,TI,TO,i1,i2])(nb:b ∉ [z,TI,TO,i1,i2]):HT.Apart z TI TO i1 i2 [i1,a] [i2,b] where
 a1:=d1
 a2:=d2
 a3:=d3
 b1:=fun c hc=>by
  simp only[U0h,U1z,or_false,not_or] at hc na
  rcases hc with rfl|rfl
  .exact⟨d4.1,d4.2.1,d6⟩
  .exact⟨na.1,na.2.2.1,na.2.2.2.2⟩
 b2:=fun c hc=>by
  simp only[U0h,U1z,or_false,not_or] at hc nb
  rcases hc with rfl|rfl
  .exact⟨d5.1,d5.2.1,U2s d6⟩
  .exact⟨nb.1,nb.2.2.1,nb.2.2.2.1⟩
 c1:=d4
 c2:=d5
 c3:=d6
theorem j9{P:Program}{w:World}{K:U0b}{elts:List Expr}{x1:Nat}{pos:Pos}(L M:Bool)(a b z TI TO i1 i2:Addr)(d1:TI≠z)(d2:TO≠z)(d3:TI≠TO)(d4:i1≠z/\i1≠TO/\i1≠TI)(d5:i2≠z/\i2≠TO/\i2≠TI)(d6:i1≠i2) :
  Turn P w K (.Tuple elts x1 pos) (Itz L M a b) [z,TI,TO,i1,i2] z (xu L M a b z TI TO i1 i2) where
 mem:=by simp
 obj:=fun i h st c hc=>by
  obtain⟨h1,h2,⟨c',d',h3⟩,h4,h5⟩:=st
  simp only[U0h,U1z,or_false] at hc
  rcases hc with rfl|rfl|rfl|rfl|rfl
  .exact⟨_,h1,fun v q=>by cases q⟩
  .exact⟨_,h2,fun v q=>by cases q⟩
  .exact⟨_,h3,fun v q=>by cases q⟩
  .obtain⟨o,vs,e,d⟩:=h4.obj
   exact⟨o,e,fun v q=>by rw[d] at q;cases q⟩
  .obtain⟨o,vs,e,d⟩:=h5.obj
   exact⟨o,e,fun v q=>by rw[d] at q;cases q⟩
 keep:=fun i h h' st k=>by
  obtain⟨h1,h2,⟨c',d',h3⟩,h4,h5⟩:=st
  exact⟨k z (by simp) _ h1,k TI (by simp) _ h2,⟨c',d',k TO (by simp) _ h3⟩,h4.at fun o q=>k i1 (by simp) o q,h5.at fun o q=>k i2 (by simp) o q⟩
 item:=by
  intro X hP hw hK hc i pins s Z3 H E I hf st hg
  subst hP hw hK
  obtain⟨xs,ys,x,y,hq1,hq2,hx,hy⟩:=hg
  obtain⟨its1,rv1,p1⟩:=I.Vb hq1
  obtain⟨its2,rv2,p2⟩:=I.Vb hq2
  obtain⟨u,hu,ru⟩:=rv1.get hx
  obtain⟨v,hv,rv⟩:=rv2.get hy
  obtain⟨h1,h2,⟨c',d',h3⟩,h4,h5⟩:=st
  have lt:∀c∈[z,TI,TO,i1,i2],c<s.heap.objs.size:=fun c hc=>by
   simp only[U0h,U1z,or_false] at hc
   rcases hc with rfl|rfl|rfl|rfl|rfl
   .exact U0o h1
   .exact U0o h2
   .exact U0o h3
   .obtain⟨o,vs,e,_⟩:=h4.obj;exact U0o e
   .obtain⟨o,vs,e,_⟩:=h5.obj;exact U0o e
  have na:a ∉ [z,TI,TO,i1,i2]:=fun q=>by rw[(hf a q).1] at hq1;cases hq1
  have nb:b ∉ [z,TI,TO,i1,i2]:=fun q=>by rw[(hf b q).1] at hq2;cases hq2
  have ap:=Yu d1 d2 d3 d4 d5 d6 na nb
  have hh:X.A.in1.handled=none:=I.ok.hd hc
  refine HT.mV (Uu L hh i1 a (fun q=>na (by simp[q])) its1.toArray) (Uu M hh i2 b (fun q=>nb (by simp[q])) its2.toArray) ap h1 h2 h3 ⟨h4,p1⟩ ⟨h5,p2⟩ (by rw[U0n];exact(U0j.mp hu).1) (by rw[U0n];exact(U0j.mp hv).1)
   fun x' y' h' tk q1 q2 z' o' s1' s2' tp sz k=>⟨_,rfl,?_⟩
  have q1':its1[i]?=some x':=by simpa using q1
  have q2':its2[i]?=some y':=by simpa using q2
  rw[hu] at q1'
  rw[hv] at q2'
  cases q1'
  cases q2'
  refine wpAny_letOwnedTupleGo_zip z' fun h3' z2 sb=>?_
  have sb':U1c z h' h3':=sb
  have nz:s.heap.objs.size≠z:=U4d (lt z (by simp))
  have J:=I.lZ (h':=h3') (t':=tk) (fp:=[z,TI,TO,i1,i2]) (x:=x) (y:=y) ru rv (sb'.extBut _ _ nz tp) (fun c o hc q=>by
   simp only[U0h,U1z,or_false,not_or] at hc
   exact sb'.extBut _ _ hc.1 (k c o hc.1 hc.2.2.1 hc.2.2.2.1 hc.2.2.2.2 q)) hf lt
  refine⟨.ref s.heap.objs.size,_,J,rfl,⟨_,x,y,I.hok.fresh (U0l _),rfl,rfl,fun zs hz=>?_,fun zs hz=>?_⟩,⟨z2,?_,⟨_,_,sb'.extBut _ _ d2 o'⟩,s1'.1.at fun o q=>sb'.extBut _ _ d4.1 q,s2'.1.at fun o q=>sb'.extBut _ _ d5.1 q⟩,fun c hc=>?_⟩
  .rw[hq1] at hz
   rw[←HB.inj (U00 hz)]
   exact hx
  .rw[hq2] at hz
   rw[←HB.inj (U00 hz)]
   exact hy
  .exact sb'.extBut _ _ d1 (k TI _ d1 d3 (U2s d4.2.2) (U2s d5.2.2) h2)
  .rw[Bh (U02 (lt c hc))]
   exact(hf c hc).1
 done:=by
  intro X hP hw hK hc i pins s Z3 H E I hf st hg
  subst hP hw hK
  obtain⟨xs,ys,hq1,hq2,ke⟩:=hg
  obtain⟨its1,rv1,p1⟩:=I.Vb hq1
  obtain⟨its2,rv2,p2⟩:=I.Vb hq2
  obtain⟨h1,h2,⟨c',d',h3⟩,h4,h5⟩:=st
  have na:a ∉ [z,TI,TO,i1,i2]:=fun q=>by rw[(hf a q).1] at hq1;cases hq1
  have nb:b ∉ [z,TI,TO,i1,i2]:=fun q=>by rw[(hf b q).1] at hq2;cases hq2
  have hh:X.A.in1.handled=none:=I.ok.hd hc
  refine HT.mU (Uu L hh i1 a (fun q=>na (by simp[q])) its1.toArray) (Uu M hh i2 b (fun q=>nb (by simp[q])) its2.toArray) (Yu d1 d2 d3 d4 d5 d6 na nb) h1 h2 h3 ⟨h4,p1⟩ ⟨h5,p2⟩ (by rw[U0n,U0n,←rv1.length,←rv2.length];exact ke)
   fun h' tk k=>⟨rfl,I.Vh (t':=tk) (fp:=[z,TI,TO,i1,i2]) (fun c o hc q=>?_) hf⟩
  simp only[U0h,U1z,or_false,not_or] at hc
  exact k c o hc.1 hc.2.2.1 hc.2.2.2.1 hc.2.2.2.2 q
 self:=fun _ _ _ _ _ st h=>wpAny_pyIter_zip st.1 h
abbrev yx(L M:Bool)(ta:TA):TI:=fun Z3 H R=>ta Z3 H fun vs H1=>∃a b xs ys,vs=[.ref a,.ref b]/\H1 a=some (HB L xs)/\H1 b=some (HB M ys)/\R (Itz L M a b) H1
section
variable{X:Cx}
theorem Xn(L M:Bool)(hLM:L=M∨(L=true/\M=false)){a b:Expr}{ta:TA}{p pos:Pos}{elts:List Expr}{x1:Nat}{tpos:Pos}(hg:Gl X "zip")(hm:X.mg "zip"=none)(ha:PA X [a,b] ta)(hs:starEach [a,b] X.env=[(false,eval a X.env),(false,eval b X.env)]:=by rfl)(hs2:starEach [b] X.env=[(false,eval b X.env)]:=by rfl) :
  PI X (.Tuple elts x1 tpos) (.Call (.Name "zip" p) [a,b] [] pos) (yx L M ta):=by
 intro pins s Z3 H R I h
 refine Call_ (PB I hg hm (by decide +kernel:bootBuiltins "zip"=some (.type "zip")) (U4u (thn (ha pos pins s Z3 H _ I h) fun us s1 ⟨vs,H1,I1,r1,q1⟩=>?_) (by rw[hs,hs2]) (by rw[hs2];rfl)))
 obtain⟨l,m,xs,ys,e,e1,e2,q⟩:=q1
 subst e
 obtain⟨us1,us2⟩:us=[.ref l,.ref m]/\True:=by
  cases r1 with
  |cons r rr =>
   cases rr with
   |cons r' rr =>
    cases rr
    cases r
    cases r'
    exact⟨rfl,trivial⟩
 subst us1
 obtain⟨its1,rv1,p1⟩:=I1.Vb e1
 obtain⟨its2,rv2,p2⟩:=I1.Vb e2
 have fin:∀h',IsZip h' (s1.heap.objs.size+4) (s1.heap.objs.size+2) (s1.heap.objs.size+3) .none->IsPair h' (s1.heap.objs.size+2) (.ref s1.heap.objs.size) (.ref (s1.heap.objs.size+1))->IsPair h' (s1.heap.objs.size+3) .none .none ->
   Ld L h' s1.heap.objs.size l 0->Ld M h' (s1.heap.objs.size+1) m 0->(∀c o,s1.heap.get? c=some o->h'.get? c=some o)->wpAny `ai X.A (pyIter (.ref (s1.heap.objs.size+4))) (PIE X pins Z3 (.Tuple elts x1 tpos) R) X.xe { s1 with heap:=h' }:=fun h' c1 c2 c3 c4 c5 k=>by
  refine wpAny_pyIter_zip c1 ?_
  refine⟨s1.heap.objs.size+4,[s1.heap.objs.size+4,s1.heap.objs.size+2,s1.heap.objs.size+3,s1.heap.objs.size,s1.heap.objs.size+1],_,_,H1,rfl,I1.kept (t':=s1.toks) k,
   j9 L M l m _ _ _ _ _ (by simp) (by simp) (by simp) ⟨by simp,by simp,by simp⟩ ⟨by simp,by simp,by simp⟩ (by simp),⟨c1,c2,⟨_,_,c3⟩,c4,c5⟩,fun c hc=>?_,q⟩
  have hc':s1.heap.objs.size<=c:=by
   simp only[U0h,U1z,or_false] at hc
   rcases hc with rfl|rfl|rfl|rfl|rfl<;>first|exact U59 _ _|exact U0l _
  exact I1.Xd hc' (I1.hok.fresh hc')
 cases L with
 |true =>
  cases M with
  |true=>exact call_zip_2 p1 p2 fun h' c1 c2 c3 c4 c5 _ k=>fin h' c1 c2 c3 c4 c5 k
  |false=>exact HT.lG p1 p2 fun h' c1 c2 c3 c4 c5 k=>fin h' c1 c2 c3 c4 c5 k
 |false =>
  cases M with
  |true=>rcases hLM with z|⟨z,_⟩<;>cases z
  |false=>exact HT.lF p1 p2 fun h' c1 c2 c3 c4 c5 k=>fin h' c1 c2 c3 c4 c5 k
end
end L2
end
section
namespace L2
open PySem PySem.Spec PyProof.Rows
section
variable{k:Nat}{caps:List Nat}{Z3:St}{g:TG}{tt:TT}{te:TE}{Q:VK}{H:Hp}
end
end L2
end
section
set_option maxRecDepth 100000
namespace HT
open PySem PySem.Spec PyProof.Rows
section
variable{prog:Program}{w:World}{A:Around}{E:Value->Shared->Prop}{s:Shared}
theorem qH{x:Value}{Tx:String}{tp:Addr}{cs:List Value}{vs:List Bool}{dd:Option Addr}{n:Nat}{sl:Array (Option Value)}(ha:AnswersAll (fun s=>s.TypeIs x Tx) x cs vs) :
  Meets (Builtin.«isinstance» ⟨[x,.ref tp],[]⟩) (fun _ R s=>s.TypeIs x Tx/\s.heap.get? tp=some { cls:=.type "tuple",dict:=dd,data:=.seq cs.toArray n,slots:=sl }/\∀tk,R (.ok (.ret (.bool (vs.any id)))) { s with toks:=tk }) :=
 fun prog w A R s hs=>isinstance_outer (by
  obtain⟨h,g,d,t,os⟩:=s
  obtain⟨hx,htp,hq⟩:=hs
  have T2:(⟨h,g,d,t,os⟩:Shared).TypeIs (.ref tp) "tuple":=⟨_,htp,rfl⟩
  have f1:=PySem.F.isi_sub_tuple
  repeat (any_goals first|assumption|wp_step)
  refine wpAny_arrayLoop ?_
  simp only[List.toList_toArray,Option.getD_some]
  refine isinstance_items (dep:=0) (fun _ tk q=>q.toks tk) cs vs _ _ ha hx fun tk'=>?_
  cases hv:vs.any id with
  |true =>
   simp only[if_true]
   repeat (any_goals first|assumption|wp_step)
   exact hv ▸ hq tk'
  |false =>
   simp only[if_false,U0s]
   repeat (any_goals first|assumption|wp_step)
   exact hv ▸ hq tk') (U78.not_mainsLoader hs.1)
end
end HT
namespace L2
open PySem PySem.Spec PyProof.Rows
def isSeq:PyData->Bool
 |.list _=>true
 |.tuple _=>true
 |_=>false
def noDict:PyData->Bool
 |.dict _=>false
 |_=>true
theorem lQ(T:String)(h:T="tuple"∨T="list"):typeOf (.type T)=pure (.type "type"):=by rcases h with rfl|rfl<;>first|rfl|kernel_rfl
theorem JQ{a b:String}(h:(a,b)∈[("int","tuple"),("int","list"),("bool","tuple"),("bool","list"),("str","tuple"),("str","list"),("NoneType","tuple"),("NoneType","list"),("list","tuple"),("tuple","list")]):isSubtype (.type a) (.type b)=pure false:=by
 simp only[U0h,U1z,or_false,Prod.mk.injEq] at h
 rcases h with ⟨rfl,rfl⟩|⟨rfl,rfl⟩|⟨rfl,rfl⟩|⟨rfl,rfl⟩|⟨rfl,rfl⟩|⟨rfl,rfl⟩|⟨rfl,rfl⟩|⟨rfl,rfl⟩|⟨rfl,rfl⟩|⟨rfl,rfl⟩<;>(rw[isSubtype_type];kernel_rfl)
theorem Zv{a:String}(h:a="tuple"∨a="list"):isSubtype (.type a) (.type a)=pure true:=by rcases h with rfl|rfl<;>(rw[isSubtype_type];kernel_rfl)
section
variable{X:Cx}
theorem XC:Df X (.builtin "isinstance") (fun xs H Q=>∃(N:Addr->Prop)(x:V)(d:PyData)(p:Addr),xs=[x,.ref p]/\H p=some (.tup [.ty "tuple",.ty "list"])/\Tr N H x d/\noDict d=true/\Q (.bl (isSeq d)) H):=by
 intro pins s Z3 H xs us Q I r h
 obtain⟨N,x,d,p,rfl,hp,t,nd,q⟩:=h
 obtain⟨u,v,rfl,rx,rv⟩:=vals2 r
 cases (show v=U24 p from rv)
 obtain⟨its,rt,pt,_⟩:=I.tuple (SqT.of hp)
 have ei:its=[.type "tuple",.type "list"]:=by
  cases rt with
  |cons r1 rr =>
   cases rr with
   |cons r2 rn =>
    cases rn
    cases (show _=U22 "tuple" from r1)
    cases (show _=U22 "list" from r2)
    rfl
 subst ei
 obtain⟨⟨c1,d1,x1,sl1⟩,ho,hc,n,hd⟩:=id pt
 simp only at hc hd
 subst hc hd
 have fin:∀(Tx:String)(vs:List Bool),AnswersAll (fun s=>s.TypeIs u Tx) u [.type "tuple",.type "list"] vs->s.TypeIs u Tx->vs.any id=isSeq d->wpAny `ai X.A (call (.builtin "isinstance") [u,.ref p]) (EP X pins Z3 Q) X.xe s:=fun Tx vs ha hx e =>
  call_isinstance (HT.qH (cs:=[.type "tuple",.type "list"]) (dd:=d1) (n:=n) (sl:=sl1) ha) ⟨hx,ho,fun tk=>⟨.bl (isSeq d),H,I.tok tk,(by rw[e];rfl),q⟩⟩
 have y1:=lQ "tuple" (.inl rfl)
 have y2:=lQ "list" (.inr rfl)
 cases t with
 |non =>
  cases (show u=U3 from rx)
  exact fin "NoneType" [false,false] (.cons (Answers.of_false_none (by decide) y1 (JQ (by decide))) (.cons (Answers.of_false_none (by decide) y2 (JQ (by decide))) .nil)) rfl rfl
 |bl b =>
  cases (show u=U5a b from rx)
  exact fin "bool" [false,false] (.cons (Answers.of_false_bool (by decide) y1 (JQ (by decide))) (.cons (Answers.of_false_bool (by decide) y2 (JQ (by decide))) .nil)) rfl rfl
 |int i =>
  obtain⟨t,rfl⟩:=rx
  exact fin "int" [false,false] (.cons (Answers.of_false_int (by decide) y1 (JQ (by decide))) (.cons (Answers.of_false_int (by decide) y2 (JQ (by decide))) .nil)) rfl rfl
 |str z =>
  obtain⟨t,rfl⟩:=rx
  exact fin "str" [false,false] (.cons (Answers.of_false_str (by decide) y1 (JQ (by decide))) (.cons (Answers.of_false_str (by decide) y2 (JQ (by decide))) .nil)) rfl rfl
 |lst n1 h1 t1 =>
  cases rx
  obtain⟨its,_,pl,_⟩:=I.list (SqL.of h1)
  exact fin "list" [false,true] (.cons (Answers.of_false_list (by decide) y1 (JQ (by decide))) (.cons (Answers.of_true y2 (Zv (.inr rfl))) .nil)) pl.isList.typeIs rfl
 |tup n1 h1 t1 =>
  cases rx
  obtain⟨its,_,pl,_⟩:=I.tuple (SqT.of h1)
  exact fin "tuple" [true,false] (.cons (Answers.of_true y1 (Zv (.inl rfl))) (.cons (Answers.of_false_tuple (by decide) y2 (JQ (by decide))) .nil)) pl.typeIs rfl
 |dct _ _=>cases nd
end
end L2
end
section
namespace L2
open PySem PySem.Spec PyProof.Rows
end L2
namespace Bc
open PySem PySem.Spec PyProof.Rows L2
structure Good(n:Nat)(ds:List PyData):Prop where
 n1:1<=n
 n3:n<=3
 le:ds.length<=uR (.int n)
 all:ds.all (zB n)=true
end Bc
end
section
namespace L2
open PySem PySem.Spec PyProof.Rows
section
variable{X:Cx}{K:U0b}
theorem gq(hc:X.calm=true)(hK:X.K=K):Df X (.builtin "min") (fun xs H Q=>∃(p:Addr)(ns:List Int),xs=[.ref p]/\SqL K H p (ns.map V.int)/\ns≠[]/\∀m,m∈ns->(∀n∈ns,m<=n)->Q (.int m) H):=by
 subst hK
 intro pins s Z3 H xs us Q I r h
 obtain⟨p,ns,rfl,hq,hne,q⟩:=h
 obtain⟨u,rfl,rx⟩:=vals1 r
 cases rx
 obtain⟨its,rv,pl,hz⟩:=I.list hq
 have hlen:=rv.length
 rw[U0d] at hlen
 have hl:=pl.isList
 have hlt:p<s.heap.objs.size:=by obtain⟨o,ho,_⟩:=hl;exact U0o ho
 have hval:∀i v,its.toArray[i]?=some v->∃t,v=U70 (ns.getD i 0) t:=fun i v e=>by
  rw[U52] at e
  have hi:i<ns.length:=by rw[hlen];exact(U0j.mp e).1
  obtain⟨u,e1,ru⟩:=rv.get (i:=i) (x:=.int ns[i]) (by rw[U07,U0w hi];rfl)
  rw[e] at e1;cases e1
  have e2:ns.getD i 0=ns[i]:=by rw[U3r,U0w hi];rfl
  rw[e2]
  exact ru
 have hpos:0<ns.length:=U5m.mpr hne
 refine call_min_walk (U5x hl ?_)
 refine⟨s.heap.objs.size,[s.heap.objs.size,p],[s.heap.objs.size],its.toArray.size,fun i v=>its.toArray[i]?=some v,_,_,rfl,Walks.list (by simpa using I.ok.hd hc) s.heap.objs.size p (U02 hlt) its.toArray,⟨⟨_,U0u _ rfl,rfl,rfl⟩,hl.push _⟩,?_,?_,CmpOf.ints_lt (fun i=>ns.getD i 0) hval,fun v h' tk hP hk=>?_⟩
 .intro b hb
  show b<(s.heap.push _).objs.size
  rw[U2u]
  rcases U0h.mp hb with z|hb
  .rw[z];exact U58 _
  .rw[U0q.mp hb];exact U5y hlt
 .rw[U0n,←hlen];exact hpos
 .obtain⟨g1,g2⟩:=argBest_lt (fun i=>ns.getD i 0) (its.toArray.size-1)
  obtain⟨t,rfl⟩:=hval _ _ hP
  rw[U0n,←hlen] at g1 g2
  have hb:argBest (fun i j=>decide (ns.getD i 0<ns.getD j 0)) (ns.length-1)<ns.length:=by omega
  rw[U0n,←hlen]
  refine⟨.int _,H,I.kept (h':=h') (t':=tk) fun b o e=>hk b o (fun z=>?_) (U0c _ e),⟨t,rfl⟩,q _ ?_ fun n hn=>?_⟩
  .exact absurd (U0q.mp z) (U02 (U0o e))
  .rw[U3r,U0w hb]
   exact U3c hb
  .obtain⟨j,hj,rfl⟩:=U5n hn
   have:=g2 j (by omega)
   have e:ns.getD j 0=ns[j]:=by rw[U3r,U0w hj];rfl
   rw[e] at this
   exact this
end
end L2
namespace Bc
open PySem PySem.Spec PyProof.Rows L2
def mx(i j:Int):Int:=if j>i then j else i
end Bc
end
section
namespace VS
open PySem PySem.Spec L2
inductive D where
 |non|bl (b:Bool)|int (i:Int)|str (x:Str)|ty (n:String)
 |tup (ds:List D)|lst (m:Bool) (ds:List D)|ref (i:Nat)|scr (ns:List Int)|emp
 |dref (i:Nat)|dcf (kvs:List (Key×V))|dcm (kvs:List (Key×V))|fn (a:Addr) (n:Nat)|lent (ds:List D)
abbrev Mu:=List (Option Addr)
def CN(μ:Mu)(a:Addr):Prop:=some a∈μ
structure Fr where
 K:U0b
 H0:Hp
 N:Addr->Prop
 m0:List Addr
def Fr.Ok(Γ:Fr)(m:Bool)(a:Addr):Prop:=(m=true->Γ.H0 a=none)/\(Γ.N a∨Γ.H0 a=none)
def IsL(H:Hp)(a:Addr):Prop:=∃xs,H a=some (.lst xs)
def IsK(H:Hp)(a:Addr):Prop:=∃kvs,H a=some (.dK kvs)
mutual
inductive VR (Γ:Fr) (μ:Mu) (H:Hp):V->D->Prop
 |non:VR Γ μ H .non .non
 |bl (b:Bool):VR Γ μ H (.bl b) (.bl b)
 |int (i:Int):VR Γ μ H (.int i) (.int i)
 |str (x:Str):VR Γ μ H (.str x) (.str x)
 |ty (n:String):VR Γ μ H (.ty n) (.ty n)
 |fn (a:Addr) (n:Nat):VR Γ μ H (.ref a) (.fn a n)
 |lent {a:Addr} {xs:List V} {ds:List D}:¬CN μ a->H a=some (.lst xs)->VRs Γ μ H xs ds->VR Γ μ H (.ref a) (.lent ds)
 |tup {a:Addr} {xs:List V} {ds:List D}:H a=some (.tup xs)->VRs Γ μ H xs ds->VR Γ μ H (.ref a) (.tup ds)
 |lst {m:Bool} {a:Addr} {xs:List V} {ds:List D}:Γ.Ok m a->¬CN μ a->H a=some (.lst xs)->VRs Γ μ H xs ds->VR Γ μ H (.ref a) (.lst m ds)
 |ref {i:Nat} {v:V}:i<μ.length->(∀a,μ[i]?=some (some a)->v=.ref a/\IsL H a)->VR Γ μ H v (.ref i)
 |dref {i:Nat} {v:V}:i<μ.length->(∀a,μ[i]?=some (some a)->v=.ref a/\IsK H a)->VR Γ μ H v (.dref i)
 |dcf {a:Addr} {kvs:List (Key×V)}:Γ.Ok false a->¬CN μ a->H a=some (.dK kvs)->VR Γ μ H (.ref a) (.dcf kvs)
 |scrK {a:Addr} {ns:List Int}:(∀H',SqL Γ.K H' a (ns.map V.int))->VR Γ μ H (.ref a) (.scr ns)
 |scrR {a:Addr} {ns:List Int} {o:Obj}:¬CN μ a->H a=some (.frz o (.lst (ns.map V.int)))->VR Γ μ H (.ref a) (.scr ns)
 |emp {a:Addr}:Γ.Ok false a->¬CN μ a->H a=some (.dK [])->VR Γ μ H (.ref a) .emp
inductive VRs (Γ:Fr) (μ:Mu) (H:Hp):List V->List D->Prop
 |nil:VRs Γ μ H [] []
 |cons {x:V} {d:D} {xs:List V} {ds:List D}:VR Γ μ H x d->VRs Γ μ H xs ds->VRs Γ μ H (x::xs) (d::ds)
end
structure Ext(μ:Mu)(H:Hp)(μ':Mu)(H':Hp):Prop where
 keep:∀a o,H a=some o->¬CN μ a->H' a=some o/\¬CN μ' a
 tups:∀a xs,H a=some (.tup xs)->H' a=some (.tup xs)
 none:∀a,H' a=none->H a=none
 ids:∀(i:Nat)(a:Addr),i<μ.length->μ'[i]?=some (some a)->μ[i]?=some (some a)
 len:μ.length<=μ'.length
 isl:∀a,CN μ a->IsL H a->IsL H' a
 isk:∀a,CN μ a->IsK H a->IsK H' a
theorem Ext.refl(μ:Mu)(H:Hp):Ext μ H μ H:=⟨fun _ _ h n=>⟨h,n⟩,fun _ _ h=>h,fun _ h=>h,fun _ _ _ h=>h,U0l _,fun _ _ h=>h,fun _ _ h=>h⟩
theorem Ext.trans{μ μ1 μ2:Mu}{H H1 H2:Hp}(a:Ext μ H μ1 H1)(b:Ext μ1 H1 μ2 H2):Ext μ H μ2 H2 :=
 ⟨fun c o h n=>let ⟨x,y⟩:=a.keep c o h n;b.keep c o x y,fun c xs h=>b.tups c xs (a.tups c xs h),fun c h=>a.none c (b.none c h),fun i c hi h=>a.ids i c hi (b.ids i c (U1k hi a.len) h),U1b a.len b.len,
  fun c l h=>by
  by_cases z:CN μ1 c
  .exact b.isl c z (a.isl c l h)
  .obtain⟨xs,e⟩:=a.isl c l h
   exact⟨xs,(b.keep c _ e z).1⟩,
  fun c l h=>by
  by_cases z:CN μ1 c
  .exact b.isk c z (a.isk c l h)
  .obtain⟨xs,e⟩:=a.isk c l h
   exact⟨xs,(b.keep c _ e z).1⟩⟩
section
variable{Γ:Fr}{μ μ':Mu}{H H':Hp}
mutual
theorem VR.ext(e:Ext μ H μ' H'){v:V}{d:D}(r:VR Γ μ H v d):VR Γ μ' H' v d:=by
 cases r with
 |non=>exact .non
 |bl b=>exact .bl b
 |int i=>exact .int i
 |str x=>exact .str x
 |ty n=>exact .ty n
 |fn a n=>exact .fn a n
 |lent n h t=>exact .lent (e.keep _ _ h n).2 (e.keep _ _ h n).1 (VRs.ext e t)
 |tup h t=>exact .tup (e.tups _ _ h) (VRs.ext e t)
 |lst o n h t=>exact .lst o (e.keep _ _ h n).2 (e.keep _ _ h n).1 (VRs.ext e t)
 |ref hi f=>exact .ref (U1k hi e.len) fun a q=>have z:=e.ids _ _ hi q;⟨(f a z).1,e.isl a (U1p z) (f a z).2⟩
 |dref hi f=>exact .dref (U1k hi e.len) fun a q=>have z:=e.ids _ _ hi q;⟨(f a z).1,e.isk a (U1p z) (f a z).2⟩
 |dcf o n h=>exact .dcf o (e.keep _ _ h n).2 (e.keep _ _ h n).1
 |scrK h=>exact .scrK h
 |scrR n h=>exact .scrR (e.keep _ _ h n).2 (e.keep _ _ h n).1
 |emp o n h=>exact .emp o (e.keep _ _ h n).2 (e.keep _ _ h n).1
theorem VRs.ext(e:Ext μ H μ' H'):∀{vs:List V} {ds:List D},VRs Γ μ H vs ds->VRs Γ μ' H' vs ds
 |_,_,.nil=>.nil
 |_,_,.cons r t=>.cons (VR.ext e r) (VRs.ext e t)
end
theorem VRs.length:∀{xs:List V} {ds:List D},VRs Γ μ H xs ds->xs.length=ds.length
 |_,_,.nil=>rfl
 |_,_,.cons _ t=>by rw[U0f,U0f,VRs.length t]
theorem VRs.append:∀{xs ys:List V} {ds es:List D},VRs Γ μ H xs ds->VRs Γ μ H ys es->VRs Γ μ H (xs++ys) (ds++es)
 |_,_,_,_,.nil,t=>t
 |_,_,_,_,.cons r s,t=>.cons r (VRs.append s t)
theorem VRs.take:∀{xs:List V} {ds:List D} (n:Nat),VRs Γ μ H xs ds->VRs Γ μ H (xs.take n) (ds.take n)
 |_,_,0,_=>.nil
 |_,_,_+1,.nil=>.nil
 |_,_,n+1,.cons r t=>.cons r (VRs.take n t)
theorem VRs.drop:∀{xs:List V} {ds:List D} (n:Nat),VRs Γ μ H xs ds->VRs Γ μ H (xs.drop n) (ds.drop n)
 |_,_,0,r=>r
 |_,_,_+1,.nil=>.nil
 |_,_,n+1,.cons _ t=>VRs.drop n t
theorem VRs.get:∀{xs:List V} {ds:List D} {i:Nat} {d:D},VRs Γ μ H xs ds->ds[i]?=some d->∃x,xs[i]?=some x/\VR Γ μ H x d
 |_,_,_,_,.nil,h=>by simp at h
 |_,_,0,_,.cons r _,h=>by simp at h;subst h;exact⟨_,rfl,r⟩
 |_,_,i+1,d,.cons _ t,h=>by
  obtain⟨x,h1,h2⟩:=VRs.get (i:=i) (d:=d) t (by simpa using h)
  exact⟨x,by simpa using h1,h2⟩
theorem VRs.set{x:V}{d:D}(r:VR Γ μ H x d):∀{xs:List V} {ds:List D} (i:Nat),VRs Γ μ H xs ds->VRs Γ μ H (xs.set i x) (ds.set i d)
 |_,_,_,.nil=>.nil
 |_,_,0,.cons _ t=>.cons r t
 |_,_,i+1,.cons q t=>.cons q (VRs.set r i t)
theorem VRs.rep{xs:List V}{ds:List D}(h:VRs Γ μ H xs ds):∀n:Nat,VRs Γ μ H (U08 n xs).flatten (U08 n ds).flatten
 |0=>.nil
 |n+1=>by rw[U03,U03,U3f,U3f];exact h.append (VRs.rep h n)
theorem VRs.ints:∀(ns:List Int),VRs Γ μ H (ns.map V.int) (ns.map D.int)
 |[]=>.nil
 |n::r=>.cons (.int n) (VRs.ints r)
theorem VRs.MK:∀{xs:List V} {ns:List Int},VRs Γ μ H xs (ns.map D.int)->xs=ns.map V.int
 |_,[],.nil=>rfl
 |_,n::r,.cons q t=>by cases q;rw[U0r,VRs.MK t]
end
abbrev Env:=List (Option D)
abbrev Store:=List (Option (List D))
def Cell(Γ:Fr)(μ:Mu)(H:Hp)(a:Addr)(ds:List D):Prop:=(∃xs,H a=some (.lst xs)/\VRs Γ μ H xs ds)∨∃kvs,ds=[.dcm kvs]/\H a=some (.dK kvs)
structure Rep(Γ:Fr)(μ:Mu)(Z3:St)(H:Hp)(env:Env)(S:Store):Prop where
 vals:∀(i:Nat)(d:D),env[i]?=some (some d)->∃v,Z3[i]?=some (some v)/\VR Γ μ H v d
 len:Z3.length=env.length
 sto:∀(i:Nat)(ds:List D),S[i]?=some (some ds)->∃a,μ[i]?=some (some a)/\Cell Γ μ H a ds
 liv:∀(i:Nat)(a:Addr),μ[i]?=some (some a)->∃ds,S[i]?=some (some ds)
 inj:∀(i j:Nat)(a:Addr),μ[i]?=some (some a)->μ[j]?=some (some a)->i=j
 slen:S.length=μ.length
 ent:Ext (Γ.m0.map some) Γ.H0 μ H
 new:∀(i:Nat)(a:Addr),Γ.m0.length<=i->μ[i]?=some (some a)->Γ.H0 a=none
section
variable{Γ:Fr}{μ μ':Mu}{Z3 ZY:St}{H H':Hp}{env env2:Env}{S S':Store}
theorem Cell.kind{a:Addr}{ds:List D}(c:Cell Γ μ H a ds):IsL H a∨IsK H a:=by
 rcases c with ⟨xs,h,_⟩|⟨kvs,_,h⟩
 .exact .inl ⟨xs,h⟩
 .exact .inr ⟨kvs,h⟩
theorem Cell.list{a:Addr}{ds:List D}(c:Cell Γ μ H a ds)(l:IsL H a):∃xs,H a=some (.lst xs)/\VRs Γ μ H xs ds:=by
 rcases c with z|⟨kvs,_,h⟩
 .exact z
 .obtain⟨xs,q⟩:=l
  rw[h] at q;cases q
theorem Cell.dict{a:Addr}{ds:List D}(c:Cell Γ μ H a ds)(l:IsK H a):∃kvs,ds=[.dcm kvs]/\H a=some (.dK kvs):=by
 rcases c with ⟨xs,h,_⟩|z
 .obtain⟨xs,q⟩:=l
  rw[h] at q;cases q
 .exact z
theorem Cell.to{μ':Mu}{H':Hp}{a:Addr}{ds:List D}(c:Cell Γ μ H a ds)(x:Ext μ H μ' H')(e:∀o,H a=some o->H' a=some o):Cell Γ μ' H' a ds:=by
 rcases c with ⟨xs,h,r⟩|⟨kvs,q,h⟩
 .exact .inl ⟨xs,e _ h,r.ext x⟩
 .exact .inr ⟨kvs,q,e _ h⟩
theorem Rep.live(R:Rep Γ μ Z3 H env S){a:Addr}(h:CN μ a):IsL H a∨IsK H a:=by
 obtain⟨i,hi⟩:=U1l.mp h
 obtain⟨ds,hs⟩:=R.liv i a hi
 obtain⟨b,h1,h2⟩:=R.sto i ds hs
 rw[hi] at h1;cases h1
 exact h2.kind
theorem Rep.dead(R:Rep Γ μ Z3 H env S){p:Addr}(h:H p=none):¬CN μ p:=fun z=>by
 rcases R.live z with ⟨xs,e⟩|⟨xs,e⟩<;>(rw[h] at e;cases e)
theorem Rep.fresh(R:Rep Γ μ Z3 H env S){p:Addr}(h:H p=none):Γ.H0 p=none:=R.ent.none p h
theorem Rep.ok(R:Rep Γ μ Z3 H env S){p:Addr}(h:H p=none)(m:Bool):Γ.Ok m p:=⟨fun _=>R.fresh h,.inr (R.fresh h)⟩
theorem Rep.grow(R:Rep Γ μ Z3 H env S)(e:Same H H'):Rep Γ μ Z3 H' env S/\Ext μ H μ H':=by
 have x:Ext μ H μ H':=⟨fun a o h n=>⟨e a o h,n⟩,fun a xs h=>e a _ h,fun a h=>e.free h,fun _ _ _ h=>h,U0l _,fun a _ ⟨xs,h⟩=>⟨xs,e a _ h⟩,fun a _ ⟨xs,h⟩=>⟨xs,e a _ h⟩⟩
 refine⟨⟨fun i d h=>?_,R.len,fun i ds h=>?_,R.liv,R.inj,R.slen,R.ent.trans x,R.new⟩,x⟩
 .obtain⟨v,h1,h2⟩:=R.vals i d h
  exact⟨v,h1,h2.ext x⟩
 .obtain⟨a,h1,h2⟩:=R.sto i ds h
  exact⟨a,h1,h2.to x fun o q=>e _ _ q⟩
theorem Rep.back(R:Rep Γ μ Z3 H env S)(x:Ext μ H μ' H')(R2:Rep Γ μ' ZY H' env2 S'):Rep Γ μ' Z3 H' env S' :=
 ⟨fun i d h=>let ⟨v,h1,h2⟩:=R.vals i d h;⟨v,h1,h2.ext x⟩,R.len,R2.sto,R2.liv,R2.inj,R2.slen,R2.ent,R2.new⟩
theorem Rep.iI(R:Rep Γ μ Z3 H env S)(i:Nat){v:V}{d:D}(r:VR Γ μ H v d):Rep Γ μ (Z3.set i (some v)) H (env.set i (some d)) S:=by
 refine⟨fun j e h=>?_,by rw[U5r,U5r];exact R.len,R.sto,R.liv,R.inj,R.slen,R.ent,R.new⟩
 by_cases hj:i=j
 .subst hj
  have hl:i<env.length:=by
   have:=(U0j.mp h).1
   rw[U5r] at this;exact this
  rw[U3u hl] at h
  cases h
  exact⟨v,U3u (by rw[R.len];exact hl),r⟩
 .rw[U37 hj] at h ⊢
  exact R.vals j e h
theorem Rep.xQ(R:Rep Γ μ Z3 H env S){p:Addr}{o:HO}{ds:List D}(hp:H p=none)(r:∀μ' H',Ext μ H μ' H'->H' p=some o->Cell Γ μ' H' p ds) :
  Rep Γ (μ++[some p]) Z3 (upd H p o) env (S++[some ds])/\Ext μ H (μ++[some p]) (upd H p o):=by
 have ne:∀a o,H a=some o->a≠p:=fun a o h z=>by rw[z,hp] at h;cases h
 have x:Ext μ H (μ++[some p]) (upd H p o):=by
  refine⟨fun a o h n=>⟨by rw[Bh (ne a o h)];exact h,fun z=>?_⟩,fun a ys h=>by rw[Bh (ne a _ h)];exact h,fun a h=>?_,fun i a hi h=>?_,by rw[U0p];lia,fun a _ ⟨ys,h⟩=>⟨ys,by rw[Bh (ne a _ h)];exact h⟩,fun a _ ⟨ys,h⟩=>⟨ys,by rw[Bh (ne a _ h)];exact h⟩⟩
  .rcases U0z.mp z with z|z
   .exact n z
   .have z':a=p:=by simpa using z
    exact ne a o h z'
  .by_cases ha:a=p
   .rw[ha,Bq] at h;cases h
   .rw[Bh ha] at h;exact h
  .rw[U01 hi] at h;exact h
 have idx:∀i a,(μ++[some p])[i]?=some (some a)->(i<μ.length/\μ[i]?=some (some a))∨(i=μ.length/\a=p):=fun i a h=>by
  by_cases hi:i<μ.length
  .rw[U01 hi] at h;exact .inl ⟨hi,h⟩
  .rw[U1h (by lia)] at h
   have hl:=(U0j.mp h).1
   have hi':i=μ.length:=by simp at hl;lia
   subst hi'
   simp at h
   exact .inr ⟨rfl,h.symm⟩
 have no:∀a,μ[a]?=some (some p)->False:=fun i h=>R.dead hp (U1p h)
 refine⟨⟨fun i d h=>?_,R.len,fun i es h=>?_,fun i a h=>?_,fun i j a h1 h2=>?_,by rw[U0p,U0p,R.slen];rfl,R.ent.trans x,fun i a hi h=>?_⟩,x⟩
 .obtain⟨v,h1,h2⟩:=R.vals i d h
  exact⟨v,h1,h2.ext x⟩
 .by_cases hi:i<S.length
  .rw[U01 hi] at h
   obtain⟨a,h1,h2⟩:=R.sto i es h
   exact⟨a,by rw[U01 (by rw[←R.slen];exact hi)];exact h1,h2.to x fun o q=>by rw[Bh (ne a _ q)];exact q⟩
  .rw[U1h (by lia)] at h
   have hl:=(U0j.mp h).1
   have hi':i=S.length:=by simp at hl;lia
   subst hi'
   simp at h
   subst h
   exact⟨p,by rw[R.slen];simp,r _ _ x Bq⟩
 .rcases idx i a h with ⟨hi,h⟩|⟨rfl,rfl⟩
  .obtain⟨ds',q⟩:=R.liv i a h
   exact⟨ds',by rw[U01 (by rw[R.slen];exact hi)];exact q⟩
  .exact⟨ds,by rw[←R.slen];simp⟩
 .rcases idx i a h1 with ⟨_,g1⟩|⟨e1,e2⟩
  .rcases idx j a h2 with ⟨_,g2⟩|⟨e3,e4⟩
   .exact R.inj i j a g1 g2
   .exact(no i (e4 ▸ g1)).elim
  .rcases idx j a h2 with ⟨_,g2⟩|⟨e3,_⟩
   .exact(no j (e2 ▸ g2)).elim
   .rw[e1,e3]
 .rcases idx i a h with ⟨_,h⟩|⟨rfl,rfl⟩
  .exact R.new i a hi h
  .exact R.fresh hp
theorem Rep.laid(R:Rep Γ μ Z3 H env S){p:Addr}{xs:List V}{ds:List D}(hp:H p=none)(r:VRs Γ μ H xs ds) :
  Rep Γ (μ++[some p]) Z3 (upd H p (.lst xs)) env (S++[some ds])/\Ext μ H (μ++[some p]) (upd H p (.lst xs)):=R.xQ hp fun _ _ x q=>.inl ⟨xs,q,r.ext x⟩
theorem Rep.yr(R:Rep Γ μ Z3 H env S){i:Nat}{a:Addr}{o:HO}{ds:List D}(hi:μ[i]?=some (some a))(k1:IsL H a->IsL (upd H a o) a)(k2:IsK H a->IsK (upd H a o) a)(r:∀H',Ext μ H μ H'->H' a=some o->Cell Γ μ H' a ds) :
  Rep Γ μ Z3 (upd H a o) env (S.set i (some ds))/\Ext μ H μ (upd H a o):=by
 have hl:CN μ a:=U1p hi
 have hy:=R.live hl
 have x:Ext μ H μ (upd H a o):=by
  refine⟨fun b o h n=>⟨?_,n⟩,fun b zs h=>?_,fun b h=>?_,fun _ _ _ h=>h,U0l _,fun b _ h=>?_,fun b _ h=>?_⟩
  .rw[Bh (fun z=>n (by rw[z];exact hl))];exact h
  .rw[Bh (fun z=>by
    rw[z] at h
    rcases hy with ⟨_,q⟩|⟨_,q⟩<;>(rw[q] at h;cases h))];exact h
  .by_cases hb:b=a
   .rw[hb,Bq] at h;cases h
   .rw[Bh hb] at h;exact h
  .by_cases hb:b=a
   .subst hb;exact k1 h
   .obtain⟨ys,h⟩:=h
    exact⟨ys,by rw[Bh hb];exact h⟩
  .by_cases hb:b=a
   .subst hb;exact k2 h
   .obtain⟨ys,h⟩:=h
    exact⟨ys,by rw[Bh hb];exact h⟩
 have hiS:i<S.length:=by rw[R.slen];exact(U0j.mp hi).1
 refine⟨⟨fun j d h=>?_,R.len,fun j es h=>?_,fun j b h=>?_,R.inj,by rw[U5r];exact R.slen,R.ent.trans x,R.new⟩,x⟩
 .obtain⟨v,h1,h2⟩:=R.vals j d h
  exact⟨v,h1,h2.ext x⟩
 .by_cases hj:i=j
  .subst hj
   rw[U3u hiS] at h
   cases h
   exact⟨a,hi,r _ x Bq⟩
  .rw[U37 hj] at h
   obtain⟨b,h1,h2⟩:=R.sto j es h
   refine⟨b,h1,h2.to x fun o q=>?_⟩
   rw[Bh (fun z=>hj (R.inj i j a hi (by rw[←z];exact h1)))]
   exact q
 .by_cases hj:i=j
  .subst hj;exact⟨ds,U3u hiS⟩
  .rw[U37 hj];exact R.liv j b h
theorem Rep.put(R:Rep Γ μ Z3 H env S){i:Nat}{a:Addr}{xs:List V}{ds:List D}(hi:μ[i]?=some (some a))(hx:IsL H a)(r:VRs Γ μ H xs ds) :
  Rep Γ μ Z3 (upd H a (.lst xs)) env (S.set i (some ds))/\Ext μ H μ (upd H a (.lst xs)) :=
 R.yr hi (fun _=>⟨xs,Bq⟩) (fun⟨_,q⟩=>by obtain⟨_,p⟩:=hx;rw[q] at p;cases p) fun _ x q=>.inl ⟨xs,q,r.ext x⟩
end
end VS
end
section
namespace VS
open PySem PySem.Spec L2
abbrev BL:=Env->Store->Option (D×Store)
abbrev Bl:=Env->Store->Option (List D×Store)
abbrev Em:=Env->Store->Option (Bool×Store)
abbrev T6:=Env->Store->Option (Option Int×Store)
inductive Fl where|nx|brk|cnt|ret (d:D)
abbrev Bb:=Env->Store->Option (Fl×Env×Store)
abbrev Kg:=Env->Store->Option ((List D×List (Nat×List D))×Store)
abbrev NP:=D->Env->Option Env
def Ab(i:Nat):BL:=fun env S=>(env[i]?.join).map fun d=>(d,S)
def eC(d:D):BL:=fun _ S=>some (d,S)
def eOp(g:Store->D->D->Option D)(a b:BL):BL:=fun env S=>(a env S).bind fun p=>(b env p.2).bind fun q=>(g q.2 p.1 q.1).map fun d=>(d,q.2)
def eUn(g:Store->D->Option D)(a:BL):BL:=fun env S=>(a env S).bind fun p=>(g p.2 p.1).map fun d=>(d,p.2)
def Af:Bl:=fun _ S=>some ([],S)
def Aa(a:BL)(r:Bl):Bl:=fun env S=>(a env S).bind fun p=>(r env p.2).bind fun q=>some (p.1::q.1,q.2)
def eCB(g:Store->List D->Option D)(a:Bl):BL:=fun env S=>(a env S).bind fun p=>(g p.2 p.1).map fun d=>(d,p.2)
def Py(a b:BL):BL:=fun env S=>(a env S).bind fun p=>match p.1 with|.bl true=>b env p.2|.bl false=>some (.bl false,p.2)|_=>none
def iW(a:BL):BL:=fun env S=>(a env S).bind fun p=>match p.1 with|.bl c=>some (.bl (!c),p.2)|_=>none
def BR(a:BL):Em:=fun env S=>(a env S).bind fun p=>match p.1 with|.bl c=>some (c,p.2)|_=>none
def K3(a b:Em):Em:=fun env S=>(a env S).bind fun p=>if p.1=true then b env p.2 else some (false,p.2)
def tOr(a b:Em):Em:=fun env S=>(a env S).bind fun p=>if p.1=true then some (true,p.2) else b env p.2
def Hy(a:Em):Em:=fun env S=>(a env S).bind fun p=>some (!p.1,p.2)
def LR:T6:=fun _ S=>some (none,S)
def LQ(a:BL):T6:=fun env S=>(a env S).bind fun p=>match p.1 with|.int i=>some (some i,p.2)|_=>none
def eSl(g:Store->D->Option Int->Option Int->Option D)(a:BL)(l h:T6):BL:=fun env S=>(a env S).bind fun p=>(l env p.2).bind fun q=>(h env q.2).bind fun r=>(g r.2 p.1 q.1 r.1).map fun d=>(d,r.2)
def Bk(a b:Bb):Bb:=fun env S=>(a env S).bind fun p=>match p.1 with|.nx=>b p.2.1 p.2.2|f=>some (f,p.2.1,p.2.2)
def Ez:Bb:=fun env S=>some (.nx,env,S)
def dO:Bb:=fun _ _=>none
def BZ(i:Nat)(a:BL):Bb:=fun env S=>(a env S).bind fun p=>some (.nx,env.set i (some p.1),p.2)
def bH(a:BL)(g:NP):Bb:=fun env S=>(a env S).bind fun p=>(g p.1 env).bind fun e=>some (.nx,e,p.2)
def Gv(a:BL):Bb:=fun env S=>(a env S).bind fun p=>some (.nx,env,p.2)
def Di(a:BL):Bb:=fun env S=>(a env S).bind fun p=>some (.ret p.1,env,p.2)
def sIf(c:Em)(a b:Bb):Bb:=fun env S=>(c env S).bind fun p=>if p.1=true then a env p.2 else b env p.2
inductive Pat where
 |nm (i:Nat)|tp (ps:List Pat)
mutual
def Pat.sem:Pat->D->Env->Option Env
 |.nm i,d,env=>some (env.set i (some d))
 |.tp ps,.tup ds,env=>HN ps ds env
 |.tp _,_,_=>none
def HN:List Pat->List D->Env->Option Env
 |[],[],env=>some env
 |p::ps,d::ds,env=>(Pat.sem p d env).bind fun e=>HN ps ds e
 |_,_,_=>none
end
mutual
def Pat.raw(K:U0b):Pat->TG
 |.nm i=>XM i
 |.tp ps=>iT K ps.length (Jl K ps)
def Jl(K:U0b):List Pat->TGs
 |[]=>iU
 |p::ps=>bZ (Pat.raw K p) (Jl K ps)
end
mutual
def Pat.low(k:Nat):Pat->Bool
 |.nm i=>decide (i<k)
 |.tp ps=>bK k ps
def bK(k:Nat):List Pat->Bool
 |[]=>true
 |p::ps=>Pat.low k p&&bK k ps
end
mutual
theorem Pat.mono(K:U0b):∀(p:Pat)(x:V)(Z3:St)(H:Hp)(Q Q':St->Hp->Prop),(∀ZZ H',Q ZZ H'->Q' ZZ H')->p.raw K x Z3 H Q->p.raw K x Z3 H Q'
 |.nm i,x,Z3,H,Q,Q',f,h=>by rw[Pat.raw] at h ⊢;exact f _ _ h
 |.tp ps,x,Z3,H,Q,Q',f,h=>by rw[Pat.raw] at h ⊢;obtain⟨a,xs,e,hs,hl,q⟩:=h;exact⟨a,xs,e,hs,hl,bV K ps xs Z3 H Q Q' f q⟩
theorem bV(K:U0b):∀(ps:List Pat)(x:List V)(Z3:St)(H:Hp)(Q Q':St->Hp->Prop),(∀ZZ H',Q ZZ H'->Q' ZZ H')->Jl K ps x Z3 H Q->Jl K ps x Z3 H Q'
 |[],x,Z3,H,Q,Q',f,h=>by rw[Jl] at h ⊢;exact⟨h.1,f _ _ h.2⟩
 |p::ps,x,Z3,H,Q,Q',f,h=>by rw[Jl] at h ⊢;obtain⟨v,r,e,q⟩:=h;exact⟨v,r,e,Pat.mono K p v Z3 H _ _ (fun ZU H1 z=>bV K ps r ZU H1 Q Q' f z) q⟩
end
mutual
theorem Pat.bW(K:U0b){k:Nat}:∀(p:Pat),p.low k=true->Low k (p.raw K)
 |.nm i,h=>by rw[Pat.raw];rw[Pat.low] at h;exact jl (of_decide_eq_true h)
 |.tp ps,h=>by rw[Pat.raw];rw[Pat.low] at h;exact pN (eV K ps h)
theorem eV(K:U0b){k:Nat}:∀(ps:List Pat),bK k ps=true->Xf k (Jl K ps)
 |[],_=>by rw[Jl];exact pO
 |p::ps,h=>by
  rw[Jl]
  rw[bK,U0v] at h
  exact jm (Pat.bW K p h.1) (eV K ps h.2) (Pat.mono K p) (bV K ps)
end
theorem YJ:∀{ps:List Pat} {ds:List D} {env env':Env},HN ps ds env=some env'->ds.length=ps.length
 |[],[],_,_,_=>rfl
 |[],_::_,_,_,h=>by simp[HN] at h
 |_::_,[],_,_,h=>by simp[HN] at h
 |p::ps,d::ds,env,env',h=>by
  rw[HN] at h
  cases e1:p.sem d env with
  |none=>rw[e1] at h;cases h
  |some env1 =>
   rw[e1] at h
   rw[U0f,U0f,YJ (show HN ps ds env1=some env' from h)]
mutual
theorem Pat.run{Γ:Fr}{μ:Mu}{H:Hp}{S:Store}(K:U0b):∀(p:Pat){v:V}{d:D}{Z3:St}{env env':Env}{Q:St->Hp->Prop},Rep Γ μ Z3 H env S->VR Γ μ H v d->p.sem d env=some env'->(∀ZZ,Rep Γ μ ZZ H env' S->Q ZZ H)->p.raw K v Z3 H Q
 |.nm i,v,d,Z3,env,env',Q,R,r,e,q=>by
  rw[Pat.raw]
  rw[Pat.sem] at e
  cases e
  exact q _ (R.iI i r)
 |.tp ps,v,d,Z3,env,env',Q,R,r,e,q=>by
  rw[Pat.raw]
  cases r with
  |@tup b xs ds hb rs =>
   rw[Pat.sem] at e
   obtain⟨hl,w⟩:=rO K ps R rs e q
   exact⟨b,xs,rfl,SqT.of hb,hl,w⟩
  |_=>simp[Pat.sem] at e
theorem rO{Γ:Fr}{μ:Mu}{H:Hp}{S:Store}(K:U0b):∀(ps:List Pat){vs:List V}{ds:List D}{Z3:St}{env env':Env}{Q:St->Hp->Prop},Rep Γ μ Z3 H env S->VRs Γ μ H vs ds->HN ps ds env=some env'->(∀ZZ,Rep Γ μ ZZ H env' S->Q ZZ H)->vs.length=ps.length/\Jl K ps vs Z3 H Q
 |[],vs,ds,Z3,env,env',Q,R,r,e,q=>by
  rw[Jl]
  cases r with
  |nil=>rw[HN] at e;cases e;exact⟨rfl,rfl,q Z3 R⟩
  |cons _ _=>simp[HN] at e
 |p::ps,vs,ds,Z3,env,env',Q,R,r,e,q=>by
  rw[Jl]
  cases r with
  |nil=>simp[HN] at e
  |@cons y d ys ds' r1 r2 =>
   rw[HN] at e
   cases e1:p.sem d env with
   |none=>rw[e1] at e;cases e
   |some env1 =>
    rw[e1] at e
    have e':HN ps ds' env1=some env':=e
    have hl:ys.length=ps.length:=by rw[r2.length];exact YJ e'
    exact⟨by rw[U0f,U0f,hl],y,ys,rfl,Pat.run K p R r1 e1 fun ZU R1=>(rO K ps R1 r2 e' q).2⟩
end
def calm(w:List (Nat×List D))(S:Store):Prop:=∀p∈w,S[p.1]?=some (some p.2)
open Classical in
def loop(w:List (Nat×List D))(g:NP)(b:Bb):List D->Bb
 |[],env,S=>if calm w S then some (.nx,env,S) else none
 |d::r,env,S=>if calm w S then (g d env).bind fun e=>(b e S).bind fun p=>match p.1 with
   |.nx=>loop w g b r p.2.1 p.2.2
   |.cnt=>loop w g b r p.2.1 p.2.2
   |.brk=>some (.nx,p.2.1,p.2.2)
   |.ret d=>some (.ret d,p.2.1,p.2.2)
  else none
def Kf(it:Kg)(g:NP)(b:Bb):Bb:=fun env S=>(it env S).bind fun p=>loop p.1.2 g b p.1.1 env p.2
def G9(c:Em)(b:Bb):Nat->Bb
 |0,_,_=>none
 |n+1,env,S=>(c env S).bind fun p=>if p.1=true then (b env p.2).bind fun q=>match q.1 with
   |.nx=>G9 c b n q.2.1 q.2.2
   |.cnt=>G9 c b n q.2.1 q.2.2
   |.brk=>some (.nx,q.2.1,q.2.2)
   |.ret d=>some (.ret d,q.2.1,q.2.2)
  else some (.nx,env,p.2)
def M4(k:Nat)(caps:List Nat)(env:Env):Env:=U08 k none++caps.map fun j=>(env[j]?).join
open Classical in
def La(w:List (Nat×List D))(e0:Env)(g:NP)(t:Em)(e:BL):List D->List D->Store->Option (List D×Store)
 |[],ys,S=>if calm w S/\ys.length<=1000000 then some (ys,S) else none
 |d::r,ys,S=>if calm w S/\ys.length<=1000000 then (g d e0).bind fun e1=>(t e1 S).bind fun p =>
   if p.1=true then (e e1 p.2).bind fun q=>La w e0 g t e r (ys++[q.1]) q.2 else La w e0 g t e r ys p.2
  else none
def Cv(k:Nat)(caps:List Nat)(it:Kg)(g:NP)(t:Em)(e:BL):Bl:=fun env S=>(it env S).bind fun p=>La p.1.2 (M4 k caps env) g t e p.1.1 [] p.2
def J7:Em:=fun _ S=>some (true,S)
def Az(a:Bl):BL:=fun env S=>(a env S).bind fun p=>some (.lst true p.1,p.2)
def Jm(a:Bl):BL:=fun env S=>(a env S).bind fun p=>some (.ref p.2.length,p.2++[some p.1])
def Bo(a:Bl):BL:=fun env S=>(a env S).bind fun p=>some (.tup p.1,p.2)
def wpE(K:U0b)(f:BL):TE:=fun Z3 H Q=>∃Γ μ env S d S',Γ.K=K/\Rep Γ μ Z3 H env S/\f env S=some (d,S')/\∀v μ' H',Ext μ H μ' H'->Rep Γ μ' Z3 H' env S'->VR Γ μ' H' v d->Q v H'
def wpA(K:U0b)(f:Bl):TA:=fun Z3 H Q=>∃Γ μ env S d S',Γ.K=K/\Rep Γ μ Z3 H env S/\f env S=some (d,S')/\∀v μ' H',Ext μ H μ' H'->Rep Γ μ' Z3 H' env S'->VRs Γ μ' H' v d->Q v H'
def wpT(K:U0b)(f:Em):TT:=fun Z3 H Q=>∃Γ μ env S b S',Γ.K=K/\Rep Γ μ Z3 H env S/\f env S=some (b,S')/\∀μ' H',Ext μ H μ' H'->Rep Γ μ' Z3 H' env S'->Q b H'
def wpO(K:U0b)(f:T6):TO:=fun Z3 H Q=>∃Γ μ env S b S',Γ.K=K/\Rep Γ μ Z3 H env S/\f env S=some (b,S')/\∀μ' H',Ext μ H μ' H'->Rep Γ μ' Z3 H' env S'->Q b H'
def FlQ(Γ:Fr)(μ:Mu)(E:Ends)(Z3:St)(H:Hp):Fl->Prop
 |.nx=>E.nx Z3 H
 |.brk=>E.bk Z3 H
 |.cnt=>E.ct Z3 H
 |.ret d=>∀v,VR Γ μ H v d->E.rt v H
def wpS(K:U0b)(f:Bb):TS:=fun E Z3 H=>∃Γ μ env S fl env' S',Γ.K=K/\Rep Γ μ Z3 H env S/\f env S=some (fl,env',S')/\∀μ' ZZ H',Ext μ H μ' H'->Rep Γ μ' ZZ H' env' S'->FlQ Γ μ' E ZZ H' fl
structure Xg(Γ:Fr)(μ:Mu)(H:Hp)(J:It)(ds:List D)(w:List (Nat×List D)):Prop where
 step:∀(i:Nat)(d:D)(μ':Mu)(H':Hp)(ZZ:St)(env':Env)(S':Store),ds[i]?=some d->Ext μ H μ' H'->Rep Γ μ' ZZ H' env' S'->calm w S'->J.go i H'/\∀x H'',J.yld i H' x H''->Same H' H''/\VR Γ μ' H'' x d
 stop:∀(μ':Mu)(H':Hp)(ZZ:St)(env':Env)(S':Store),Ext μ H μ' H'->Rep Γ μ' ZZ H' env' S'->calm w S'->J.stop ds.length H'
def wpI(K:U0b)(f:Kg):TI:=fun Z3 H R=>∃Γ μ env S ds w S',Γ.K=K/\Rep Γ μ Z3 H env S/\f env S=some ((ds,w),S')/\∀J μ' H',Ext μ H μ' H'->Rep Γ μ' Z3 H' env S'->Xg Γ μ' H' J ds w->R J H'
structure JE(X:Cx)(e:Expr)(f:BL):Prop where
 pe:PE X e (wpE X.K f)
structure JA(X:Cx)(es:List Expr)(f:Bl):Prop where
 pa:PA X es (wpA X.K f)
structure JT(X:Cx)(e:Expr)(f:Em):Prop where
 pt:PT X e (wpT X.K f)
structure JW(X:Cx)(e:Expr)(f:Em):Prop where
 pw:PW X e (wpT X.K f)
structure JO(X:Cx)(e:Option Expr)(f:T6):Prop where
 po:PO X e (wpO X.K f)
structure JS(X:Cx)(st:Stmt)(f:Bb):Prop where
 ps:PS X st (wpS X.K f)
structure JSs(X:Cx)(sts:List Stmt)(f:Bb):Prop where
 ps:PSs X sts (wpS X.K f)
structure JI(X:Cx)(tg e:Expr)(f:Kg):Prop where
 pi:PI X tg e (wpI X.K f)
structure JG(X:Cx)(tg:Expr)(p:Pat):Prop where
 pg:PG X tg (p.raw X.K)
structure JGs(X:Cx)(tgs:List Expr)(ps:List Pat):Prop where
 pg:PGs X tgs (Jl X.K ps)
structure JTs(X:Cx)(es:List Expr)(f:Em):Prop where
 pt:PTs X es (wpT X.K f)
section
variable{X:Cx}
theorem PE.imp{e:Expr}{t t':TE}(h:PE X e t)(k:∀Z3 H Q,t' Z3 H Q->t Z3 H Q):PE X e t':=fun pins s Z3 H Q I q=>h pins s Z3 H Q I (k Z3 H Q q)
theorem PT.imp{e:Expr}{t t':TT}(h:PT X e t)(k:∀Z3 H Q,t' Z3 H Q->t Z3 H Q):PT X e t':=fun pins s Z3 H Q I q=>h pins s Z3 H Q I (k Z3 H Q q)
theorem PW.imp{e:Expr}{t t':TT}(h:PW X e t)(k:∀Z3 H Q,t' Z3 H Q->t Z3 H Q):PW X e t':=fun w pins s Z3 H Q I q=>h w pins s Z3 H Q I (k Z3 H Q q)
theorem PTs.imp{e:List Expr}{t t':TT}(h:PTs X e t)(k:∀Z3 H Q,t' Z3 H Q->t Z3 H Q):PTs X e t':=fun pins s Z3 H Q I q=>h pins s Z3 H Q I (k Z3 H Q q)
theorem PA.imp{e:List Expr}{t t':TA}(h:PA X e t)(k:∀Z3 H Q,t' Z3 H Q->t Z3 H Q):PA X e t':=fun p pins s Z3 H Q I q=>h p pins s Z3 H Q I (k Z3 H Q q)
theorem PO.imp{e:Option Expr}{t t':TO}(h:PO X e t)(k:∀Z3 H Q,t' Z3 H Q->t Z3 H Q):PO X e t':=fun pins s Z3 H Q I q=>h pins s Z3 H Q I (k Z3 H Q q)
theorem PS.imp{e:Stmt}{t t':TS}(h:PS X e t)(k:∀E Z3 H,t' E Z3 H->t E Z3 H):PS X e t':=fun pins s Z3 H E I q=>h pins s Z3 H E I (k E Z3 H q)
theorem PSs.imp{e:List Stmt}{t t':TS}(h:PSs X e t)(k:∀E Z3 H,t' E Z3 H->t E Z3 H):PSs X e t':=fun pins s Z3 H E I q=>h pins s Z3 H E I (k E Z3 H q)
theorem PI.imp{tg e:Expr}{t t':TI}(h:PI X tg e t)(k:∀Z3 H R,t' Z3 H R->t Z3 H R):PI X tg e t':=fun pins s Z3 H R I q=>h pins s Z3 H R I (k Z3 H R q)
theorem bind_some{Zs Zp:Type}{a:Option Zs}{f:Zs->Option Zp}{b:Zp}(h:a.bind f=some b):∃x,a=some x/\f x=some b:=by
 cases a with
 |none=>cases h
 |some x=>exact⟨x,rfl,h⟩
theorem map_some{Zs Zp:Type}{a:Option Zs}{f:Zs->Zp}{b:Zp}(h:a.map f=some b):∃x,a=some x/\f x=b:=by
 cases a with
 |none=>cases h
 |some x=>exact⟨x,rfl,U00 h⟩
def G8(K:U0b)(r:R2)(g:Store->D->D->Option D):Prop:=∀(Γ:Fr)(μ:Mu)(Z3:St)(H:Hp)(env:Env)(S:Store)(x y:V)(dx dy d:D),Γ.K=K->Rep Γ μ Z3 H env S->VR Γ μ H x dx->VR Γ μ H y dy->g S dx dy=some d ->
 ∀Q:VK,(∀v H',Same H H'->VR Γ μ H' v d->Q v H')->r x y H Q
def sU(K:U0b)(r:V->Hp->VK->Prop)(g:Store->D->Option D):Prop:=∀(Γ:Fr)(μ:Mu)(Z3:St)(H:Hp)(env:Env)(S:Store)(x:V)(dx d:D),Γ.K=K->Rep Γ μ Z3 H env S->VR Γ μ H x dx->g S dx=some d ->
 ∀Q:VK,(∀v H',Same H H'->VR Γ μ H' v d->Q v H')->r x H Q
def NK(K:U0b)(r:List V->Hp->VK->Prop)(g:Store->List D->Option D):Prop:=∀(Γ:Fr)(μ:Mu)(Z3:St)(H:Hp)(env:Env)(S:Store)(xs:List V)(ds:List D)(d:D),Γ.K=K->Rep Γ μ Z3 H env S->VRs Γ μ H xs ds->g S ds=some d ->
 ∀Q:VK,(∀v H',Same H H'->VR Γ μ H' v d->Q v H')->r xs H Q
def mQ(K:U0b)(r:V->Option Int->Option Int->Hp->VK->Prop)(g:Store->D->Option Int->Option Int->Option D):Prop:=∀(Γ:Fr)(μ:Mu)(Z3:St)(H:Hp)(env:Env)(S:Store)(x:V)(dx d:D)(l h:Option Int),Γ.K=K->Rep Γ μ Z3 H env S->VR Γ μ H x dx->g S dx l h=some d ->
 ∀Q:VK,(∀v H',Same H H'->VR Γ μ H' v d->Q v H')->r x l h H Q
theorem XD{K:U0b}{r:R2}{g:Store->D->D->Option D}{fa fb:BL}(hs:G8 K r g){Z3:St}{H:Hp}{Q:VK}(h:wpE K (eOp g fa fb) Z3 H Q):tOp r (wpE K fa) (wpE K fb) Z3 H Q:=by
 obtain⟨Γ,μ,env,S,d,S',hK,R,e,q⟩:=h
 obtain⟨⟨x,S1⟩,e1,e⟩:=bind_some e
 obtain⟨⟨y,S2⟩,e2,e⟩:=bind_some e
 obtain⟨z,e3,e⟩:=map_some e
 cases e
 refine⟨Γ,μ,env,S,x,S1,hK,R,e1,fun v1 μ1 H1 x1 R1 r1=>?_⟩
 refine⟨Γ,μ1,env,S1,y,S2,hK,R1,e2,fun v2 μ2 H2 x2 R2 r2=>?_⟩
 refine hs Γ μ2 Z3 H2 env S2 v1 v2 x y _ hK R2 (r1.ext x2) r2 e3 Q fun v H' sm rv=>?_
 obtain⟨R3,x3⟩:=R2.grow sm
 exact q v μ2 H' (x1.trans (x2.trans x3)) R3 rv
theorem Bp{op:Operator}{r:R2}{g:Store->D->D->Option D}{a b:Expr}{fa fb:BL}{pos:Pos}(ho:OpR X (binaryOp op) r)(hs:G8 X.K r g)(ha:JE X a fa)(hb:JE X b fb):JE X (.BinOp a op b pos) (eOp g fa fb) :=
 ⟨PE.imp (wU ho ha.pe hb.pe) fun _ _ _ h=>XD hs h⟩
theorem KN{op:CmpOp}{r:R2}{g:Store->D->D->Option D}{a b:Expr}{fa fb:BL}{pos:Pos}(ho:OpR X (compareOp op) r)(hs:G8 X.K r g)(ha:JE X a fa)(hb:JE X b fb)(hm:behindInMarks op b=false):JE X (.Compare a [op] [b] pos) (eOp g fa fb) :=
 ⟨PE.imp (oZ ho ha.pe hb.pe hm) fun _ _ _ h=>XD hs h⟩
theorem Ax{r:R2}{g:Store->D->D->Option D}{a b:Expr}{fa fb:BL}{pos:Pos}(ho:IxR X r)(hs:G8 X.K r g)(ha:JE X a fa)(hb:JE X b fb)(hp:bF b):JE X (.Subscript a b pos) (eOp g fa fb) :=
 ⟨PE.imp (wV ho ha.pe hb.pe hp) fun _ _ _ h=>XD hs h⟩
theorem O1{op:UnaryOp}{r:V->Hp->VK->Prop}{g:Store->D->Option D}{a:Expr}{fa:BL}{pos:Pos}(ho:UnR X (unaryOp op) r)(hs:sU X.K r g)(ha:JE X a fa):JE X (.UnaryOp op a pos) (eUn g fa) :=
 ⟨PE.imp (wR ho ha.pe) fun Z3 H Q h=>by
  obtain⟨Γ,μ,env,S,d,S',hK,R,e,q⟩:=h
  obtain⟨⟨x,S1⟩,e1,e⟩:=bind_some e
  obtain⟨z,e3,e⟩:=map_some e
  cases e
  refine⟨Γ,μ,env,S,x,S1,hK,R,e1,fun v1 μ1 H1 x1 R1 r1=>?_⟩
  refine hs Γ μ1 Z3 H1 env S1 v1 x _ hK R1 r1 e3 Q fun v H' sm rv=>?_
  obtain⟨R3,x3⟩:=R1.grow sm
  exact q v μ1 H' (x1.trans x3) R3 rv⟩
theorem Ae(i:Nat){x:Str}{pos:Pos}(hN:X.N[i]?=some x:=by rfl)(hv:Vis X.env.scope x:=by first|exact U9 rfl|exact U8n (U9 rfl)|exact U8n (U8n rfl))(hd:(x==("__debug__":Str))=false:=by decide)
  (hcd:(x==("__classdict__":Str))=false:=by decide):JE X (.Name x pos) (Ab i) :=
 ⟨PE.imp (dW hN hv hd hcd) fun Z3 H Q h=>by
  obtain⟨Γ,μ,env,S,d,S',hK,R,e,q⟩:=h
  obtain⟨d',e1,e⟩:=map_some e
  cases e
  have e1':env[i]?=some (some d):=by
   cases h:env[i]? with
   |none=>rw[h] at e1;cases e1
   |some o=>rw[h] at e1;exact congrArg some e1
  obtain⟨v,h1,h2⟩:=R.vals i d e1'
  exact⟨v,h1,q v μ H (Ext.refl _ _) R h2⟩⟩
theorem bG{K:U0b}{v:V}{d:D}(h:∀Γ μ H,VR Γ μ H v d){Z3:St}{H:Hp}{Q:VK}(w:wpE K (eC d) Z3 H Q):tC v Z3 H Q:=by
 obtain⟨Γ,μ,env,S,d',S',hK,R,e,q⟩:=w
 cases e
 exact q v μ H (Ext.refl _ _) R (h Γ μ H)
theorem Ag{i j pos}:JE X (.Constant (.int i) j pos) (eC (.int i)):=⟨PE.imp uE fun _ _ _=>bG fun _ _ _=>.int i⟩
theorem Il{b j pos}:JE X (.Constant (.bool b) j pos) (eC (.bl b)):=⟨PE.imp wX fun _ _ _=>bG fun _ _ _=>.bl b⟩
theorem eH{j pos}:JE X (.Constant .none j pos) (eC .non):=⟨PE.imp uD fun _ _ _=>bG fun _ _ _=>.non⟩
theorem XJ{n:String}{x:Str}{pos:Pos}(hg:Gl X x)(hm:X.mg x=none)(hv:bootBuiltins x=some (.type n))(hn:x≠"__name__":=by decide)(hd:(x==("__debug__":Str))=false:=by decide):JE X (.Name x pos) (eC (.ty n)) :=
 ⟨PE.imp (p7 (v:=.ty n) hg hm hv rfl hn hd) fun _ _ _=>bG fun _ _ _=>.ty n⟩
theorem Aj:JA X [] Af:=⟨PA.imp Lp fun Z3 H Q h=>by
 obtain⟨Γ,μ,env,S,d,S',hK,R,e,q⟩:=h
 cases e
 exact q [] μ H (Ext.refl _ _) R .nil⟩
theorem Ad{e:Expr}{es:List Expr}{f:BL}{r:Bl}(ha:JE X e f)(hr:JA X es r)(hs:starEach (e::es) X.env=`bt::starEach es X.env:=by rfl):JA X (e::es) (Aa f r) :=
 ⟨PA.imp (Jv ha.pe hr.pa hs) fun Z3 H Q h=>by
  obtain⟨Γ,μ,env,S,d,S',hK,R,e,q⟩:=h
  obtain⟨⟨x,S1⟩,e1,e⟩:=bind_some e
  obtain⟨⟨y,S2⟩,e2,e⟩:=bind_some e
  cases e
  refine⟨Γ,μ,env,S,x,S1,hK,R,e1,fun v1 μ1 H1 x1 R1 r1=>?_⟩
  refine⟨Γ,μ1,env,S1,y,S2,hK,R1,e2,fun v2 μ2 H2 x2 R2 r2=>?_⟩
  exact q _ μ2 H2 (x1.trans x2) R2 (.cons (r1.ext x2) r2)⟩
theorem big{n:Nat}(h:n<=1000000):n<sizeLine:=U4l h (by decide)
theorem sX{K:U0b}{f:Bl}{Z3:St}{H:Hp}{Q:VK}(hl:∀env S p,f env S=some p->p.1.length<=1000000)(h:wpE K (Bo f) Z3 H Q):rJ (wpA K f) Z3 H Q:=by
 obtain⟨Γ,μ,env,S,d,S',hK,R,e,q⟩:=h
 obtain⟨⟨x,S1⟩,e1,e⟩:=bind_some e
 cases e
 refine⟨Γ,μ,env,S,x,S1,hK,R,e1,fun vs μ1 H1 x1 R1 r1=>⟨by rw[r1.length];exact U2g (big (hl _ _ _ e1)),fun p hp=>?_⟩⟩
 have sm:=Ci hp (.tup vs)
 obtain⟨R2,x2⟩:=R1.grow sm
 exact q _ μ1 _ (x1.trans x2) R2 (.tup Bq (r1.ext x2))
def Few(n:Nat)(f:Bl):Prop:=∀env S p,f env S=some p->p.1.length<=n
theorem Ay:Few 0 Af:=fun env S p h=>by cases h;exact U0l _
theorem Ai{n:Nat}{f:BL}{r:Bl}(h:Few n r):Few (n+1) (Aa f r):=fun env S p e=>by
 obtain⟨⟨x,S1⟩,e1,e⟩:=bind_some e
 obtain⟨⟨y,S2⟩,e2,e⟩:=bind_some e
 cases e
 have:=h _ _ _ e2
 show(x::y).length<=n+1
 rw[U0f]
 exact Nat.succ_le_succ this
theorem Cw{es:List Expr}{f:Bl}{x1:Nat}{pos:Pos}{n:Nat}(h:JA X es f)(hf:Few n f)(hn:n<=1000000:=by decide):JE X (.Tuple es x1 pos) (Bo f):=⟨PE.imp (u5 h.pa) fun _ _ _ w=>sX (fun env S p e=>U1b (hf env S p e) hn) w⟩
theorem Dh{es:List Expr}{f:Bl}{pos:Pos}{n:Nat}(h:JA X es f)(hf:Few n f)(hn:n<=1000000:=by decide):JE X (.List es pos) (Az f):=⟨PE.imp (dX h.pa) fun Z3 H Q w=>by
 obtain⟨Γ,μ,env,S,d,S',hK,R,e,q⟩:=w
 obtain⟨⟨x,S1⟩,e1,e⟩:=bind_some e
 cases e
 refine⟨Γ,μ,env,S,x,S1,hK,R,e1,fun vs μ1 H1 x1 R1 r1=>⟨by rw[r1.length];exact U2g (big (U1b (hf _ _ _ e1) hn)),fun p hp=>?_⟩⟩
 obtain⟨R2,x2⟩:=R1.grow (Ci hp (.lst vs))
 exact q _ μ1 _ (x1.trans x2) R2 (.lst (R1.ok hp true) (R1.dead hp) Bq (r1.ext x2))⟩
theorem Ks{es:List Expr}{f:Bl}{pos:Pos}{n:Nat}(h:JA X es f)(hf:Few n f)(hn:n<=1000000:=by decide):JE X (.List es pos) (Jm f):=⟨PE.imp (dX h.pa) fun Z3 H Q w=>by
 obtain⟨Γ,μ,env,S,d,S',hK,R,e,q⟩:=w
 obtain⟨⟨x,S1⟩,e1,e⟩:=bind_some e
 cases e
 refine⟨Γ,μ,env,S,x,S1,hK,R,e1,fun vs μ1 H1 x1 R1 r1=>⟨by rw[r1.length];exact U2g (big (U1b (hf _ _ _ e1) hn)),fun p hp=>?_⟩⟩
 obtain⟨R2,x2⟩:=R1.laid hp r1
 exact q _ _ _ (x1.trans x2) R2 (.ref (by rw[U0p,R1.slen];simp) fun a h=>by
  rw[R1.slen] at h
  simp at h
  rw[←h]
  exact⟨rfl,⟨_,Bq⟩⟩)⟩
end
end VS
end
section
namespace VS
open PySem PySem.Spec L2
section
variable{X:Cx}{a b c:Expr}{fa fb fc:BL}{pos:Pos}{rest:List Expr}
theorem Qx{op}(h:JE X a fa):JE X (.BoolOp op [a] pos) fa:=⟨u6 h.pe⟩
theorem PJ(ha:JE X a fa)(hb:JE X (.BoolOp .And (b::rest) pos) fb):JE X (.BoolOp .And (a::b::rest) pos) (Py fa fb):=⟨PE.imp (uG ha.pe hb.pe) fun Z3 H Q h=>by
 obtain⟨Γ,μ,env,S,d,S',hK,R,e,q⟩:=h
 obtain⟨⟨x,S1⟩,e1,e⟩:=bind_some e
 refine⟨Γ,μ,env,S,x,S1,hK,R,e1,fun v1 μ1 H1 x1 R1 r1=>?_⟩
 dsimp only at e
 split at e
 .cases r1
  exact⟨true,rfl,by rw[if_pos rfl];exact⟨Γ,μ1,env,S1,d,S',hK,R1,e,fun v μ' H' x' R' r'=>q v μ' H' (x1.trans x') R' r'⟩⟩
 .cases r1
  cases e
  exact⟨false,rfl,by rw[if_neg U1e];exact q _ μ1 H1 x1 R1 (.bl false)⟩
 .cases e⟩
theorem uo(ha:JE X a fa):JE X (.UnaryOp .Not a pos) (iW fa):=⟨PE.imp (u9 ha.pe) fun Z3 H Q h=>by
 obtain⟨Γ,μ,env,S,d,S',hK,R,e,q⟩:=h
 obtain⟨⟨x,S1⟩,e1,e⟩:=bind_some e
 refine⟨Γ,μ,env,S,x,S1,hK,R,e1,fun v1 μ1 H1 x1 R1 r1=>?_⟩
 dsimp only at e
 split at e
 .rename_i c
  cases r1
  cases e
  exact⟨c,rfl,q _ μ1 H1 x1 R1 (.bl _)⟩
 .cases e⟩
theorem Lq{e:Expr}(h:JE X e fa)(he:∀whole,isTrue e X.env whole=(do let v ←whole;standAt e.pos;holding [v] (truthy v)):=by intro _;rfl):JT X e (BR fa):=⟨PT.imp (tR h.pe he) fun Z3 H Q h=>by
 obtain⟨Γ,μ,env,S,d,S',hK,R,e,q⟩:=h
 obtain⟨⟨x,S1⟩,e1,e⟩:=bind_some e
 refine⟨Γ,μ,env,S,x,S1,hK,R,e1,fun v1 μ1 H1 x1 R1 r1=>?_⟩
 dsimp only at e
 split at e
 .rename_i c
  cases r1
  cases e
  exact⟨_,rfl,q μ1 H1 x1 R1⟩
 .cases e⟩
theorem mY{K:U0b}{f:BL}{t:TE}(ht:∀Z3 H Q,wpE K f Z3 H Q->t Z3 H Q){Z3:St}{H:Hp}{Q:Bool->Hp->Prop}(h:wpT K (BR f) Z3 H Q):lR t Z3 H Q:=by
 obtain⟨Γ,μ,env,S,d,S',hK,R,e,q⟩:=h
 obtain⟨⟨x,S1⟩,e1,e⟩:=bind_some e
 refine ht Z3 H _ ⟨Γ,μ,env,S,x,S1,hK,R,e1,fun v1 μ1 H1 x1 R1 r1=>?_⟩
 dsimp only at e
 split at e
 .cases r1
  cases e
  exact⟨_,rfl,q μ1 H1 x1 R1⟩
 .cases e
theorem Ce{op:CmpOp}{r:R2}{g:Store->D->D->Option D}(ho:OpR X (compareOp op) r)(hs:G8 X.K r g)(ha:JE X a fa)(hb:JE X b fb)(hm:behindInMarks op b=false):JT X (.Compare a [op] [b] pos) (BR (eOp g fa fb)) :=
 ⟨PT.imp (oJ ho ha.pe hb.pe hm) fun Z3 H Q h=>mY (fun _ _ _=>XD hs) h⟩
variable{ta tb:Em}
theorem K8(h:JW X a ta):JT X a ta:=⟨h.pw.pt⟩
theorem Rq(ha:JT X a ta):JW X (.BoolOp .And [a] pos) ta:=⟨oE ha.pt⟩
theorem NT(ha:JT X a ta):JW X (.BoolOp .Or [a] pos) ta:=⟨tO ha.pt⟩
theorem Qw(ha:JT X a ta)(hb:JW X (.BoolOp .And (b::rest) pos) tb):JW X (.BoolOp .And (a::b::rest) pos) (K3 ta tb):=⟨PW.imp (tQ ha.pt hb.pw) fun Z3 H Q h=>by
 obtain⟨Γ,μ,env,S,d,S',hK,R,e,q⟩:=h
 obtain⟨⟨x,S1⟩,e1,e⟩:=bind_some e
 refine⟨Γ,μ,env,S,x,S1,hK,R,e1,fun μ1 H1 x1 R1=>?_⟩
 dsimp only at e
 by_cases hx:x=true
 .rw[if_pos hx] at e ⊢
  exact⟨Γ,μ1,env,S1,d,S',hK,R1,e,fun μ' H' x' R'=>q μ' H' (x1.trans x') R'⟩
 .rw[if_neg hx] at e ⊢
  cases e
  exact q μ1 H1 x1 R1⟩
theorem Q5(ha:JT X a ta)(hb:JW X (.BoolOp .Or (b::rest) pos) tb):JW X (.BoolOp .Or (a::b::rest) pos) (tOr ta tb):=⟨PW.imp (wO ha.pt hb.pw) fun Z3 H Q h=>by
 obtain⟨Γ,μ,env,S,d,S',hK,R,e,q⟩:=h
 obtain⟨⟨x,S1⟩,e1,e⟩:=bind_some e
 refine⟨Γ,μ,env,S,x,S1,hK,R,e1,fun μ1 H1 x1 R1=>?_⟩
 dsimp only at e
 by_cases hx:x=true
 .rw[if_pos hx] at e ⊢
  cases e
  exact q μ1 H1 x1 R1
 .rw[if_neg hx] at e ⊢
  exact⟨Γ,μ1,env,S1,d,S',hK,R1,e,fun μ' H' x' R'=>q μ' H' (x1.trans x') R'⟩⟩
theorem NZ(ha:JT X a ta):JT X (.UnaryOp .Not a pos) (Hy ta):=⟨PT.imp (tU ha.pt) fun Z3 H Q h=>by
 obtain⟨Γ,μ,env,S,d,S',hK,R,e,q⟩:=h
 obtain⟨⟨x,S1⟩,e1,e⟩:=bind_some e
 cases e
 exact⟨Γ,μ,env,S,x,S1,hK,R,e1,fun μ1 H1 x1 R1=>q μ1 H1 x1 R1⟩⟩
theorem Hi:JTs X [] J7:=⟨PTs.imp oH fun Z3 H Q h=>by
 obtain⟨Γ,μ,env,S,d,S',hK,R,e,q⟩:=h
 cases e
 exact q μ H (Ext.refl _ _) R⟩
theorem Mv(h:JT X c ta):JTs X [c] ta:=⟨oG h.pt⟩
variable{lo hi:Option Expr}{ol oh:T6}{p2:Pos}
theorem Ru:JO X none LR:=⟨PO.imp oU fun Z3 H Q h=>by
 obtain⟨Γ,μ,env,S,d,S',hK,R,e,q⟩:=h
 cases e
 exact q μ H (Ext.refl _ _) R⟩
theorem Rt(h:JE X a fa):JO X (some a) (LQ fa):=⟨PO.imp (oR h.pe) fun Z3 H Q h=>by
 obtain⟨Γ,μ,env,S,d,S',hK,R,e,q⟩:=h
 obtain⟨⟨x,S1⟩,e1,e⟩:=bind_some e
 refine⟨Γ,μ,env,S,x,S1,hK,R,e1,fun v1 μ1 H1 x1 R1 r1=>?_⟩
 dsimp only at e
 split at e
 .cases r1
  cases e
  exact⟨_,rfl,q μ1 H1 x1 R1⟩
 .cases e⟩
theorem QF{r:V->Option Int->Option Int->Hp->VK->Prop}{g:Store->D->Option Int->Option Int->Option D}(hr:SlR X r)(hs:mQ X.K r g)(ha:JE X a fa)(hl:JO X lo ol)(hh:JO X hi oh) :
  JE X (.Subscript a (.Slice lo hi none p2) pos) (eSl g fa ol oh):=⟨PE.imp (je hr ha.pe hl.po hh.po) fun Z3 H Q h=>by
 obtain⟨Γ,μ,env,S,d,S',hK,R,e,q⟩:=h
 obtain⟨⟨x,S1⟩,e1,e⟩:=bind_some e
 obtain⟨⟨l,S2⟩,e2,e⟩:=bind_some e
 obtain⟨⟨u,S3⟩,e3,e⟩:=bind_some e
 obtain⟨z,e4,e⟩:=map_some e
 cases e
 refine⟨Γ,μ,env,S,x,S1,hK,R,e1,fun v1 μ1 H1 x1 R1 r1=>?_⟩
 refine⟨Γ,μ1,env,S1,l,S2,hK,R1,e2,fun μ2 H2 x2 R2=>?_⟩
 refine⟨Γ,μ2,env,S2,u,S3,hK,R2,e3,fun μ3 H3 x3 R3=>?_⟩
 refine hs Γ μ3 Z3 H3 env S3 v1 x _ l u hK R3 (r1.ext (x2.trans x3)) e4 Q fun v H' sm rv=>?_
 obtain⟨R4,x4⟩:=R3.grow sm
 exact q v μ3 H' (x1.trans (x2.trans (x3.trans x4))) R4 rv⟩
theorem lO{K:U0b}{r:List V->Hp->VK->Prop}{g:Store->List D->Option D}{f:Bl}(hs:NK K r g){Z3:St}{H:Hp}{Q:VK}(h:wpE K (eCB g f) Z3 H Q):tCB r (wpA K f) Z3 H Q:=by
 obtain⟨Γ,μ,env,S,d,S',hK,R,e,q⟩:=h
 obtain⟨⟨x,S1⟩,e1,e⟩:=bind_some e
 obtain⟨z,e4,e⟩:=map_some e
 cases e
 refine⟨Γ,μ,env,S,x,S1,hK,R,e1,fun v1 μ1 H1 x1 R1 r1=>?_⟩
 refine hs Γ μ1 Z3 H1 env S1 v1 x _ hK R1 r1 e4 Q fun v H' sm rv=>?_
 obtain⟨R4,x4⟩:=R1.grow sm
 exact q v μ1 H' (x1.trans x4) R4 rv
variable{x:Str}{p:Pos}{e:Expr}{es:List Expr}{id T:String}{f:Bl}
theorem Dd{r:List V->Hp->VK->Prop}{g:Store->List D->Option D}(hc:Df X (.builtin id) r)(hsm:NK X.K r g)(hg:Gl X x)(hm:X.mg x=none)(hv:bootBuiltins x=some (.builtin id))(ha:JA X (e::es) f)(hn:x≠"__name__":=by decide)(hdb:(x==("__debug__":Str))=false:=by decide)
  (he:starEach (e::es) X.env=`bt::starEach es X.env:=by rfl) (hpl:(`bu).any (·.1)=false:=by rfl):JE X (.Call (.Name x p) (e::es) [] pos) (eCB g f) :=
 ⟨PE.imp (Ng hc hg hm hv ha.pa hn hdb he hpl) fun _ _ _ h=>lO hsm h⟩
theorem WW{r:List V->Hp->VK->Prop}{g:Store->List D->Option D}(hc:Df X (.type T) r)(hsm:NK X.K r g)(hg:Gl X x)(hm:X.mg x=none)(hv:bootBuiltins x=some (.type T))(ha:JA X (e::es) f)(hn:x≠"__name__":=by decide)(hdb:(x==("__debug__":Str))=false:=by decide)
  (he:starEach (e::es) X.env=`bt::starEach es X.env:=by rfl) (hpl:(`bu).any (·.1)=false:=by rfl):JE X (.Call (.Name x p) (e::es) [] pos) (eCB g f) :=
 ⟨PE.imp (Lw hc hg hm hv ha.pa hn hdb he hpl) fun _ _ _ h=>lO hsm h⟩
end
section
variable{X:Cx}{st:Stmt}{sts:List Stmt}{f g:Bb}{fa:BL}{a:Expr}{pos:Pos}{K:U0b}
theorem vp{E:Ends}{Z3:St}{H:Hp}{fl:Fl}(h:wpS K (fun env S=>some (fl,env,S)) E Z3 H):∃Γ μ,FlQ Γ μ E Z3 H fl:=by
 obtain⟨Γ,μ,env,S,fl',env',S',hK,R,e,q⟩:=h
 cases e
 exact⟨Γ,μ,q μ Z3 H (Ext.refl _ _) R⟩
theorem Dv:JSs X [] Ez:=⟨PSs.imp oM fun E Z3 H h=>let ⟨_,_,q⟩:=vp (fl:=.nx) h;q⟩
theorem jw:JS X st dO:=⟨PS.imp jZ fun E Z3 H h=>by obtain⟨_,_,_,_,_,_,_,_,_,e,_⟩:=h;cases e⟩
theorem Ao(h1:JS X st f)(h2:JSs X sts g):JSs X (st::sts) (Bk f g):=⟨PSs.imp (jX h1.ps h2.ps) fun E Z3 H h=>by
 obtain⟨Γ,μ,env,S,fl,env',S',hK,R,e,q⟩:=h
 obtain⟨⟨fl1,env1,S1⟩,e1,e⟩:=bind_some e
 refine⟨Γ,μ,env,S,fl1,env1,S1,hK,R,e1,fun μ1 ZU H1 x1 R1=>?_⟩
 dsimp only at e
 cases fl1 with
 |nx=>exact⟨Γ,μ1,env1,S1,fl,env',S',hK,R1,e,fun μ' ZZ H' x' R'=>q μ' ZZ H' (x1.trans x') R'⟩
 |brk=>cases e;exact q μ1 ZU H1 x1 R1
 |cnt=>cases e;exact q μ1 ZU H1 x1 R1
 |ret d=>cases e;exact q μ1 ZU H1 x1 R1⟩
theorem BW(h1:JS X st f):JSs X [st] f:=⟨oK h1.ps⟩
theorem Ja(he:JE X a fa)(hs:swapsWith a none pos.line X.env=pure false:=by rfl):JS X (.Expr a pos) (Gv fa):=⟨PS.imp (oO he.pe hs) fun E Z3 H h=>by
 obtain⟨Γ,μ,env,S,fl,env',S',hK,R,e,q⟩:=h
 obtain⟨⟨x,S1⟩,e1,e⟩:=bind_some e
 cases e
 exact⟨Γ,μ,env,S,x,S1,hK,R,e1,fun v1 μ1 H1 x1 R1 r1=>q μ1 Z3 H1 x1 R1⟩⟩
theorem Ca(he:JE X a fa):JS X (.Return (some a) pos) (Di fa):=⟨PS.imp (tW he.pe) fun E Z3 H h=>by
 obtain⟨Γ,μ,env,S,fl,env',S',hK,R,e,q⟩:=h
 obtain⟨⟨x,S1⟩,e1,e⟩:=bind_some e
 cases e
 exact⟨Γ,μ,env,S,x,S1,hK,R,e1,fun v1 μ1 H1 x1 R1 r1=>q μ1 Z3 H1 x1 R1 v1 r1⟩⟩
theorem Ft{c:Expr}{A B:List Stmt}{tc:Em}(hc:JT X c tc)(ha:JSs X A f)(hb:JSs X B g):JS X (.If c A B pos) (sIf tc f g):=⟨PS.imp (wQ hc.pt ha.ps hb.ps) fun E Z3 H h=>by
 obtain⟨Γ,μ,env,S,fl,env',S',hK,R,e,q⟩:=h
 obtain⟨⟨x,S1⟩,e1,e⟩:=bind_some e
 refine⟨Γ,μ,env,S,x,S1,hK,R,e1,fun μ1 H1 x1 R1=>?_⟩
 dsimp only at e
 by_cases hx:x=true
 .rw[if_pos hx] at e ⊢
  exact⟨Γ,μ1,env,S1,fl,env',S',hK,R1,e,fun μ' ZZ H' x' R'=>q μ' ZZ H' (x1.trans x') R'⟩
 .rw[if_neg hx] at e ⊢
  exact⟨Γ,μ1,env,S1,fl,env',S',hK,R1,e,fun μ' ZZ H' x' R'=>q μ' ZZ H' (x1.trans x') R'⟩⟩
theorem Bu{i:Nat}{x:Str}{pos':Pos}(hN:X.N.Nodup)(he:JE X a fa)(hi:X.N[i]?=some x:=by rfl)(hx:Loc X.env.scope x:=by first|exact U9 rfl|exact U8n rfl)(hs:swapsWith a (some (.Name x pos')) pos.line X.env=pure false:=by rfl)
  (hf:X.fn x=true∨X.env.scope.names.lookup x=some .local:=by first|exact .inl rfl|exact .inr rfl|assumption):JS X (.Assign [.Name x pos'] a pos) (BZ i fa):=⟨PS.imp (tV hN hi hx he.pe hs hf) fun E Z3 H h=>by
 obtain⟨Γ,μ,env,S,fl,env',S',hK,R,e,q⟩:=h
 obtain⟨⟨y,S1⟩,e1,e⟩:=bind_some e
 cases e
 exact⟨Γ,μ,env,S,y,S1,hK,R,e1,fun v1 μ1 H1 x1 R1 r1=>q μ1 _ H1 x1 (R1.iI i r1)⟩⟩
theorem Bx{i:Nat}{x:Str}(hN:X.N.Nodup)(hi:X.N[i]?=some x:=by rfl)(hx:Loc X.env.scope x:=by first|exact U9 rfl|exact U8n rfl)
  (hf:X.fn x=true∨X.env.scope.names.lookup x=some .local:=by first|exact .inl rfl|exact .inr rfl|assumption):JG X (.Name x pos) (.nm i):=⟨by rw[Pat.raw];exact oX hN hi hx hf⟩
theorem Rv:JGs X [] []:=⟨by rw[Jl];exact oW⟩
theorem Ih{e:Expr}{es:List Expr}{t:Pat}{u:List Pat}(h1:JG X e t)(h2:JGs X es u)
  (hs:(assignEach (e::es) X.env).map (·.2)=assign e X.env::(assignEach es X.env).map (·.2):=by rfl):JGs X (e::es) (t::u):=⟨by rw[Jl];exact jd h1.pg h2.pg hs⟩
theorem Us{es:List Expr}{k:Nat}{gs:List Pat}(hc:X.calm=true)(h:JGs X es gs)(hn:(assignEach es X.env).length=gs.length:=by rfl)(hst:(assignEach es X.env).findIdx? (·.1)=none:=by rfl):JG X (.Tuple es k pos) (.tp gs) :=
 ⟨by rw[Pat.raw];exact tZ hc h.pg hn hst⟩
theorem uh{tg:Expr}{gg:Pat}(he:JE X a fa)(hg:JG X tg gg)(hs:swapsWithSole [tg] a pos.line X.env=pure false:=by rfl)(hw:swappedStores [tg] a X.env=pure none:=by rfl)
  (h1:(assignEach [tg] X.env).map (·.2)=[assign tg X.env]:=by rfl):JS X (.Assign [tg] a pos) (bH fa gg.sem):=⟨PS.imp (dU he.pe hg.pg hs hw h1) fun E Z3 H h=>by
 obtain⟨Γ,μ,env,S,fl,env',S',hK,R,e,q⟩:=h
 obtain⟨⟨y,S1⟩,e1,e⟩:=bind_some e
 obtain⟨env1,e2,e⟩:=bind_some e
 cases e
 exact⟨Γ,μ,env,S,y,S1,hK,R,e1,fun v1 μ1 H1 x1 R1 r1=>gg.run X.K R1 r1 e2 fun ZZ R'=>q μ1 ZZ H1 x1 R'⟩⟩
theorem IK{tg iter:Expr}{body:List Stmt}{it:Kg}{gg:Pat}(hc:X.calm=true)(hi:JI X tg iter it)(hg:JG X tg gg)(hb:JSs X body f)(hp:PassesOwn `ai X.A X.env X.xe)
  (hs:∀x,foldedSetIterable iter X.env x=pure x:=by intro _;rfl):JS X (.For tg iter body [] pos) (Kf it gg.sem f):=⟨PS.imp (tX hp hc hi.pi hg.pg hb.ps hs) fun E Z3 H h=>by
 obtain⟨Γ,μ,env,S,fl,env',S',hK,R,e,q⟩:=h
 obtain⟨⟨⟨ds,w⟩,S1⟩,e1,e⟩:=bind_some e
 refine⟨Γ,μ,env,S,ds,w,S1,hK,R,e1,fun J μ1 H1 x1 R1 ok=>?_⟩
 refine⟨fun i m ZY H2=>∃μ2 env2 S2,m=ds.length-i/\i<=ds.length/\Ext μ1 H1 μ2 H2/\Rep Γ μ2 ZY H2 env2 S2/\loop w gg.sem f (ds.drop i) env2 S2=some (fl,env',S'),⟨ds.length,μ1,env,S1,rfl,U25 _,Ext.refl _ _,R1,by rw[U54];exact e⟩,?_⟩
 rintro i m ZY H2 ⟨μ2,env2,S2,rfl,hi,x2,R2,el⟩
 by_cases hlt:i<ds.length
 .rw[U3z hlt] at el
  unfold loop at el
  by_cases hcm:calm w S2
  .rw[if_pos hcm] at el
   obtain⟨env3,e3,el⟩:=bind_some el
   obtain⟨⟨fl4,env4,S4⟩,e4,el⟩:=bind_some el
   obtain⟨go,yl⟩:=ok.step i ds[i] μ2 H2 ZY env2 S2 (U0w hlt) x2 R2 hcm
   refine .inr ⟨go,fun ZN H5=>∃μ5 env5 S5,Ext μ1 H1 μ5 H5/\Rep Γ μ5 ZN H5 env5 S5/\loop w gg.sem f (ds.drop (i+1)) env5 S5=some (fl,env',S'),fun ZN H5 ⟨μ5,env5,S5,x5,R5,e5⟩=>⟨ds.length-(i+1),by omega,μ5,env5,S5,rfl,hlt,x5,R5,e5⟩,fun x H3 y=>?_⟩
   obtain⟨sm,rx⟩:=yl x H3 y
   obtain⟨R3,x3⟩:=R2.grow sm
   refine gg.run X.K R3 rx e3 fun ZT R3'=>?_
   refine⟨Γ,μ2,env3,S2,fl4,env4,S4,hK,R3',e4,fun μ4 ZI H4 x4 R4=>?_⟩
   have x14:=x2.trans (x3.trans x4)
   dsimp only at el
   cases fl4 with
   |nx=>exact⟨μ4,env4,S4,x14,R4,el⟩
   |cnt=>exact⟨μ4,env4,S4,x14,R4,el⟩
   |brk=>cases el;exact q μ4 ZI H4 (x1.trans x14) R4
   |ret d=>cases el;exact q μ4 ZI H4 (x1.trans x14) R4
  .rw[if_neg hcm] at el;cases el
 .have hi':i=ds.length:=by omega
  subst hi'
  rw[List.drop_length] at el
  unfold loop at el
  by_cases hcm:calm w S2
  .rw[if_pos hcm] at el
   cases el
   exact .inl ⟨ok.stop μ2 H2 ZY _ _ x2 R2 hcm,q μ2 ZY H2 (x1.trans x2) R2⟩
  .rw[if_neg hcm] at el;cases el⟩
theorem Yj{c:Expr}{body:List Stmt}{tc:Em}(n:Nat)(hp:PassesOwn `ai X.A X.env X.xe)(hc:JT X c tc)(hb:JSs X body f):JS X (.While c body [] pos) (G9 tc f n):=⟨PS.imp (jY hp hc.pt hb.ps) fun E Z3 H h=>by
 obtain⟨Γ,μ,env,S,fl,env',S',hK,R,e,q⟩:=h
 refine⟨fun m ZY H2=>∃μ2 env2 S2,Ext μ H μ2 H2/\Rep Γ μ2 ZY H2 env2 S2/\G9 tc f m env2 S2=some (fl,env',S'),⟨n,μ,env,S,Ext.refl _ _,R,e⟩,?_⟩
 rintro m ZY H2 ⟨μ2,env2,S2,x2,R2,el⟩
 cases m with
 |zero=>cases el
 |succ m =>
  unfold G9 at el
  obtain⟨⟨b,S3⟩,e3,el⟩:=bind_some el
  refine⟨Γ,μ2,env2,S2,b,S3,hK,R2,e3,fun μ3 H3 x3 R3=>?_⟩
  dsimp only at el
  by_cases hb':b=true
  .rw[if_pos hb'] at el ⊢
   obtain⟨⟨fl4,env4,S4⟩,e4,el⟩:=bind_some el
   refine⟨fun ZN H5=>∃μ5 env5 S5,Ext μ H μ5 H5/\Rep Γ μ5 ZN H5 env5 S5/\G9 tc f m env5 S5=some (fl,env',S'),fun ZN H5 ⟨μ5,env5,S5,x5,R5,e5⟩=>⟨m,U58 m,μ5,env5,S5,x5,R5,e5⟩,?_⟩
   refine⟨Γ,μ3,env2,S3,fl4,env4,S4,hK,R3,e4,fun μ4 ZI H4 x4 R4=>?_⟩
   have x14:=x2.trans (x3.trans x4)
   dsimp only at el
   cases fl4 with
   |nx=>exact⟨μ4,env4,S4,x14,R4,el⟩
   |cnt=>exact⟨μ4,env4,S4,x14,R4,el⟩
   |brk=>cases el;exact q μ4 ZI H4 x14 R4
   |ret d=>cases el;exact q μ4 ZI H4 x14 R4
  .rw[if_neg hb'] at el ⊢
   cases el
   exact q μ3 ZY H3 (x2.trans x3) R3⟩
end
end VS
end
section
namespace VS
open PySem PySem.Spec L2
theorem Rep.cap{Γ:Fr}{μ:Mu}{Z3:St}{H:Hp}{env:Env}{S:Store}(R:Rep Γ μ Z3 H env S)(k:Nat)(caps:List Nat):Rep Γ μ (J9 k caps Z3) H (M4 k caps env) S:=by
 refine⟨fun i d h=>?_,?_,R.sto,R.liv,R.inj,R.slen,R.ent,R.new⟩
 .unfold M4 at h
  by_cases hi:i<k
  .rw[U01 (by simpa using hi),U5o,if_pos hi] at h
   cases h
  .rw[U1h (by simpa using hi),U2d,U07] at h
   cases e:caps[i-k]? with
   |none=>rw[e] at h;cases h
   |some a =>
    rw[e] at h
    have h':(env[a]?).join=some d:=U00 h
    have h2:env[a]?=some (some d):=by
     cases q:env[a]? with
     |none=>rw[q] at h';cases h'
     |some o=>rw[q] at h';exact congrArg some h'
    obtain⟨v,h3,h4⟩:=R.vals a d h2
    refine⟨v,?_,h4⟩
    unfold J9
    rw[U1h (by simpa using hi),U2d,U07,e]
    show some (Z3[a]?).join=some (some v)
    rw[h3];rfl
 .unfold J9 M4
  rw[U0p,U0p,U0d,U0d,U2d,U2d]
section
variable{X:Cx}
theorem Zr{K:U0b}{k:Nat}{caps:List Nat}{it:Kg}{p:Pat}{t:Em}{f:BL}{Z3:St}{H:Hp}{Q:VK} (h:∃Γ μ env S ys S',Γ.K=K/\Rep Γ μ Z3 H env S/\Cv k caps it p.sem t f env S=some (ys,S') /\
  ∀xs μ' H',Ext μ H μ' H'->Rep Γ μ' Z3 H' env S'->VRs Γ μ' H' xs ys->∀q,H' q=none->Q (.ref q) (upd H' q (.lst xs))):bN k caps (wpI K it) (p.raw K) (wpT K t) (wpE K f) Z3 H Q:=by
 obtain⟨Γ,μ,env,S,ys,S',hK,R,e,q⟩:=h
 obtain⟨⟨⟨ds,w⟩,S1⟩,e1,e⟩:=bind_some e
 refine⟨Γ,μ,env,S,ds,w,S1,hK,R,e1,fun J μ1 H1 x1 R1 ok=>?_⟩
 refine⟨fun i m zs H2=>∃μ2 S2 dzs,m=ds.length-i/\i<=ds.length/\Ext μ1 H1 μ2 H2/\Rep Γ μ2 Z3 H2 env S2/\VRs Γ μ2 H2 zs dzs/\La w (M4 k caps env) p.sem t f (ds.drop i) dzs S2=some (ys,S'),
  ⟨ds.length,μ1,S1,[],rfl,U25 _,Ext.refl _ _,R1,.nil,by rw[U54];exact e⟩,?_⟩
 rintro i m zs H2 ⟨μ2,S2,dzs,rfl,hi,x2,R2,rz,el⟩
 by_cases hlt:i<ds.length
 .rw[U3z hlt] at el
  unfold La at el
  by_cases hcm:calm w S2/\dzs.length<=1000000
  .rw[if_pos hcm] at el
   obtain⟨env3,e3,el⟩:=bind_some el
   obtain⟨⟨b,S4⟩,e4,el⟩:=bind_some el
   have R2c:=R2.cap k caps
   obtain⟨go,yl⟩:=ok.step i ds[i] μ2 H2 _ _ S2 (U0w hlt) x2 R2c hcm.1
   refine .inr ⟨go,by rw[rz.length];exact big hcm.2,fun x H3 y=>?_⟩
   obtain⟨sm,rx⟩:=yl x H3 y
   obtain⟨R3,x3⟩:=R2c.grow sm
   obtain⟨R3o,_⟩:=R2.grow sm
   refine p.run K R3 rx e3 fun ZT R3'=>?_
   refine⟨Γ,μ2,env3,S2,b,S4,hK,R3',e4,fun μ4 H4 x4 R4=>?_⟩
   dsimp only at el
   by_cases hb:b=true
   .rw[if_pos hb] at el ⊢
    obtain⟨⟨d5,S5⟩,e5,el⟩:=bind_some el
    refine⟨Γ,μ4,env3,S4,d5,S5,hK,R4,e5,fun v μ5 H5 x5 R5 r5=>?_⟩
    exact⟨ds.length-(i+1),by omega,μ5,S5,dzs++[d5],rfl,hlt,x2.trans (x3.trans (x4.trans x5)),R3o.back (x4.trans x5) R5,((rz.ext (x3.trans (x4.trans x5)))).append (.cons r5 .nil),el⟩
   .rw[if_neg hb] at el ⊢
    exact⟨ds.length-(i+1),by omega,μ4,S4,dzs,rfl,hlt,x2.trans (x3.trans x4),R3o.back x4 R4,rz.ext (x3.trans x4),el⟩
  .rw[if_neg hcm] at el;cases el
 .have hi':i=ds.length:=by omega
  subst hi'
  rw[List.drop_length] at el
  unfold La at el
  by_cases hcm:calm w S2/\dzs.length<=1000000
  .rw[if_pos hcm] at el
   cases el
   exact .inl ⟨ok.stop μ2 H2 Z3 env _ x2 R2 hcm.1,fun p hp=>q zs μ2 H2 (x1.trans x2) R2 rz p hp⟩
  .rw[if_neg hcm] at el;cases el
structure JC(X:Cx)(N2:List Str)(scope:Scope)(tg:Expr)(ifs:List Expr)(elt:Expr)(p:Pat)(t:Em)(f:BL):Prop where
 all:∀(cl:List (Str×Addr))(C:Addr)(s:Shared)(H:Hp)(ex:List Addr),JG `bv tg p/\JTs `bv ifs t/\JE `bv elt f
theorem Fg{elt tg iter:Expr}{ifs:List Expr}{scope:Scope}{pos:Pos}{N2:List Str}{k:Nat}{caps:List Nat}{it:Kg}{p:Pat}{t:Em}{f:BL}
  (hc:X.calm=true) (hS:Dp X.env.scope X.N N2 k caps scope) (hlow:p.low k=true) (hi:JI X tg iter it) (hb:JC X N2 scope tg ifs elt p t f)
  (hs:∀x,foldedSetIterable iter X.env x=pure x:=by intro _;rfl):JE X (.ListComp elt [⟨tg,iter,ifs,0⟩] scope pos) (Az (Cv k caps it p.sem t f)) :=
 ⟨PE.imp (oY hc hS (p.bW X.K hlow) hi.pi (fun cl C s H ex=>let ⟨a,b,c⟩:=hb.all cl C s H ex;⟨a.pg,b.pt,c.pe⟩) hs) fun Z3 H Q h=>by
  obtain⟨Γ,μ,env,S,d,S',hK,R,e,q⟩:=h
  obtain⟨⟨ys,S1⟩,e1,e⟩:=bind_some e
  cases e
  refine Zr ⟨Γ,μ,env,S,ys,S1,hK,R,e1,fun xs μ1 H1 x1 R1 r1 z hz=>?_⟩
  obtain⟨R2,x2⟩:=R1.grow (Ci hz (.lst xs))
  exact q _ μ1 _ (x1.trans x2) R2 (.lst (R1.ok hz true) (R1.dead hz) Bq (r1.ext x2))⟩
theorem Lg{elt tg iter:Expr}{ifs:List Expr}{scope:Scope}{pos py spos:Pos}{N2:List Str}{k i:Nat}{y:Str}{caps:List Nat}{it:Kg}{p:Pat}{t:Em}{f:BL}
  (hc:X.calm=true) (hN:X.N.Nodup) (hS:Dp X.env.scope X.N N2 k caps scope) (hlow:p.low k=true) (hi:JI X tg iter it) (hb:JC X N2 scope tg ifs elt p t f) (hi':X.N[i]?=some y:=by rfl)
  (hx:X.env.scope.names.lookup y=some .local:=by rfl) (hsw:swapsWith (.ListComp elt [⟨tg,iter,ifs,0⟩] scope pos) (some (.Name y py)) spos.line X.env=pure true:=by rfl)
  (hs:∀x,foldedSetIterable iter X.env x=pure x:=by intro _;rfl):JS X (.Assign [.Name y py] (.ListComp elt [⟨tg,iter,ifs,0⟩] scope pos) spos) (BZ i (Az (Cv k caps it p.sem t f))) :=
 ⟨PS.imp (oN hc hN hi' hS (p.bW X.K hlow) hi.pi (fun cl C s H ex=>let ⟨a,b,c⟩:=hb.all cl C s H ex;⟨a.pg,b.pt,c.pe⟩) hx hsw hs) fun E Z3 H h=>by
  obtain⟨Γ,μ,env,S,fl,env',S',hK,R,e,q⟩:=h
  obtain⟨⟨d,S1⟩,e1,e⟩:=bind_some e
  cases e
  obtain⟨⟨ys,S2⟩,e2,e1⟩:=bind_some e1
  cases e1
  refine Zr ⟨Γ,μ,env,S,ys,_,hK,R,e2,fun xs μ1 H1 x1 R1 r1 z hz=>?_⟩
  obtain⟨R2,x2⟩:=R1.grow (Ci hz (.lst xs))
  exact q μ1 _ _ (x1.trans x2) (R2.iI i (.lst (R1.ok hz true) (R1.dead hz) Bq (r1.ext x2)))⟩
end
def listOf(S:Store):D->Option (List D)
 |.lst _ ds=>some ds
 |.lent ds=>some ds
 |.ref i=>(S[i]?).join
 |_=>none
def En(S:Store):D->Option (List D)
 |.tup ds=>some ds
 |.scr ns=>some (ns.map .int)
 |d=>listOf S d
def idOf(ds:List D):D->List (Nat×List D)
 |.ref i=>[(i,ds)]
 |_=>[]
section
variable{Γ:Fr}{μ:Mu}{Z3:St}{H:Hp}{env:Env}{S:Store}{v:V}{d:D}{ds:List D}
theorem join_some{Zs:Type}{a:Option (Option Zs)}{b:Zs}(h:a.join=some b):a=some (some b):=by
 cases a with
 |none=>cases h
 |some o=>exact congrArg some h
theorem VR.list(R:Rep Γ μ Z3 H env S)(r:VR Γ μ H v d)(h:listOf S d=some ds):∃a xs,v=.ref a/\H a=some (.lst xs)/\VRs Γ μ H xs ds:=by
 cases r with
 |lst o n hb rs=>cases h;exact⟨_,_,rfl,hb,rs⟩
 |lent n hb rs=>cases h;exact⟨_,_,rfl,hb,rs⟩
 |@ref i v hi f =>
  obtain⟨a,h1,hc⟩:=R.sto i ds (join_some h)
  obtain⟨f1,f2⟩:=f a h1
  obtain⟨xs,h2,h3⟩:=hc.list f2
  exact⟨a,xs,f1,h2,h3⟩
 |_=>cases h
theorem VR.seq(hK:Γ.K=K)(R:Rep Γ μ Z3 H env S)(r:VR Γ μ H v d)(h:En S d=some ds):∃a xs,v=.ref a/\(SqL K H a xs∨SqT K H a xs)/\VRs Γ μ H xs ds:=by
 subst hK
 cases d with
 |tup es=>cases r with|tup hb rs=>cases h;exact⟨_,_,rfl,.inr (SqT.of hb),rs⟩
 |scr ns =>
  cases h
  cases r with
  |scrK hk=>exact⟨_,_,rfl,.inl (hk H),VRs.ints ns⟩
  |scrR n hb=>exact⟨_,_,rfl,.inl (.inl (.inr ⟨_,hb⟩)),VRs.ints ns⟩
 |lst m es=>obtain⟨a,xs,e1,e2,e3⟩:=VR.list R r h;exact⟨a,xs,e1,.inl (SqL.of e2),e3⟩
 |lent es=>obtain⟨a,xs,e1,e2,e3⟩:=VR.list R r h;exact⟨a,xs,e1,.inl (SqL.of e2),e3⟩
 |ref i=>obtain⟨a,xs,e1,e2,e3⟩:=VR.list R r h;exact⟨a,xs,e1,.inl (SqL.of e2),e3⟩
 |_=>cases h
end
def DP(a:BL):Kg:=fun env S=>(a env S).bind fun p=>(En p.2 p.1).map fun ds=>((ds,idOf ds p.1),p.2)
section
variable{X:Cx}{tg:Expr}
def wB(K:U0b)(tl:TE):TI:=fun Z3 H R=>tl Z3 H fun x H1=>∃a,x=.ref a/\(((∃xs,SqL K H1 a xs)/\R (Itl K a) H1)∨((∃xs,SqT K H1 a xs)/\R (Itt K a) H1))
theorem tY{l:Expr}{tl:TE}(hl:PE X l tl):PI X tg l (wB X.K tl):=by
 intro pins s Z3 H R I h
 refine thn (hl pins s Z3 H _ I h) fun v s1 ⟨x,H1,I1,r1,q1⟩=>?_
 obtain⟨a,e,⟨⟨xs,hq⟩,q⟩|⟨⟨xs,hq⟩,q⟩⟩:=q1
 .subst e
  cases r1
  obtain⟨its,rv,p,hz⟩:=I1.list hq
  refine U5x p.isList ?_
  refine⟨s1.heap.objs.size,[s1.heap.objs.size],_,_,H1,rfl,I1.kept (t':=s1.toks) fun b o e=>U0c _ e,fK a _,⟨_,U0u _ rfl,rfl,rfl⟩,fun b hb=>?_,q⟩
  have e:b=s1.heap.objs.size:=by simpa using hb
  subst e
  exact I1.Xd (U0l _) (I1.hok.fresh (U0l _))
 .subst e
  cases r1
  obtain⟨its,rv,p,hz⟩:=I1.tuple hq
  refine U6n (show s1.heap.IsTuple a its.toArray from p) ?_
  refine⟨s1.heap.objs.size,[s1.heap.objs.size],_,_,H1,rfl,I1.kept (t':=s1.toks) fun b o e=>U0c _ e,bw a _,⟨_,U0u _ rfl,rfl,rfl⟩,fun b hb=>?_,q⟩
  have e:b=s1.heap.objs.size:=by simpa using hb
  subst e
  exact I1.Xd (U0l _) (I1.hok.fresh (U0l _))
theorem fV{d:D}{ds:List D}{S S':Store}(h:En S d=some ds)(c:calm (idOf ds d) S'):En S' d=some ds:=by
 cases d with
 |ref i =>
  have c':S'[i]?=some (some ds):=c (i,ds) (U0q.mpr rfl)
  show(S'[i]?).join=some ds
  rw[c'];rfl
 |_=>exact h
theorem VR.iJ{K:U0b}{Γ:Fr}{μ:Mu}{Z3:St}{H:Hp}{env:Env}{S:Store}{v:V}{d:D}{ds:List D}(hK:Γ.K=K)(R:Rep Γ μ Z3 H env S)(r:VR Γ μ H v d)(h:En S d=some ds):(∃es,d=.tup es)∨∃a xs,v=.ref a/\SqL K H a xs/\VRs Γ μ H xs ds:=by
 subst hK
 cases d with
 |tup es=>exact .inl ⟨es,rfl⟩
 |scr ns =>
  cases h
  cases r with
  |scrK hk=>exact .inr ⟨_,_,rfl,hk H,VRs.ints ns⟩
  |scrR n hb=>exact .inr ⟨_,_,rfl,.inl (.inr ⟨_,hb⟩),VRs.ints ns⟩
 |lst m es=>obtain⟨a,xs,e1,e2,e3⟩:=VR.list R r h;exact .inr ⟨a,xs,e1,SqL.of e2,e3⟩
 |lent es=>obtain⟨a,xs,e1,e2,e3⟩:=VR.list R r h;exact .inr ⟨a,xs,e1,SqL.of e2,e3⟩
 |ref i=>obtain⟨a,xs,e1,e2,e3⟩:=VR.list R r h;exact .inr ⟨a,xs,e1,SqL.of e2,e3⟩
 |_=>cases h
theorem qG{Γ:Fr}{μ:Mu}{H:Hp}{a:Addr}{ds:List D}{K:U0b}{w:List (Nat×List D)}(hr:∀μ' H' ZZ env' S',Ext μ H μ' H'->Rep Γ μ' ZZ H' env' S'->calm w S'->∃xs,SqL K H' a xs/\VRs Γ μ' H' xs ds):Xg Γ μ H (Itl K a) ds w:=by
 refine⟨fun i d μ' H' ZZ env' S' hi x R c=>?_,fun μ' H' ZZ env' S' x R c=>?_⟩
 .obtain⟨xs,h1,h2⟩:=hr μ' H' ZZ env' S' x R c
  obtain⟨y,e1,e2⟩:=h2.get hi
  refine⟨⟨xs,y,h1,e1⟩,fun z H'' yl=>?_⟩
  obtain⟨e,f⟩:=yl
  subst e
  have:=f xs h1
  rw[e1] at this;cases this
  exact⟨Same.refl _,e2⟩
 .obtain⟨xs,h1,h2⟩:=hr μ' H' ZZ env' S' x R c
  exact⟨xs,h1,by rw[h2.length];exact U0l _⟩
theorem eO{Γ:Fr}{μ:Mu}{H:Hp}{a:Addr}{ds:List D}{K:U0b}{w:List (Nat×List D)}(hr:∀μ' H' ZZ env' S',Ext μ H μ' H'->Rep Γ μ' ZZ H' env' S'->calm w S'->∃xs,SqT K H' a xs/\VRs Γ μ' H' xs ds):Xg Γ μ H (Itt K a) ds w:=by
 refine⟨fun i d μ' H' ZZ env' S' hi x R c=>?_,fun μ' H' ZZ env' S' x R c=>?_⟩
 .obtain⟨xs,h1,h2⟩:=hr μ' H' ZZ env' S' x R c
  obtain⟨y,e1,e2⟩:=h2.get hi
  refine⟨⟨xs,y,h1,e1⟩,fun z H'' yl=>?_⟩
  obtain⟨e,f⟩:=yl
  subst e
  have:=f xs h1
  rw[e1] at this;cases this
  exact⟨Same.refl _,e2⟩
 .obtain⟨xs,h1,h2⟩:=hr μ' H' ZZ env' S' x R c
  exact⟨xs,h1,by rw[h2.length];exact U0l _⟩
theorem Ef{l:Expr}{f:BL}(hl:JE X l f):JI X tg l (DP f):=⟨PI.imp (tY hl.pe) fun Z3 H Q h=>by
 obtain⟨Γ,μ,env,S,ds,w,S',hK,R,e,q⟩:=h
 obtain⟨⟨d,S1⟩,e1,e⟩:=bind_some e
 obtain⟨ds',e2,e⟩:=map_some e
 cases e
 refine⟨Γ,μ,env,S,d,S1,hK,R,e1,fun v μ1 H1 x1 R1 r1=>?_⟩
 rcases VR.iJ hK R1 r1 e2 with ⟨es,rfl⟩|⟨a,xs,rfl,hq,rs⟩
 .cases r1 with
  |@tup a xs _ hb rs =>
   refine⟨a,rfl,.inr ⟨⟨xs,SqT.of hb⟩,q _ μ1 H1 x1 R1 (eO fun μ' H' ZZ env' S' x' R' c=>?_)⟩⟩
   have e2':es=ds:=U00 e2
   subst e2'
   exact⟨xs,SqT.of (x'.tups _ _ hb),rs.ext x'⟩
 .by_cases ht:∃es,d=.tup es
  .obtain⟨es,rfl⟩:=ht
   cases r1 with
   |@tup b ys _ hb rs' =>
    refine⟨a,rfl,.inr ⟨⟨ys,SqT.of hb⟩,q _ μ1 H1 x1 R1 (eO fun μ' H' ZZ env' S' x' R' c=>?_)⟩⟩
    have e2':es=ds:=U00 e2
    subst e2'
    exact⟨ys,SqT.of (x'.tups _ _ hb),rs'.ext x'⟩
  .refine⟨a,rfl,.inl ⟨⟨xs,hq⟩,q _ μ1 H1 x1 R1 (qG fun μ' H' ZZ env' S' x' R' c=>?_)⟩⟩
   rcases VR.iJ hK R' (r1.ext x') (fV e2 c) with z|⟨b,ys,e,h1,h2⟩
   .exact absurd z ht
   .cases e
    exact⟨ys,h1,h2⟩⟩
def upD(lo:Int)(n:Nat):List D:=(U3e n).map fun(i:Nat)=>.int (lo+i)
theorem jz{Γ:Fr}{μ:Mu}{H:Hp}(lo:Int)(n:Nat):Xg Γ μ H (Itr lo n) (upD lo n) []:=by
 have len:(upD lo n).length=n:=by unfold upD;rw[U0d,U5z]
 refine⟨fun i d μ' H' ZZ env' S' hi x R c=>?_,fun μ' H' ZZ env' S' x R c=>?_⟩
 .have hi':i<n:=by rw[←len];exact(U0j.mp hi).1
  refine⟨hi',fun y H'' yl=>?_⟩
  obtain⟨e1,e2⟩:=yl
  subst e1 e2
  unfold upD at hi
  rw[U07,U6e hi'] at hi
  cases hi
  exact⟨Same.refl _,.int _⟩
 .show n<=(upD lo n).length
  rw[len];exact U0l _
def r62(j:Int):Prop:=-(2^62)<=j/\j<2^62
instance(j:Int):Decidable (r62 j):=by unfold r62;infer_instance
def Gx(a:Bl):Kg:=fun env S=>(a env S).bind fun p=>match p.1 with|[.int j]=>if r62 j then some ((upD 0 j.toNat,[]),p.2) else none|_=>none
theorem VRs.one{Γ:Fr}{μ:Mu}{H:Hp}{vs:List V}{d:D}(h:VRs Γ μ H vs [d]):∃v,vs=[v]/\VR Γ μ H v d:=by
 cases h with|cons r t=>cases t;exact⟨_,rfl,r⟩
theorem VRs.two{Γ:Fr}{μ:Mu}{H:Hp}{vs:List V}{d e:D}(h:VRs Γ μ H vs [d,e]):∃v u,vs=[v,u]/\VR Γ μ H v d/\VR Γ μ H u e:=by
 cases h with|cons r t=>cases t with|cons r' t=>cases t;exact⟨_,_,rfl,r,r'⟩
theorem O7{a:Expr}{f:Bl}{p pos:Pos}(hg:Gl X "range")(hm:X.mg "range"=none)(ha:JA X [a] f)(hs:starEach [a] X.env=[(false,eval a X.env)]:=by rfl):JI X tg (.Call (.Name "range" p) [a] [] pos) (Gx f) :=
 ⟨PI.imp (gA hg hm ha.pa hs) fun Z3 H Q h=>by
  obtain⟨Γ,μ,env,S,ds,w,S',hK,R,e,q⟩:=h
  obtain⟨⟨d,S1⟩,e1,e⟩:=bind_some e
  refine⟨Γ,μ,env,S,d,S1,hK,R,e1,fun v μ1 H1 x1 R1 r1=>?_⟩
  dsimp only at e
  split at e
  .rename_i j
   by_cases hj:r62 j
   .rw[if_pos hj] at e
    cases e
    obtain⟨v,rfl,r⟩:=r1.one
    cases r
    exact⟨j,rfl,hj.1,hj.2,q _ μ1 H1 x1 R1 (jz 0 _)⟩
   .rw[if_neg hj] at e;cases e
  .cases e⟩
end
end VS
end
section
namespace VS
open PySem PySem.Spec L2
section
variable{X:Cx}{tg:Expr}
def Fz:List D->List D->List D
 |x::xs,y::ys=>.tup [x,y]::Fz xs ys
 |_,_=>[]
theorem Y7:∀{xs ys:List D} {i:Nat} {d:D},(Fz xs ys)[i]?=some d->∃x y,xs[i]?=some x/\ys[i]?=some y/\d=.tup [x,y]
 |[],_,_,_,h=>by simp[Fz] at h
 |_::_,[],_,_,h=>by simp[Fz] at h
 |x::xs,y::ys,0,d,h=>by simp[Fz] at h;exact⟨x,y,rfl,rfl,h.symm⟩
 |x::xs,y::ys,i+1,d,h=>by
  simp[Fz] at h
  obtain⟨a,b,h1,h2,h3⟩:=Y7 h
  exact⟨a,b,by simpa using h1,by simpa using h2,h3⟩
theorem Y6:∀(xs ys:List D),((Fz xs ys).length=xs.length/\xs.length<=ys.length)∨((Fz xs ys).length<xs.length/\(Fz xs ys).length=ys.length)
 |[],_=>.inl ⟨rfl,U25 _⟩
 |_::_,[]=>.inr ⟨by simp[Fz],rfl⟩
 |x::xs,y::ys=>by
  rcases Y6 xs ys with ⟨h1,h2⟩|⟨h1,h2⟩
  .left;simp[Fz];lia
  .right;simp[Fz];lia
def UW(a:Bl):Kg:=fun env S=>(a env S).bind fun p=>match p.1 with
 |[.tup xs,.tup ys]=>some ((Fz xs ys,[]),p.2)
 |[x,.tup ys]=>(listOf p.2 x).bind fun xs=>some ((Fz xs ys,idOf xs x),p.2)
 |[x,y]=>(listOf p.2 x).bind fun xs=>(listOf p.2 y).bind fun ys=>some ((Fz xs ys,idOf xs x++idOf ys y),p.2)
 |_=>none
theorem KZ{d:D}{ds:List D}{S S':Store}(h:listOf S d=some ds)(c:calm (idOf ds d) S'):listOf S' d=some ds:=by
 cases d with
 |ref i =>
  have c':S'[i]?=some (some ds):=c (i,ds) (U0q.mpr rfl)
  show(S'[i]?).join=some ds
  rw[c'];rfl
 |_=>exact h
theorem Xq{Γ:Fr}{μ:Mu}{H:Hp}{L M:Bool}{a b:Addr}{xs ys:List D}{w:List (Nat×List D)}(hr:∀μ' H' ZZ env' S',Ext μ H μ' H'->Rep Γ μ' ZZ H' env' S'->calm w S'->∃us vs,H' a=some (HB L us)/\VRs Γ μ' H' us xs/\H' b=some (HB M vs)/\VRs Γ μ' H' vs ys) :
  Xg Γ μ H (Itz L M a b) (Fz xs ys) w:=by
 refine⟨fun i d μ' H' ZZ env' S' hi x R c=>?_,fun μ' H' ZZ env' S' x R c=>?_⟩
 .obtain⟨us,vs,h1,h2,h3,h4⟩:=hr μ' H' ZZ env' S' x R c
  obtain⟨p,q,e1,e2,e3⟩:=Y7 hi
  obtain⟨u,f1,f2⟩:=h2.get e1
  obtain⟨v,g1,g2⟩:=h4.get e2
  refine⟨⟨us,vs,u,v,h1,h3,f1,g1⟩,fun z H'' yl=>?_⟩
  obtain⟨t,u',v',ht,rfl,rfl,k1,k2⟩:=yl
  have k1':=k1 us h1
  have k2':=k2 vs h3
  rw[f1] at k1';cases k1'
  rw[g1] at k2';cases k2'
  subst e3
  have sm:=Ci ht (.tup [u,v])
  obtain⟨_,x2⟩:=R.grow sm
  exact⟨sm,.tup Bq (.cons (f2.ext x2) (.cons (g2.ext x2) .nil))⟩
 .obtain⟨us,vs,h1,h2,h3,h4⟩:=hr μ' H' ZZ env' S' x R c
  refine⟨us,vs,h1,h3,?_⟩
  rw[h2.length,h4.length]
  rcases Y6 xs ys with z|z
  .exact .inl z.1
  .exact .inr z
theorem PI.or{e:Expr}{t u:TI}(h:PI X tg e t)(k:PI X tg e u):PI X tg e (fun Z3 H R=>t Z3 H R∨u Z3 H R):=fun pins s Z3 H R I q=>q.elim (fun z=>h pins s Z3 H R I z) fun z=>k pins s Z3 H R I z
theorem eG{a b:Expr}{f:Bl}{p pos:Pos}{elts:List Expr}{x1:Nat}{tpos:Pos}(hg:Gl X "zip")(hm:X.mg "zip"=none)(ha:JA X [a,b] f)(hs:starEach [a,b] X.env=[(false,eval a X.env),(false,eval b X.env)]:=by rfl)(hs2:starEach [b] X.env=[(false,eval b X.env)]:=by rfl) :
  JI X (.Tuple elts x1 tpos) (.Call (.Name "zip" p) [a,b] [] pos) (UW f) :=
 ⟨PI.imp (PI.or (Xn true true (.inl rfl) hg hm ha.pa hs hs2) (PI.or (Xn false false (.inl rfl) hg hm ha.pa hs hs2) (Xn true false (.inr ⟨rfl,rfl⟩) hg hm ha.pa hs hs2))) fun Z3 H Q h=>by
  obtain⟨Γ,μ,env,S,ds,w,S',hK,R,e,q⟩:=h
  obtain⟨⟨d,S1⟩,e1,e⟩:=bind_some e
  dsimp only at e
  split at e
  .rename_i xs ys
   cases e
   refine .inr (.inl ⟨Γ,μ,env,S,_,_,hK,R,e1,fun v μ1 H1 x1 R1 r1=>?_⟩)
   obtain⟨u,v,rfl,r,r'⟩:=r1.two
   cases r with
   |@tup a us _ ha ra =>
    cases r' with
    |@tup b vs _ hb rb =>
     exact⟨a,b,us,vs,rfl,ha,hb,q _ μ1 H1 x1 R1 (Xq fun μ' H' ZZ env' S' x' R' c=>⟨us,vs,x'.tups _ _ ha,ra.ext x',x'.tups _ _ hb,rb.ext x'⟩)⟩
  .rename_i x ys _
   obtain⟨xs,e2,e⟩:=bind_some e
   cases e
   refine .inr (.inr ⟨Γ,μ,env,S,_,_,hK,R,e1,fun v μ1 H1 x1 R1 r1=>?_⟩)
   obtain⟨u,v,rfl,r,r'⟩:=r1.two
   obtain⟨a,us,rfl,ha,ra⟩:=VR.list R1 r e2
   cases r' with
   |@tup b vs _ hb rb =>
    refine⟨a,b,us,vs,rfl,ha,hb,q _ μ1 H1 x1 R1 (Xq fun μ' H' ZZ env' S' x' R' c=>?_)⟩
    obtain⟨a',us',e4,ha',ra'⟩:=VR.list R' (r.ext x') (KZ e2 c)
    cases e4
    exact⟨us',vs,ha',ra',x'.tups _ _ hb,rb.ext x'⟩
  .rename_i x y _ _
   obtain⟨xs,e2,e⟩:=bind_some e
   obtain⟨ys,e3,e⟩:=bind_some e
   cases e
   refine .inl ⟨Γ,μ,env,S,_,_,hK,R,e1,fun v μ1 H1 x1 R1 r1=>?_⟩
   obtain⟨u,v,rfl,r,r'⟩:=r1.two
   obtain⟨a,us,rfl,ha,ra⟩:=VR.list R1 r e2
   obtain⟨b,vs,rfl,hb,rb⟩:=VR.list R1 r' e3
   refine⟨a,b,us,vs,rfl,ha,hb,q _ μ1 H1 x1 R1 (Xq fun μ' H' ZZ env' S' x' R' c=>?_)⟩
   obtain⟨a',us',e4,ha',ra'⟩:=VR.list R' (r.ext x') (KZ e2 fun p hp=>c p (U14 _ hp))
   obtain⟨b',vs',e5,hb',rb'⟩:=VR.list R' (r'.ext x') (KZ e3 fun p hp=>c p (U0y _ hp))
   cases e4
   cases e5
   exact⟨us',vs',ha',ra',hb',rb'⟩
  .cases e⟩
def Je(n:Nat):List D->List D
 |[]=>[]
 |x::xs=>.tup [.int n,x]::Je (n+1) xs
theorem Wf:∀{xs:List D} {n i:Nat} {d:D},(Je n xs)[i]?=some d->∃x,xs[i]?=some x/\d=.tup [.int ((n+i:Nat):Int),x]
 |[],_,_,_,h=>by simp[Je] at h
 |x::xs,n,0,d,h=>by simp[Je] at h;exact⟨x,rfl,h.symm⟩
 |x::xs,n,i+1,d,h=>by
  simp[Je] at h
  obtain⟨y,h1,h2⟩:=Wf h
  exact⟨y,by simpa using h1,by rw[h2,show n+1+i=n+(i+1) by lia]⟩
theorem Wd:∀(xs:List D)(n:Nat),(Je n xs).length=xs.length
 |[],_=>rfl
 |_::xs,n=>by rw[Je,U0f,U0f,Wd xs]
def Ut(a:Bl):Kg:=fun env S=>(a env S).bind fun p=>match p.1 with
 |[x]=>(listOf p.2 x).bind fun xs=>some ((Je 0 xs,idOf xs x),p.2)
 |_=>none
theorem pq{a:Expr}{f:Bl}{p pos:Pos}{elts:List Expr}{x1:Nat}{tpos:Pos}(hg:Gl X "enumerate")(hm:X.mg "enumerate"=none)(ha:JA X [a] f)(hs:starEach [a] X.env=[(false,eval a X.env)]:=by rfl) :
  JI X (.Tuple elts x1 tpos) (.Call (.Name "enumerate" p) [a] [] pos) (Ut f) :=
 ⟨PI.imp (oV hg hm ha.pa hs) fun Z3 H Q h=>by
  obtain⟨Γ,μ,env,S,ds,w,S',hK,R,e,q⟩:=h
  obtain⟨⟨d,S1⟩,e1,e⟩:=bind_some e
  dsimp only at e
  split at e
  .rename_i x
   obtain⟨xs,e2,e⟩:=bind_some e
   cases e
   refine⟨Γ,μ,env,S,_,_,hK,R,e1,fun v μ1 H1 x1 R1 r1=>?_⟩
   obtain⟨u,rfl,r⟩:=r1.one
   obtain⟨a,us,rfl,ha,ra⟩:=VR.list R1 r e2
   refine⟨a,rfl,⟨us,SqL.of ha⟩,q _ μ1 H1 x1 R1 ⟨fun i d μ' H' ZZ env' S' hi x' R' c=>?_,fun μ' H' ZZ env' S' x' R' c=>?_⟩⟩
   .obtain⟨a',us',e4,ha',ra'⟩:=VR.list R' (r.ext x') (KZ e2 c)
    cases e4
    obtain⟨y,f1,rfl⟩:=Wf hi
    obtain⟨z,g1,g2⟩:=ra'.get f1
    refine⟨⟨us',z,SqL.of ha',g1⟩,fun y' H'' yl=>?_⟩
    obtain⟨t,z',ht,rfl,rfl,k⟩:=yl
    have k':=k us' (SqL.of ha')
    rw[g1] at k';cases k'
    have sm:=Ci ht (.tup [.int i,z])
    obtain⟨_,x2⟩:=R'.grow sm
    refine⟨sm,.tup Bq (.cons ?_ (.cons (g2.ext x2) .nil))⟩
    rw[U3b]
    exact .int _
   .obtain⟨a',us',e4,ha',ra'⟩:=VR.list R' (r.ext x') (KZ e2 c)
    cases e4
    exact⟨us',SqL.of ha',by rw[ra'.length,Wd];exact U0l _⟩
  .cases e⟩
def T5(K:U0b)(r:V->List V->Hp->VK->Prop)(g:Store->D->List D->Option (D×Store)):Prop:=∀(Γ:Fr)(μ:Mu)(Z3:St)(H:Hp)(env:Env)(S:Store)(x:V)(xs:List V)(dx:D)(ds:List D)(d:D)(S':Store),Γ.K=K->Rep Γ μ Z3 H env S->VR Γ μ H x dx->VRs Γ μ H xs ds->g S dx ds=some (d,S') ->
 ∀Q:VK,(∀v μ' H',Ext μ H μ' H'->Rep Γ μ' Z3 H' env S'->VR Γ μ' H' v d->Q v H')->r x xs H Q
def Fv(g:Store->D->List D->Option (D×Store))(o:BL)(a:Bl):BL:=fun env S=>(o env S).bind fun p=>if (listOf p.2 p.1).isSome then (a env p.2).bind fun q=>g q.2 p.1 q.1 else none
theorem mj{K:U0b}{r:V->List V->Hp->VK->Prop}{g:Store->D->List D->Option (D×Store)}{o:BL}{a:Bl}(hs:T5 K r g){Z3:St}{H:Hp}{Q:VK}(h:wpE K (Fv g o a) Z3 H Q):tBM K "list" r (wpE K o) (wpA K a) Z3 H Q:=by
 obtain⟨Γ,μ,env,S,d,S',hK,R,e,q⟩:=h
 obtain⟨⟨x,S1⟩,e1,e⟩:=bind_some e
 refine⟨Γ,μ,env,S,x,S1,hK,R,e1,fun v1 μ1 H1 x1 R1 r1=>?_⟩
 dsimp only at e
 by_cases hl:(listOf S1 x).isSome=true
 .rw[if_pos hl] at e
  obtain⟨⟨ds,S2⟩,e2,e⟩:=bind_some e
  obtain⟨xs,hx⟩:=U4n.mp hl
  obtain⟨b,us,rfl,hb,rb⟩:=VR.list R1 r1 hx
  refine⟨.inl ⟨rfl,us,SqL.of hb⟩,Γ,μ1,env,S1,ds,S2,hK,R1,e2,fun vs μ2 H2 x2 R2 r2=>?_⟩
  exact hs Γ μ2 Z3 H2 env S2 _ vs x ds d S' hK R2 (r1.ext x2) r2 e Q fun v μ' H' x' R' rv=>q v μ' H' (x1.trans (x2.trans x')) R' rv
 .rw[if_neg hl] at e;cases e
theorem j4{K:U0b}{r:V->List V->Hp->VK->Prop}{g:Store->D->List D->Option (D×Store)}{o:BL}(hs:T5 K r g){Z3:St}{H:Hp}{Q:VK}(h:wpE K (Fv g o Af) Z3 H Q):rK K "list" r (wpE K o) Z3 H Q:=by
 obtain⟨Γ,μ,env,S,d,S',hK,R,e,q⟩:=h
 obtain⟨⟨x,S1⟩,e1,e⟩:=bind_some e
 refine⟨Γ,μ,env,S,x,S1,hK,R,e1,fun v1 μ1 H1 x1 R1 r1=>?_⟩
 dsimp only at e
 by_cases hl:(listOf S1 x).isSome=true
 .rw[if_pos hl] at e
  obtain⟨⟨ds,S2⟩,e2,e⟩:=bind_some e
  cases e2
  obtain⟨xs,hx⟩:=U4n.mp hl
  obtain⟨b,us,rfl,hb,rb⟩:=VR.list R1 r1 hx
  refine⟨.inl ⟨rfl,us,SqL.of hb⟩,?_⟩
  exact hs Γ μ1 Z3 H1 env _ _ [] x [] d S' hK R1 r1 .nil e Q fun v μ' H' x' R' rv=>q v μ' H' (x1.trans x') R' rv
 .rw[if_neg hl] at e;cases e
variable{o e:Expr}{es:List Expr}{fo:BL}{fa:Bl}{name:Str}{apos cpos:Pos}{id:String}{r:V->List V->Hp->VK->Prop}{g:Store->D->List D->Option (D×Store)}
theorem jy(pa:PlainAttrs "list")(slot:Slot "list" name id)(hty:typeOf (.builtin id)=pure (.type "method_descriptor"))(hm:MtR X id r)(hsm:T5 X.K r g)(ho:JE X o fo)
  (hbase:attributeBase o name X.env (eval o X.env)=eval o X.env:=by rfl) (hline:(apos.endLine==cpos.line)=true:=by rfl):JE X (.Call (.Attribute o name apos) [] [] cpos) (Fv g fo Af) :=
 ⟨PE.imp (uF pa slot hty hm ho.pe hbase hline) fun _ _ _ h=>j4 hsm h⟩
theorem Kr(pa:PlainAttrs "list")(slot:Slot "list" name id)(hty:typeOf (.builtin id)=pure (.type "method_descriptor"))(hm:MtR X id r)(hsm:T5 X.K r g)(ho:JE X o fo)(ha:JA X (e::es) fa)
  (hbase:attributeBase o name X.env (eval o X.env)=eval o X.env:=by rfl)
  (hfew:((backTo cpos (starEach (e::es) X.env)).all (fun x=>!x.1)&&(backToKw cpos (keywordEach [] X.env)).all (fun x=>x.1.isSome)
   && decide ((e::es).length+([]:List Keyword).length+(if ([]:List Keyword).isEmpty then 0 else 1)<30))=true:=by rfl)
  (hline:(apos.endLine==cpos.line)=true:=by rfl) (hs:starEach (e::es) X.env=`bt::starEach es X.env:=by rfl) (hplain:(backTo cpos (starEach es X.env)).any (·.1)=false:=by rfl) :
  JE X (.Call (.Attribute o name apos) (e::es) [] cpos) (Fv g fo fa) :=
 ⟨PE.imp (wW pa slot hty hm ho.pe ha.pa hbase hfew hline hs hplain) fun _ _ _ h=>mj hsm h⟩
theorem VR.Xa{Γ:Fr}{μ:Mu}{Z3:St}{H:Hp}{env:Env}{S:Store}{v:V}{i:Nat}{ds:List D}(R:Rep Γ μ Z3 H env S)(r:VR Γ μ H v (.ref i))(h:S[i]?=some (some ds)):∃a xs,v=.ref a/\μ[i]?=some (some a)/\H a=some (.lst xs)/\VRs Γ μ H xs ds:=by
 cases r with
 |ref hi f =>
  obtain⟨a,h1,hc⟩:=R.sto i ds h
  obtain⟨f1,f2⟩:=f a h1
  obtain⟨xs,h2,h3⟩:=hc.list f2
  exact⟨a,xs,f1,h1,h2,h3⟩
def Fb(S:Store):D->List D->Option (D×Store)
 |.ref i,[d]=>match S[i]? with
  |some (some ds)=>if ds.length<1000000 then some (.non,S.set i (some (ds++[d]))) else none
  |_=>none
 |_,_=>none
theorem Jw{K:U0b}:T5 K aG Fb:=by
 intro Γ μ Z3 H env S x xs dx ds d S' hK R rx rs e Q q
 unfold Fb at e
 split at e
 .rename_i i d1
  split at e
  .rename_i es he
   by_cases hl:es.length<1000000
   .rw[if_pos hl] at e
    cases e
    obtain⟨a,us,rfl,h1,h2,h3⟩:=VR.Xa R rx he
    obtain⟨y,rfl,ry⟩:=rs.one
    obtain⟨R2,x2⟩:=R.put h1 ⟨_,h2⟩ (h3.append (.cons ry .nil))
    exact⟨a,us,y,rfl,rfl,h2,by rw[h3.length];exact big (U2g hl),q _ μ _ x2 R2 .non⟩
   .rw[if_neg hl] at e;cases e
  .cases e
 .cases e
def Ro(S:Store):D->List D->Option (D×Store)
 |.ref i,[y]=>match S[i]?,listOf S y with
  |some (some ds),some es=>if ds.length+es.length<=1000000 then some (.non,S.set i (some (ds++es))) else none
  |_,_=>none
 |_,_=>none
theorem fQ{K:U0b}:T5 K aF Ro:=by
 intro Γ μ Z3 H env S x xs dx ds d S' hK R rx rs e Q q
 unfold Ro at e
 split at e
 .rename_i i y
  split at e
  .rename_i es gs he hg
   by_cases hl:es.length+gs.length<=1000000
   .rw[if_pos hl] at e
    cases e
    obtain⟨a,us,rfl,h1,h2,h3⟩:=VR.Xa R rx he
    obtain⟨y,rfl,ry⟩:=rs.one
    obtain⟨b,vs,rfl,hb,rb⟩:=VR.list R ry hg
    obtain⟨R2,x2⟩:=R.put h1 ⟨_,h2⟩ (h3.append rb)
    exact⟨a,b,us,vs,rfl,rfl,h2,hb,by rw[h3.length,rb.length];exact U2g (big hl),q _ μ _ x2 R2 .non⟩
   .rw[if_neg hl] at e;cases e
  .cases e
 .cases e
def Qs(S:Store):D->List D->Option (D×Store)
 |.ref i,[]=>match S[i]? with
  |some (some _)=>some (.non,S.set i (some []))
  |_=>none
 |_,_=>none
theorem jL{K:U0b}:T5 K dR Qs:=by
 intro Γ μ Z3 H env S x xs dx ds d S' hK R rx rs e Q q
 unfold Qs at e
 split at e
 .rename_i i
  split at e
  .rename_i es he
   cases e
   obtain⟨a,us,rfl,h1,h2,h3⟩:=VR.Xa R rx he
   cases rs
   obtain⟨R2,x2⟩:=R.put h1 ⟨_,h2⟩ (xs:=[]) (ds:=[]) .nil
   exact⟨a,us,rfl,rfl,h2,q _ μ _ x2 R2 .non⟩
  .cases e
 .cases e
def zj(S:Store):D->List D->Option (D×Store)
 |.ref i,[.int k]=>match S[i]? with
  |some (some ds)=>if -(2^63)<=k/\k<2^63 then (PySem.seqIndex? k ds.length).bind fun j=>(ds[j]?).bind fun d=>some (d,S.set i (some (ds.eraseIdx j))) else none
  |_=>none
 |_,_=>none
def Uj(v o i:BL):Bb:=fun env S=>(v env S).bind fun p=>(o env p.2).bind fun q=>(i env q.2).bind fun r=>match q.1,r.1 with
 |.ref j,.int k=>(match r.2[j]? with
  |some (some ds)=>(ixN ds.length k).bind fun n=>some (.nx,env,r.2.set j (some (ds.set n p.1)))
  |_=>none)
 |_,_=>none
theorem Yk{a i:Expr}{fv fi:BL}{pos tpos:Pos}(he:JE X a fv)(ho:JE X o fo)(hi:JE X i fi)
  (ha:∀v,assign (.Subscript o i tpos) X.env v=(do
   let ov ←holding [v] (eval o X.env)
   let iv ←holding [v,ov] (eval i X.env)
   standAt tpos
   holding [v,ov,iv] (setItem ov iv v)
   release [v,ov,iv] []):=by intro _;rfl)
  (hs:swapsWithSole [.Subscript o i tpos] a pos.line X.env=pure false:=by rfl) (hw:swappedStores [.Subscript o i tpos] a X.env=pure none:=by rfl)
  (h1:(assignEach [.Subscript o i tpos] X.env).map (·.2)=[assign (.Subscript o i tpos) X.env]:=by rfl):JS X (.Assign [.Subscript o i tpos] a pos) (Uj fv fo fi) :=
 ⟨PS.imp (dU he.pe (tu ho.pe hi.pe set_list ha) hs hw h1) fun E Z3 H h=>by
  obtain⟨Γ,μ,env,S,fl,env',S',hK,R,e,q⟩:=h
  obtain⟨⟨x,S1⟩,e1,e⟩:=bind_some e
  obtain⟨⟨y,S2⟩,e2,e⟩:=bind_some e
  obtain⟨⟨z,S3⟩,e3,e⟩:=bind_some e
  refine⟨Γ,μ,env,S,x,S1,hK,R,e1,fun v1 μ1 H1 x1 R1 r1=>?_⟩
  refine⟨Γ,μ1,env,S1,y,S2,hK,R1,e2,fun v2 μ2 H2 x2 R2 r2=>?_⟩
  refine⟨Γ,μ2,env,S2,z,S3,hK,R2,e3,fun v3 μ3 H3 x3 R3 r3=>?_⟩
  dsimp only at e
  split at e
  .rename_i j k
   split at e
   .rename_i ds hd
    obtain⟨n,e4,e⟩:=bind_some e
    cases e
    obtain⟨b,us,rfl,g1,g2,g3⟩:=VR.Xa R3 (r2.ext x3) hd
    cases r3
    have r1':=r1.ext (x2.trans x3)
    obtain⟨R4,x4⟩:=R3.put g1 ⟨_,g2⟩ (g3.set r1' n)
    exact⟨b,us,_,n,rfl,rfl,g2,by rw[g3.length];exact e4,q μ3 Z3 _ (x1.trans (x2.trans (x3.trans x4))) R4⟩
   .cases e
  .cases e⟩
end
end VS
end
section
namespace VS
open PySem PySem.Spec L2
mutual
def Br:D->Bool
 |.ref _=>false
 |.dref _=>false
 |.dcm _=>false
 |.lent _=>false
 |.tup ds=>Bm ds
 |.lst _ ds=>Bm ds
 |_=>true
def Bm:List D->Bool
 |[]=>true
 |d::r=>Br d&&Bm r
end
mutual
def Bs:D->Bool
 |.ref _=>false
 |.dref _=>false
 |.dcf _=>false
 |.dcm _=>false
 |.lent _=>false
 |.lst _ _=>false
 |.scr _=>false
 |.emp=>false
 |.tup ds=>Dn ds
 |_=>true
def Dn:List D->Bool
 |[]=>true
 |d::r=>Bs d&&Dn r
end
mutual
def newD:D->Bool
 |.ref _=>false
 |.dref _=>false
 |.dcf _=>false
 |.dcm _=>false
 |.lent _=>false
 |.lst m ds=>m&&newL ds
 |.scr _=>false
 |.emp=>false
 |.tup ds=>newL ds
 |_=>true
def newL:List D->Bool
 |[]=>true
 |d::r=>newD d&&newL r
end
mutual
def den(k:Nat)(S:Store):D->Option D
 |.tup ds=>(DW k S ds).map .tup
 |.lst m ds=>(DW k S ds).map (.lst m)
 |.ref i=>if i<k then none else match S[i]? with|some (some ds)=>if Bm ds=true then some (.lst true ds) else none|_=>none
 |.non=>some .non
 |.bl b=>some (.bl b)
 |.int i=>some (.int i)
 |.str x=>some (.str x)
 |.ty n=>some (.ty n)
 |.fn a n=>some (.fn a n)
 |.scr ns=>some (.scr ns)
 |.emp=>some .emp
 |.dref i=>if i<k then none else match S[i]? with|some (some [.dcm kvs])=>some (.dcf kvs)|_=>none
 |.dcf kvs=>some (.dcf kvs)
 |.dcm _=>none
 |.lent _=>none
def DW(k:Nat)(S:Store):List D->Option (List D)
 |[]=>some []
 |d::r=>(den k S d).bind fun x=>(DW k S r).bind fun xs=>some (x::xs)
end
mutual
def age:D->D
 |.tup ds=>.tup (Cu ds)
 |.lst _ ds=>.lst false (Cu ds)
 |.ref i=>.ref i
 |.non=>.non
 |.bl b=>.bl b
 |.int i=>.int i
 |.str x=>.str x
 |.ty n=>.ty n
 |.fn a n=>.fn a n
 |.scr ns=>.scr ns
 |.emp=>.emp
 |.dref i=>.dref i
 |.dcf kvs=>.dcf kvs
 |.dcm kvs=>.dcm kvs
 |.lent ds=>.lent ds
def Cu:List D->List D
 |[]=>[]
 |d::r=>age d::Cu r
end
mutual
theorem Ii:∀{d:D},Bs d=true->Br d=true
 |.ref _,h=>by simp[Bs] at h
 |.lst _ _,h=>by simp[Bs] at h
 |.scr _,h=>by simp[Bs] at h
 |.emp,h=>by simp[Bs] at h
 |.dref _,h=>by simp[Bs] at h
 |.dcf _,h=>by simp[Bs] at h
 |.dcm _,h=>by simp[Bs] at h
 |.lent _,h=>by simp[Bs] at h
 |.tup ds,h=>by rw[Bs] at h;rw[Br];exact Bg h
 |.non,_=>rfl
 |.bl _,_=>rfl
 |.int _,_=>rfl
 |.str _,_=>rfl
 |.ty _,_=>rfl
 |.fn _ _,_=>rfl
theorem Bg:∀{ds:List D},Dn ds=true->Bm ds=true
 |[],_=>rfl
 |d::r,h=>by
  rw[Dn,U0v] at h
  rw[Bm,Ii h.1,Bg h.2];rfl
end
mutual
theorem QG:∀{d:D},Bs d=true->newD d=true
 |.ref _,h=>by simp[Bs] at h
 |.lst _ _,h=>by simp[Bs] at h
 |.scr _,h=>by simp[Bs] at h
 |.emp,h=>by simp[Bs] at h
 |.dref _,h=>by simp[Bs] at h
 |.dcf _,h=>by simp[Bs] at h
 |.dcm _,h=>by simp[Bs] at h
 |.lent _,h=>by simp[Bs] at h
 |.tup ds,h=>by rw[Bs] at h;rw[newD];exact Lx h
 |.non,_=>rfl
 |.bl _,_=>rfl
 |.int _,_=>rfl
 |.str _,_=>rfl
 |.ty _,_=>rfl
 |.fn _ _,_=>rfl
theorem Lx:∀{ds:List D},Dn ds=true->newL ds=true
 |[],_=>rfl
 |d::r,h=>by
  rw[Dn,U0v] at h
  rw[newL,QG h.1,Lx h.2];rfl
end
mutual
theorem Nf(k:Nat)(S:Store):∀{d:D},Br d=true->den k S d=some d
 |.ref _,h=>by simp[Br] at h
 |.lst m ds,h=>by rw[Br] at h;rw[den,DQ k S h];rfl
 |.tup ds,h=>by rw[Br] at h;rw[den,DQ k S h];rfl
 |.non,_=>by rw[den]
 |.bl _,_=>by rw[den]
 |.int _,_=>by rw[den]
 |.str _,_=>by rw[den]
 |.ty _,_=>by rw[den]
 |.fn _ _,_=>by rw[den]
 |.scr _,_=>by rw[den]
 |.emp,_=>by rw[den]
 |.dref _,h=>by simp[Br] at h
 |.dcf _,_=>by rw[den]
 |.dcm _,h=>by simp[Br] at h
 |.lent _,h=>by simp[Br] at h
theorem DQ(k:Nat)(S:Store):∀{ds:List D},Bm ds=true->DW k S ds=some ds
 |[],_=>by rw[DW]
 |d::r,h=>by
  rw[Bm,U0v] at h
  rw[DW,Nf k S h.1,DQ k S h.2];rfl
end
mutual
theorem Ti:∀{d:D},Bs d=true->age d=d
 |.ref _,h=>by simp[Bs] at h
 |.lst _ _,h=>by simp[Bs] at h
 |.scr _,h=>by simp[Bs] at h
 |.emp,h=>by simp[Bs] at h
 |.dref _,h=>by simp[Bs] at h
 |.dcf _,h=>by simp[Bs] at h
 |.dcm _,h=>by simp[Bs] at h
 |.lent _,h=>by simp[Bs] at h
 |.tup ds,h=>by rw[Bs] at h;rw[age,Dw h]
 |.non,_=>by rw[age]
 |.bl _,_=>by rw[age]
 |.int _,_=>by rw[age]
 |.str _,_=>by rw[age]
 |.ty _,_=>by rw[age]
 |.fn _ _,_=>by rw[age]
theorem Dw:∀{ds:List D},Dn ds=true->Cu ds=ds
 |[],_=>by rw[Cu]
 |d::r,h=>by
  rw[Dn,U0v] at h
  rw[Cu,Ti h.1,Dw h.2]
end
section
variable{Γ Γ':Fr}{μ μ':Mu}{H:Hp}
mutual
theorem VR.age(hK:Γ'.K=Γ.K)(hN:∀a,¬CN μ a->Γ.N a∨Γ.H0 a=none->Γ'.N a)(hl:∀a o,H a=some o->¬CN μ a->¬CN μ' a){v:V}{d:D}(h:Br d=true)(r:VR Γ μ H v d):VR Γ' μ' H v (VS.age d):=by
 cases r with
 |non=>rw[VS.age];exact .non
 |bl b=>rw[VS.age];exact .bl b
 |int i=>rw[VS.age];exact .int i
 |str x=>rw[VS.age];exact .str x
 |ty n=>rw[VS.age];exact .ty n
 |fn a n=>rw[VS.age];exact .fn a n
 |tup hb t=>rw[Br] at h;rw[VS.age];exact .tup hb (VRs.age hK hN hl h t)
 |lst o n hb t=>rw[Br] at h;rw[VS.age];exact .lst ⟨fun z=>(by cases z),.inl (hN _ n o.2)⟩ (hl _ _ hb n) hb (VRs.age hK hN hl h t)
 |ref _ _=>simp[Br] at h
 |scrK k=>rw[VS.age];exact .scrK (by rw[hK];exact k)
 |scrR n hb=>rw[VS.age];exact .scrR (hl _ _ hb n) hb
 |emp o n hb=>rw[VS.age];exact .emp ⟨fun z=>(by cases z),.inl (hN _ n o.2)⟩ (hl _ _ hb n) hb
 |dref _ _=>simp[Br] at h
 |lent _ _ _=>simp[Br] at h
 |dcf o n hb=>rw[VS.age];exact .dcf ⟨fun z=>(by cases z),.inl (hN _ n o.2)⟩ (hl _ _ hb n) hb
theorem VRs.age(hK:Γ'.K=Γ.K)(hN:∀a,¬CN μ a->Γ.N a∨Γ.H0 a=none->Γ'.N a)(hl:∀a o,H a=some o->¬CN μ a->¬CN μ' a):∀{v:List V} {d:List D},Bm d=true->VRs Γ μ H v d->VRs Γ' μ' H v (Cu d)
 |_,_,_,.nil=>by rw[Cu];exact .nil
 |_,_,h,.cons r t=>by
  rw[Bm,U0v] at h
  rw[Cu];exact .cons (VR.age hK hN hl h.1 r) (VRs.age hK hN hl h.2 t)
end
mutual
theorem VR.pure(hK:Γ'.K=Γ.K)(hN:∀m a xs,¬CN μ a->Γ.Ok m a->H a=some xs->Γ'.Ok m a/\¬CN μ' a)(ho:∀a o,H a=some o->¬CN μ a->(∀xs,o≠.lst xs)->(∀xs,o≠.dK xs)->¬CN μ' a){v:V}{d:D}(h:Br d=true)(r:VR Γ μ H v d):VR Γ' μ' H v d:=by
 cases r with
 |non=>exact .non
 |bl b=>exact .bl b
 |int i=>exact .int i
 |str x=>exact .str x
 |ty n=>exact .ty n
 |fn a n=>exact .fn a n
 |tup hb t=>rw[Br] at h;exact .tup hb (VRs.pure hK hN ho h t)
 |lst o n hb t=>rw[Br] at h;exact .lst (hN _ _ _ n o hb).1 (hN _ _ _ n o hb).2 hb (VRs.pure hK hN ho h t)
 |ref _ _=>simp[Br] at h
 |scrK k=>exact .scrK (by rw[hK];exact k)
 |scrR n hb=>exact .scrR (ho _ _ hb n (fun _ z=>by cases z) fun _ z=>by cases z) hb
 |emp o n hb=>exact .emp (hN _ _ _ n o hb).1 (hN _ _ _ n o hb).2 hb
 |dref _ _=>simp[Br] at h
 |lent _ _ _=>simp[Br] at h
 |dcf o n hb=>exact .dcf (hN _ _ _ n o hb).1 (hN _ _ _ n o hb).2 hb
theorem VRs.pure(hK:Γ'.K=Γ.K)(hN:∀m a xs,¬CN μ a->Γ.Ok m a->H a=some xs->Γ'.Ok m a/\¬CN μ' a)(ho:∀a o,H a=some o->¬CN μ a->(∀xs,o≠.lst xs)->(∀xs,o≠.dK xs)->¬CN μ' a):∀{v:List V} {d:List D},Bm d=true->VRs Γ μ H v d->VRs Γ' μ' H v d
 |_,_,_,.nil=>.nil
 |_,_,h,.cons r t=>by
  rw[Bm,U0v] at h
  exact .cons (VR.pure hK hN ho h.1 r) (VRs.pure hK hN ho h.2 t)
end
mutual
theorem VR.den{Z3:St}{env:Env}{S S0:Store}{k:Nat}(R:Rep Γ μ Z3 H env S)(hK:Γ'.K=Γ.K)(h0:∀(i:Nat)(ds:List D)(a:Addr),k<=i->S0[i]?=some (some ds)->S[i]?=some (some ds)/\(μ[i]?=some (some a)->¬CN μ' a/\Γ'.Ok true a))
  (hN:∀m a,¬CN μ a->Γ.Ok m a->Γ'.Ok m a) (hl:∀a o,H a=some o->¬CN μ a->¬CN μ' a):∀{v:V} {d e:D},VR Γ μ H v d->VS.den k S0 d=some e->VR Γ' μ' H v e
 |_,_,_,.non,h=>by rw[VS.den] at h;cases h;exact .non
 |_,_,_,.bl b,h=>by rw[VS.den] at h;cases h;exact .bl b
 |_,_,_,.int i,h=>by rw[VS.den] at h;cases h;exact .int i
 |_,_,_,.str x,h=>by rw[VS.den] at h;cases h;exact .str x
 |_,_,_,.ty n,h=>by rw[VS.den] at h;cases h;exact .ty n
 |_,_,_,.fn a n,h=>by rw[VS.den] at h;cases h;exact .fn a n
 |_,_,_,.tup hb t,h=>by
  rw[VS.den] at h
  obtain⟨es,e1,e2⟩:=map_some h
  subst e2
  exact .tup hb (VRs.den R hK h0 hN hl t e1)
 |_,_,_,.lst o n hb t,h=>by
  rw[VS.den] at h
  obtain⟨es,e1,e2⟩:=map_some h
  subst e2
  exact .lst (hN _ _ n o) (hl _ _ hb n) hb (VRs.den R hK h0 hN hl t e1)
 |_,.ref i,_,.ref hi f,h=>by
  rw[VS.den] at h
  by_cases hk:i<k
  .rw[if_pos hk] at h;cases h
  .rw[if_neg hk] at h
   split at h
   .rename_i ds hd
    by_cases hp:Bm ds=true
    .rw[if_pos hp] at h
     cases h
     have hS:=(h0 i ds 0 (by lia) hd).1
     obtain⟨a,h1,hc⟩:=R.sto i ds hS
     obtain⟨hv,f2⟩:=f a h1
     obtain⟨xs,h2,h3⟩:=hc.list f2
     subst hv
     obtain⟨z1,z2⟩:=(h0 i ds a (by lia) hd).2 h1
     exact .lst z2 z1 h2 (VRs.pure hK (fun m b ys n o hb=>⟨hN m b n o,hl b _ hb n⟩) (fun b o hb n _ _=>hl b o hb n) hp h3)
    .rw[if_neg hp] at h;cases h
   .cases h
 |_,_,_,.scrK k,h=>by rw[VS.den] at h;cases h;exact .scrK (by rw[hK];exact k)
 |_,_,_,.scrR n hb,h=>by rw[VS.den] at h;cases h;exact .scrR (hl _ _ hb n) hb
 |_,_,_,.emp o n hb,h=>by rw[VS.den] at h;cases h;exact .emp (hN _ _ n o) (hl _ _ hb n) hb
 |_,_,_,.lent _ _ _,h=>by rw[VS.den] at h;cases h
 |_,.dref i,_,.dref hi f,h=>by
  rw[VS.den] at h
  by_cases hk:i<k
  .rw[if_pos hk] at h;cases h
  .rw[if_neg hk] at h
   split at h
   .rename_i kvs hd
    cases h
    have hS:=(h0 i _ 0 (by lia) hd).1
    obtain⟨a,h1,hc⟩:=R.sto i _ hS
    obtain⟨hv,f2⟩:=f a h1
    obtain⟨kvs',q1,h2⟩:=hc.dict f2
    cases q1
    subst hv
    have z:=(h0 i _ a (by lia) hd).2 h1
    exact .dcf ⟨fun z=>(by cases z),z.2.2⟩ z.1 h2
   .cases h
 |_,_,_,.dcf o n hb,h=>by rw[VS.den] at h;cases h;exact .dcf (hN _ _ n o) (hl _ _ hb n) hb
theorem VRs.den{Z3:St}{env:Env}{S S0:Store}{k:Nat}(R:Rep Γ μ Z3 H env S)(hK:Γ'.K=Γ.K)(h0:∀(i:Nat)(ds:List D)(a:Addr),k<=i->S0[i]?=some (some ds)->S[i]?=some (some ds)/\(μ[i]?=some (some a)->¬CN μ' a/\Γ'.Ok true a))
  (hN:∀m a,¬CN μ a->Γ.Ok m a->Γ'.Ok m a) (hl:∀a o,H a=some o->¬CN μ a->¬CN μ' a):∀{v:List V} {d e:List D},VRs Γ μ H v d->VS.DW k S0 d=some e->VRs Γ' μ' H v e
 |_,_,_,.nil,h=>by rw[DW] at h;cases h;exact .nil
 |_,_,_,.cons r t,h=>by
  rw[DW] at h
  obtain⟨x,e1,h⟩:=bind_some h
  obtain⟨xs,e2,h⟩:=bind_some h
  cases h
  exact .cons (VR.den R hK h0 hN hl r e1) (VRs.den R hK h0 hN hl t e2)
end
mutual
theorem VR.new(hN:∀a xs,¬CN μ a->Γ.Ok true a->H a=some (.lst xs)->Γ'.Ok true a/\¬CN μ' a){v:V}{d:D}(h:newD d=true)(r:VR Γ μ H v d):VR Γ' μ' H v d:=by
 cases r with
 |non=>exact .non
 |bl b=>exact .bl b
 |int i=>exact .int i
 |str x=>exact .str x
 |ty n=>exact .ty n
 |fn a n=>exact .fn a n
 |tup hb t=>rw[newD] at h;exact .tup hb (VRs.new hN h t)
 |lst o n hb t =>
  rw[newD,U0v] at h
  obtain⟨rfl,h⟩:=h
  exact .lst (hN _ _ n o hb).1 (hN _ _ n o hb).2 hb (VRs.new hN h t)
 |ref _ _=>simp[newD] at h
 |scrK _=>simp[newD] at h
 |scrR _ _=>simp[newD] at h
 |emp _ _ _=>simp[newD] at h
 |dref _ _=>simp[newD] at h
 |lent _ _ _=>simp[newD] at h
 |dcf _ _ _=>simp[newD] at h
theorem VRs.new(hN:∀a xs,¬CN μ a->Γ.Ok true a->H a=some (.lst xs)->Γ'.Ok true a/\¬CN μ' a):∀{v:List V} {d:List D},newL d=true->VRs Γ μ H v d->VRs Γ' μ' H v d
 |_,_,_,.nil=>.nil
 |_,_,h,.cons r t=>by
  rw[newL,U0v] at h
  exact .cons (VR.new hN h.1 r) (VRs.new hN h.2 t)
end
mutual
theorem VR.flat{v:V}{d:D}(h:Bs d=true)(r:VR Γ μ H v d):VR Γ' μ' H v d:=by
 cases r with
 |non=>exact .non
 |bl b=>exact .bl b
 |int i=>exact .int i
 |str x=>exact .str x
 |ty n=>exact .ty n
 |fn a n=>exact .fn a n
 |tup hb t=>rw[Bs] at h;exact .tup hb (VRs.flat h t)
 |lst _ _ _ _=>simp[Bs] at h
 |ref _ _=>simp[Bs] at h
 |scrK _=>simp[Bs] at h
 |scrR _ _=>simp[Bs] at h
 |emp _ _ _=>simp[Bs] at h
 |dref _ _=>simp[Bs] at h
 |lent _ _ _=>simp[Bs] at h
 |dcf _ _ _=>simp[Bs] at h
theorem VRs.flat:∀{v:List V} {d:List D},Dn d=true->VRs Γ μ H v d->VRs Γ' μ' H v d
 |_,_,_,.nil=>.nil
 |_,_,h,.cons r t=>by
  rw[Dn,U0v] at h
  exact .cons (VR.flat h.1 r) (VRs.flat h.2 t)
end
mutual
theorem Tn{k:Nat}{S:Store}:∀{d e:D},den k S d=some e->Br e=true
 |.tup ds,e,h=>by
  rw[den] at h
  obtain⟨es,e1,e2⟩:=map_some h
  subst e2
  rw[Br];exact O9 e1
 |.lst m ds,e,h=>by
  rw[den] at h
  obtain⟨es,e1,e2⟩:=map_some h
  subst e2
  rw[Br];exact O9 e1
 |.ref i,e,h=>by
  rw[den] at h
  by_cases hk:i<k
  .rw[if_pos hk] at h;cases h
  .rw[if_neg hk] at h
   split at h
   .rename_i ds hd
    by_cases hp:Bm ds=true
    .rw[if_pos hp] at h;cases h;rw[Br];exact hp
    .rw[if_neg hp] at h;cases h
   .cases h
 |.non,e,h=>by rw[den] at h;cases h;rfl
 |.bl _,e,h=>by rw[den] at h;cases h;rfl
 |.int _,e,h=>by rw[den] at h;cases h;rfl
 |.str _,e,h=>by rw[den] at h;cases h;rfl
 |.ty _,e,h=>by rw[den] at h;cases h;rfl
 |.fn _ _,e,h=>by rw[den] at h;cases h;rfl
 |.scr _,e,h=>by rw[den] at h;cases h;rfl
 |.emp,e,h=>by rw[den] at h;cases h;rfl
 |.dref i,e,h=>by
  rw[den] at h
  by_cases hk:i<k
  .rw[if_pos hk] at h;cases h
  .rw[if_neg hk] at h
   split at h
   .cases h;rfl
   .cases h
 |.dcf _,e,h=>by rw[den] at h;cases h;rfl
 |.dcm _,e,h=>by rw[den] at h;cases h
 |.lent _,e,h=>by rw[den] at h;cases h
theorem O9{k:Nat}{S:Store}:∀{d e:List D},DW k S d=some e->Bm e=true
 |[],e,h=>by rw[DW] at h;cases h;rfl
 |d::r,e,h=>by
  rw[DW] at h
  obtain⟨x,e1,h⟩:=bind_some h
  obtain⟨xs,e2,h⟩:=bind_some h
  cases h
  rw[Bm,Tn e1,O9 e2];rfl
end
end
end VS
end
section
namespace VS
open PySem PySem.Spec L2
abbrev DX:=List D->Option D
abbrev M6:=List Int->List D->Option (D×List Int)
def intsOf:List D->Option `bo
 |[]=>some []
 |.int i::r=>(intsOf r).map (i::·)
 |_=>none
theorem FT:∀{ds:List D} {ns:List Int},intsOf ds=some ns->ds=ns.map D.int
 |[],_,h=>by cases h;rfl
 |.int i::r,ns,h=>by
  obtain⟨ms,e1,e2⟩:=map_some h
  subst e2
  rw[U0r,FT e1]
 |.non::_,_,h=>by cases h
 |.bl _::_,_,h=>by cases h
 |.str _::_,_,h=>by cases h
 |.ty _::_,_,h=>by cases h
 |.fn _ _::_,_,h=>by cases h
 |.tup _::_,_,h=>by cases h
 |.lst _ _::_,_,h=>by cases h
 |.ref _::_,_,h=>by cases h
 |.scr _::_,_,h=>by cases h
 |.emp::_,_,h=>by cases h
 |.dref _::_,_,h=>by cases h
 |.dcf _::_,_,h=>by cases h
 |.dcm _::_,_,h=>by cases h
 |.lent _::_,_,h=>by cases h
@[simp] theorem Mg(ns:List Int):intsOf (ns.map D.int)=some ns:=by
 induction ns with
 |nil=>rfl
 |cons n r ih=>rw[U0r,intsOf,ih];rfl
def Gf(np n:Nat)(f:Bb):DX:=fun ds=>if ds.length=np then (f (ds.map some++U08 (n-ds.length) none) []).bind fun p=>match p.1 with|.ret d=>den 0 p.2.2 d|.nx=>some .non|_=>none else none
def runM(np n:Nat)(f:Bb):M6:=fun ns ds=>if ds.length+1=np then (f (some `av::(ds.map some++U08 (n-1-ds.length) none)) [some (ns.map D.int)]).bind fun p=>match p.2.2[0]? with
 |some (some cs)=>(intsOf cs).bind fun ms=>(match p.1 with|.ret d=>(den 1 p.2.2 d).map fun r=>(r,ms)|.nx=>some (.non,ms)|_=>none)
 |_=>none
 else none
def spP(K:U0b)(sem:DX)(n:Nat):Sp:=fun vs H Q _=>∃(N:Addr->Prop)(ds:List D)(r:D),vs.length=n/\VRs ⟨K,H,N,[]⟩ [] H vs ds/\sem ds=some r/\∀v H',Same H H'->VR ⟨K,H,N,[]⟩ [] H' v r->Q v H'
def spM(K:U0b)(sem:M6)(n:Nat):Sp:=fun vs H Q _=>∃(N:Addr->Prop)(a:Addr)(us:List V)(ns:List Int)(ds:List D)(r:D)(ms:List Int),vs=.ref a::us/\vs.length=n/\H a=some (.lst (ns.map V.int))/\VRs ⟨K,H,N,[a]⟩ [some a] H us ds/\sem ns ds=some (r,ms) /\
 ∀v H',(∀b o,b≠a->H b=some o->H' b=some o)->H' a=some (.lst (ms.map V.int))->VR ⟨K,H,N,[a]⟩ [some a] H' v r->Q v H'
section
variable{P:Program}{w:World}{K:U0b}{mg:Str->Option Value}{base:Heap}
theorem W8{N:List Str}{vs:List V}{ds:List D}{Γ:Fr}{μ:Mu}{H:Hp}(r:VRs Γ μ H vs ds){i:Nat}{d:D}{n:Nat}(h:(ds.map some++U08 n none:Env)[i]?=some (some d)):∃v,(vs.map some++U08 (N.length-vs.length) none:St)[i]?=some (some v)/\VR Γ μ H v d:=by
 have hi:i<ds.length:=by
  by_cases hi:i<ds.length
  .exact hi
  .rw[U1h (by simpa using hi),U5o] at h
   split at h<;>cases h
 rw[U01 (by simpa using hi),U07] at h
 have h2:ds[i]?=some d:=by
  cases q:ds[i]? with
  |none=>rw[q] at h;cases h
  |some e=>rw[q] at h;cases h;rfl
 obtain⟨v,e1,e2⟩:=r.get h2
 refine⟨v,?_,e2⟩
 rw[U01 (by rw[U0d,r.length];exact hi),U07,e1]
 rfl
theorem Ig{a:Addr}:¬CN [] a:=fun z=>by simp[CN] at z
theorem QD{a b:Addr}:CN [some b] a↔a=b:=by simp[CN]
theorem fnP{x qual:Str}{st:Stmt}{f:Addr}{fd:FuncData}{N ps:List Str}{k:Nat}{fs:Bb}(F:Fun K x qual st f fd)(Sc:Cp N ps (Am st))
  (hb:∀(cdv:Value)(A:Around)(outer:List PySem.Env)(s:Shared)(H:Hp)(E:XK),Eb k (A.deeper (PyProof.Rows.envOfC qual (Am st) s.heap.objs.size f cdv))->JSs (Qj CX0 P w K mg base N qual (Am st) f cdv A outer s H E).nox (CV st) fs) :
  DY P w K mg base CX0 (k+1) f fd ps (spP K (Gf ps.length N.length fs) ps.length):=by
 refine F.ok Sc (fun vs H Q E h=>?_) (fun cdv A outer s H vs Q E hr h=>?_)
 .obtain⟨_,_,_,hl,_⟩:=h;exact hl
 obtain⟨Nn,ds,r,hl,rs,e,q⟩:=h
 refine⟨_,(hb cdv A outer s H E hr).ps,?_⟩
 have hdl:=rs.length
 unfold Gf at e
 rw[if_pos (by lia)] at e
 obtain⟨⟨fl,env',S'⟩,e1,e⟩:=bind_some e
 have hpl:ps.length<=N.length:=by have:=congrArg U3n Sc.pre;rw[U1q] at this;lia
 refine⟨⟨K,H,Nn,[]⟩,[],_,[],fl,env',S',rfl,⟨fun i d h=>W8 rs h,?_,fun i ds h=>by simp at h,fun i a h=>by simp at h,fun i j a h=>by simp at h,rfl,Ext.refl _ _,fun i a _ h=>by simp at h⟩,e1,fun μ' ZZ H' x' R'=>?_⟩
 .unfold L2.start
  rw[U0p,U0d,U2d,U0p,U0d,U2d,hdl]
 have sm:Same H H':=fun b o hb=>(x'.keep b o hb Ig).1
 dsimp only at e
 cases fl with
 |nx=>cases e;exact q _ H' sm .non
 |brk=>cases e
 |cnt=>cases e
 |ret d =>
  intro v rv
  refine q v H' sm (VR.den R' rfl (fun i ds a _ hs=>⟨hs,fun hm=>⟨Ig,?_⟩⟩) (fun m a _ o=>o) (fun a o _ _=>Ig) rv e)
  have hn:=R'.new i a (U25 _) hm
  exact⟨fun _=>hn,.inr hn⟩
theorem fnM{x qual:Str}{st:Stmt}{f:Addr}{fd:FuncData}{N ps:List Str}{k:Nat}{fs:Bb}(F:Fun K x qual st f fd)(Sc:Cp N ps (Am st))
  (hb:∀(cdv:Value)(A:Around)(outer:List PySem.Env)(s:Shared)(H:Hp)(E:XK),Eb k (A.deeper (PyProof.Rows.envOfC qual (Am st) s.heap.objs.size f cdv))->JSs (Qj CX0 P w K mg base N qual (Am st) f cdv A outer s H E).nox (CV st) fs) :
  DY P w K mg base CX0 (k+1) f fd ps (spM K (runM ps.length N.length fs) ps.length):=by
 refine F.ok Sc (fun vs H Q E h=>?_) (fun cdv A outer s H vs Q E hr h=>?_)
 .obtain⟨_,_,_,_,_,_,_,_,hl,_⟩:=h;exact hl
 obtain⟨Nn,a,us,ns,ds,r,ms,rfl,hl,ha,rs,e,q⟩:=h
 refine⟨_,(hb cdv A outer s H E hr).ps,?_⟩
 have hdl:=rs.length
 rw[U0f] at hl
 unfold runM at e
 rw[if_pos (by lia)] at e
 obtain⟨⟨fl,env',S'⟩,e1,e⟩:=bind_some e
 have hpl:ps.length<=N.length:=by have:=congrArg U3n Sc.pre;rw[U1q] at this;lia
 refine⟨⟨K,H,Nn,[a]⟩,[some a],_,[some (ns.map D.int)],fl,env',S',rfl,⟨fun i d h=>?_,?_,fun i es h=>?_,fun i b h=>?_,fun i j b h1 h2=>?_,rfl,Ext.refl _ _,fun i b hi h=>?_⟩,e1,fun μ' ZZ H' x' R'=>?_⟩
 .cases i with
  |zero =>
   simp at h
   subst h
   refine⟨.ref a,by simp[L2.start],.ref (by simp) fun b hb=>?_⟩
   simp at hb;rw[←hb];exact⟨rfl,⟨_,ha⟩⟩
  |succ i =>
   rw[List.getElem?_cons_succ] at h
   obtain⟨v,e1,e2⟩:=W8 (N:=U08 (N.length-1) "") rs h
   refine⟨v,?_,e2⟩
   unfold L2.start
   rw[U0r,U2c,List.getElem?_cons_succ,U0f]
   rw[U2d] at e1
   rw[show N.length-(us.length+1)=N.length-1-us.length by lia]
   exact e1
 .unfold L2.start
  rw[U0p,U0d,U2d,U0f,U0f,U0p,U0d,U2d,hdl]
  lia
 .cases i with
  |zero=>simp at h;subst h;exact⟨a,by simp,.inl ⟨_,ha,VRs.ints ns⟩⟩
  |succ i=>simp at h
 .cases i with
  |zero=>exact⟨_,rfl⟩
  |succ i=>simp at h
 .cases i with
  |zero=>cases j with
   |zero=>rfl
   |succ j=>simp at h2
  |succ i=>simp at h1
 .cases i with
  |zero=>simp at hi
  |succ i=>simp at h
 have sm:∀b o,b≠a->H b=some o->H' b=some o:=fun b o hb h=>(x'.keep b o h fun z=>hb (QD.mp z)).1
 dsimp only at e
 split at e
 .rename_i cs hc
  obtain⟨ms',e3,e5⟩:=bind_some e
  clear e
  obtain⟨a',g1,gc⟩:=R'.sto 0 cs hc
  obtain⟨xs',g2,g3⟩:∃xs,H' a'=some (.lst xs)/\VRs _ μ' H' xs cs:=by
   rcases gc with z|⟨kvs,q,_⟩
   .exact z
   .rw[q] at e3;cases e3
  have ea:a'=a:=by
   have:=x'.ids 0 a' (by simp) g1
   simp at this;exact this.symm
  subst ea
  have ec:=FT e3
  subst ec
  have ex:=g3.MK
  subst ex
  cases fl with
  |nx=>cases e5;exact q _ H' sm g2 .non
  |brk=>cases e5
  |cnt=>cases e5
  |ret d =>
   intro v rv
   dsimp only at e5
   obtain⟨r',e4,e6⟩:=map_some e5
   cases e6
   refine q v H' sm g2 (VR.den R' rfl (fun i es b hi hs=>⟨hs,fun hm=>⟨fun z=>?_,?_⟩⟩) (fun m b _ o=>o) (fun b o _ n z=>n ?_) rv e4)
   .have:b=a':=QD.mp z
    subst this
    have:=R'.inj 0 i b g1 hm
    lia
   .have hn:=R'.new i b hi hm
    exact⟨fun _=>hn,.inr hn⟩
   .have:b=a':=QD.mp z
    subst this
    exact U1p g1
 .cases e
end
theorem BP{np n:Nat}{f:Bb}{ds:List D}{r:D}(h:Gf np n f ds=some r):ds.length=np/\Br r=true:=by
 unfold Gf at h
 by_cases hl:ds.length=np
 .rw[if_pos hl] at h
  obtain⟨⟨fl,env',S'⟩,e1,e⟩:=bind_some h
  refine⟨hl,?_⟩
  dsimp only at e
  cases fl with
  |nx=>cases e;rfl
  |brk=>cases e
  |cnt=>cases e
  |ret d=>exact Tn e
 .rw[if_neg hl] at h;cases h
theorem Pa{np n:Nat}{f:Bb}{ns:List Int}{ds:List D}{r:D×List Int}(h:runM np n f ns ds=some r):ds.length+1=np/\Br r.1=true:=by
 unfold runM at h
 by_cases hl:ds.length+1=np
 .rw[if_pos hl] at h
  obtain⟨⟨fl,env',S'⟩,e1,e⟩:=bind_some h
  refine⟨hl,?_⟩
  dsimp only at e
  split at e
  .rename_i cs hc
   obtain⟨ms',e3,e⟩:=bind_some e
   cases fl with
   |nx=>cases e;rfl
   |brk=>cases e
   |cnt=>cases e
   |ret d =>
    dsimp only at e
    obtain⟨r',e4,e⟩:=map_some e
    cases e
    exact Tn e4
  .cases e
 .rw[if_neg hl] at h;cases h
end VS
end
section
namespace VS
open PySem PySem.Spec L2
structure Bf(P:Program)(w:World)(K:U0b)(mg:Str->Option Value)(base:Heap)(x:Str)(k:Nat)(sem:DX):Prop where
 cal:∃ps,Cal P w K mg base x k ps (spP K sem ps.length)/\∀ds r,sem ds=some r->ds.length=ps.length/\Br r=true
structure K7(P:Program)(w:World)(K:U0b)(mg:Str->Option Value)(base:Heap)(x:Str)(k:Nat)(sem:M6):Prop where
 cal:∃ps,Cal P w K mg base x k ps (spM K sem ps.length)/\∀ns ds r,sem ns ds=some r->ds.length+1=ps.length/\Br r.1=true
def Bd(sem:DX)(a:Bl):BL:=fun env S=>(a env S).bind fun p=>(DW 0 p.2 p.1).bind fun ds=>(sem (Cu ds)).bind fun r=>if (Bm p.1||newD r)=true then some (r,p.2) else none
def BK(sem:M6)(a:Bl):BL:=fun env S=>(a env S).bind fun p=>match p.1 with
 |.ref i::rest=>(match p.2[i]? with
  |some (some cs)=>(intsOf cs).bind fun ns=>(DW 0 (p.2.set i none) rest).bind fun ds=>(sem ns (Cu ds)).bind fun r=>if (Bm rest||newD r.1)=true then some (r.1,p.2.set i (some (r.2.map D.int))) else none
  |_=>none)
 |_=>none
def XF(n:Nat):List D->Option (List D×List D)
 |[]=>none
 |d::r=>if Bs d=true then (XF n r).map fun p=>(d::p.1,p.2) else match d with
  |.lst true ds=>if (Dn ds&&Dn r)=true then some (.ref n::r,ds) else none
  |_=>none
def Pu(n:Nat):D->Option (D×List D)
 |.lst true ds=>if Dn ds=true then some (.ref n,ds) else none
 |.tup es=>(XF n es).map fun p=>(.tup p.1,p.2)
 |_=>none
def IW(sem:DX)(a:Bl):BL:=fun env S=>(Bd sem a env S).bind fun p=>(Pu p.2.length p.1).bind fun q=>some (q.1,p.2++[some q.2])
section
variable{Γ:Fr}{μ:Mu}{Z3:St}{H H':Hp}{env:Env}{S:Store}
theorem lend{K:U0b}(hK:Γ.K=K)(R:Rep Γ μ Z3 H env S){S0:Store}{m0:List Addr}{vs:List V}{ds es:List D}(r:VRs Γ μ H vs ds)(e:DW 0 S0 ds=some es)(h0:∀(i:Nat)(ds:List D)(a:Addr),S0[i]?=some (some ds)->S[i]?=some (some ds)/\(μ[i]?=some (some a)->¬CN (m0.map some) a))(hm:∀a∈m0,CN μ a)
  (c:Bool) (hc:(Bm ds||c)=true):∃N:Addr->Prop,VRs ⟨K,H,N,m0⟩ (m0.map some) H vs (Cu es)/\(c=true∨∀a,N a->¬CN μ a/\(Γ.N a∨Γ.H0 a=none)):=by
 subst hK
 have hl:∀a o,H a=some o->¬CN μ a->¬CN (m0.map some) a:=fun a o _ n z=>n (hm a (by simpa [CN] using z))
 by_cases hp:Bm ds=true
 .rw[DQ 0 S0 hp] at e
  cases e
  exact⟨fun a=>¬CN μ a/\(Γ.N a∨Γ.H0 a=none),VRs.age (Γ:=Γ) (Γ':=⟨Γ.K,H,fun a=>¬CN μ a/\(Γ.N a∨Γ.H0 a=none),m0⟩) rfl (fun a n o=>⟨n,o⟩) hl hp r,.inr fun a z=>z⟩
 .have hc':c=true:=by simpa [hp] using hc
  refine⟨fun _=>True,?_,.inl hc'⟩
  have r1:VRs ⟨Γ.K,fun _=>none,fun _=>True,m0⟩ (m0.map some) H vs es:=VRs.den (Γ':=⟨Γ.K,fun _=>none,fun _=>True,m0⟩) R rfl (fun i ds a _ hs=>⟨(h0 i ds a hs).1,fun z=>⟨(h0 i ds a hs).2 z,⟨fun _=>rfl,.inl trivial⟩⟩⟩) (fun m a _ _=>⟨fun _=>rfl,.inl trivial⟩) hl r e
  exact VRs.age (Γ:=⟨Γ.K,fun _=>none,fun _=>True,m0⟩) (Γ':=⟨Γ.K,H,fun _=>True,m0⟩) (μ:=m0.map some) rfl (fun a _ _=>trivial) (fun a o _ n=>n) (O9 e) r1
theorem home{K:U0b}(hK:Γ.K=K)(R:Rep Γ μ Z3 H env S){N:Addr->Prop}{m0:List Addr}{v:V}{r:D}(lv:∀a,CN μ a->IsL H' a∨IsK H' a)(hp:Br r=true)(c:newD r=true∨∀a,N a->¬CN μ a/\(Γ.N a∨Γ.H0 a=none))
  (rv:VR ⟨K,H,N,m0⟩ (m0.map some) H' v r):VR Γ μ H' v r:=by
 subst hK
 rcases c with c|c
 .exact VR.new (fun a xs n o hb=>⟨R.ok (o.1 rfl) true,R.dead (o.1 rfl)⟩) c rv
 .refine VR.pure (Γ:=⟨Γ.K,H,N,m0⟩) (Γ':=Γ) rfl (fun m a xs n o hb=>?_) (fun a o hb n hx hy z=>?_) hp rv
  .rcases o.2 with z|z
   .refine⟨⟨fun hm=>R.fresh (o.1 hm),(c a z).2⟩,(c a z).1⟩
   .exact⟨R.ok z m,R.dead z⟩
  .rcases lv a z with ⟨xs,q⟩|⟨xs,q⟩
   .rw[q] at hb
    exact hx xs (U00 hb).symm
   .rw[q] at hb
    exact hy xs (U00 hb).symm
theorem Rep.adopt(R:Rep Γ μ Z3 H env S)(sm:Same H H'){a:Addr}{xs:List V}{ds:List D}(hn:H a=none)(ha:H' a=some (.lst xs))(hf:Dn ds=true){Γ':Fr}{μ':Mu}(rs:VRs Γ' μ' H' xs ds) :
  Rep Γ (μ++[some a]) Z3 H' env (S++[some ds])/\Ext μ H (μ++[some a]) H':=by
 have ne:∀b o,H b=some o->b≠a:=fun b o h z=>by rw[z,hn] at h;cases h
 have x:Ext μ H (μ++[some a]) H':=by
  refine⟨fun b o h n=>⟨sm b o h,fun z=>?_⟩,fun b ys h=>sm b _ h,fun b h=>sm.free h,fun i b hi h=>?_,by rw[U0p];lia,fun b _ ⟨ys,h⟩=>⟨ys,sm b _ h⟩,fun b _ ⟨ys,h⟩=>⟨ys,sm b _ h⟩⟩
  .rcases U0z.mp z with z|z
   .exact n z
   .have z':b=a:=by simpa using z
    exact ne b o h z'
  .rw[U01 hi] at h;exact h
 have idx:∀i b,(μ++[some a])[i]?=some (some b)->(i<μ.length/\μ[i]?=some (some b))∨(i=μ.length/\b=a):=fun i b h=>by
  by_cases hi:i<μ.length
  .rw[U01 hi] at h;exact .inl ⟨hi,h⟩
  .rw[U1h (by lia)] at h
   have hl:=(U0j.mp h).1
   have hi':i=μ.length:=by simp at hl;lia
   subst hi'
   simp at h
   exact .inr ⟨rfl,h.symm⟩
 have no:∀i,μ[i]?=some (some a)->False:=fun i h=>R.dead hn (U1p h)
 refine⟨⟨fun i d h=>?_,R.len,fun i es h=>?_,fun i b h=>?_,fun i j b h1 h2=>?_,by rw[U0p,U0p,R.slen];rfl,R.ent.trans x,fun i b hi h=>?_⟩,x⟩
 .obtain⟨v,h1,h2⟩:=R.vals i d h
  exact⟨v,h1,h2.ext x⟩
 .by_cases hi:i<S.length
  .rw[U01 hi] at h
   obtain⟨b,h1,h2⟩:=R.sto i es h
   exact⟨b,by rw[U01 (by rw[←R.slen];exact hi)];exact h1,h2.to x fun o q=>sm _ _ q⟩
  .rw[U1h (by lia)] at h
   have hl:=(U0j.mp h).1
   have hi':i=S.length:=by simp at hl;lia
   subst hi'
   simp at h
   subst h
   exact⟨a,by rw[R.slen];simp,.inl ⟨xs,ha,VRs.flat hf rs⟩⟩
 .rcases idx i b h with ⟨hi,h⟩|⟨rfl,rfl⟩
  .obtain⟨ds',q⟩:=R.liv i b h
   exact⟨ds',by rw[U01 (by rw[R.slen];exact hi)];exact q⟩
  .exact⟨ds,by rw[←R.slen];simp⟩
 .rcases idx i b h1 with ⟨_,g1⟩|⟨e1,e2⟩
  .rcases idx j b h2 with ⟨_,g2⟩|⟨e3,e4⟩
   .exact R.inj i j b g1 g2
   .exact(no i (e4 ▸ g1)).elim
  .rcases idx j b h2 with ⟨_,g2⟩|⟨e3,_⟩
   .exact(no j (e2 ▸ g2)).elim
   .rw[e1,e3]
 .rcases idx i b h with ⟨_,h⟩|⟨rfl,rfl⟩
  .exact R.new i b hi h
  .exact R.fresh hn
end
theorem YB{Γ:Fr}{μ:Mu}{H:Hp}{n:Nat}:∀{vs:List V} {ds:List D} {p:List D×List D},XF n ds=some p->VRs Γ μ H vs ds ->
  ∃a xs,Γ.Ok true a/\H a=some (.lst xs)/\VRs Γ μ H xs p.2/\Dn p.2=true/\∀(Γ':Fr)(μ':Mu),μ'[n]?=some (some a)->VRs Γ' μ' H vs p.1
 |_,[],_,h,_=>by cases h
 |_,d::r,p,h,.cons (xs:=vr) rd rr=>by
  unfold XF at h
  by_cases hf:Bs d=true
  .rw[if_pos hf] at h
   obtain⟨q,e1,e2⟩:=map_some h
   subst e2
   obtain⟨a,xs,h1,h2,h3,h4,h5⟩:=YB e1 rr
   exact⟨a,xs,h1,h2,h3,h4,fun Γ' μ' z=>.cons (VR.flat hf rd) (h5 Γ' μ' z)⟩
  .rw[if_neg hf] at h
   split at h
   .rename_i ds
    by_cases hg:(Dn ds&&Dn r)=true
    .rw[if_pos hg] at h
     cases h
     rw[U0v] at hg
     cases rd with
     |@lst _ a xs _ o nl hb t =>
      refine⟨a,xs,o,hb,t,hg.1,fun Γ' μ' z=>.cons (.ref (U0j.mp z).1 fun b hb'=>?_) (VRs.flat hg.2 rr)⟩
      rw[z] at hb';cases hb';exact⟨rfl,⟨_,hb⟩⟩
    .rw[if_neg hg] at h;cases h
   .cases h
theorem nJ{Γ:Fr}{μ:Mu}{H:Hp}{n:Nat}{v:V}{d:D}{p:D×List D}(h:Pu n d=some p)(r:VR Γ μ H v d) :
  ∃a xs,Γ.Ok true a/\H a=some (.lst xs)/\VRs Γ μ H xs p.2/\Dn p.2=true/\∀(Γ':Fr)(μ':Mu),μ'[n]?=some (some a)->VR Γ' μ' H v p.1:=by
 unfold Pu at h
 split at h
 .rename_i ds
  by_cases hg:Dn ds=true
  .rw[if_pos hg] at h
   cases h
   cases r with
   |@lst _ a xs _ o nl hb t =>
    refine⟨a,xs,o,hb,t,hg,fun Γ' μ' z=>.ref (U0j.mp z).1 fun b hb'=>?_⟩
    rw[z] at hb';cases hb';exact⟨rfl,⟨_,hb⟩⟩
  .rw[if_neg hg] at h;cases h
 .rename_i es
  obtain⟨q,e1,e2⟩:=map_some h
  subst e2
  cases r with
  |@tup b xs _ hb t =>
   obtain⟨a,ys,h1,h2,h3,h4,h5⟩:=YB e1 t
   exact⟨a,ys,h1,h2,h3,h4,fun Γ' μ' z=>.tup hb (h5 Γ' μ' z)⟩
 .cases h
section
variable{X:Cx}{x:Str}{k k':Nat}{e:Expr}{es:List Expr}{f:Bl}{p pos:Pos}
theorem Cr{sem:DX}(c:Bf X.prog X.w X.K X.mg X.base x k sem)(hr:Eb k' X.A)(hk:k<=k')(hg:Gl X x)(ha:JA X (e::es) f)
  (hdb:(x==("__debug__":Str))=false:=by decide) (he:starEach (e::es) X.env=`bt::starEach es X.env:=by rfl) (hpl:(`bu).any (·.1)=false:=by rfl) :
  JE X (.Call (.Name x p) (e::es) [] pos) (Bd sem f):=by
 obtain⟨ps,c,hok⟩:=c.cal
 refine⟨PE.imp (TX c hr hk hg ha.pa hdb he hpl) fun Z3 H Q h=>?_⟩
 obtain⟨Γ,μ,env,S,d,S',hK,R,e,q⟩:=h
 obtain⟨⟨as,S1⟩,e1,e⟩:=bind_some e
 obtain⟨ds,e2,e⟩:=bind_some e
 obtain⟨r,e3,e⟩:=bind_some e
 refine⟨Γ,μ,env,S,as,S1,hK,R,e1,fun vs μ1 H1 x1 R1 r1=>?_⟩
 show spP X.K sem ps.length (vs++[]) H1 Q E0
 rw[U1o]
 dsimp only at e e2
 by_cases hc:(Bm as||newD r)=true
 .rw[if_pos hc] at e
  cases e
  obtain⟨hl,hp⟩:=hok _ _ e3
  obtain⟨N,rs,cN⟩:=lend hK R1 (m0:=[]) r1 e2 (fun i ds a hs=>⟨hs,fun _=>Ig⟩) (fun a z=>by simp at z) (newD d) hc
  refine⟨N,_,d,?_,rs,e3,fun v H' sm rv=>?_⟩
  .rw[rs.length,hl]
  obtain⟨R2,x2⟩:=R1.grow sm
  exact q v μ1 H' (x1.trans x2) R2 (home hK R1 (fun a z=>R2.live z) hp cN rv)
 .rw[if_neg hc] at e;cases e
theorem Te{sem:DX}(c:Bf X.prog X.w X.K X.mg X.base x k sem)(hr:Eb k' X.A)(hk:k<=k')(hg:Gl X x)(ha:JA X (e::es) f)
  (hdb:(x==("__debug__":Str))=false:=by decide) (he:starEach (e::es) X.env=`bt::starEach es X.env:=by rfl) (hpl:(`bu).any (·.1)=false:=by rfl) :
  JE X (.Call (.Name x p) (e::es) [] pos) (IW sem f):=by
 obtain⟨ps,c,hok⟩:=c.cal
 refine⟨PE.imp (TX c hr hk hg ha.pa hdb he hpl) fun Z3 H Q h=>?_⟩
 obtain⟨Γ,μ,env,S,d,S',hK,R,e,q⟩:=h
 obtain⟨⟨d0,S0⟩,e0,e⟩:=bind_some e
 obtain⟨t,et,e⟩:=bind_some e
 cases e
 obtain⟨⟨as,S1⟩,e1,e⟩:=bind_some e0
 obtain⟨ds,e2,e⟩:=bind_some e
 obtain⟨r,e3,e⟩:=bind_some e
 refine⟨Γ,μ,env,S,as,S1,hK,R,e1,fun vs μ1 H1 x1 R1 r1=>?_⟩
 show spP X.K sem ps.length (vs++[]) H1 Q E0
 rw[U1o]
 dsimp only at e e2
 by_cases hc:(Bm as||newD r)=true
 .rw[if_pos hc] at e
  cases e
  obtain⟨hl,hp⟩:=hok _ _ e3
  obtain⟨N,rs,cN⟩:=lend hK R1 (m0:=[]) r1 e2 (fun i ds a hs=>⟨hs,fun _=>Ig⟩) (fun a z=>by simp at z) (newD d0) hc
  refine⟨N,_,d0,?_,rs,e3,fun v H' sm rv=>?_⟩
  .rw[rs.length,hl]
  obtain⟨a,xs,h1,h2,h3,h4,h5⟩:=nJ et rv
  obtain⟨R2,x2⟩:=R1.adopt sm (h1.1 rfl) h2 h4 h3
  exact q v _ H' (x1.trans x2) R2 (h5 _ _ (by rw[R1.slen];simp))
 .rw[if_neg hc] at e;cases e
theorem Dl{sem:M6}(c:K7 X.prog X.w X.K X.mg X.base x k sem)(hr:Eb k' X.A)(hk:k<=k')(hg:Gl X x)(ha:JA X (e::es) f)
  (hdb:(x==("__debug__":Str))=false:=by decide) (he:starEach (e::es) X.env=`bt::starEach es X.env:=by rfl) (hpl:(`bu).any (·.1)=false:=by rfl) :
  JE X (.Call (.Name x p) (e::es) [] pos) (BK sem f):=by
 obtain⟨ps,c,hok⟩:=c.cal
 refine⟨PE.imp (TX c hr hk hg ha.pa hdb he hpl) fun Z3 H Q h=>?_⟩
 obtain⟨Γ,μ,env,S,d,S',hK,R,e,q⟩:=h
 obtain⟨⟨as,S1⟩,e1,e⟩:=bind_some e
 refine⟨Γ,μ,env,S,as,S1,hK,R,e1,fun vs μ1 H1 x1 R1 r1=>?_⟩
 show spM X.K sem ps.length (vs++[]) H1 Q E0
 rw[U1o]
 dsimp only at e
 split at e
 .rename_i i rest
  split at e
  .rename_i cs hcs
   obtain⟨ns,e4,e⟩:=bind_some e
   obtain⟨ds,e2,e⟩:=bind_some e
   obtain⟨⟨r,ms⟩,e3,e⟩:=bind_some e
   dsimp only at e
   by_cases hc:(Bm rest||newD r)=true
   .rw[if_pos hc] at e
    cases e
    obtain⟨hl,hp⟩:=hok _ _ _ e3
    have ecs:=FT e4
    subst ecs
    cases r1 with
    |@cons v0 _ us _ r0 rr =>
     obtain⟨a,xs,rfl,h1,h2,h3⟩:=VR.Xa R1 r0 hcs
     have ex:=h3.MK
     subst ex
     have hi:i<S1.length:=(U0j.mp hcs).1
     obtain⟨N,rs,cN⟩:=lend hK R1 (S0:=S1.set i none) (m0:=[a]) rr e2 (fun j es b hs=>by
      have hj:i≠j:=fun z=>by
       subst z
       rw[U3u hi] at hs;cases hs
      rw[U37 hj] at hs
      exact⟨hs,fun hm z=>hj (R1.inj i j a h1 (by rw[show a=b from (QD.mp z).symm];exact hm))⟩) (fun b z=>by
       have:b=a:=by simpa using z
       rw[this];exact U1p h1) (newD d) hc
     refine⟨N,a,us,ns,_,d,ms,rfl,?_,h2,rs,e3,fun v H' sm ha' rv=>?_⟩
     .rw[U0f,rs.length,hl]
     obtain⟨R2,x2⟩:=R1.put h1 ⟨_,h2⟩ (VRs.ints ms)
     have sm2:Same (upd H1 a (.lst (ms.map V.int))) H':=fun b o hb=>by
      by_cases z:b=a
      .rw[z,Bq] at hb;cases hb;rw[z];exact ha'
      .rw[Bh z] at hb;exact sm b o z hb
     obtain⟨R3,x3⟩:=R2.grow sm2
     exact q v μ1 H' (x1.trans (x2.trans x3)) R3 (home hK R1 (fun a z=>R3.live z) hp cN rv)
   .rw[if_neg hc] at e;cases e
  .cases e
 .cases e
end
end VS
end
section
namespace VS
open PySem PySem.Spec L2
theorem OpR.or{X:Cx}{f:Value->Value->Sem Value}{r r':R2}(h:OpR X f r)(h':OpR X f r'):OpR X f (fun x y H Q=>r x y H Q∨r' x y H Q):=fun pins s Z3 H x y v u Q I rx ry q=>q.elim (fun z=>h pins s Z3 H x y v u Q I rx ry z) fun z=>h' pins s Z3 H x y v u Q I rx ry z
theorem Df.or{X:Cx}{f:Value}{r r':List V->Hp->VK->Prop}(h:Df X f r)(h':Df X f r'):Df X f (fun xs H Q=>r xs H Q∨r' xs H Q):=fun pins s Z3 H xs us Q I rs q=>q.elim (fun z=>h pins s Z3 H xs us Q I rs z) fun z=>h' pins s Z3 H xs us Q I rs z
def oI(c:Int->Int->Bool)(g:Int->Int->D)(_:Store):D->D->Option D
 |.int i,.int j=>if c i j=true then some (g i j) else none
 |_,_=>none
def Jk(_ _:Int):Bool:=true
theorem bO{K:U0b}{C:Int->Int->Prop}{c:Int->Int->Bool}(g:Int->Int->Int)(hc:∀i j,c i j=true->C i j):G8 K (rI C fun i j=>.int (g i j)) (oI c fun i j=>.int (g i j)):=by
 intro Γ μ Z3 H env S x y dx dy d hK R rx ry e Q q
 unfold oI at e
 split at e
 .rename_i i j
  by_cases h:c i j=true
  .rw[if_pos h] at e;cases e;cases rx;cases ry
   exact⟨i,j,rfl,rfl,hc i j h,q _ H `br (.int _)⟩
  .rw[if_neg h] at e;cases e
 .cases e
theorem tG{K:U0b}(g:Int->Int->Int):G8 K (rI0 fun i j=>.int (g i j)) (oI Jk fun i j=>.int (g i j)):=by
 intro Γ μ Z3 H env S x y dx dy d hK R rx ry e Q q
 unfold oI at e
 split at e
 .rename_i i j
  rw[if_pos (show Jk i j=true from rfl)] at e;cases e;cases rx;cases ry
  exact⟨i,j,rfl,rfl,q _ H `br (.int _)⟩
 .cases e
theorem Ui{K:U0b}(g:Int->Int->Bool):G8 K (rI0 fun i j=>.bl (g i j)) (oI Jk fun i j=>.bl (g i j)):=by
 intro Γ μ Z3 H env S x y dx dy d hK R rx ry e Q q
 unfold oI at e
 split at e
 .rename_i i j
  rw[if_pos (show Jk i j=true from rfl)] at e;cases e;cases rx;cases ry
  exact⟨i,j,rfl,rfl,q _ H `br (.bl _)⟩
 .cases e
def K4:=oI Jk fun i j=>.int (i-j)
def M5(i j:Int):Bool:=(decide (-(2^64)<i)&&decide (i<2^64))||(decide (-(2^64)<j)&&decide (j<2^64))
def Vd(_ j:Int):Bool:=decide (0<j)&&decide (j<2^64)
def Vc(_ j:Int):Bool:=decide (0<j)
def Oe(i j:Int):Bool:=decide (0<=j)&&decide (j<=1000000)&&decide (i.natAbs<2^64)
def oDiv:=oI Vd fun i j=>.int (i/j)
def oMod:=oI Vc fun i j=>.int (i%j)
def G5:=oI Oe fun i j=>.int (i^j.toNat)
def oLt:=oI Jk fun i j=>.bl (decide (i<j))
def oLe:=oI Jk fun i j=>.bl (decide (i<=j))
def oGt:=oI Jk fun i j=>.bl (decide (j<i))
def oGe:=oI Jk fun i j=>.bl (decide (j<=i))
theorem PL{K:U0b}:G8 K (rI0 fun i j=>.int (i-j)) K4:=tG _
theorem aA{K:U0b}:G8 K (rI (fun _ j=>0<j/\j<2^64) fun i j=>.int (i/j)) oDiv:=bO _ fun i j h=>by simpa [Vd] using h
theorem Kl{K:U0b}:G8 K (rI (fun _ j=>0<j) fun i j=>.int (i%j)) oMod:=bO _ fun i j h=>by simpa [Vc] using h
theorem Mp{K:U0b}:G8 K (rI iz fun i j=>.int (i^j.toNat)) G5:=bO _ fun i j h=>by simpa [Oe,iz,and_assoc] using h
theorem Xk{K:U0b}:G8 K (rI0 fun i j=>.bl (decide (i<j))) oLt:=Ui _
theorem dN{K:U0b}:G8 K (rI0 fun i j=>.bl (decide (i<=j))) oLe:=Ui _
theorem JV{K:U0b}:G8 K (rI0 fun i j=>.bl (decide (j<i))) oGt:=Ui _
theorem Qn{K:U0b}:G8 K (rI0 fun i j=>.bl (decide (j<=i))) oGe:=Ui _
def El(_:Store):D->Option D
 |.int i=>some (.int (-i))
 |_=>none
theorem Jt{K:U0b}:sU K (rU fun i=>.int (-i)) El:=by
 intro Γ μ Z3 H env S x dx d hK R rx e Q q
 unfold El at e
 split at e
 .cases e;cases rx;exact⟨_,rfl,q _ H `br (.int _)⟩
 .cases e
def Bv(S:Store):D->D->Option D
 |.int i,.int j=>some (.int (i+j))
 |.tup a,.tup b=>if a.length+b.length<=1000000 then some (.tup (a++b)) else none
 |.str x,.str y=>if x.length+y.length<=1000000 then some (.str (x++y)) else none
 |x,y=>(listOf S x).bind fun a=>(listOf S y).bind fun b=>if a.length+b.length<=1000000 then some (.lst true (a++b)) else none
def lX:R2:=fun x y H Q=>∃(a b:Addr)(xs ys:List V),x=.ref a/\y=.ref b/\H a=some (.tup xs)/\H b=some (.tup ys)/\xs.length+ys.length<=sizeLine/\∀p H',Same H H'->H' p=some (.tup (xs++ys))->Q (.ref p) H'
def wN:R2:=fun x y H Q=>∃i j,x=.str i/\y=.str j/\i.length+j.length<=sizeLine/\Q (.str (i++j)) H
def lY:R2:=fun x y H Q=>(rI0 fun i j=>.int (i+j)) x y H Q∨lX x y H Q∨wN x y H Q∨sE x y H Q
theorem DK{X:Cx}:OpR X (binaryOp .Add) lY:=OpR.or uO (OpR.or pG (OpR.or cL uN))
theorem DG{K:U0b}:G8 K lY Bv:=by
 intro Γ μ Z3 H env S x y dx dy d hK R rx ry e Q q
 unfold Bv at e
 split at e
 .cases e;cases rx;cases ry;exact .inl ⟨_,_,rfl,rfl,q _ H `br (.int _)⟩
 .rename_i a b
  by_cases h:a.length+b.length<=1000000
  .rw[if_pos h] at e;cases e
   cases rx with
   |@tup p xs _ hp rp =>
    cases ry with
    |@tup p2 ys _ hp2 rp2 =>
     refine .inr (.inl ⟨p,p2,xs,ys,rfl,rfl,hp,hp2,by rw[rp.length,rp2.length];exact U2g (big h),fun t H' sm ht=>?_⟩)
     obtain⟨R2,x2⟩:=R.grow sm
     exact q _ H' sm (.tup ht ((rp.append rp2).ext x2))
  .rw[if_neg h] at e;cases e
 .rename_i a b
  by_cases h:a.length+b.length<=1000000
  .rw[if_pos h] at e;cases e;cases rx;cases ry
   exact .inr (.inr (.inl ⟨_,_,rfl,rfl,U2g (big h),q _ H `br (.str _)⟩))
  .rw[if_neg h] at e;cases e
 .obtain⟨a,e1,e⟩:=bind_some e
  obtain⟨b,e2,e⟩:=bind_some e
  by_cases h:a.length+b.length<=1000000
  .rw[if_pos h] at e;cases e
   obtain⟨p,xs,rfl,hp,rp⟩:=VR.list R rx e1
   obtain⟨p2,ys,rfl,hp2,rp2⟩:=VR.list R ry e2
   refine .inr (.inr (.inr ⟨p,p2,xs,ys,rfl,rfl,hp,hp2,by rw[rp.length,rp2.length];exact U2g (big h),fun t ht=>?_⟩))
   obtain⟨R2,x2⟩:=R.grow (Ci ht (.lst (xs++ys)))
   exact q _ _ (Ci ht _) (.lst (R.ok ht true) (R.dead ht) Bq ((rp.append rp2).ext x2))
  .rw[if_neg h] at e;cases e
def Gg(S:Store):D->D->Option D
 |.int i,.int j=>if M5 i j=true then some (.int (i*j)) else none
 |.tup a,.int k=>if a≠[]/\1<=k/\k<2^60/\a.length*k.toNat<=1000000 then some (.tup (U08 k.toNat a).flatten) else none
 |x,.int k=>(listOf S x).bind fun a=>if -(2^63)<=k/\k<2^63/\a.length*k.toNat<=1000000 then some (.lst true (U08 k.toNat a).flatten) else none
 |_,_=>none
def lW:R2:=fun x y H Q=>(rI Xh fun i j=>.int (i*j)) x y H Q∨lV x y H Q∨rT x y H Q
theorem Ip{X:Cx}:OpR X (binaryOp .Mult) lW:=OpR.or uK (OpR.or pC uI)
theorem Io{K:U0b}:G8 K lW Gg:=by
 intro Γ μ Z3 H env S x y dx dy d hK R rx ry e Q q
 unfold Gg at e
 split at e
 .rename_i i j
  by_cases h:M5 i j=true
  .rw[if_pos h] at e;cases e;cases rx;cases ry
   exact .inl ⟨_,_,rfl,rfl,by simpa [M5,Xh] using h,q _ H `br (.int _)⟩
  .rw[if_neg h] at e;cases e
 .rename_i a k
  by_cases h:a≠[]/\1<=k/\k<2^60/\a.length*k.toNat<=1000000
  .rw[if_pos h] at e;cases e
   cases ry
   cases rx with
   |@tup p xs _ hp rp =>
    have hl:=rp.length
    refine .inr (.inl ⟨p,k,xs,rfl,rfl,hp,fun z=>h.1 (U3q.mp (by rw[←hl,z];rfl)),h.2.1,h.2.2.1,by rw[hl];exact U2g (big h.2.2.2),fun t H' sm ht=>?_⟩)
    obtain⟨R2,x2⟩:=R.grow sm
    exact q _ H' sm (.tup ht ((rp.rep _).ext x2))
  .rw[if_neg h] at e;cases e
 .rename_i k _ _
  obtain⟨a,e1,e⟩:=bind_some e
  by_cases h:-(2^63)<=k/\k<2^63/\a.length*k.toNat<=1000000
  .rw[if_pos h] at e;cases e
   cases ry
   obtain⟨p,xs,rfl,hp,rp⟩:=VR.list R rx e1
   refine .inr (.inr ⟨p,k,xs,rfl,rfl,hp,h.1,h.2.1,by rw[rp.length];exact U2g (big h.2.2),fun t ht=>?_⟩)
   obtain⟨R2,x2⟩:=R.grow (Ci ht (.lst (U08 k.toNat xs).flatten))
   exact q _ _ (Ci ht _) (.lst (R.ok ht true) (R.dead ht) Bq ((rp.rep _).ext x2))
  .rw[if_neg h] at e;cases e
 .cases e
def oIx(S:Store):D->D->Option D
 |x,.int i=>(En S x).bind fun ds=>atI ds i
 |_,_=>none
theorem qW{Γ:Fr}{μ:Mu}{H:Hp}{xs:List V}{ds:List D}{i:Int}{d:D}(r:VRs Γ μ H xs ds)(h:atI ds i=some d):∃x,atI xs i=some x/\VR Γ μ H x d:=by
 unfold atI at h ⊢
 obtain⟨j,e1,e2⟩:=bind_some h
 obtain⟨x,f1,f2⟩:=r.get e2
 exact⟨x,by rw[r.length,e1];exact f1,f2⟩
theorem Aq{K:U0b}:G8 K (rIx K) oIx:=by
 intro Γ μ Z3 H env S x y dx dy d hK R rx ry e Q q
 unfold oIx at e
 split at e
 .rename_i i
  obtain⟨ds,e1,e⟩:=bind_some e
  cases ry
  obtain⟨a,xs,rfl,hq,rs⟩:=VR.seq hK R rx e1
  obtain⟨v,f1,f2⟩:=qW rs e
  rcases hq with hq|hq
  .exact .inl ⟨a,xs,i,v,rfl,rfl,hq,f1,q _ H `br f2⟩
  .exact .inr (.inl ⟨a,xs,i,v,rfl,rfl,hq,f1,q _ H `br f2⟩)
 .cases e
def cut(xs:List D)(lo hi:Option Int):List D:=(xs.drop (HT.sIx xs.length 0 lo)).take (HT.sIx xs.length xs.length hi-HT.sIx xs.length 0 lo)
def oSl(S:Store)(x:D)(lo hi:Option Int):Option D:=match x with
 |.tup ds=>some (.tup (cut ds lo hi))
 |x=>(En S x).map fun ds=>.lst true (cut ds lo hi)
def rQ:V->Option Int->Option Int->Hp->VK->Prop:=fun x lo hi H Q=>∃(a:Addr)(xs:List V),x=.ref a/\H a=some (.tup xs)/\∀p H',Same H H'->H' p=some (.tup (K5 xs lo hi))->Q (.ref p) H'
def rR(K:U0b):V->Option Int->Option Int->Hp->VK->Prop:=fun x lo hi H Q=>rQ x lo hi H Q∨rP K x lo hi H Q
theorem Ue{X:Cx}:SlR X (rR X.K):=SlR.or nQ nR
theorem Uh{K:U0b}:mQ K (rR K) oSl:=by
 intro Γ μ Z3 H env S x dx d l h hK R rx e Q q
 have key:∀{xs:List V} {ds:List D} {H':Hp},VRs Γ μ H' xs ds->VRs Γ μ H' (K5 xs l h) (cut ds l h):=fun r=>by
  unfold K5 cut
  rw[r.length]
  exact(r.drop _).take _
 unfold oSl at e
 split at e
 .cases e
  cases rx with
  |@tup p xs _ hp rp =>
   refine .inl ⟨p,xs,rfl,hp,fun t H' sm ht=>?_⟩
   obtain⟨R2,x2⟩:=R.grow sm
   exact q _ H' sm (.tup ht (key (rp.ext x2)))
 .rename_i ht
  obtain⟨ds,e1,e2⟩:=map_some e
  subst e2
  rcases VR.iJ hK R rx e1 with ⟨es,z⟩|⟨a,xs,rfl,hq,rs⟩
  .exact absurd z (ht es)
  .refine .inr ⟨a,xs,rfl,hq,fun t htt=>?_⟩
   obtain⟨R2,x2⟩:=R.grow (Ci htt (.lst (K5 xs l h)))
   exact q _ _ (Ci htt _) (.lst (R.ok htt true) (R.dead htt) Bq (key (rs.ext x2)))
def G6(S:Store):List D->Option D
 |[x]=>(En S x).map fun ds=>.int ds.length
 |_=>none
theorem Km{K:U0b}:NK K (yh K) G6:=by
 intro Γ μ Z3 H env S xs ds d hK R rs e Q q
 unfold G6 at e
 split at e
 .obtain⟨es,e1,e2⟩:=map_some e
  subst e2
  obtain⟨v,rfl,r⟩:=rs.one
  obtain⟨a,xs,rfl,hq,rx⟩:=VR.seq hK R r e1
  refine⟨a,xs,rfl,hq,?_⟩
  rw[rx.length]
  exact q _ H `br (.int _)
 .cases e
def Jo(S:Store):List D->Option D
 |[x]=>(listOf S x).bind fun ds=>(boolsOf ds).map fun bs=>.bl (bs.all id)
 |_=>none
where boolsOf:List D->Option (List Bool)
 |[]=>some []
 |.bl b::r=>(boolsOf r).map (b::·)
 |_=>none
@[simp] theorem Zn(bs:List Bool):Jo.boolsOf (bs.map D.bl)=some bs:=by
 induction bs with
 |nil=>rfl
 |cons b r ih=>rw[U0r,Jo.boolsOf,ih];rfl
theorem Sv{Γ:Fr}{μ:Mu}{H:Hp}:∀{xs:List V} {ds:List D} {bs:List Bool},VRs Γ μ H xs ds->Jo.boolsOf ds=some bs->xs=bs.map V.bl
 |_,[],_,.nil,h=>by cases h;rfl
 |_,.bl b::r,bs,.cons q t,h=>by
  rw[Jo.boolsOf] at h
  obtain⟨cs,e1,e2⟩:=map_some h
  subst e2
  cases q
  rw[U0r,Sv t e1]
 |_,.non::_,_,_,h=>by cases h
 |_,.int _::_,_,_,h=>by cases h
 |_,.str _::_,_,_,h=>by cases h
 |_,.ty _::_,_,_,h=>by cases h
 |_,.fn _ _::_,_,_,h=>by cases h
 |_,.lent _::_,_,_,h=>by cases h
 |_,.tup _::_,_,_,h=>by cases h
 |_,.lst _ _::_,_,_,h=>by cases h
 |_,.ref _::_,_,_,h=>by cases h
 |_,.scr _::_,_,_,h=>by cases h
 |_,.emp::_,_,_,h=>by cases h
def yq(K:U0b):List V->Hp->VK->Prop:=fun xs H Q=>∃(p:Addr)(bs:List Bool),xs=[.ref p]/\SqL K H p (bs.map V.bl)/\Q (.bl (bs.all id)) H
theorem Vj{K:U0b}:NK K (yq K) Jo:=by
 intro Γ μ Z3 H env S xs ds d hK R rs e Q q
 unfold Jo at e
 split at e
 .obtain⟨es,e1,e⟩:=bind_some e
  obtain⟨bs,e2,e3⟩:=map_some e
  subst e3
  obtain⟨v,rfl,r⟩:=rs.one
  obtain⟨a,xs,rfl,ha,rx⟩:=VR.list R r e1
  have:=Sv rx e2
  subst this
  exact⟨a,bs,rfl,SqL.of ha,q _ H `br (.bl _)⟩
 .cases e
def XQ(_:Store):List D->Option D
 |[.int i,.int j]=>some (.int (if j>i then j else i))
 |_=>none
def O2(_:Store):List D->Option D
 |[.int i,.int j]=>some (.int (if j<i then j else i))
 |_=>none
def Pz(_:Store):List D->Option D
 |[.int i]=>some (.int i)
 |[.bl k]=>some (.int (if k then 1 else 0))
 |_=>none
theorem jN{K:U0b}:NK K (fun xs H Q=>∃i j,xs=[.int i,.int j]/\Q (.int (if j>i then j else i)) H) XQ:=by
 intro Γ μ Z3 H env S xs ds d hK R rs e Q q
 unfold XQ at e
 split at e
 .cases e
  obtain⟨v,u,rfl,r1,r2⟩:=rs.two
  cases r1;cases r2
  exact⟨_,_,rfl,q _ H `br (.int _)⟩
 .cases e
theorem YH{K:U0b}:NK K (fun xs H Q=>∃i j,xs=[.int i,.int j]/\Q (.int (if j<i then j else i)) H) O2:=by
 intro Γ μ Z3 H env S xs ds d hK R rs e Q q
 unfold O2 at e
 split at e
 .cases e
  obtain⟨v,u,rfl,r1,r2⟩:=rs.two
  cases r1;cases r2
  exact⟨_,_,rfl,q _ H `br (.int _)⟩
 .cases e
theorem Zz{K:U0b}:NK K (fun xs H Q=>(∃i,xs=[.int i]/\Q (.int i) H)∨∃k,xs=[.bl k]/\Q (.int (if k then 1 else 0)) H) Pz:=by
 intro Γ μ Z3 H env S xs ds d hK R rs e Q q
 unfold Pz at e
 split at e
 .cases e
  obtain⟨v,rfl,r1⟩:=rs.one
  cases r1
  exact .inl ⟨_,rfl,q _ H `br (.int _)⟩
 .cases e
  obtain⟨v,rfl,r1⟩:=rs.one
  cases r1
  exact .inr ⟨_,rfl,q _ H `br (.int _)⟩
 .cases e
def Qh:List Int->Option Int
 |[]=>none
 |n::r=>some (r.foldl (fun a b=>if a<b then b else a) n)
def Od:List Int->Option Int
 |[]=>none
 |n::r=>some (r.foldl (fun a b=>if b<a then b else a) n)
theorem qK(r:List Int):∀n:Int,(r.foldl (fun a b=>if a<b then b else a) n=n∨r.foldl (fun a b=>if a<b then b else a) n∈r)/\n<=r.foldl (fun a b=>if a<b then b else a) n/\∀m∈r,m<=r.foldl (fun a b=>if a<b then b else a) n:=by
 induction r with
 |nil=>intro n;exact⟨.inl rfl,U1j _,fun m h=>by simp at h⟩
 |cons x r ih =>
  intro n
  rw[U2t]
  by_cases h:n<x
  .rw[if_pos h]
   obtain⟨h1,h2,h3⟩:=ih x
   refine⟨.inr (by rcases h1 with z|z;(rw[z];exact U0i);exact U0k _ z),by lia,fun m hm=>?_⟩
   rcases U0h.mp hm with z|z
   .rw[z];exact h2
   .exact h3 m z
  .rw[if_neg h]
   obtain⟨h1,h2,h3⟩:=ih n
   refine⟨by rcases h1 with z|z;exact .inl z;exact .inr (U0k _ z),h2,fun m hm=>?_⟩
   rcases U0h.mp hm with z|z
   .rw[z];lia
   .exact h3 m z
theorem qJ(r:List Int):∀n:Int,(r.foldl (fun a b=>if b<a then b else a) n=n∨r.foldl (fun a b=>if b<a then b else a) n∈r)/\r.foldl (fun a b=>if b<a then b else a) n<=n/\∀m∈r,r.foldl (fun a b=>if b<a then b else a) n<=m:=by
 induction r with
 |nil=>intro n;exact⟨.inl rfl,U1j _,fun m h=>by simp at h⟩
 |cons x r ih =>
  intro n
  rw[U2t]
  by_cases h:x<n
  .rw[if_pos h]
   obtain⟨h1,h2,h3⟩:=ih x
   refine⟨.inr (by rcases h1 with z|z;(rw[z];exact U0i);exact U0k _ z),by lia,fun m hm=>?_⟩
   rcases U0h.mp hm with z|z
   .rw[z];exact h2
   .exact h3 m z
  .rw[if_neg h]
   obtain⟨h1,h2,h3⟩:=ih n
   refine⟨by rcases h1 with z|z;exact .inl z;exact .inr (U0k _ z),h2,fun m hm=>?_⟩
   rcases U0h.mp hm with z|z
   .rw[z];lia
   .exact h3 m z
theorem Rn{ns:List Int}{m:Int}(h:Qh ns=some m):m∈ns/\∀n∈ns,n<=m:=by
 cases ns with
 |nil=>cases h
 |cons x r =>
  cases h
  obtain⟨h1,h2,h3⟩:=qK r x
  refine⟨by rcases h1 with z|z;(rw[z];exact U0i);exact U0k _ z,fun n hn=>?_⟩
  rcases U0h.mp hn with z|z
  .rw[z];exact h2
  .exact h3 n z
theorem Vn{ns:List Int}{m:Int}(h:Od ns=some m):m∈ns/\∀n∈ns,m<=n:=by
 cases ns with
 |nil=>cases h
 |cons x r =>
  cases h
  obtain⟨h1,h2,h3⟩:=qJ r x
  refine⟨by rcases h1 with z|z;(rw[z];exact U0i);exact U0k _ z,fun n hn=>?_⟩
  rcases U0h.mp hn with z|z
  .rw[z];exact h2
  .exact h3 n z
def Q6(S:Store):List D->Option D
 |[x]=>(listOf S x).bind fun ds=>(intsOf ds).bind fun ns=>(Od ns).map .int
 |_=>none
theorem jM{K:U0b}:NK K (fun xs H Q=>∃(p:Addr)(ns:List Int),xs=[.ref p]/\SqL K H p (ns.map V.int)/\ns≠[]/\∀m,m∈ns->(∀n∈ns,m<=n)->Q (.int m) H) Q6:=by
 intro Γ μ Z3 H env S xs ds d hK R rs e Q q
 unfold Q6 at e
 split at e
 .obtain⟨es,e1,e⟩:=bind_some e
  obtain⟨ns,e2,e⟩:=bind_some e
  obtain⟨m,e3,e4⟩:=map_some e
  subst e4
  obtain⟨v,rfl,r⟩:=rs.one
  obtain⟨a,xs,rfl,ha,rx⟩:=VR.list R r e1
  have:=FT e2
  subst this
  have:=rx.MK
  subst this
  refine⟨a,ns,rfl,SqL.of ha,(fun z=>by rw[z] at e3;cases e3),fun m' h1 h2=>?_⟩
  obtain⟨g1,g2⟩:=Vn e3
  have:m'=m:=Int.le_antisymm (h2 _ g1) (g2 _ h1)
  rw[this]
  exact q _ H `br (.int _)
 .cases e
def ig(K:U0b)(r:List V->Hp->VK->Prop)(g:Store->List D->Option (List D)):Prop:=∀(Γ:Fr)(μ:Mu)(Z3:St)(H:Hp)(env:Env)(S:Store)(xs:List V)(ds es:List D),Γ.K=K->Rep Γ μ Z3 H env S->VRs Γ μ H xs ds->g S ds=some es ->
 ∀Q:VK,(∀l ys,H l=none->VRs Γ μ H ys es->Q (.ref l) (upd H l (.lst ys)))->r xs H Q
def Ub(g:Store->List D->Option (List D))(a:Bl):BL:=fun env S=>(a env S).bind fun p=>(g p.2 p.1).map fun es=>(.lst true es,p.2)
theorem mZ{K:U0b}{r:List V->Hp->VK->Prop}{g:Store->List D->Option (List D)}{f:Bl}(hs:ig K r g){Z3:St}{H:Hp}{Q:VK}(h:wpE K (Ub g f) Z3 H Q):tCB r (wpA K f) Z3 H Q:=by
 obtain⟨Γ,μ,env,S,d,S',hK,R,e,q⟩:=h
 obtain⟨⟨x,S1⟩,e1,e⟩:=bind_some e
 obtain⟨z,e4,e⟩:=map_some e
 cases e
 refine⟨Γ,μ,env,S,x,S1,hK,R,e1,fun v1 μ1 H1 x1 R1 r1=>?_⟩
 refine hs Γ μ1 Z3 H1 env S1 v1 x _ hK R1 r1 e4 Q fun l ys hl ry=>?_
 obtain⟨R4,x4⟩:=R1.grow (Ci hl (.lst ys))
 exact q _ μ1 _ (x1.trans x4) R4 (.lst (R1.ok hl true) (R1.dead hl) Bq (ry.ext x4))
section
variable{X:Cx}{x:Str}{p pos:Pos}{e:Expr}{es:List Expr}{T:String}{f:Bl}{r:List V->Hp->VK->Prop}{g:Store->List D->Option (List D)}
theorem qC(hc:Df X (.type T) r)(hsm:ig X.K r g)(hg:Gl X x)(hm:X.mg x=none)(hv:bootBuiltins x=some (.type T))(ha:JA X (e::es) f)(hn:x≠"__name__":=by decide)(hdb:(x==("__debug__":Str))=false:=by decide)
  (he:starEach (e::es) X.env=`bt::starEach es X.env:=by rfl) (hpl:(`bu).any (·.1)=false:=by rfl):JE X (.Call (.Name x p) (e::es) [] pos) (Ub g f) :=
 ⟨PE.imp (Lw hc hg hm hv ha.pa hn hdb he hpl) fun _ _ _ h=>mZ hsm h⟩
end
def nList(S:Store):List D->Option (List D)
 |[x]=>En S x
 |_=>none
theorem jO{K:U0b}:ig K (o9 K) nList:=by
 intro Γ μ Z3 H env S xs ds es hK R rs e Q q
 unfold nList at e
 split at e
 .obtain⟨v,rfl,r⟩:=rs.one
  obtain⟨a,ys,rfl,hq,ry⟩:=VR.seq hK R r e
  exact⟨a,ys,rfl,hq,fun l hl=>q l ys hl ry⟩
 .cases e
end VS
end
section
namespace VS
open PySem PySem.Spec L2
mutual
def toP:D->Option PyData
 |.non=>some .none
 |.bl b=>some (.bool b)
 |.int i=>some (.int i)
 |.str x=>some (.str x)
 |.tup ds=>(Hv ds).map .tuple
 |.lst _ ds=>(Hv ds).map .list
 |.emp=>some (.dict [])
 |.ref _=>none
 |.scr _=>none
 |.ty _=>none
 |.fn _ _=>none
 |.dref _=>none
 |.dcf _=>none
 |.dcm _=>none
 |.lent _=>none
def Hv:List D->Option (List PyData)
 |[]=>some []
 |d::r=>(toP d).bind fun x=>(Hv r).bind fun xs=>some (x::xs)
end
mutual
theorem VR.tr{Γ:Fr}{μ:Mu}{H:Hp}{v:V}{d:D}{p:PyData}(r:VR Γ μ H v d)(h:toP d=some p):Tr (fun _=>True) H v p:=by
 cases r with
 |non=>rw[toP] at h;cases h;exact .non
 |bl b=>rw[toP] at h;cases h;exact .bl b
 |int i=>rw[toP] at h;cases h;exact .int i
 |str x=>rw[toP] at h;cases h;exact .str x
 |ty _=>rw[toP] at h;cases h
 |fn _ _=>rw[toP] at h;cases h
 |tup hb t =>
  rw[toP] at h
  obtain⟨ps,e1,e2⟩:=map_some h
  subst e2
  exact .tup trivial hb (VRs.tr t e1)
 |lst _ _ hb t =>
  rw[toP] at h
  obtain⟨ps,e1,e2⟩:=map_some h
  subst e2
  exact .lst trivial hb (VRs.tr t e1)
 |ref _ _=>rw[toP] at h;cases h
 |scrK _=>rw[toP] at h;cases h
 |scrR _ _=>rw[toP] at h;cases h
 |emp _ _ hb=>rw[toP] at h;cases h;exact .dct trivial hb
 |dref _ _=>rw[toP] at h;cases h
 |lent _ _ _=>rw[toP] at h;cases h
 |dcf _ _ _=>rw[toP] at h;cases h
theorem VRs.tr{Γ:Fr}{μ:Mu}{H:Hp}:∀{v:List V} {d:List D} {p:List PyData},VRs Γ μ H v d->Hv d=some p->KC (fun _=>True) H v p
 |_,_,_,.nil,h=>by rw[Hv] at h;cases h;exact .nil
 |_,_,_,.cons r t,h=>by
  rw[Hv] at h
  obtain⟨x,e1,h⟩:=bind_some h
  obtain⟨xs,e2,h⟩:=bind_some h
  cases h
  exact .cons (VR.tr r e1) (VRs.tr t e2)
end
def DN(S:Store)(d:D):Option PyData:=(den 0 S d).bind toP
theorem VR.see{Γ:Fr}{μ:Mu}{Z3:St}{H:Hp}{env:Env}{S:Store}{v:V}{d:D}{p:PyData}(R:Rep Γ μ Z3 H env S)(r:VR Γ μ H v d)(h:DN S d=some p):Tr (fun _=>True) H v p:=by
 obtain⟨e,e1,e2⟩:=bind_some h
 have r1:VR ⟨Γ.K,fun _=>none,fun _=>True,[]⟩ [] H v e:=VR.den (Γ':=⟨Γ.K,fun _=>none,fun _=>True,[]⟩) R rfl (fun i ds a _ hs=>⟨hs,fun z=>⟨Ig,⟨fun _=>rfl,.inl trivial⟩⟩⟩) (fun m a _ _=>⟨fun _=>rfl,.inl trivial⟩) (fun a o _ _=>Ig) r e1
 exact r1.tr e2
def eqP(neg:Bool)(S:Store)(x y:D):Option D:=(DN S x).bind fun p=>(DN S y).bind fun q=>if (U20 p&&U20 q)=true then some (.bl (neg ^^ U6s p q)) else none
def oEq(neg:Bool)(S:Store):D->D->Option D
 |.int i,.int j=>some (.bl (neg ^^ decide (i=j)))
 |x,y=>eqP neg S x y
def yp:R2:=fun x y H Q=>∃(N N':Addr->Prop)(d e:PyData),Tr N H x d/\Tr N' H y e/\U20 d=true/\U20 e=true/\Q (.bl (U6s d e)) H
def yg:R2:=fun x y H Q=>∃(N N':Addr->Prop)(d e:PyData),Tr N H x d/\Tr N' H y e/\U20 d=true/\U20 e=true/\Q (.bl (!PyData.eqv d e)) H
def rm:R2:=fun x y H Q=>rEq x y H Q∨yp x y H Q
def iK:R2:=fun x y H Q=>rNe x y H Q∨yg x y H Q
theorem JZ{X:Cx}{k:Nat}(hr:Eb k X.A):OpR X (compareOp .Eq) rm:=OpR.or wj (uM hr)
theorem KJ{X:Cx}{k:Nat}(hr:Eb k X.A):OpR X (compareOp .NotEq) iK:=OpR.or wg (uJ hr)
theorem JX{K:U0b}:G8 K rm (oEq false):=by
 intro Γ μ Z3 H env S x y dx dy d hK R rx ry e Q q
 unfold oEq at e
 split at e
 .rename_i i j
  cases e;cases rx;cases ry
  refine .inl ⟨rfl,?_⟩
  have:decide (V.int i=V.int j)=decide (i=j):=by simp
  rw[this]
  exact q _ H `br (by simpa using VR.bl (decide (i=j)))
 .unfold eqP at e
  obtain⟨p,e1,e⟩:=bind_some e
  obtain⟨p2,e2,e⟩:=bind_some e
  by_cases h:(U20 p&&U20 p2)=true
  .rw[if_pos h] at e
   cases e
   rw[U0v] at h
   exact .inr ⟨_,_,p,p2,rx.see R e1,ry.see R e2,h.1,h.2,q _ H `br (by simpa using VR.bl (U6s p p2))⟩
  .rw[if_neg h] at e;cases e
theorem Lj{K:U0b}:G8 K iK (oEq true):=by
 intro Γ μ Z3 H env S x y dx dy d hK R rx ry e Q q
 unfold oEq at e
 split at e
 .rename_i i j
  cases e;cases rx;cases ry
  refine .inl ⟨rfl,?_⟩
  have:decide (V.int i=V.int j)=decide (i=j):=by simp
  rw[this]
  exact q _ H `br (by simpa using VR.bl (!decide (i=j)))
 .unfold eqP at e
  obtain⟨p,e1,e⟩:=bind_some e
  obtain⟨p2,e2,e⟩:=bind_some e
  by_cases h:(U20 p&&U20 p2)=true
  .rw[if_pos h] at e
   cases e
   rw[U0v] at h
   exact .inr ⟨_,_,p,p2,rx.see R e1,ry.see R e2,h.1,h.2,q _ H `br (by simpa using VR.bl (!PyData.eqv p p2))⟩
  .rw[if_neg h] at e;cases e
section
variable{X:Cx}{a:Expr}{fa:BL}{x:Str}{p pos:Pos}{dM:Addr}{D:List (PyData×PyData)}
end
def isT(T:String)(d:PyData):Bool:=match T with
 |"str"=>(match d with|.str _=>true|_=>false)
 |T=>Xc T d
theorem pX{K:U0b}(d:PyData):U38 K (.type (tyName d)) (.type "str")=some (isT "str" d):=by
 cases d with
 |none=>exact CT (a:="NoneType") (r:=false) (by decide +kernel)
 |bool _=>exact CT (a:="bool") (r:=false) (by decide +kernel)
 |int _=>exact CT (a:="int") (r:=false) (by decide +kernel)
 |str _=>exact CT (a:="str") (r:=true) (by decide +kernel)
 |list _=>exact CT (a:="list") (r:=false) (by decide +kernel)
 |tuple _=>exact CT (a:="tuple") (r:=false) (by decide +kernel)
 |dict _=>exact CT (a:="dict") (r:=false) (by decide +kernel)
def JB(S:Store):List D->Option D
 |[x,.ty n]=>if n∈["int","bool","tuple","list","str"] then (DN S x).map fun p=>.bl (isT n p) else none
 |[x,.tup [.ty a,.ty b]]=>if a="tuple"/\b="list" then (DN S x).bind fun p=>if noDict p=true then some (.bl (isSeq p)) else none else none
 |_=>none
def yj(K:U0b):List V->Hp->VK->Prop:=fun xs H Q=>∃(x:V)(T:String)(t:Value)(b:Bool),xs=[x,.ty T]/\Jp K H x t/\U38 K t (.type T)=some b/\Q (.bl b) H
def wL:List V->Hp->VK->Prop:=fun xs H Q=>∃(N:Addr->Prop)(x:V)(d:PyData)(p:Addr),xs=[x,.ref p]/\H p=some (.tup [.ty "tuple",.ty "list"])/\Tr N H x d/\noDict d=true/\Q (.bl (isSeq d)) H
def bQ(K:U0b):List V->Hp->VK->Prop:=fun xs H Q=>yj K xs H Q∨wL xs H Q
theorem QL{X:Cx}:Df X (.builtin "isinstance") (bQ X.K):=Df.or Zm XC
theorem Rg{K:U0b}:NK K (bQ K) JB:=by
 intro Γ μ Z3 H env S xs ds d hK R rs e Q q
 have go:∀(T:String)(x:D),(∀p:PyData,U38 K (.type (tyName p)) (.type T)=some (isT T p))->ds=[x,.ty T]->((DN S x).map fun p=>D.bl (isT T p))=some d->bQ K xs H Q:=fun T x hk hd e'=>by
  subst hd
  obtain⟨p,e1,e2⟩:=map_some e'
  subst e2
  obtain⟨v,u,rfl,r1,r2⟩:=rs.two
  cases r2
  exact .inl ⟨v,T,_,_,rfl,(r1.see R e1).ty,hk p,q _ H `br (.bl _)⟩
 unfold JB at e
 split at e
 .rename_i x n
  split at e
  .rename_i hn
   simp only[U0h,U1z,or_false] at hn
   rcases hn with rfl|rfl|rfl|rfl|rfl
   .exact go "int" _ pY rfl e
   .exact go "bool" _ jt rfl e
   .exact go "tuple" _ kit_tuple rfl e
   .exact go "list" _ jr rfl e
   .exact go "str" _ pX rfl e
  .cases e
 .split at e
  .obtain⟨rfl,rfl⟩:=‹_/\_›
   obtain⟨p,e1,e⟩:=bind_some e
   by_cases h:noDict p=true
   .rw[if_pos h] at e
    cases e
    obtain⟨v,u,rfl,r1,r2⟩:=rs.two
    cases r2 with
    |@tup a ys _ ha ry =>
     cases ry with
     |cons q1 t1 =>
      cases t1 with
      |cons q2 t2 =>
       cases t2;cases q1;cases q2
       exact .inr ⟨_,v,p,a,rfl,ha,r1.see R e1,h,q _ H `br (.bl _)⟩
   .rw[if_neg h] at e;cases e
  .cases e
 .cases e
def K9(S:Store):List D->Option D
 |[x]=>(DN S x).bind fun p=>if (p.showable&&decide (p.depth<=60)&&decide (p.shown.length<=1000000))=true then some (.str p.shown) else none
 |_=>none
def wK:List V->Hp->VK->Prop:=fun xs H Q=>∃(N:Addr->Prop)(v:V)(d:PyData),xs=[v]/\Tr N H v d/\d.showable=true/\d.depth<=60/\d.shown.length<=sizeLine/\Q (.str d.shown) H
theorem YG{K:U0b}:NK K wK K9:=by
 intro Γ μ Z3 H env S xs ds d hK R rs e Q q
 unfold K9 at e
 split at e
 .obtain⟨p,e1,e⟩:=bind_some e
  by_cases h:(p.showable&&decide (p.depth<=60)&&decide (p.shown.length<=1000000))=true
  .rw[if_pos h] at e
   cases e
   simp only[U0v,decide_eq_true_eq] at h
   obtain⟨v,rfl,r1⟩:=rs.one
   exact⟨_,v,p,rfl,r1.see R e1,h.1.1,h.1.2,U2g (big h.2),q _ H `br (.str _)⟩
  .rw[if_neg h] at e;cases e
 .cases e
def Cz(ns:List Int):List Int:=(SetP.once ns).mergeSort fun a b=>decide (a<=b)
theorem V1{ns ms:List Int}(h:ms.Perm (SetP.once ns))(s:ms.Pairwise (·<=·)):ms=Cz ns:=by
 have h2:(Cz ns).Perm (SetP.once ns):=U3x _ _
 have s2:(Cz ns).Pairwise (·<=·):=by
  have:=List.pairwise_mergeSort (le:=fun a b:Int=>decide (a<=b)) (by intro a b c h1 h2;simp at *;lia) (by intro a b;simp;lia) (SetP.once ns)
  exact this.imp fun h=>by simpa using h
 exact U17.eq_of_pairwise (fun a b _ _ h1 h2=>Int.le_antisymm h1 h2) s s2 (h.trans h2.symm)
def QJ(a:BL):BL:=fun env S=>(a env S).bind fun p=>(listOf p.2 p.1).bind fun ds=>(intsOf ds).bind fun ns=>if ns.length<1000/\(SetP.once ns).length<64 then some (.lst true ((Cz ns).map .int),p.2) else none
theorem cW{X:Cx}{a:Expr}{f:BL}{p p2 pos pos2:Pos}(hc:X.calm=true)(ha:JE X a f)(hg:Gl X "sorted")(hm:X.mg "sorted"=none)(hg2:Gl X "set")(hm2:X.mg "set"=none)
  (he:starEach [a] X.env=[(false,eval a X.env)]:=by rfl) (he2:starEach [.Call (.Name "set" p2) [a] [] pos2] X.env=[(false,eval (.Call (.Name "set" p2) [a] [] pos2) X.env)]:=by rfl):JE X (.Call (.Name "sorted" p) [.Call (.Name "set" p2) [a] [] pos2] [] pos) (QJ f) :=
 ⟨PE.imp (Ng (W5 hc) hg hm OD (Jv (Lw (Ys hc) hg2 hm2 Xw (Jv ha.pe Lp he) (he:=he) (hpl:=rfl)) Lp he2) (he:=he2) (hpl:=rfl)) fun Z3 H Q h=>by
  obtain⟨Γ,μ,env,S,d,S',hK,R,e,q⟩:=h
  obtain⟨⟨y,S1⟩,e1,e⟩:=bind_some e
  obtain⟨ds,e2,e⟩:=bind_some e
  obtain⟨ns,e3,e⟩:=bind_some e
  by_cases hl:ns.length<1000/\(SetP.once ns).length<64
  .rw[if_pos hl] at e
   cases e
   refine⟨Γ,μ,env,S,y,_,hK,R,e1,fun v1 μ1 H1 x1 R1 r1=>?_⟩
   obtain⟨b,xs,rfl,hb,rb⟩:=VR.list R1 r1 e2
   have:=FT e3
   subst this
   have:=rb.MK
   subst this
   refine⟨b,ns,rfl,SqL.of hb,(by have:=hl.2;lia),fun s hs=>?_⟩
   obtain⟨R2,x2⟩:=R1.grow (Ci hs (Qg X.prog X.w s (SetP.once ns)))
   refine⟨s,_,rfl,Bq,hl.2,fun l ms hl' hp hsrt=>?_⟩
   have:=V1 hp hsrt
   subst this
   obtain⟨R3,x3⟩:=R2.grow (Ci hl' (.lst ((Cz ns).map V.int)))
   exact q _ μ1 _ (x1.trans (x2.trans x3)) R3 (.lst (R2.ok hl' true) (R2.dead hl') Bq (VRs.ints _))
  .rw[if_neg hl] at e;cases e⟩
def cZ(a:Bl):BL:=fun env S=>(a env S).bind fun p=>match p.1 with
 |[.int j]=>if r62 j/\j.toNat<=1000 then some (.lst true (upD 0 j.toNat),p.2) else none
 |[.int i,.int j]=>if r62 i/\r62 j/\(j-i).toNat<=1000 then some (.lst true (upD i (j-i).toNat),p.2) else none
 |_=>none
section
variable{X:Cx}{a:Expr}{as:List Expr}{f:Bl}{p p2 pos pos2:Pos}
end
end VS
end
section
namespace VS
open PySem PySem.Spec L2
def Ud(K:U0b):Sp:=fun vs H Q _=>∃(l:Addr)(ns:List Int),vs=[.ref l]/\Only H/\ns.length<=63/\SqL K H l (ns.map V.int)/\∀H',Q (.bl true) H'
theorem uX{K:U0b}{sem:DX}(h:∀ns:List Int,ns.length<=63->sem [.scr ns]=some (.bl true)):∀vs H Q E,Ud K vs H Q E->spP K sem 1 vs H Q E:=by
 intro vs H Q E ⟨l,ns,e,hO,hl,hq,q⟩
 subst e
 refine⟨fun _=>False,[.scr ns],.bl true,rfl,.cons ?_ .nil,h ns hl,fun v H' sm rv=>?_⟩
 .rcases hq with hq|hq
  .rcases hq with hq|⟨o,hq⟩
   .rcases hO l with z|⟨o,xs,z⟩
    .rw[z] at hq;cases hq
    .rw[z] at hq;cases hq
   .exact .scrR Ig hq
  .exact .scrK fun H'=>.inr hq
 .cases rv;exact q H'
theorem qL{P:Program}{w:World}{K:U0b}{mg:Str->Option Value}{base:Heap}{k:Nat}{f:Addr}{fd:FuncData}{ps:List Str}{n:Nat}(hn:n=ps.length):DY P w K mg base CX0 k f fd ps (spP K (fun _=>none) n) :=
 ⟨fun vs H Q E ⟨_,_,_,hl,_⟩=>hl.trans hn,fun A outer s H args us vs Q E hr e0 hb hv ⟨_,_,_,_,_,e,_⟩=>by cases e⟩
end VS
end
section
namespace VS
open PySem L2
theorem Fx(a b:Bb)(env:VS.Env)(S:Store):VS.Bk a b env S=(a env S).bind fun p=>match p.1 with|.nx=>b p.2.1 p.2.2|f=>some (f,p.2.1,p.2.2):=rfl
theorem CP(i:Nat)(a:BL)(env:VS.Env)(S:Store):VS.BZ i a env S=(a env S).bind fun p=>some (.nx,env.set i (some p.1),p.2):=rfl
theorem Dk(a:BL)(env:VS.Env)(S:Store):VS.Di a env S=(a env S).bind fun p=>some (.ret p.1,env,p.2):=rfl
theorem Ox(c:Em)(a b:Bb)(env:VS.Env)(S:Store):VS.sIf c a b env S=(c env S).bind fun p=>if p.1=true then a env p.2 else b env p.2:=rfl
theorem o7(a:BL)(g:NP)(env:VS.Env)(S:Store):VS.bH a g env S=(a env S).bind fun p=>(g p.1 env).bind fun e=>some (.nx,e,p.2):=rfl
theorem Ko(a:BL)(env:VS.Env)(S:Store):VS.Gv a env S=(a env S).bind fun p=>some (.nx,env,p.2):=rfl
theorem PX(env:VS.Env)(S:Store):VS.Ez  env S=some (.nx,env,S):=rfl
theorem GP(it:Kg)(g:NP)(b:Bb)(env:VS.Env)(S:Store):VS.Kf it g b env S=(it env S).bind fun p=>loop p.1.2 g b p.1.1 env p.2:=rfl
theorem RD(v o i:BL)(env:VS.Env)(S:Store):VS.Uj v o i env S=(v env S).bind fun p=>(o env p.2).bind fun q=>(i env q.2).bind fun r=>match q.1,r.1 with
 |.ref j,.int k=>(match r.2[j]? with
  |some (some ds)=>(ixN ds.length k).bind fun n=>some (.nx,env,r.2.set j (some (ds.set n p.1)))
  |_=>none)
 |_,_=>none:=rfl
theorem EY(i:Nat)(env:VS.Env)(S:Store):VS.Ab i env S=(env[i]?.join).map fun d=>(d,S):=rfl
theorem Jf(d:D)(env:VS.Env)(S:Store):VS.eC d env S=some (d,S):=rfl
theorem Ba(g:Store->D->D->Option D)(a b:BL)(env:VS.Env)(S:Store):VS.eOp g a b env S=(a env S).bind fun p=>(b env p.2).bind fun q=>(g q.2 p.1 q.1).map fun d=>(d,q.2):=rfl
theorem vB(g:Store->D->Option D)(a:BL)(env:VS.Env)(S:Store):VS.eUn g a env S=(a env S).bind fun p=>(g p.2 p.1).map fun d=>(d,p.2):=rfl
theorem Ei(env:VS.Env)(S:Store):VS.Af  env S=some ([],S):=rfl
theorem BX(a:BL)(r:Bl)(env:VS.Env)(S:Store):VS.Aa a r env S=(a env S).bind fun p=>(r env p.2).bind fun q=>some (p.1::q.1,q.2):=rfl
theorem GC(g:Store->List D->Option D)(a:Bl)(env:VS.Env)(S:Store):VS.eCB g a env S=(a env S).bind fun p=>(g p.2 p.1).map fun d=>(d,p.2):=rfl
theorem Mz(a b:BL)(env:VS.Env)(S:Store):VS.Py a b env S=(a env S).bind fun p=>match p.1 with|.bl true=>b env p.2|.bl false=>some (.bl false,p.2)|_=>none:=rfl
theorem qO(a:BL)(env:VS.Env)(S:Store):VS.iW a env S=(a env S).bind fun p=>match p.1 with|.bl c=>some (.bl (!c),p.2)|_=>none:=rfl
theorem Cd(a:BL)(env:VS.Env)(S:Store):VS.BR a env S=(a env S).bind fun p=>match p.1 with|.bl c=>some (c,p.2)|_=>none:=rfl
theorem Im(a b:Em)(env:VS.Env)(S:Store):VS.K3 a b env S=(a env S).bind fun p=>if p.1=true then b env p.2 else some (false,p.2):=rfl
theorem KH(a b:Em)(env:VS.Env)(S:Store):VS.tOr a b env S=(a env S).bind fun p=>if p.1=true then some (true,p.2) else b env p.2:=rfl
theorem Kh(a:Em)(env:VS.Env)(S:Store):VS.Hy a env S=(a env S).bind fun p=>some (!p.1,p.2):=rfl
theorem vC(g:Store->D->Option Int->Option Int->Option D)(a:BL)(l h:T6)(env:VS.Env)(S:Store):VS.eSl g a l h env S=(a env S).bind fun p=>(l env p.2).bind fun q=>(h env q.2).bind fun r=>(g r.2 p.1 q.1 r.1).map fun d=>(d,r.2):=rfl
theorem Ck(a:Bl)(env:VS.Env)(S:Store):VS.Az a env S=(a env S).bind fun p=>some (.lst true p.1,p.2):=rfl
theorem qN(a:Bl)(env:VS.Env)(S:Store):VS.Jm a env S=(a env S).bind fun p=>some (.ref p.2.length,p.2++[some p.1]):=rfl
theorem Kv(a:Bl)(env:VS.Env)(S:Store):VS.Bo a env S=(a env S).bind fun p=>some (.tup p.1,p.2):=rfl
theorem Lz(sem:DX)(a:Bl)(env:VS.Env)(S:Store):VS.Bd sem a env S=(a env S).bind fun p=>(DW 0 p.2 p.1).bind fun ds=>(sem (Cu ds)).bind fun r=>if (Bm p.1||newD r)=true then some (r,p.2) else none:=rfl
theorem RN(sem:M6)(a:Bl)(env:VS.Env)(S:Store):VS.BK sem a env S=(a env S).bind fun p=>match p.1 with
 |.ref i::rest=>(match p.2[i]? with
  |some (some cs)=>(intsOf cs).bind fun ns=>(DW 0 (p.2.set i none) rest).bind fun ds=>(sem ns (Cu ds)).bind fun r=>if (Bm rest||newD r.1)=true then some (r.1,p.2.set i (some (r.2.map D.int))) else none
  |_=>none)
 |_=>none:=rfl
theorem gU(sem:DX)(a:Bl)(env:VS.Env)(S:Store):VS.IW sem a env S=(Bd sem a env S).bind fun p=>(Pu p.2.length p.1).bind fun q=>some (q.1,p.2++[some q.2]):=rfl
theorem Yp(g:Store->D->List D->Option (D×Store))(o:BL)(a:Bl)(env:VS.Env)(S:Store):VS.Fv g o a env S=(o env S).bind fun p=>if (listOf p.2 p.1).isSome then (a env p.2).bind fun q=>g q.2 p.1 q.1 else none:=rfl
theorem kj(g:Store->List D->Option (List D))(a:Bl)(env:VS.Env)(S:Store):VS.Ub g a env S=(a env S).bind fun p=>(g p.2 p.1).map fun es=>(.lst true es,p.2):=rfl
theorem rE(a:Bl)(env:VS.Env)(S:Store):VS.cZ a env S=(a env S).bind fun p=>match p.1 with
 |[.int j]=>if r62 j/\j.toNat<=1000 then some (.lst true (upD 0 j.toNat),p.2) else none
 |[.int i,.int j]=>if r62 i/\r62 j/\(j-i).toNat<=1000 then some (.lst true (upD i (j-i).toNat),p.2) else none
 |_=>none:=rfl
theorem Zk(a:BL)(env:VS.Env)(S:Store):VS.QJ a env S=(a env S).bind fun p=>(listOf p.2 p.1).bind fun ds=>(intsOf ds).bind fun ns=>if ns.length<1000/\(SetP.once ns).length<64 then some (.lst true ((Cz ns).map .int),p.2) else none:=rfl
theorem Mw(a:BL)(env:VS.Env)(S:Store):VS.DP a env S=(a env S).bind fun p=>(En p.2 p.1).map fun ds=>((ds,idOf ds p.1),p.2):=rfl
theorem kI(a:Bl)(env:VS.Env)(S:Store):VS.UW a env S=(a env S).bind fun p=>match p.1 with
 |[.tup xs,.tup ys]=>some ((Fz xs ys,[]),p.2)
 |[x,.tup ys]=>(VS.listOf p.2 x).bind fun xs=>some ((Fz xs ys,VS.idOf xs x),p.2)
 |[x,y]=>(listOf p.2 x).bind fun xs=>(listOf p.2 y).bind fun ys=>some ((Fz xs ys,idOf xs x++idOf ys y),p.2)
 |_=>none:=rfl
theorem gM(a:Bl)(env:VS.Env)(S:Store):VS.Ut a env S=(a env S).bind fun p=>match p.1 with
 |[x]=>(listOf p.2 x).bind fun xs=>some ((Je 0 xs,idOf xs x),p.2)
 |_=>none:=rfl
theorem Eh(np n:Nat)(f:Bb)(ds:List D):VS.Gf np n f ds=if ds.length=np then (f (ds.map some++U08 (n-ds.length) none) []).bind fun p=>match p.1 with|.ret d=>den 0 p.2.2 d|.nx=>some .non|_=>none else none:=rfl
theorem Kp(np n:Nat)(f:Bb)(ns:List Int)(ds:List D):VS.runM np n f ns ds=if ds.length+1=np then (f (some `av::(ds.map some++U08 (n-1-ds.length) none)) [some (ns.map D.int)]).bind fun p=>match p.2.2[0]? with
 |some (some cs)=>(intsOf cs).bind fun ms=>(match p.1 with|.ret d=>(den 1 p.2.2 d).map fun r=>(r,ms)|.nx=>some (.non,ms)|_=>none)
 |_=>none
 else none:=rfl
theorem Dc(i:Nat)(d:D)(env:VS.Env):Pat.sem (.nm i) d env=some (env.set i (some d)):=by rw[Pat.sem]
theorem Ul(ps:List Pat)(ds:List D)(env:VS.Env):Pat.sem (.tp ps) (.tup ds) env=HN ps ds env:=by rw[Pat.sem]
theorem Q9(env:VS.Env):HN [] [] env=some env:=by rw[HN]
theorem O6(p:Pat)(ps:List Pat)(d:D)(ds:List D)(env:VS.Env):HN (p::ps) (d::ds) env=(Pat.sem p d env).bind fun e=>HN ps ds e:=by rw[HN]
@[simp] theorem zR(S:Store):calm [] S=True:=by simp[calm]
@[simp] theorem zQ(i:Nat)(ds:List D)(S:Store):calm [(i,ds)] S=(S[i]?=some (some ds)):=by simp[calm]
@[simp] theorem zm{Zs:Type}(S:List Zs)(a:Zs):(S++[a])[S.length]?=some a:=by simp
@[simp] theorem zZ{Zs:Type}(S:List Zs)(a b:Zs):(S++[a]).set S.length b=S++[b]:=by simp
theorem Rw{n k:Nat}(h:k<n):ixN n (k:Int)=some k:=by
 unfold ixN
 rw[if_pos (by lia),if_pos (by lia)];simp
@[simp] theorem xV{n:Nat}:ixN (n+1) 0=some 0:=Rw (k:=0) (by lia)
@[simp] theorem xU{n:Nat}:ixN (n+2) 1=some 1:=Rw (k:=1) (by lia)
@[simp] theorem xT{n:Nat}:ixN (n+3) 2=some 2:=Rw (k:=2) (by lia)
@[simp] theorem xR{n:Nat}:ixN (n+4) 3=some 3:=Rw (k:=3) (by lia)
@[simp] theorem xq{Zs:Type}(a:Zs)(l:List Zs):atI (a::l) 0=some a:=by unfold atI;rw[U0f,xV];rfl
@[simp] theorem zy{Zs:Type}(a b:Zs)(l:List Zs):atI (a::b::l) 1=some b:=by unfold atI;rw[U0f,U0f,xU];rfl
@[simp] theorem zx{Zs:Type}(a b c:Zs)(l:List Zs):atI (a::b::c::l) 2=some c:=by unfold atI;rw[U0f,U0f,U0f,xT];rfl
@[simp] theorem zu{Zs:Type}(a b c d:Zs)(l:List Zs):atI (a::b::c::d::l) 3=some d:=by unfold atI;rw[U0f,U0f,U0f,U0f,xR];rfl
theorem aM{w:List (Nat×List D)}{g:NP}{b:Bb}(I:Nat->Env->Store->Prop)(R:D->Store->Prop){ds:List D}{env:Env}{S:Store}(h0:I 0 env S)(hc:∀i env S,I i env S->calm w S)
  (step:∀i d env S,ds[i]?=some d->I i env S->∃env1,g d env=some env1/\((∃env2 S2,(b env1 S=some (.nx,env2,S2)∨b env1 S=some (.cnt,env2,S2))/\I (i+1) env2 S2)∨∃r env2 S2,b env1 S=some (.ret r,env2,S2)/\R r S2)) :
  (∃env' S',loop w g b ds env S=some (.nx,env',S')/\I ds.length env' S')∨∃r env' S',loop w g b ds env S=some (.ret r,env',S')/\R r S':=by
 have key:∀(l:List D)(i:Nat)(env:Env)(S:Store),ds.drop i=l->i<=ds.length->I i env S->(∃env' S',loop w g b l env S=some (.nx,env',S')/\I ds.length env' S')∨∃r env' S',loop w g b l env S=some (.ret r,env',S')/\R r S':=by
  intro l
  induction l with
  |nil =>
   intro i env S hd hi h
   have:i=ds.length:=by
    have:=congrArg U3n hd
    simp at this;lia
   subst this
   exact .inl ⟨env,S,by unfold loop;rw[if_pos (hc _ _ _ h)],h⟩
  |cons d r ih =>
   intro i env S hd hi h
   have hlt:i<ds.length:=by
    have:=congrArg U3n hd
    simp at this;lia
   have e:ds[i]?=some d:=by
    rw[U3z hlt] at hd
    rw[U0w hlt,(List.cons.inj hd).1]
   have hr:ds.drop (i+1)=r:=by
    rw[U3z hlt] at hd
    exact(List.cons.inj hd).2
   obtain⟨env1,e1,q⟩:=step i d env S e h
   rcases q with ⟨env2,S2,e2,q⟩|⟨v,env2,S2,e2,q⟩
   .have e3:loop w g b (d::r) env S=loop w g b r env2 S2:=by
     rcases e2 with e2|e2<;>(rw[loop,if_pos (hc _ _ _ h),e1];show(b env1 S).bind _=_;rw[e2];rfl)
    rw[e3]
    exact ih (i+1) env2 S2 hr hlt q
   .refine .inr ⟨v,env2,S2,?_,q⟩
    rw[loop,if_pos (hc _ _ _ h),e1]
    show(b env1 S).bind _=_
    rw[e2];rfl
 exact key ds 0 env S (by simp) (U25 _) h0
theorem Gi{w:List (Nat×List D)}{g:NP}{b:Bb}(I:Nat->Env->Store->Prop){ds:List D}{env:Env}{S:Store}(h0:I 0 env S)(hc:∀i env S,I i env S->calm w S)
  (step:∀i d env S,ds[i]?=some d->I i env S->∃env1,g d env=some env1/\∃env2 S2,b env1 S=some (.nx,env2,S2)/\I (i+1) env2 S2) :
  ∃env' S',loop w g b ds env S=some (.nx,env',S')/\I ds.length env' S':=by
 rcases aM I (fun _ _=>False) h0 hc (fun i d env S e h=>by
  obtain⟨env1,e1,env2,S2,e2,q⟩:=step i d env S e h
  exact⟨env1,e1,.inl ⟨env2,S2,.inl e2,q⟩⟩) with h|⟨_,_,_,_,h⟩
 .exact h
 .exact h.elim
theorem Iv{Zs:Type}{w:List (Nat×List D)}{e0:VS.Env}{g:NP}{t:Em}{f:BL}{S:Store}(hc:calm w S)(enc:Zs->D)(p:Zs->Bool)(F:Zs->D):∀(l:List Zs)(ys:List D),ys.length+l.length<=1000000 ->
  (∀a∈l,∃e1,g (enc a) e0=some e1/\t e1 S=some (p a,S)/\(p a=true->f e1 S=some (F a,S)))->La w e0 g t f (l.map enc) ys S=some (ys++(l.filter p).map F,S)
 |[],ys,hl,_=>by rw[U2a,La,if_pos ⟨hc,by simpa using hl⟩];simp
 |d::r,ys,hl,h=>by
  rw[U0f] at hl
  obtain⟨e1,h1,h2,h3⟩:=h d U0i
  have hr:∀x∈r,_:=fun x hx=>h x (U0k _ hx)
  rw[U0r,La,if_pos ⟨hc,by lia⟩,h1]
  simp only[U0a,h2]
  by_cases hp:p d=true
  .simp only[hp,if_true,h3 hp,U0a]
   rw[Iv hc enc p F r (ys++[F d]) (by rw[U0p];simp;lia) hr,List.filter_cons_of_pos hp]
   simp
  .rw[if_neg hp,List.filter_cons_of_neg hp]
   exact Iv hc enc p F r ys (by lia) hr
theorem Iu{Zs:Type}{w:List (Nat×List D)}{e0:VS.Env}{g:NP}{f:BL}{S:Store}(hc:calm w S)(enc F:Zs->D)(l:List Zs)(hl:l.length<=1000000)(h:∀a∈l,∃e1,g (enc a) e0=some e1/\f e1 S=some (F a,S)):La w e0 g VS.J7 f (l.map enc) [] S=some (l.map F,S):=by
 have:=Iv (t:=VS.J7) hc enc (fun _=>true) F l [] (by simpa using hl) (fun d hd=>let ⟨e1,h1,h2⟩:=h d hd;⟨e1,h1,rfl,fun _=>h2⟩)
 rw[this,U1v,List.filter_eq_self.mpr (by simp)]
theorem Ve(lo:Int)(n:Nat):(upD lo n).length=n:=by unfold upD;rw[U0d,U5z]
theorem Vf{lo:Int}{n i:Nat}{d:D}(h:(upD lo n)[i]?=some d):i<n/\d=.int (lo+i):=by
 have hi:i<n:=by rw[←Ve lo n];exact(U0j.mp h).1
 unfold upD at h
 rw[U07,U6e hi] at h
 cases h
 exact⟨hi,rfl⟩
theorem fZ{j:Int}(h0:-1000000<=j)(h1:j<=1000000):r62 j:=⟨U8p (by decide) h0,Int.lt_of_le_of_lt h1 (by decide)⟩
theorem Uk{f:Bl}{env:VS.Env}{S S':Store}{j:Int}(n:Nat)(hf:f env S=some ([.int j],S'))(hn:j.toNat=n)(h0:-1000000<=j)(h1:j<=1000000):Gx f env S=some ((upD 0 n,[]),S'):=by
 unfold Gx
 rw[hf,U0a]
 show(if r62 j then some ((upD 0 j.toNat,([]:List (Nat×List D))),S') else none)=_
 rw[if_pos (fZ h0 h1),hn]
theorem Ij{Zs:Type}{F:Zs->D}(l:List Zs)(h:∀a∈l,Bs (F a)=true):Dn (l.map F)=true:=by
 induction l with
 |nil=>rfl
 |cons a r ih=>rw[U0r,Dn,h a U0i,ih fun b hb=>h b (U0k _ hb)];rfl
theorem jE{Zs:Type}{F:Zs->D}{G:Zs->PyData}(l:List Zs)(h:∀a∈l,toP (F a)=some (G a)):Hv (l.map F)=some (l.map G):=by
 induction l with
 |nil=>rw[U2a,Hv];rfl
 |cons a r ih=>rw[U0r,Hv,h a U0i,ih fun b hb=>h b (U0k _ hb)];rfl
abbrev St2:=Int×Int
def Ah(p:St2):D:=.tup [.int p.1,.int p.2]
def Gw(b:List St2):D:=.tup (b.map Ah)
def Qi(m:Bool)(n:Nat)(bs:List (List St2)):D:=.tup [.int n,.lst m (bs.map Gw)]
@[simp] theorem Ga(p:St2):Bs (Ah p)=true:=rfl
@[simp] theorem Jz(b:List St2):Bs (Gw b)=true:=by rw[Gw,Bs];exact Ij b fun p _=>Ga p
theorem Ge(bs:List (List St2)):Dn (bs.map Gw)=true:=Ij bs fun b _=>Jz b
def pS(p:St2):PyData:=.tuple [.int p.1,.int p.2]
def pB(b:List St2):PyData:=.tuple (b.map pS)
theorem T9(p:St2):toP (Ah p)=some (pS p):=by simp[Ah,toP,Hv,pS]
theorem jD(b:List St2):toP (Gw b)=some (pB b):=by rw[Gw,toP,jE b fun p _=>T9 p];rfl
@[simp] theorem zV(S:Store)(x:D):JB S [x,.ty "int"]=(DN S x).map fun p=>.bl (isT "int" p):=rfl
@[simp] theorem vU:isT "int" (.none)=false:=rfl
@[simp] theorem vX(b:Bool):isT "int" (.bool b)=true:=rfl
@[simp] theorem vm(i:Int):isT "int" (.int i)=true:=rfl
@[simp] theorem vh(s:Str):isT "int" (.str s)=false:=rfl
@[simp] theorem vV(l:List PyData):isT "int" (.list l)=false:=rfl
@[simp] theorem qy(l:List PyData):isT "int" (.tuple l)=false:=rfl
@[simp] theorem vW(l:List (PyData×PyData)):isT "int" (.dict l)=false:=rfl
@[simp] theorem yN(S:Store)(x:D):JB S [x,.ty "bool"]=(DN S x).map fun p=>.bl (isT "bool" p):=rfl
@[simp] theorem qz:isT "bool" (.none)=false:=rfl
@[simp] theorem rD(b:Bool):isT "bool" (.bool b)=true:=rfl
@[simp] theorem vZ(i:Int):isT "bool" (.int i)=false:=rfl
@[simp] theorem vY(s:Str):isT "bool" (.str s)=false:=rfl
@[simp] theorem rB(l:List PyData):isT "bool" (.list l)=false:=rfl
@[simp] theorem qg(l:List PyData):isT "bool" (.tuple l)=false:=rfl
@[simp] theorem rC(l:List (PyData×PyData)):isT "bool" (.dict l)=false:=rfl
@[simp] theorem dD(S:Store)(x:D):JB S [x,.ty "tuple"]=(DN S x).map fun p=>.bl (isT "tuple" p):=rfl
@[simp] theorem qY:isT "tuple" (.none)=false:=rfl
@[simp] theorem qd(b:Bool):isT "tuple" (.bool b)=false:=rfl
@[simp] theorem qm(i:Int):isT "tuple" (.int i)=false:=rfl
@[simp] theorem qj(s:Str):isT "tuple" (.str s)=false:=rfl
@[simp] theorem qZ(l:List PyData):isT "tuple" (.list l)=false:=rfl
@[simp] theorem mR(l:List PyData):isT "tuple" (.tuple l)=true:=rfl
@[simp] theorem qb(l:List (PyData×PyData)):isT "tuple" (.dict l)=false:=rfl
@[simp] theorem iG(S:Store)(x:D):JB S [x,.ty "list"]=(DN S x).map fun p=>.bl (isT "list" p):=rfl
@[simp] theorem qt:isT "list" (.none)=false:=rfl
@[simp] theorem qx(b:Bool):isT "list" (.bool b)=false:=rfl
@[simp] theorem vR(i:Int):isT "list" (.int i)=false:=rfl
@[simp] theorem vQ(s:Str):isT "list" (.str s)=false:=rfl
@[simp] theorem qu(l:List PyData):isT "list" (.list l)=true:=rfl
@[simp] theorem qe(l:List PyData):isT "list" (.tuple l)=false:=rfl
@[simp] theorem qw(l:List (PyData×PyData)):isT "list" (.dict l)=false:=rfl
@[simp] theorem zT(S:Store)(x:D):JB S [x,.ty "str"]=(DN S x).map fun p=>.bl (isT "str" p):=rfl
@[simp] theorem vM:isT "str" (.none)=false:=rfl
@[simp] theorem vP(b:Bool):isT "str" (.bool b)=false:=rfl
@[simp] theorem vg(i:Int):isT "str" (.int i)=false:=rfl
@[simp] theorem vf(s:Str):isT "str" (.str s)=true:=rfl
@[simp] theorem vN(l:List PyData):isT "str" (.list l)=false:=rfl
@[simp] theorem qp(l:List PyData):isT "str" (.tuple l)=false:=rfl
@[simp] theorem vO(l:List (PyData×PyData)):isT "str" (.dict l)=false:=rfl
@[simp] theorem zU(S:Store)(x:D):JB S [x,.tup [.ty "tuple",.ty "list"]]=(DN S x).bind fun p=>if noDict p=true then some (.bl (isSeq p)) else none:=rfl
@[simp] theorem zJ(S:Store)(i:Int):DN S (.int i)=some (.int i):=by simp[DN,den,toP]
@[simp] theorem zc(S:Store)(b:Bool):DN S (.bl b)=some (.bool b):=by simp[DN,den,toP]
@[simp] theorem zH(S:Store):DN S .non=some .none:=by simp[DN,den,toP]
@[simp] theorem zG(S:Store)(x:Str):DN S (.str x)=some (.str x):=by simp[DN,den,toP]
@[simp] theorem fW(S:Store)(p:St2):DN S (Ah p)=some (pS p):=by rw[DN,Nf 0 S (Ii (Ga p))];exact T9 p
@[simp] theorem yH(S:Store)(b:List St2):DN S (Gw b)=some (pB b):=by rw[DN,Nf 0 S (Ii (Jz b))];exact jD b
@[simp] theorem Mh(ns:List Int):Dn (ns.map D.int)=true:=Ij ns fun _ _=>rfl
@[simp] theorem gY(k:Nat)(S:Store)(ns:List Int):DW k S (ns.map D.int)=some (ns.map D.int):=DQ k S (Bg (Mh ns))
@[simp] theorem yO(ns:List Int):Cu (ns.map D.int)=ns.map D.int:=Dw (Mh ns)
@[simp] theorem cI(ns:List Int):Bm (ns.map D.int)=true:=Bg (Mh ns)
@[simp] theorem yM(ns:List Int):newL (ns.map D.int)=true:=Lx (Mh ns)
theorem Y9(lo:Int)(n:Nat):upD lo n=((U3e n).map fun(i:Nat)=>lo+(i:Int)).map D.int:=by unfold upD;rw[U0t];rfl
@[simp] theorem zP(k:Nat)(S:Store)(lo:Int)(n:Nat):DW k S (upD lo n)=some (upD lo n):=by rw[Y9];exact gY ..
@[simp] theorem yL(lo:Int)(n:Nat):Bm (upD lo n)=true:=by rw[Y9];exact cI _
@[simp] theorem yF(k:Nat)(S:Store)(bs:List (List St2)):DW k S (bs.map Gw)=some (bs.map Gw):=DQ k S (Bg (Ge bs))
@[simp] theorem yG(bs:List (List St2)):Cu (bs.map Gw)=bs.map Gw:=Dw (Ge bs)
@[simp] theorem vd(bs:List (List St2)):Bm (bs.map Gw)=true:=Bg (Ge bs)
@[simp] theorem yE(bs:List (List St2)):newL (bs.map Gw)=true:=Lx (Ge bs)
@[simp] theorem vo(bs:List (List St2)):Dn (bs.map Gw)=true:=Ge bs
@[simp] theorem zM(k:Nat)(S:Store)(p:St2):den k S (Ah p)=some (Ah p):=Nf k S (Ii (Ga p))
@[simp] theorem zO(k:Nat)(S:Store)(b:List St2):den k S (Gw b)=some (Gw b):=Nf k S (Ii (Jz b))
@[simp] theorem zW(p:St2):age (Ah p)=Ah p:=Ti (Ga p)
@[simp] theorem zY(b:List St2):age (Gw b)=Gw b:=Ti (Jz b)
@[simp] theorem yI(p:St2):Br (Ah p)=true:=Ii (Ga p)
@[simp] theorem yK(b:List St2):Br (Gw b)=true:=Ii (Jz b)
@[simp] theorem zK(p:St2):newD (Ah p)=true:=QG (Ga p)
@[simp] theorem zL(b:List St2):newD (Gw b)=true:=QG (Jz b)
@[simp] theorem zN(k:Nat)(S:Store)(m:Bool)(n:Nat)(bs:List (List St2)):den k S (Qi m n bs)=some (Qi m n bs):=by simp[Qi,den,DW,DQ k S (Bg (Ge bs))]
@[simp] theorem zX(m:Bool)(n:Nat)(bs:List (List St2)):age (Qi m n bs)=Qi false n bs:=by simp[Qi,age,Cu,Dw (Ge bs)]
@[simp] theorem yJ(m:Bool)(n:Nat)(bs:List (List St2)):Br (Qi m n bs)=true:=by simp[Qi,Br,Bm,Bg (Ge bs)]
structure Good(n:Nat)(bs:List (List St2)):Prop where
 ways:n=1∨n=2∨n=3
 most:bs.length<=[0,20,10,6].getD n 0
 box:∀b∈bs,b.length=n/\∀p∈b,p.1<p.2/\-1000000000<=p.1/\p.2<=1000000000
theorem YK{n d:Nat}{a:Int}(h0:0<=a)(h1:a<=n):HT.sIx n d (some a)=a.toNat:=by
 show(if a<0 then (a+(n:Int)).toNat else min a.toNat n)=a.toNat
 rw[if_neg (by lia)]
 lia
theorem vG{xs:List D}{a:Int}(h0:0<=a)(h1:a<=xs.length):cut xs none (some a)=xs.take a.toNat:=by
 unfold cut
 rw[YK h0 h1]
 simp[HT.sIx]
theorem lA{xs:List D}{a:Int}(h0:0<=a)(h1:a<=xs.length):cut xs (some a) none=xs.drop a.toNat:=by
 unfold cut
 rw[YK h0 h1]
 simp only[HT.sIx]
 rw[U12]
 simp
def lev:Nat->PyData->Bool
 |_,.none=>true
 |_,.bool _=>true
 |_,.int _=>true
 |k+1,.list xs=>xs.all (lev k)
 |k+1,.tuple xs=>xs.all (lev k)
 |_,_=>false
theorem Vp{k:Nat}(ih:∀d,lev k d=true->U5h d=true/\d.depth<=k):∀xs:List PyData,xs.all (lev k)=true->U60 xs=true/\U42 xs<=k
 |[],_=>⟨by rw[U60],by rw[U42];lia⟩
 |x::xs,h=>by
  rw[List.all_cons,U0v] at h
  obtain⟨h1,h2⟩:=ih x h.1
  obtain⟨h3,h4⟩:=Vp ih xs h.2
  exact⟨by rw[U60,h1,h3];rfl,by rw[U42];lia⟩
theorem Uo:∀(k:Nat)(d:PyData),lev k d=true->U5h d=true/\d.depth<=k
 |k,.none,_=>⟨by rw[U5h],by rw[U33];lia⟩
 |k,.bool _,_=>⟨by rw[U5h],by rw[U33];lia⟩
 |k,.int _,_=>⟨by rw[U5h],by rw[U33];lia⟩
 |0,.list _,h=>by simp[lev] at h
 |0,.tuple _,h=>by simp[lev] at h
 |k,.str _,h=>by cases k<;>simp[lev] at h
 |k,.dict _,h=>by cases k<;>simp[lev] at h
 |k+1,.list xs,h=>by
  rw[lev] at h
  obtain⟨h1,h2⟩:=Vp (Uo k) xs h
  exact⟨by rw[U5h];exact h1,by rw[U33];lia⟩
 |k+1,.tuple xs,h=>by
  rw[lev] at h
  obtain⟨h1,h2⟩:=Vp (Uo k) xs h
  exact⟨by rw[U5h];exact h1,by rw[U33];lia⟩
theorem Mf{k:Nat}{d:PyData}(h:lev k d=true)(hk:k<=60):U20 d=true:=by
 obtain⟨h1,h2⟩:=Uo k d h
 unfold U20
 rw[h1,U8]
 exact decide_eq_true (by lia)
theorem kY{neg:Bool}{S:Store}{x y:D}{p:PyData}(k:Nat)(hx:DN S x=some p)(hy:DN S y=some p)(h:lev k p=true)(hk:k<=60):eqP neg S x y=some (.bl (neg ^^ true)):=by
 unfold eqP
 rw[hx,hy]
 simp only[U0a]
 rw[Mf h hk,SeqAt.eqv_refl _ (Uo k p h).1];rfl
theorem aZ{neg:Bool}{S:Store}{x:D}{m:Bool}{l:List PyData}(k:Nat)(hx:DN S x=some (.list l))(h:lev k (.list l)=true)(hk:k<=60):eqP neg S x (.lst m [])=some (.bl (neg ^^ l.isEmpty)):=by
 unfold eqP
 have hy:DN S (.lst m [])=some (.list []):=by simp[DN,den,DW,toP,Hv]
 rw[hx,hy]
 simp only[U0a]
 rw[Mf h hk]
 cases l with
 |nil=>rfl
 |cons a r=>rfl
theorem uW(k:Nat)(p:St2):lev (k+1) (pS p)=true:=by simp[pS,lev]
theorem BJ{a b:Bb}{env env1:VS.Env}{S S1:Store}(h:a env S=some (.nx,env1,S1)):Bk a b env S=b env1 S1:=by rw[Fx,h];rfl
theorem IV{c:Em}{a b:Bb}{env:VS.Env}{S S1:Store}(h:c env S=some (true,S1)):sIf c a b env S=a env S1:=by rw[Ox,h];rfl
theorem FP{c:Em}{a b:Bb}{env:VS.Env}{S S1:Store}(h:c env S=some (false,S1)):sIf c a b env S=b env S1:=by rw[Ox,h];rfl
end VS
end
section
namespace VS
open PySem PySem.Spec L2
end VS
namespace HT
open PySem PySem.Spec PyProof PyProof.Rows
end HT
namespace L2
open PySem PySem.Spec PyProof PyProof.Rows
end L2
namespace VS
open PySem PySem.Spec L2
end VS
end
section
set_option maxRecDepth 100000
namespace HT
open PySem PySem.Spec PyProof.Rows
section
variable{prog:Program}{w:World}{A:Around}{E:Value->Shared->Prop}{s:Shared}
variable{z TI TO i1 i2 T:Addr}{fp1 fp2:List Addr}{n1 n2 k:Nat}{P1 P2:Nat->Value->Prop}{S1 S2:Nat->Heap->Prop}{c:Bool}
end
end HT
end
section
namespace L2
open PySem PySem.Spec PyProof.Rows
section
variable{X:Cx}{pins:List (Addr×Obj)}{Z3:St}{H:Hp}{s:Shared}
end
section
variable{X:Cx}
end
end L2
end
section
namespace VS
open PySem PySem.Spec L2 PyProof.Rows
end VS
end
section
namespace VS
open PySem PySem.Spec L2
def bJ(_:Store):D->D->Option D
 |.tup a,.tup b=>(intsOf a).bind fun ns=>(intsOf b).map fun ms=>.bl (HT.lexLt ns ms)
 |_,_=>none
theorem nq{K:U0b}:G8 K (iM K) bJ:=by
 intro Γ μ Z3 H env S x y dx dy d hK R rx ry e Q q
 unfold bJ at e
 split at e
 .rename_i a b
  obtain⟨ns,e1,e⟩:=bind_some e
  obtain⟨ms,e2,rfl⟩:=map_some e
  have h1:=FT e1
  have h2:=FT e2
  subst h1 h2
  cases rx with
  |@tup p xs _ hp rp =>
   cases ry with
   |@tup p2 ys _ hp2 rp2 =>
    have e3:=rp.MK
    have e4:=rp2.MK
    subst e3 e4
    exact⟨p,p2,ns,ms,rfl,rfl,SqT.of hp,SqT.of hp2,q _ H `br (.bl _)⟩
 .cases e
theorem pD{X:Cx}{k:Nat}(hr:Eb k X.A):OpR X (compareOp .Lt) (iM X.K):=uL (by have:=hr.un;omega)
end VS
end
section
namespace HT
open PySem PySem.Spec PyProof PyProof.Rows
end HT
namespace L2
open PySem PySem.Spec PyProof PyProof.Rows
end L2
end
section
namespace VS
open PySem PySem.Spec L2
def Xb(neg:Bool)(_:Store):D->D->Option D
 |.str a,.str b=>some (.bl (neg ^^ decide (a=b)))
 |_,_=>none
theorem nj{K:U0b}:G8 K iK (Xb true):=by
 intro Γ μ Z3 H env S x y dx dy d hK R rx ry e Q q
 unfold Xb at e
 split at e
 .rename_i a b
  cases e;cases rx;cases ry
  refine .inl ⟨rfl,?_⟩
  have:decide (V.str a=V.str b)=decide (a=b):=by simp
  rw[this]
  exact q _ H `br (by simpa using VR.bl (!decide (a=b)))
 .cases e
end VS
end
section
namespace L2
open PySem PySem.Spec PyProof PyProof.Rows
section
variable{X:Cx}
end
end L2
end
section
namespace HT
open PySem PySem.Spec PyProof PyProof.Rows
section
variable{P0:Program}{wd:World}{Ar:Around}{Er:Value->Shared->Prop}{sh:Shared}
variable{J:Addr}{fp wr:List Addr}{n:Nat}{P:Nat->Value->Prop}{St:Nat->Heap->Prop}{Rr:Result->Shared->Prop}{dv:Value}
end
end HT
namespace L2
open PySem PySem.Spec PyProof PyProof.Rows
section
variable{X:Cx}
end
end L2
end
section
namespace VS
open PySem PySem.Spec L2
end VS
end
section
namespace VS
open PySem PySem.Spec L2
end VS
end
section
set_option maxRecDepth 100000
namespace HT
open PySem PySem.Spec PyProof.Rows
section
variable{prog:Program}{w:World}{A:Around}{E:Value->Shared->Prop}{s:Shared}
structure zq(z TI TO i1 i2 i3:Addr)(fp1 fp2 fp3:List Addr):Prop where
 a1:TI≠z
 a2:TO≠z
 a3:TI≠TO
 b1:∀b∈fp1,b≠z/\b≠TO/\b≠i2/\b≠i3
 b2:∀b∈fp2,b≠z/\b≠TO/\b≠i1/\b≠i3
 b3:∀b∈fp3,b≠z/\b≠TO/\b≠i1/\b≠i2
 c1:i1≠z/\i1≠TO/\i1≠TI
 c2:i2≠z/\i2≠TO/\i2≠TI
 c3:i3≠z/\i3≠TO/\i3≠TI
section
variable{z TI TO i1 i2 i3:Addr}{fp1 fp2 fp3:List Addr}{n1 n2 n3 k:Nat}{P1 P2 P3:Nat->Value->Prop}{S1 S2 S3:Nat->Heap->Prop}{a b c:Value}
end
set_option maxHeartbeats 4000000 in
end
end HT
end
section
namespace HT
open PySem PySem.Spec PyProof.Rows
section
variable{prog:Program}{w:World}{A:Around}{E:Value->Shared->Prop}{s:Shared}
end
end HT
namespace L2
open PySem PySem.Spec PyProof.Rows
end L2
end
section
namespace L2
open PySem PySem.Spec PyProof.Rows
section
variable{X:Cx}
end
end L2
end
section
namespace VS
open PySem PySem.Spec L2
section
variable{X:Cx}
end
end VS
end
section
set_option maxRecDepth 100000
namespace L2
open PySem PySem.Spec PyProof.Rows
section
variable{κ:Type}[DecidableEq κ]
end
section
variable{P:Program}{w:World}{H:Hp}{h:Heap}{a:Addr}
end
section
variable{X:Cx}{pins:List (Addr×Obj)}{Z3:St}{H:Hp}{s:Shared}{a:Addr}{y v:V}{u r:Value}{o:Option V}{A:Around}{E:Value->Shared->Prop}
end
section
variable{X:Cx}{pins:List (Addr×Obj)}{Z3:St}{H:Hp}{s:Shared}{a:Addr}{kvs:List (Key×V)}{k:Key}{u:Value}{A:Around}{E:Value->Shared->Prop}
end
section
variable{X:Cx}{o i e value:Expr}{pos pos' tpos:Pos}{td ty tv:TE}
end
section
variable{X:Cx}{pos:Pos}
end
structure M1(X:Cx)(o:Expr)(m:Str)(apos:Pos)(e:Expr)(cpos:Pos):Prop where
 base:attributeBase o m X.env (eval o X.env)=eval o X.env
 few:((backTo cpos (starEach [e] X.env)).all (fun x=>!x.1)&&(backToKw cpos (keywordEach [] X.env)).all (fun x=>x.1.isSome)
  && decide (([e]:List Expr).length+([]:List Keyword).length+(if ([]:List Keyword).isEmpty then 0 else 1)<30))=true
 line:(apos.endLine==cpos.line)=true
 trees:backTo cpos (starEach [e] X.env)=[`bt]
structure M2(X:Cx)(o:Expr)(m:Str)(apos:Pos)(e f:Expr)(cpos:Pos):Prop where
 base:attributeBase o m X.env (eval o X.env)=eval o X.env
 few:((backTo cpos (starEach [e,f] X.env)).all (fun x=>!x.1)&&(backToKw cpos (keywordEach [] X.env)).all (fun x=>x.1.isSome)
  && decide (([e,f]:List Expr).length+([]:List Keyword).length+(if ([]:List Keyword).isEmpty then 0 else 1)<30))=true
 line:(apos.endLine==cpos.line)=true
 trees:backTo cpos (starEach [e,f] X.env)=[`bt,(false,eval f X.env)]
section
variable{X:Cx}{pins:List (Addr×Obj)}{Z3:St}{H:Hp}{s:Shared}{a:Addr}{y d:V}{u r:Value}{o:Option V}{A:Around}{E:Value->Shared->Prop}
end
section
variable{X:Cx}{o e f:Expr}{apos cpos:Pos}{td ty tx:TE}
end
section
variable{X:Cx}{pins:List (Addr×Obj)}{Z3:St}{H:Hp}{s:Shared}{a:Addr}{kvs:List (Key×V)}{A:Around}{E:Value->Shared->Prop}
end
section
variable{X:Cx}{pins:List (Addr×Obj)}{Z3:St}{H:Hp}{s:Shared}{a:Addr}{y:V}{u:Value}{A:Around}{E:Value->Shared->Prop}
end
section
variable{X:Cx}
end
section
variable{κ:Type}[DecidableEq κ]
end
end L2
end
section
namespace VS
open PySem PySem.Spec L2
section
variable{Γ:Fr}{μ:Mu}{Z3:St}{H:Hp}{env:Env}{S:Store}{v:V}{d:D}
end
section
variable{X:Cx}{o i e f value:Expr}{pos pos' apos cpos:Pos}{fo fi fe fv ft:BL}
end
end VS
end
section
namespace SetP
open PySem PySem.Spec PyProof.Rows
section
variable{prog:Program}{w:World}{K:Type}[DecidableEq K]{knd:KeyKind prog w K}{A:Around}{E:Value->Shared->Prop}{s:Shared}
end
end SetP
namespace L2
open PySem PySem.Spec PyProof.Rows
variable{X:Cx}
end L2
end
section
namespace VS
open PySem PySem.Spec L2
end VS
end
section
set_option maxRecDepth 100000
namespace HT
open PySem PySem.Spec PyProof.Rows
section
variable{prog:Program}{w:World}{K:Type}[DecidableEq K]{knd:KeyKind prog w K}{A:Around}{E:Value->Shared->Prop}{s:Shared}
end
end HT
namespace L2
open PySem PySem.Spec PyProof.Rows
section
variable{X:Cx}{o:Expr}{td:TE}{p pos apos cpos:Pos}
end
end L2
end
section
namespace VS
open PySem PySem.Spec L2
end VS
end
section
namespace Tg
open PySem PyProof.Rows
def aW:Bool->Keyed->Array Keyed->Nat->Nat->Nat->StateT SortSt Sem (Option Nat):=sortPriv% PySem.Builtin.gallop
class Rk where
 kv:Keyed->Int
 IsI:Keyed->Prop
 κ:SortKind
open Rk (kv IsI)
class Ask (prog:Program) (w:World) (A:Around) (s:Shared) [Rk]:Prop where
 lt:∀x y:Keyed,IsI x->IsI y->∀(Q:Bool->Shared->Prop)(E:Value->Shared->Prop),Q (decide (kv x<kv y)) s->wpAny `am A (keyLt' Rk.κ x.1 y.1) Q E s
variable[Rk]
def K(xs:Array Keyed)(i:Nat):Int:=match xs[i]? with
 |some p=>kv p
 |none=>0
def SortedTo(xs:Array Keyed)(k:Nat):Prop:=∀i j,i<=j->j<k->K xs i<=K xs j
theorem R0{xs ys:Array Keyed}{i j:Nat}(h:xs[i]?=ys[j]?):K xs i=K ys j:=by unfold K;rw[h]
theorem K_bubble{xs:Array Keyed}{src d:Nat}(hs:src<xs.size)(hd:d<=src)(k:Nat):K (bubble xs src d) k=if k=src-d then K xs src else if src-d<k/\k<=src then K xs (k-1) else K xs k:=by
 have e:=getElem?_bubble hs d hd k
 split
 .rename_i z;rw[if_pos z] at e;exact R0 e
 .rename_i z
  rw[if_neg z] at e
  split
  .rename_i y;rw[if_pos y] at e;exact R0 e
  .rename_i y;rw[if_neg y] at e;exact R0 e
theorem K_mirror{xs:Array Keyed}{i j:Nat}(hj:j<=xs.size)(k:Nat):K (mirror xs i j ((j-i)/2)) k=if i<=k/\k<j then K xs (i+j-1-k) else K xs k:=by
 have e:=getElem?_mirror_all (i:=i) hj k
 split
 .rename_i z;rw[if_pos z] at e;exact R0 e
 .rename_i z;rw[if_neg z] at e;exact R0 e
structure SBase(a₀:Array Keyed)(st:SortSt):Prop where
 perm:(`aT).Perm a₀
 kind:kindOf st=Rk.κ
 failed:failedOf st=none
 pend:pendingOf st=#[]
theorem SBase.size{a₀:Array Keyed}{st:SortSt}(h:SBase a₀ st):(`aT).size=a₀.size:=h.perm.size_eq
def Jq(xs:Array Keyed):Prop:=∀p∈xs.toList,IsI p
theorem Jq.get{xs:Array Keyed}(h:Jq xs){i:Nat}(hi:i<xs.size):IsI xs[i]/\kv xs[i]=K xs i:=by
 refine⟨h _ (by simp),?_⟩
 unfold K
 rw[getElem?_pos xs i hi]
section
variable{prog:Program}{w:World}{A:Around}{E:Value->Shared->Prop}{s:Shared}[Ask prog w A s]
theorem Ou{st:SortSt}{x y:Keyed}{Q:Option Bool->SortSt->Prop}(hx:IsI x)(hy:IsI y)(hk:kindOf st=Rk.κ)(h:Q (some (decide (kv x<kv y))) st) :
  wpS `am A E s (lt' x y) Q st:=by
 rw[lt'_eq]
 refine wpS_bind (wpS_get ?_)
 rw[hk]
 refine wpS_bind (wpS_lift (U6a (Ask.lt x y hx hy _ _ ⟨rfl,?_⟩)))
 exact wpS_pure h
theorem Cg{xs:Array Keyed}{i:Nat}{Q:Keyed->SortSt->Prop}{st:SortSt}(hi:i<xs.size)(h:Q xs[i] st):wpS `am A E s (elem' xs i) Q st:=by
 rw[elem'_eq,getElem?_pos xs i hi]
 exact wpS_pure h
def bey(left:Bool)(k x:Int):Bool:=if left then decide (x<k) else !decide (k<x)
theorem PK{left:Bool}{key:Keyed}{arr:Array Keyed}{j:Nat}{Q:Option Bool->SortSt->Prop}{st:SortSt}(hk:kindOf st=Rk.κ)(hkey:IsI key)(hI:Jq arr)(hj:j<arr.size)(h:Q (some (bey left (kv key) (K arr j))) st) :
  wpS `am A E s (elem' arr j >>= fun x=>if left=true then lt' x key else lt' key x >>= fun y=>pure (U2w (fun z=>!z) y)) Q st:=by
 obtain⟨g1,g2⟩:=hI.get hj
 refine wpS_bind (Cg hj ?_)
 cases left with
 |true =>
  rw[if_pos rfl]
  refine Ou g1 hkey hk ?_
  rw[g2];exact h
 |false =>
  rw[if_neg (by decide)]
  refine wpS_bind (Ou hkey g1 hk (wpS_pure ?_))
  rw[g2];exact h
theorem Iw{left:Bool}{key:Keyed}{arr:Array Keyed}{base n hint:Nat}{Q:Option Nat->SortSt->Prop}{st:SortSt}(hk:kindOf st=Rk.κ)(hkey:IsI key)(hI:Jq arr)(hb:base+n<=arr.size)(hh:hint<n)
  (hm:∀i j,i<=j->j<n->bey left (kv key) (K arr (base+j))=true->bey left (kv key) (K arr (base+i))=true)
  (h:∀k,k<=n->(∀i,i<k->bey left (kv key) (K arr (base+i))=true)->(∀i,k<=i->i<n->bey left (kv key) (K arr (base+i))=false)->Q (some k) st) :
  wpS `am A E s (aW left key arr base n hint) Q st:=by
 have hm':∀i j,i<=j->j<n->bey left (kv key) (K arr (base+i))=false->bey left (kv key) (K arr (base+j))=false:=fun i j h1 h2 h3=>by
  cases e:bey left (kv key) (K arr (base+j)) with
  |false=>rfl
  |true=>rw[hm i j h1 h2 e] at h3;cases h3
 have fin:∀(f:Nat->Option (Option Nat)×Nat×Nat->StateT SortSt Sem (ForInStep (Option (Option Nat)×Nat×Nat)))(R:Option (Option Nat)×Nat×Nat->SortSt->Prop)(lo hi:Nat),lo<=hi->hi<=n->(∀i,i<lo->bey left (kv key) (K arr (base+i))=true)->(∀i,hi<=i->i<n->bey left (kv key) (K arr (base+i))=false) ->
   (∀x lo hi,lo≥hi->f x (none,lo,hi)=pure (ForInStep.done (none,lo,hi))) ->
   (∀x lo hi Q',lo<hi->hi<=n->Q' (U41 (if bey left (kv key) (K arr (base+(lo+(hi-lo)/2)))=true then (none,lo+(hi-lo)/2+1,hi) else (none,lo,lo+(hi-lo)/2))) st->wpS `am A E s (f x (none,lo,hi)) Q' st) ->
   (∀lo k,Q (some k) st->R (none,lo,k) st)->wpS `am A E s (forIn [0:n] (none,lo,hi) f) R st:=fun f R lo hi h1 h2 h3 h4 f1 f2 f3=>by
  refine wpS_forRange (I:=fun x c st'=>st'=st/\∃lo hi,c=(none,lo,hi)/\lo<=hi/\hi<=n/\hi-lo<=n-x/\(∀i,i<lo->bey left (kv key) (K arr (base+i))=true)/\(∀i,hi<=i->i<n->bey left (kv key) (K arr (base+i))=false)) ?step ?fin ⟨rfl,lo,hi,rfl,h1,h2,by omega,h3,h4⟩
  case fin =>
   rintro c st' ⟨rfl,lo,hi,rfl,h1,h2,h5,h3,h4⟩
   have:lo=hi:=by omega
   subst this
   exact f3 lo lo (h lo h2 h3 h4)
  case step =>
   rintro x c st' _ hx ⟨rfl,lo,hi,rfl,h1,h2,h5,h3,h4⟩
   by_cases hge:lo≥hi
   .rw[f1 x lo hi hge]
    have:lo=hi:=by omega
    subst this
    exact wpS_pure (f3 lo lo (h lo h2 h3 h4))
   .refine f2 x lo hi _ (by omega) h2 ?_
    cases e:bey left (kv key) (K arr (base+(lo+(hi-lo)/2))) with
    |true=>exact⟨rfl,lo+(hi-lo)/2+1,hi,rfl,by omega,h2,by omega,fun i hi'=>hm i (lo+(hi-lo)/2) (by omega) (by omega) e,h4⟩
    |false=>exact⟨rfl,lo,lo+(hi-lo)/2,rfl,by omega,by omega,by omega,h3,fun i h6 h7=>hm' (lo+(hi-lo)/2) i h6 h7 e⟩
 unfold aW
 refine wpS_bind (PK hk hkey hI (by omega) ?_)
 cases e:bey left (kv key) (K arr (base+hint)) with
 |true =>
  refine wpS_bind (wpS_mono (wpS_forRange (I:=fun x c st'=>st'=st/\∃l o,c=(none,l,o)/\l<o/\hint+l<n/\x+1<=o/\bey left (kv key) (K arr (base+(hint+l)))=true)
   (Q:=fun c st'=>st'=st/\∃l o,c=(none,l,o)/\l<o/\hint+l<n/\bey left (kv key) (K arr (base+(hint+l)))=true/\(n-hint<=o∨(o<n-hint/\bey left (kv key) (K arr (base+(hint+o)))=false))) ?step ?fin ⟨rfl,0,1,rfl,by omega,by omega,by omega,e⟩) ?post)
  case fin =>
   rintro c st' ⟨rfl,l,o,rfl,h1,h2,h3,h4⟩
   exact⟨rfl,l,o,rfl,h1,h2,h4,.inl (by omega)⟩
  case step =>
   rintro x c st' _ hx ⟨rfl,l,o,rfl,h1,h2,h3,h4⟩
   dsimp only
   by_cases hge:o≥n-hint
   .rw[if_pos hge]
    exact wpS_pure ⟨rfl,l,o,rfl,h1,h2,h4,.inl hge⟩
   .rw[if_neg hge]
    refine wpS_bind (PK hk hkey hI (by omega) ?_)
    cases e2:bey left (kv key) (K arr (base+(hint+o))) with
    |true=>exact wpS_pure ⟨rfl,o,2*o+1,rfl,by omega,by omega,by omega,e2⟩
    |false=>exact wpS_pure ⟨rfl,l,o,rfl,h1,h2,h4,.inr ⟨by omega,e2⟩⟩
  case post =>
   rintro c st' ⟨rfl,l,o,rfl,h1,h2,h4,h5⟩
   refine wpS_bind (fin _ _ (hint+l+1) (hint+min o (n-hint)) (by omega) (by omega) (fun i hi=>hm i (hint+l) (by omega) h2 h4) (fun i h6 h7=>by
    rcases h5 with z|⟨z1,z2⟩
    .omega
    .exact hm' (hint+o) i (by omega) h7 z2) (fun x lo hi hge=>if_pos hge) (fun x lo hi Q' hlt hle hq=>?_) fun lo k hq=>wpS_pure hq)
   dsimp only
   rw[if_neg (by omega)]
   refine wpS_bind (PK hk hkey hI (by omega) ?_)
   cases e2:bey left (kv key) (K arr (base+(lo+(hi-lo)/2)))<;>(rw[e2] at hq;exact wpS_pure hq)
 |false =>
  refine wpS_bind (wpS_mono (wpS_forRange (I:=fun x c st'=>st'=st/\∃l o,c=(none,l,o)/\l<o/\l<=hint/\x+1<=o/\bey left (kv key) (K arr (base+(hint-l)))=false)
   (Q:=fun c st'=>st'=st/\∃l o,c=(none,l,o)/\l<o/\l<=hint/\bey left (kv key) (K arr (base+(hint-l)))=false/\(hint+1<=o∨(o<=hint/\bey left (kv key) (K arr (base+(hint-o)))=true))) ?step ?fin ⟨rfl,0,1,rfl,by omega,by omega,by omega,e⟩) ?post)
  case fin =>
   rintro c st' ⟨rfl,l,o,rfl,h1,h2,h3,h4⟩
   exact⟨rfl,l,o,rfl,h1,h2,h4,.inl (by omega)⟩
  case step =>
   rintro x c st' _ hx ⟨rfl,l,o,rfl,h1,h2,h3,h4⟩
   dsimp only
   by_cases hge:o≥hint+1
   .rw[if_pos hge]
    exact wpS_pure ⟨rfl,l,o,rfl,h1,h2,h4,.inl hge⟩
   .rw[if_neg hge]
    refine wpS_bind (PK hk hkey hI (by omega) ?_)
    cases e2:bey left (kv key) (K arr (base+(hint-o))) with
    |false=>exact wpS_pure ⟨rfl,o,2*o+1,rfl,by omega,by omega,by omega,e2⟩
    |true=>exact wpS_pure ⟨rfl,l,o,rfl,h1,h2,h4,.inr ⟨by omega,e2⟩⟩
  case post =>
   rintro c st' ⟨rfl,l,o,rfl,h1,h2,h4,h5⟩
   refine wpS_bind (fin _ _ (hint+1-min o (hint+1)) (hint-l) (by omega) (by omega) (fun i hi=>by
    rcases h5 with z|⟨z1,z2⟩
    .omega
    .exact hm i (hint-o) (by omega) (by omega) z2) (fun i h6 h7=>hm' (hint-l) i h6 h7 h4) (fun x lo hi hge=>if_pos hge) (fun x lo hi Q' hlt hle hq=>?_) fun lo k hq=>wpS_pure hq)
   dsimp only
   rw[if_neg (by omega)]
   refine wpS_bind (PK hk hkey hI (by omega) ?_)
   cases e2:bey left (kv key) (K arr (base+(lo+(hi-lo)/2)))<;>(rw[e2] at hq;exact wpS_pure hq)
end
end Tg
end
section
namespace Tg
open PySem PyProof.Rows
open Rk (kv IsI)
variable[Rk]
def Yd:Array Keyed->Array Keyed->StateT SortSt Sem (Array Keyed):=sortPriv% PySem.Builtin.mergeLo
def srt(l:List Keyed):Prop:=l.Pairwise fun p q=>kv p<=kv q
theorem KR{a:Array Keyed}{i:Nat}(hi:i<a.size):kv a[i]=K a i:=by
 unfold K
 rw[getElem?_pos a i hi]
theorem Tc{a:Array Keyed}{n:Nat}{p:Keyed}(h:p∈a.toList.drop n):∃i,n<=i/\i<a.size/\kv p=K a i:=by
 obtain⟨j,hj,rfl⟩:=U5n h
 rw[U2h,U0g] at hj
 refine⟨n+j,by omega,by omega,?_⟩
 rw[List.getElem_drop,U4a]
 exact KR _
theorem Yg{a:Array Keyed}{n k:Nat}{p:Keyed}(h:p∈(a.toList.drop n).take k):∃i,n<=i/\i<n+k/\i<a.size/\kv p=K a i:=by
 obtain⟨j,hj,rfl⟩:=U5n h
 rw[U1q,U2h,U0g] at hj
 refine⟨n+j,by omega,by omega,by omega,?_⟩
 rw[List.getElem_take,List.getElem_drop,U4a]
 exact KR _
structure ML(a b out:Array Keyed)(ia ib:Nat):Prop where
 perm:out.toList.Perm (a.toList.take ia++b.toList.take ib)
 sa:srt (out.toList++a.toList.drop ia)
 sb:srt (out.toList++b.toList.drop ib)
theorem chunk{out x r y:List Keyed}(h1:srt (out++(x++r)))(h2:srt (out++y))(h3:∀p∈x,∀q∈y,kv p<=kv q):srt (out++x++r)/\srt (out++x++y):=by
 unfold srt at *
 refine⟨by rw[U04];exact h1,?_⟩
 obtain⟨o1,o2,o3⟩:=U06.mp h1
 obtain⟨x1,x2,x3⟩:=U06.mp o2
 obtain⟨p1,p2,p3⟩:=U06.mp h2
 refine U06.mpr ⟨U06.mpr ⟨o1,x1,fun p hp q hq=>o3 p hp q (U14 _ hq)⟩,p2,fun p hp q hq=>?_⟩
 rcases U0z.mp hp with z|z
 .exact p3 p z q hq
 .exact h3 p z q hq
theorem ML.Kz{a b out out':Array Keyed}{ia ib:Nat}(h:ML a b out ia ib)(k:Nat)(ho:out'.toList=out.toList++(a.toList.drop ia).take k)(hle:∀i j,ia<=i->i<ia+k->i<a.size->ib<=j->j<b.size->K a i<=K b j):ML a b out' (ia+k) ib:=by
 have e:(a.toList.drop ia).take k++a.toList.drop (ia+k)=a.toList.drop ia:=by rw[←U56];exact U1t ..
 obtain⟨c1,c2⟩:=chunk (x:=(a.toList.drop ia).take k) (r:=a.toList.drop (ia+k)) (by rw[e];exact h.sa) h.sb fun p hp q hq=>by
  obtain⟨i,i1,i2,i3,i4⟩:=Yg hp
  obtain⟨j,j1,j2,j3⟩:=Tc hq
  rw[i4,j3]
  exact hle i j i1 i2 i3 j1 j2
 refine⟨?_,by rw[ho];exact c1,by rw[ho];exact c2⟩
 rw[ho,List.take_add]
 refine(h.perm.append_right _).trans ?_
 rw[U04,U04]
 exact U2e _ U2f
theorem ML.swap{a b out:Array Keyed}{ia ib:Nat}(h:ML a b out ia ib):ML b a out ib ia:=⟨h.perm.trans U2f,h.sb,h.sa⟩
theorem ML.Nz{a b out out':Array Keyed}{ia ib:Nat}(h:ML a b out ia ib)(k:Nat)(ho:out'.toList=out.toList++(b.toList.drop ib).take k)(hle:∀i j,ib<=i->i<ib+k->i<b.size->ia<=j->j<a.size->K b i<=K a j):ML a b out' ia (ib+k):=(h.swap.Kz k ho hle).swap
theorem Jx{a out:Array Keyed}{i:Nat}(hi:i<a.size):(out.push a[i]).toList=out.toList++(a.toList.drop i).take 1:=by
 have:(a.toList.drop i).take 1=[a[i]]:=by
  rw[U3z (by rw[U0g];exact hi)];rfl
 rw[this];simp
theorem Tj{a out:Array Keyed}{i k:Nat}:(out++a.extract i (i+k)).toList=out.toList++(a.toList.drop i).take k:=by
 rw[U19,U4o,U30,U6v]
theorem Yo(a out:Array Keyed)(i:Nat):out++a.extract i (i+0)=out:=U8q.mp (by rw[Tj,List.take_zero,U1o])
theorem Mx(a:Array Keyed)(i:Nat):(a.extract i a.size).toList=a.toList.drop i:=by
 rw[U4o,U30,U12 (by rw[U2h,U0g];omega)]
theorem QK(a:Array Keyed):a.toList.drop a.size=[]:=List.drop_eq_nil_of_le (by rw[U0g];exact U0l _)
theorem ML.mJ{a b out r:Array Keyed}{ia ib:Nat}(h:ML a b out ia ib)(hb:ib=b.size)(hr:r.toList=out.toList++a.toList.drop ia):r.toList.Perm (a.toList++b.toList)/\srt r.toList:=by
 refine⟨?_,by rw[hr];exact h.sa⟩
 have e:b.toList.take ib=b.toList:=U12 (by rw[U0g];omega)
 have p:=h.perm
 rw[e] at p
 rw[hr]
 refine(p.append_right _).trans ?_
 rw[U04]
 refine(U2e _ U2f).trans ?_
 rw[←U04,U1t]
theorem ML.xP{a b out r:Array Keyed}{ia ib:Nat}(h:ML a b out ia ib)(ha:ia+1=a.size)(hmax:∀j,j<b.size->K b j<=K a (a.size-1))(hr:r.toList=out.toList++b.toList.drop ib++a.toList.drop ia):r.toList.Perm (a.toList++b.toList)/\srt r.toList:=by
 constructor
 .rw[hr,U04]
  refine(h.perm.append_right _).trans ?_
  have e1:=U1t ia a.toList
  have e2:=U1t ib b.toList
  generalize a.toList.take ia=x at *
  generalize a.toList.drop ia=x' at *
  generalize b.toList.take ib=y at *
  generalize b.toList.drop ib=y' at *
  rw[←e1,←e2,U04,U04]
  refine U2e _ ?_
  rw[←U04]
  exact U2f
 .rw[hr]
  have sa:=h.sa
  unfold srt at *
  obtain⟨_,a2,a3⟩:=U06.mp sa
  refine U06.mpr ⟨h.sb,a2,fun p hp q hq=>?_⟩
  obtain⟨i,i1,i2,i3⟩:=Tc hq
  have:i=a.size-1:=by omega
  subst this
  rcases U0z.mp hp with z|z
  .exact a3 p z q hq
  .obtain⟨j,j1,j2,j3⟩:=Tc z
   rw[i3,j3]
   exact hmax j j2
theorem MP{a:Array Keyed}(h:SortedTo a a.size):srt a.toList:=by
 unfold srt
 rw[U1w]
 intro i j hi hj hij
 rw[U0g] at hi hj
 rw[U4a,U4a,KR,KR]
 exact h i j (by omega) hj
structure EqG(st st':SortSt):Prop where
 kind:kindOf st'=kindOf st
 arr:arrOf st'=arrOf st
 pend:pendingOf st'=pendingOf st
 failed:failedOf st'=failedOf st
theorem EqG.refl(st:SortSt):EqG st st:=⟨rfl,rfl,rfl,rfl⟩
section
variable{prog:Program}{w:World}{A:Around}{E:Value->Shared->Prop}{s:Shared}[Ask prog w A s]
theorem Bj{Z3 Zs:Type}{M:Model}{c:Prop}[Decidable c]{x y:StateT Z3 Sem Zs}{Q:Zs->Z3->Prop}{st:Z3}(hx:c->wpS M A E s x Q st)(hy:¬c->wpS M A E s y Q st):wpS M A E s (if c then x else y) Q st:=by
 by_cases h:c
 .rw[if_pos h];exact hx h
 .rw[if_neg h];exact hy h
theorem Zt{Z3 Zs Zp:Type}{M:Model}{c:Prop}[Decidable c]{f:Zp->StateT Z3 Sem Zs}{x y:Zp}{Q:Zs->Z3->Prop}{st:Z3}(h:∀g,wpS M A E s (f g) Q st):wpS M A E s (if c then f x else f y) Q st:=Bj (fun _=>h x) (fun _=>h y)
theorem Uc{Z3 Zs Zp:Type}{M:Model}{p:StateT Z3 Sem Zs}{Q:Zs->Z3->Prop}{st:Z3}(f:Zp->StateT Z3 Sem Zs)(P:Zp->Prop)(h1:∀x,P x->wpS M A E s (f x) Q st)(h2:(∀x,P x->wpS M A E s (f x) Q st)->wpS M A E s p Q st):wpS M A E s p Q st:=h2 h1
theorem ZP{a b:Array Keyed}{Q:Array Keyed->SortSt->Prop}{st:SortSt}(hk:kindOf st=Rk.κ)(Ia:Jq a)(Ib:Jq b)(Sa:SortedTo a a.size)(Sb:SortedTo b b.size)(na:0<a.size)(nb:0<b.size)
  (hmin:∀i,i<a.size->K b 0<=K a i) (hmax:∀j,j<b.size->K b j<=K a (a.size-1))
  (h:∀r st',EqG st st'->r.toList.Perm (a.toList++b.toList)->srt r.toList->Q r st'):wpS `am A E s (Yd a b) Q st:=by
 have kL:∀out ia ib r,ML a b out ia ib->ib=b.size->r=out++a.extract ia a.size++b.extract ib b.size->r.toList.Perm (a.toList++b.toList)/\srt r.toList:=fun out ia ib r m e hr=>m.mJ e (by
  rw[hr,e,U19,U19,Mx,Mx,QK,U1o])
 have kR:∀out ia ib r,ML a b out ia ib->ia=a.size->r=out++a.extract ia a.size++b.extract ib b.size->r.toList.Perm (a.toList++b.toList)/\srt r.toList:=fun out ia ib r m e hr=>by
  obtain⟨q1,q2⟩:=m.swap.mJ (r:=r) e (by rw[hr,e,U19,U19,Mx,Mx,QK,U1o])
  exact⟨q1.trans U2f,q2⟩
 have kM:∀out ia ib r,ML a b out ia ib->ia+1=a.size->r=out++b.extract ib b.size++a.extract ia a.size->r.toList.Perm (a.toList++b.toList)/\srt r.toList:=fun out ia ib r m e hr=>m.xP e hmax (by
  rw[hr,U19,U19,Mx,Mx])
 have m0:ML a b #[b[0]] 0 1:=by
  have:ML a b #[] 0 0:=⟨by simp,by
   show srt a.toList
   exact MP Sa,by
   show srt b.toList
   exact MP Sb⟩
  refine this.Nz (out':=#[b[0]]) 1 (Jx (out:=#[]) nb) fun i j h1 h2 h3 h4 h5=>?_
  have:i=0:=by omega
  subst this
  exact hmin j h5
 unfold Yd
 refine wpS_bind (wpS_lift (U39 ⟨rfl,?_⟩))
 refine wpS_bind (Cg nb ?_)
 refine Bj (fun e1=>?_) (fun e1=>?_)
 .obtain⟨q1,q2⟩:=kL _ _ _ _ m0 (by simpa using e1) rfl
  exact wpS_pure (h _ _ (EqG.refl st) q1 q2)
 have e1:¬1=b.size:=by simpa using e1
 refine Bj (fun e2=>?_) (fun e2=>?_)
 .obtain⟨q1,q2⟩:=kM _ _ _ _ m0 (by simpa using e2) rfl
  exact wpS_pure (h _ _ (EqG.refl st) q1 q2)
 have e2:¬0+1=a.size:=by simpa using e2
 refine wpS_bind (wpS_get ?_)
 refine wpS_bind (wpS_mono (wpS_forRange
  (I:=fun x c st'=>EqG st st'/\∃out ia ib g,c=(none,out,ia,ib,g)/\ML a b out ia ib/\ia+1<a.size/\ib<b.size/\x<=ia+ib)
  (Q:=fun c st'=>EqG st st'/\∃r y,c=(some r,y)/\r.toList.Perm (a.toList++b.toList)/\srt r.toList) ?step ?fin ⟨EqG.refl st,_,0,1,_,rfl,m0,by omega,by omega,by omega⟩) ?post)
 case fin =>
  rintro c st' ⟨_,out,ia,ib,g,rfl,_,h1,h2,h3⟩
  omega
 case post =>
  rintro c st' ⟨hE,r,y,rfl,q1,q2⟩
  exact wpS_pure (h r st' hE q1 q2)
 case step =>
  rintro x c st1 _ hx ⟨hE,out,ia,ib,g,rfl,m,h1,h2,h3⟩
  refine wpS_bind (wpS_mono (wpS_forRange
   (I:=fun y c st'=>EqG st st'/\∃out ia' ib' ac bc,c=(none,out,ia',ib',ac,bc)/\ML a b out ia' ib'/\ia'+1<a.size/\ib'<b.size/\ia+ib+y<=ia'+ib')
   (Q:=fun c st'=>EqG st st'/\((∃r y,c=(some r,y)/\r.toList.Perm (a.toList++b.toList)/\srt r.toList)∨∃out ia' ib' ac bc,c=(none,out,ia',ib',ac,bc)/\ML a b out ia' ib'/\ia'+1<a.size/\ib'<b.size/\ia+ib+1<=ia'+ib')) ?step1 ?fin1 ⟨hE,out,ia,ib,0,0,rfl,m,h1,h2,by omega⟩) ?post1)
  case fin1 =>
   rintro c st' ⟨_,out,ia',ib',ac,bc,rfl,_,h4,h5,h6⟩
   omega
  case step1 =>
   rintro y c st' _ hy ⟨hE',out',ia',ib',ac,bc,rfl,m',h4,h5,h6⟩
   have gb:=Ib.get h5
   have hia:ia'<a.size:=by omega
   have ga:=Ia.get hia
   refine wpS_bind (Cg h5 (wpS_bind (Cg hia (wpS_bind (Ou gb.1 ga.1 (hE'.kind.trans hk) ?_)))))
   refine Bj (fun hw=>?_) (fun hw=>?_)
   .have hw:=of_decide_eq_true hw
    rw[gb.2,ga.2] at hw
    refine wpS_bind (Cg h5 ?_)
    have m2:ML a b (out'.push b[ib']) ia' (ib'+1):=m'.Nz 1 (Jx h5) fun i j i1 i2 i3 j1 j2=>by
     have:i=ib':=by omega
     subst this
     have:=Sa ia' j j1 j2
     omega
    refine Bj (fun e3=>?_) (fun e3=>?_)
    .exact wpS_pure ⟨hE',.inl ⟨_,_,rfl,kL _ _ _ _ m2 (beq_iff_eq.mp e3) rfl⟩⟩
    have e3:¬ib'+1=b.size:=fun z=>e3 (beq_iff_eq.mpr z)
    refine Bj (fun e4=>?_) (fun e4=>?_)
    .exact wpS_pure ⟨hE',.inr ⟨out'.push b[ib'],ia',ib'+1,0,bc+1,rfl,m2,h4,by omega,by omega⟩⟩
    .exact wpS_pure ⟨hE',out'.push b[ib'],ia',ib'+1,0,bc+1,rfl,m2,h4,by omega,by omega⟩
   .have hw:¬K b ib'<K a ia':=fun z=>hw (decide_eq_true (by rw[gb.2,ga.2];exact z))
    refine wpS_bind (Cg hia ?_)
    have m2:ML a b (out'.push a[ia']) (ia'+1) ib':=m'.Kz 1 (Jx hia) fun i j i1 i2 i3 j1 j2=>by
     have:i=ia':=by omega
     subst this
     have:=Sb ib' j j1 j2
     omega
    refine Bj (fun e3=>?_) (fun e3=>?_)
    .exact wpS_pure ⟨hE',.inl ⟨_,_,rfl,kM _ _ _ _ m2 (beq_iff_eq.mp e3) rfl⟩⟩
    have e3:¬ia'+1+1=a.size:=fun z=>e3 (beq_iff_eq.mpr z)
    refine Bj (fun e4=>?_) (fun e4=>?_)
    .exact wpS_pure ⟨hE',.inr ⟨out'.push a[ia'],ia'+1,ib',ac+1,0,rfl,m2,by omega,h5,by omega⟩⟩
    .exact wpS_pure ⟨hE',out'.push a[ia'],ia'+1,ib',ac+1,0,rfl,m2,by omega,h5,by omega⟩
  case post1 =>
   rintro c st' ⟨hE',⟨r,y,rfl,q⟩|⟨out',ia',ib',ac,bc,rfl,m',h4,h5,h6⟩⟩
   .exact wpS_pure ⟨hE',r,_,rfl,q⟩
   .refine wpS_bind (wpS_lift (U39 ⟨rfl,?_⟩))
    refine wpS_bind (wpS_mono (wpS_forRange
     (I:=fun y c st'=>EqG st st'/\∃out ia ib g ac bc,c=(none,out,ia,ib,g,ac,bc)/\ML a b out ia ib/\ia+1<a.size/\ib<b.size/\ia'+ib'+y<=ia+ib)
     (Q:=fun c st'=>EqG st st'/\((∃r y,c=(some r,y)/\r.toList.Perm (a.toList++b.toList)/\srt r.toList)∨∃out ia ib g ac bc,c=(none,out,ia,ib,g,ac,bc)/\ML a b out ia ib/\ia+1<a.size/\ib<b.size/\ia'+ib'<=ia+ib)) ?step2 ?fin2 ⟨hE',out',ia',ib',_,ac,bc,rfl,m',h4,h5,by omega⟩) ?post2)
    case fin2 =>
     rintro c st' ⟨_,out,ia,ib,g,ac,bc,rfl,_,h7,h8,h9⟩
     omega
    case post2 =>
     rintro c st' ⟨hE2,⟨r,y,rfl,q⟩|⟨out,ia2,ib2,g2,ac,bc,rfl,m2,h7,h8,h9⟩⟩
     .exact wpS_pure ⟨hE2,r,_,rfl,q⟩
     .dsimp only
      refine wpS_bind (wpS_modify (wpS_pure ⟨⟨hE2.kind,hE2.arr,hE2.pend,hE2.failed⟩,_,_,_,_,rfl,m2,h7,h8,by omega⟩))
    case step2 =>
     rintro y c st2 _ hy ⟨hE2,out2,ia2,ib2,g2,ac2,bc2,rfl,m2,h7,h8,h9⟩
     extract_lets s1 o3 s2 a3 s3 b3 s4 mg s5 acn bcn b4 jp
     refine Zt (f:=jp ()) fun g3=>?_
     clear_value mg
     refine wpS_bind (wpS_modify ?_)
     refine wpS_bind (Cg h8 ?_)
     have gb:=Ib.get h8
     have hE3:∀g,EqG st (U8k (kindOf st2) (arrOf st2) (pendingOf st2) g (failedOf st2)):=fun g=>⟨hE2.kind,hE2.arr,hE2.pend,hE2.failed⟩
     refine wpS_bind (Iw (base:=ia2) (n:=a.size-ia2) (hint:=0) (hE2.kind.trans hk) gb.1 Ia (by omega) (by omega) (fun i j i1 i2 i3=>?_) fun k k1 k2 k3=>?_)
     .unfold bey at *
      have:=Sa (ia2+i) (ia2+j) (by omega) (by omega)
      simp at i3 ⊢
      omega
     have k2':∀i,ia2<=i->i<ia2+k->K a i<=K b ib2:=fun i i1 i2=>by
      have:=k2 (i-ia2) (by omega)
      rw[show ia2+(i-ia2)=i by omega,gb.2] at this
      unfold bey at this
      simp at this
      omega
     have k3':∀i,ia2+k<=i->i<a.size->K b ib2<K a i:=fun i i1 i2=>by
      have:=k3 (i-ia2) (by omega) (by omega)
      rw[show ia2+(i-ia2)=i by omega,gb.2] at this
      unfold bey at this
      simp at this
      omega
     have m3:ML a b (out2++a.extract ia2 (ia2+k)) (ia2+k) ib2:=m2.Kz k Tj fun i j i1 i2 i3 j1 j2=>U8p (k2' i i1 i2) (Sb ib2 j j1 j2)
     clear k2 k3 k2'
     dsimp -zeta only
     extract_lets ac3 jp2
     refine Uc (fun z:Array Keyed×Nat=>jp2 () z.1 z.2) (fun z=>ML a b z.1 z.2 ib2/\z.2+1<a.size/\ia'+ib'+y<=z.2+ib2/\∀i,z.2<=i->i<a.size->K b ib2<K a i) ?_ ?_
     case refine_2 =>
      intro key
      refine Bj (fun hk0=>?_) (fun hk0=>?_)
      .refine Bj (fun e3=>?_) (fun e3=>?_)
       .exact wpS_pure ⟨hE3 _,.inl ⟨_,_,rfl,kM _ _ _ _ m3 (by simpa using e3) rfl⟩⟩
       have e3:¬ia2+k+1=a.size:=fun z=>e3 (by simpa using z)
       refine Bj (fun e4=>?_) (fun e4=>?_)
       .exact wpS_pure ⟨hE3 _,.inl ⟨_,_,rfl,kR _ _ _ _ m3 (by simpa using e4) rfl⟩⟩
       have e4:¬ia2+k=a.size:=fun z=>e4 (by simpa using z)
       exact key (out2++a.extract ia2 (ia2+k),ia2+k) ⟨m3,by dsimp only;omega,by dsimp only;omega,k3'⟩
      .have:k=0:=by
        have:¬k>0:=hk0
        omega
       subst this
       rw[Yo,U57] at m3
       rw[U57] at k3'
       exact key (out2,ia2) ⟨m3,h7,h9,k3'⟩
     clear m3 k3' m2 h7 h9
     rintro⟨o5,i5⟩ ⟨m3,h10,h11,k3'⟩
     dsimp only at m3 h10 h11 k3'
     have hga:i5<a.size:=by omega
     have ga:=Ia.get hga
     obtain⟨z,hz⟩:∃z,K a i5=z:=⟨_,rfl⟩
     refine wpS_bind (Cg h8 ?_)
     have m4:=m3.Nz 1 (Jx h8) fun i j i1 i2 i3 j1 j2=>(by
      have:i=ib2:=by omega
      subst this
      have:=k3' j j1 j2
      omega)
     refine Bj (fun e5=>?_) (fun e5=>?_)
     .exact wpS_pure ⟨hE3 _,.inl ⟨_,_,rfl,kL _ _ _ _ m4 (by simpa using e5) rfl⟩⟩
     have e5:¬ib2+1=b.size:=fun z=>e5 (by simpa using z)
     refine wpS_bind (Cg hga ?_)
     refine wpS_bind (Iw (base:=ib2+1) (n:=b.size-(ib2+1)) (hint:=0) (hE2.kind.trans hk) ga.1 Ib (by omega) (by omega) (fun i j i1 i2 i3=>?_) fun k' k1' k2 k3=>?_)
     .unfold bey at *
      have:=Sb (ib2+1+i) (ib2+1+j) (by omega) (by omega)
      simp at i3 ⊢
      omega
     have gk:=ga.2.trans hz
     have k2':∀i,ib2+1<=i->i<ib2+1+k'->K b i<z:=fun i i1 i2=>by
      have:=k2 (i-(ib2+1)) (by omega)
      rw[show ib2+1+(i-(ib2+1))=i by omega,gk] at this
      unfold bey at this
      exact of_decide_eq_true this
     have k3':∀i,ib2+1+k'<=i->i<b.size->z<=K b i:=fun i i1 i2=>by
      have:=k3 (i-(ib2+1)) (by omega) (by omega)
      rw[show ib2+1+(i-(ib2+1))=i by omega,gk] at this
      unfold bey at this
      have:=of_decide_eq_false this
      omega
     have m5:=m4.Nz k' (Tj (a:=b)) fun i j i1 i2 i3 j1 j2=>U4e (Int.lt_of_lt_of_le (k2' i i1 i2) (by rw[←hz];exact Sa _ j j1 j2))
     clear k2 k3 k2' m4
     dsimp -zeta only
     extract_lets bc3 i6 jp3
     refine Uc (fun v:Array Keyed×Nat=>jp3 () v.1 v.2) (fun v=>ML a b v.1 i5 v.2/\v.2<b.size/\ib2<v.2/\∀i,v.2<=i->i<b.size->z<=K b i) ?_ ?_
     case refine_2 =>
      intro key
      refine Bj (fun hk0=>?_) (fun hk0=>?_)
      .refine Bj (fun e6=>?_) (fun e6=>?_)
       .exact wpS_pure ⟨hE3 _,.inl ⟨_,_,rfl,kL _ _ _ _ m5 (by simpa using e6) rfl⟩⟩
       have e6:¬ib2+1+k'=b.size:=fun z=>e6 (by simpa using z)
       exact key (_,ib2+1+k') ⟨m5,by dsimp only;omega,by dsimp only;omega,k3'⟩
      .have:k'=0:=by
        have:¬k'>0:=hk0
        omega
       subst this
       rw[Yo,U57] at m5
       rw[U57] at k3'
       exact key (_,ib2+1) ⟨m5,by dsimp only;omega,by dsimp only;omega,k3'⟩
     clear m5 k3'
     rintro⟨o6,b6⟩ ⟨m5,h12,h13,k3'⟩
     dsimp only at m5 h12 h13 k3'
     refine wpS_bind (Cg hga ?_)
     have m6:=m5.Kz 1 (Jx hga) fun i j i1 i2 i3 j1 j2=>(by
      rw[Nat.le_antisymm (Nat.lt_succ_iff.mp i2) i1,hz]
      exact k3' j j1 j2)
     refine Bj (fun e7=>?_) (fun e7=>?_)
     .exact wpS_pure ⟨hE3 _,.inl ⟨_,_,rfl,kM _ _ _ _ m6 (by simpa using e7) rfl⟩⟩
     have e7:¬i5+1+1=a.size:=fun z=>e7 (by simpa using z)
     refine Bj (fun _=>?_) (fun _=>?_)
     .exact wpS_pure ⟨hE3 _,.inr ⟨_,_,_,_,_,_,rfl,m6,by omega,h12,by omega⟩⟩
     .exact wpS_pure ⟨hE3 _,_,_,_,_,_,_,rfl,m6,by omega,h12,by omega⟩
end
end Tg
end
section
namespace Tg
open PySem PyProof.Rows
open Rk (kv IsI)
variable[Rk]
def Ye:Array Keyed->Array Keyed->StateT SortSt Sem (Array Keyed):=sortPriv% PySem.Builtin.mergeHi
theorem TY{a:Array Keyed}{n:Nat}{p:Keyed}(h:p∈a.toList.take n):∃i,i<n/\i<a.size/\kv p=K a i:=by
 obtain⟨j,hj,rfl⟩:=U5n h
 rw[U1q,U0g] at hj
 refine⟨j,by omega,by omega,?_⟩
 rw[List.getElem_take,U4a]
 exact KR _
structure MH(a b out:Array Keyed)(na nb:Nat):Prop where
 perm:out.toList.Perm (a.toList.drop na++b.toList.drop nb)
 sa:srt (a.toList.take na++out.toList.reverse)
 sb:srt (b.toList.take nb++out.toList.reverse)
theorem vH{R x r y:List Keyed}(h1:srt (r++x++R))(h2:srt (y++R))(h3:∀q∈y,∀p∈x,kv q<=kv p):srt (r++(x++R))/\srt (y++(x++R)):=by
 unfold srt at *
 refine⟨by rw[←U04];exact h1,?_⟩
 obtain⟨o1,o2,o3⟩:=U06.mp h1
 obtain⟨x1,x2,x3⟩:=U06.mp o1
 obtain⟨p1,p2,p3⟩:=U06.mp h2
 refine U06.mpr ⟨p1,U06.mpr ⟨x2,o2,fun p hp q hq=>o3 p (U0y _ hp) q hq⟩,fun p hp q hq=>?_⟩
 rcases U0z.mp hq with z|z
 .exact h3 p hp q z
 .exact p3 p hp q z
theorem MH.Kz{a b out out':Array Keyed}{na nb:Nat}(h:MH a b out na nb)(n':Nat)(hn:n'<=na)(hs:na<=a.size)(ho:out'.toList=out.toList++((a.toList.drop n').take (na-n')).reverse)(hle:∀i j,n'<=i->i<na->j<nb->j<b.size->K b j<=K a i):MH a b out' n' nb:=by
 have e:a.toList.take n'++(a.toList.drop n').take (na-n')=a.toList.take na:=by
  rw[←List.take_add];congr 1;omega
 have e2:(a.toList.drop n').take (na-n')++a.toList.drop na=a.toList.drop n':=by
  have:=U1t (na-n') (a.toList.drop n')
  rw[U56,show n'+(na-n')=na by omega] at this
  exact this
 obtain⟨c1,c2⟩:=vH (x:=(a.toList.drop n').take (na-n')) (r:=a.toList.take n') (by rw[e];exact h.sa) h.sb fun q hq p hp=>by
  obtain⟨i,i1,i2,i3,i4⟩:=Yg hp
  obtain⟨j,j1,j2,j3⟩:=TY hq
  rw[i4,j3]
  exact hle i j i1 (by omega) j1 j2
 refine⟨?_,by rw[ho,List.reverse_append,List.reverse_reverse];exact c1,by rw[ho,List.reverse_append,List.reverse_reverse];exact c2⟩
 generalize (a.toList.drop n').take (na-n')=x at *
 rw[ho,←e2]
 refine(h.perm.append_right _).trans ?_
 refine(U2e _ (U8h _)).trans ?_
 refine U2f.trans ?_
 rw[←U04]
theorem MH.swap{a b out:Array Keyed}{na nb:Nat}(h:MH a b out na nb):MH b a out nb na:=⟨h.perm.trans U2f,h.sb,h.sa⟩
theorem MH.Nz{a b out out':Array Keyed}{na nb:Nat}(h:MH a b out na nb)(n':Nat)(hn:n'<=nb)(hs:nb<=b.size)(ho:out'.toList=out.toList++((b.toList.drop n').take (nb-n')).reverse)(hle:∀i j,n'<=i->i<nb->j<na->j<a.size->K a j<=K b i):MH a b out' na n':=(h.swap.Kz n' hn hs ho hle).swap
theorem KY{a out:Array Keyed}{n:Nat}(hn:n-1<a.size)(h0:0<n):(out.push a[n-1]).toList=out.toList++((a.toList.drop (n-1)).take (n-(n-1))).reverse:=by
 rw[Jx hn,show n-(n-1)=1 by omega]
 have:(a.toList.drop (n-1)).take 1=[a[n-1]]:=by
  rw[U3z (by rw[U0g];exact hn)];rfl
 rw[this];rfl
theorem Wb{a out:Array Keyed}{n' n:Nat}:(out++(a.extract n' n).reverse).toList=out.toList++((a.toList.drop n').take (n-n')).reverse:=by
 rw[U19,U6,U4o,U30]
theorem K1(a:Array Keyed)(n:Nat):(a.extract 0 n).toList=a.toList.take n:=by
 rw[U4o,U30,U54,Nat.sub_zero]
theorem MH.mK{a b out r:Array Keyed}{na nb:Nat}(h:MH a b out na nb)(ha:na=0)(hr:r.toList=b.toList.take nb++out.toList.reverse):r.toList.Perm (a.toList++b.toList)/\srt r.toList:=by
 refine⟨?_,by rw[hr];exact h.sb⟩
 have p:=h.perm
 rw[ha,U54] at p
 rw[hr]
 refine(U2e _ ((U8h _).trans p)).trans ?_
 refine U2f.trans ?_
 rw[U04]
 refine U2e _ (U2f.trans ?_)
 rw[U1t]
theorem MH.v8{a b out r:Array Keyed}{na nb:Nat}(h:MH a b out na nb)(hb:nb=1)(hmin:∀i,i<a.size->K b 0<=K a i)(hr:r.toList=b.toList.take nb++a.toList.take na++out.toList.reverse):r.toList.Perm (a.toList++b.toList)/\srt r.toList:=by
 constructor
 .rw[hr]
  refine(U2e _ ((U8h _).trans h.perm)).trans ?_
  have e1:=U1t na a.toList
  have e2:=U1t nb b.toList
  generalize a.toList.take na=x at *
  generalize a.toList.drop na=x' at *
  generalize b.toList.take nb=y at *
  generalize b.toList.drop nb=y' at *
  rw[←e1,←e2,U04]
  refine U2f.trans ?_
  rw[U04,U04,U04]
  refine U2e _ (U2e _ U2f)
 .rw[hr,U04]
  have sb:=h.sb
  unfold srt at *
  obtain⟨b1,b2,b3⟩:=U06.mp sb
  refine U06.mpr ⟨b1,h.sa,fun p hp q hq=>?_⟩
  obtain⟨i,i1,i2,i3⟩:=TY hp
  have:i=0:=by omega
  subst this
  rcases U0z.mp hq with z|z
  .obtain⟨j,j1,j2,j3⟩:=TY z
   rw[i3,j3]
   exact hmin j j2
  .exact b3 p hp q z
section
variable{prog:Program}{w:World}{A:Around}{E:Value->Shared->Prop}{s:Shared}[Ask prog w A s]
theorem ZQ{a b:Array Keyed}{Q:Array Keyed->SortSt->Prop}{st:SortSt}(hk:kindOf st=Rk.κ)(Ia:Jq a)(Ib:Jq b)(Sa:SortedTo a a.size)(Sb:SortedTo b b.size)(na:0<a.size)(nb:0<b.size)
  (hmin:∀i,i<a.size->K b 0<=K a i) (hmax:∀j,j<b.size->K b j<=K a (a.size-1))
  (h:∀r st',EqG st st'->r.toList.Perm (a.toList++b.toList)->srt r.toList->Q r st'):wpS `am A E s (Ye a b) Q st:=by
 have kA:∀out na nb r,MH a b out na nb->na=0->r=a.extract 0 na++b.extract 0 nb++out.reverse->r.toList.Perm (a.toList++b.toList)/\srt r.toList:=fun out na nb r m e hr=>m.mK e (by
  rw[hr,e,U19,U19,U6,K1,K1];rfl)
 have kB:∀out na nb r,MH a b out na nb->nb=0->r=a.extract 0 na++b.extract 0 nb++out.reverse->r.toList.Perm (a.toList++b.toList)/\srt r.toList:=fun out na nb r m e hr=>by
  obtain⟨q1,q2⟩:=m.swap.mK (r:=r) e (by
   rw[hr,e,U19,U19,U6,K1,K1,List.take_zero,U1o])
  exact⟨q1.trans U2f,q2⟩
 have kF:∀out na nb r,MH a b out na nb->nb=1->r=b.extract 0 nb++a.extract 0 na++out.reverse->r.toList.Perm (a.toList++b.toList)/\srt r.toList:=fun out na nb r m e hr=>m.v8 e hmin (by
  rw[hr,U19,U19,U6,K1,K1])
 have hl:a.size-1<a.size:=by omega
 have m0:MH a b #[a[a.size-1]] (a.size-1) b.size:=by
  have:MH a b #[] a.size b.size:=⟨by rw[QK,QK];exact .nil,by
   show srt (a.toList.take a.size++[])
   rw[U1o,U12 (by rw[U0g];exact U0l _)]
   exact MP Sa,by
   show srt (b.toList.take b.size++[])
   rw[U1o,U12 (by rw[U0g];exact U0l _)]
   exact MP Sb⟩
  refine this.Kz (out':=#[a[a.size-1]]) (a.size-1) (by omega) (U0l _) (KY (out:=#[]) hl na) fun i j h1 h2 h3 h4=>?_
  have:i=a.size-1:=by omega
  subst this
  exact hmax j h4
 unfold Ye
 refine wpS_bind (wpS_lift (U39 ⟨rfl,?_⟩))
 refine wpS_bind (Cg hl ?_)
 refine Bj (fun e1=>?_) (fun e1=>?_)
 .obtain⟨q1,q2⟩:=kA _ _ _ _ m0 (by simpa using e1) rfl
  exact wpS_pure (h _ _ (EqG.refl st) q1 q2)
 have e1:¬a.size-1=0:=fun z=>e1 (by simpa using z)
 refine Bj (fun e2=>?_) (fun e2=>?_)
 .obtain⟨q1,q2⟩:=kF _ _ _ _ m0 (by simpa using e2) rfl
  exact wpS_pure (h _ _ (EqG.refl st) q1 q2)
 have e2:¬b.size=1:=fun z=>e2 (by simpa using z)
 refine wpS_bind (wpS_get ?_)
 refine wpS_bind (wpS_mono (wpS_forRange
  (I:=fun x c st'=>EqG st st'/\∃na nb out g,c=(none,na,nb,out,g)/\MH a b out na nb/\0<na/\1<nb/\na<=a.size/\nb<=b.size/\x+na+nb<=a.size+b.size)
  (Q:=fun c st'=>EqG st st'/\∃r y,c=(some r,y)/\r.toList.Perm (a.toList++b.toList)/\srt r.toList) ?step ?fin ⟨EqG.refl st,_,_,_,_,rfl,m0,by omega,by omega,by omega,by omega,by omega⟩) ?post)
 case fin =>
  rintro c st' ⟨_,na,nb,out,g,rfl,_,h1,h2,h3,h4,h5⟩
  omega
 case post =>
  rintro c st' ⟨hE,r,y,rfl,q1,q2⟩
  exact wpS_pure (h r st' hE q1 q2)
 case step =>
  rintro x c st1 _ hx ⟨hE,na0,nb0,out,g,rfl,m,h1,h2,s1,s2,h3⟩
  refine wpS_bind (wpS_mono (wpS_forRange
   (I:=fun y c st'=>EqG st st'/\∃na nb out ac bc,c=(none,na,nb,out,ac,bc)/\MH a b out na nb/\0<na/\1<nb/\na<=a.size/\nb<=b.size/\y+na+nb<=na0+nb0)
   (Q:=fun c st'=>EqG st st'/\((∃r y,c=(some r,y)/\r.toList.Perm (a.toList++b.toList)/\srt r.toList)∨∃na nb out ac bc,c=(none,na,nb,out,ac,bc)/\MH a b out na nb/\0<na/\1<nb/\na<=a.size/\nb<=b.size/\1+na+nb<=na0+nb0)) ?step1 ?fin1 ⟨hE,na0,nb0,out,0,0,rfl,m,h1,h2,s1,s2,by omega⟩) ?post1)
  case fin1 =>
   rintro c st' ⟨_,na,nb,out,ac,bc,rfl,_,h4,h5,s3,s4,h6⟩
   omega
  case step1 =>
   rintro y c st' _ hy ⟨hE',na',nb',out',ac,bc,rfl,m',h4,h5,s3,s4,h6⟩
   have ib:nb'-1<b.size:=by omega
   have ia:na'-1<a.size:=by omega
   have gb:=Ib.get ib
   have ga:=Ia.get ia
   refine wpS_bind (Cg ib (wpS_bind (Cg ia (wpS_bind (Ou gb.1 ga.1 (hE'.kind.trans hk) ?_)))))
   refine Bj (fun hw=>?_) (fun hw=>?_)
   .have hw:=of_decide_eq_true hw
    rw[gb.2,ga.2] at hw
    refine wpS_bind (Cg ia ?_)
    have m2:MH a b (out'.push a[na'-1]) (na'-1) nb':=m'.Kz (na'-1) (by omega) s3 (KY ia h4) fun i j i1 i2 j1 j2=>by
     have:i=na'-1:=by omega
     subst this
     have:=Sb j (nb'-1) (by omega) (by omega)
     omega
    refine Bj (fun e3=>?_) (fun e3=>?_)
    .exact wpS_pure ⟨hE',.inl ⟨_,_,rfl,kA _ _ _ _ m2 (beq_iff_eq.mp e3) rfl⟩⟩
    have e3:¬na'-1=0:=fun z=>e3 (beq_iff_eq.mpr z)
    refine Bj (fun e4=>?_) (fun e4=>?_)
    .exact wpS_pure ⟨hE',.inr ⟨na'-1,nb',out'.push a[na'-1],ac+1,0,rfl,m2,by omega,h5,by omega,by omega,by omega⟩⟩
    .exact wpS_pure ⟨hE',na'-1,nb',out'.push a[na'-1],ac+1,0,rfl,m2,by omega,h5,by omega,by omega,by omega⟩
   .have hw:¬K b (nb'-1)<K a (na'-1):=fun z=>hw (decide_eq_true (by rw[gb.2,ga.2];exact z))
    refine wpS_bind (Cg ib ?_)
    have m2:MH a b (out'.push b[nb'-1]) na' (nb'-1):=m'.Nz (nb'-1) (by omega) s4 (KY ib (by omega)) fun i j i1 i2 j1 j2=>by
     have:i=nb'-1:=by omega
     subst this
     have:=Sa j (na'-1) (by omega) (by omega)
     omega
    refine Bj (fun e3=>?_) (fun e3=>?_)
    .exact wpS_pure ⟨hE',.inl ⟨_,_,rfl,kF _ _ _ _ m2 (beq_iff_eq.mp e3) rfl⟩⟩
    have e3:¬nb'-1=1:=fun z=>e3 (beq_iff_eq.mpr z)
    refine Bj (fun e4=>?_) (fun e4=>?_)
    .exact wpS_pure ⟨hE',.inr ⟨na',nb'-1,out'.push b[nb'-1],0,bc+1,rfl,m2,h4,by omega,by omega,by omega,by omega⟩⟩
    .exact wpS_pure ⟨hE',na',nb'-1,out'.push b[nb'-1],0,bc+1,rfl,m2,h4,by omega,by omega,by omega,by omega⟩
  case post1 =>
   rintro c st' ⟨hE',⟨r,y,rfl,q⟩|⟨na',nb',out',ac,bc,rfl,m',h4,h5,s3,s4,h6⟩⟩
   .exact wpS_pure ⟨hE',r,_,rfl,q⟩
   .refine wpS_bind (wpS_lift (U39 ⟨rfl,?_⟩))
    refine wpS_bind (wpS_mono (wpS_forRange
     (I:=fun y c st'=>EqG st st'/\∃na nb out g ac bc,c=(none,na,nb,out,g,ac,bc)/\MH a b out na nb/\0<na/\1<nb/\na<=a.size/\nb<=b.size/\y+na+nb<=na'+nb')
     (Q:=fun c st'=>EqG st st'/\((∃r y,c=(some r,y)/\r.toList.Perm (a.toList++b.toList)/\srt r.toList)∨∃na nb out g ac bc,c=(none,na,nb,out,g,ac,bc)/\MH a b out na nb/\0<na/\1<nb/\na<=a.size/\nb<=b.size/\na+nb<=na'+nb')) ?step2 ?fin2 ⟨hE',na',nb',out',_,ac,bc,rfl,m',h4,h5,s3,s4,by omega⟩) ?post2)
    case fin2 =>
     rintro c st' ⟨_,na,nb,out,g,ac,bc,rfl,_,h7,h8,s5,s6,h9⟩
     omega
    case post2 =>
     rintro c st' ⟨hE2,⟨r,y,rfl,q⟩|⟨na2,nb2,out,g2,ac,bc,rfl,m2,h7,h8,s5,s6,h9⟩⟩
     .exact wpS_pure ⟨hE2,r,_,rfl,q⟩
     .refine wpS_bind (wpS_modify (wpS_pure ⟨⟨hE2.kind,hE2.arr,hE2.pend,hE2.failed⟩,na2,nb2,out,_,rfl,m2,h7,h8,s5,s6,by omega⟩))
    case step2 =>
     rintro y c st2 _ hy ⟨hE2,na2,nb2,out2,g2,ac2,bc2,rfl,m2,h7,h8,s5,s6,h9⟩
     extract_lets s7' a3 s8 b3 s9 o3 s10 mg s11 acn bcn b4 jp
     have ib:nb2-1<b.size:=by omega
     refine Zt (f:=jp ()) fun g3=>?_
     clear_value mg
     refine wpS_bind (wpS_modify ?_)
     refine wpS_bind (Cg ib ?_)
     have gb:=Ib.get ib
     have hE3:∀g,EqG st (U8k (kindOf st2) (arrOf st2) (pendingOf st2) g (failedOf st2)):=fun g=>⟨hE2.kind,hE2.arr,hE2.pend,hE2.failed⟩
     refine wpS_bind (Iw (base:=0) (n:=na2) (hint:=na2-1) (hE2.kind.trans hk) gb.1 Ia (by omega) (by omega) (fun i j i1 i2 i3=>?_) fun k k1 k2 k3=>?_)
     .unfold bey at *
      have:=Sa (0+i) (0+j) (by omega) (by omega)
      simp at i3 ⊢
      simp at this
      omega
     have k2':∀i,i<k->K a i<=K b (nb2-1):=fun i i1=>by
      have:=k2 i i1
      rw[U3b,gb.2] at this
      unfold bey at this
      simp at this
      omega
     have k3':∀i,k<=i->i<na2->K b (nb2-1)<K a i:=fun i i1 i2=>by
      have:=k3 i i1 i2
      rw[U3b,gb.2] at this
      unfold bey at this
      simp at this
      omega
     have m3:MH a b (out2++(a.extract k na2).reverse) k nb2:=m2.Kz k k1 s5 Wb fun i j i1 i2 j1 j2=>(by
      have:=Sb j (nb2-1) (by omega) (by omega)
      have:=k3' i i1 i2
      omega)
     clear k2 k3 k3'
     dsimp -zeta only
     extract_lets kk2 ac3 jp2
     refine Uc (fun v:Nat×Array Keyed=>jp2 () v.1 v.2) (fun v=>MH a b v.2 v.1 nb2/\0<v.1/\v.1<=na2/\∀i,i<v.1->K a i<=K b (nb2-1)) ?_ ?_
     case refine_2 =>
      intro key
      refine Bj (fun hk0=>?_) (fun hk0=>?_)
      .refine Bj (fun e3=>?_) (fun e3=>?_)
       .exact wpS_pure ⟨hE3 _,.inl ⟨_,_,rfl,kA _ _ _ _ m3 (by simpa using e3) rfl⟩⟩
       have e3:¬k=0:=fun z=>e3 (by simpa using z)
       exact key (k,_) ⟨m3,by dsimp only;omega,k1,k2'⟩
      .have:k=na2:=by
        have:¬na2-k>0:=hk0
        omega
       subst this
       exact key (k,out2) ⟨m2,h7,k1,k2'⟩
     clear m3 k2' k1 m2
     rintro⟨i5,o5⟩ ⟨m3,h10,h11,k2'⟩
     dsimp only at m3 h10 h11 k2'
     have hga:i5-1<a.size:=by omega
     have ga:=Ia.get hga
     obtain⟨z,hz⟩:∃z,K a (i5-1)=z:=⟨_,rfl⟩
     have hz2:∀j,j<i5->K a j<=z:=fun j hj=>by rw[←hz];exact Sa j (i5-1) (by omega) (by omega)
     refine wpS_bind (Cg ib ?_)
     have m4:=m3.Nz (nb2-1) (by omega) s6 (KY ib (by omega)) fun i j i1 i2 j1 j2=>(by
      have:i=nb2-1:=by omega
      subst this
      exact k2' j j1)
     refine Bj (fun e5=>?_) (fun e5=>?_)
     .exact wpS_pure ⟨hE3 _,.inl ⟨_,_,rfl,kF _ _ _ _ m4 (beq_iff_eq.mp e5) rfl⟩⟩
     have e5:¬nb2-1=1:=fun z=>e5 (beq_iff_eq.mpr z)
     refine wpS_bind (Cg hga ?_)
     refine wpS_bind (Iw (base:=0) (n:=nb2-1) (hint:=nb2-1-1) (hE2.kind.trans hk) ga.1 Ib (by omega) (by omega) (fun i j i1 i2 i3=>?_) fun k' k1' k2 k3=>?_)
     .unfold bey at *
      have:=Sb (0+i) (0+j) (by omega) (by omega)
      simp at i3 ⊢
      simp at this
      omega
     have gk:=ga.2.trans hz
     have q2':∀i,i<k'->K b i<z:=fun i i1=>by
      have:=k2 i i1
      rw[U3b,gk] at this
      unfold bey at this
      exact of_decide_eq_true this
     have q3':∀i,k'<=i->i<nb2-1->z<=K b i:=fun i i1 i2=>by
      have:=k3 i i1 i2
      rw[U3b,gk] at this
      unfold bey at this
      have:=of_decide_eq_false this
      omega
     have m5:=m4.Nz k' k1' (by omega) (Wb (a:=b)) fun i j i1 i2 j1 j2=>U8p (hz2 j j1) (q3' i i1 i2)
     clear k2 k3 q3'
     dsimp -zeta only
     extract_lets kk3 bc3 i6 jp3
     refine Uc (fun v:Nat×Array Keyed=>jp3 () v.1 v.2) (fun v=>MH a b v.2 i5 v.1/\1<v.1/\v.1<nb2/\∀i,i<v.1->K b i<z) ?_ ?_
     case refine_2 =>
      intro key
      refine Bj (fun hk0=>?_) (fun hk0=>?_)
      .refine Bj (fun e6=>?_) (fun e6=>?_)
       .exact wpS_pure ⟨hE3 _,.inl ⟨_,_,rfl,kF _ _ _ _ m5 (by simpa using e6) rfl⟩⟩
       have e6:¬k'=1:=fun z=>e6 (by simpa using z)
       refine Bj (fun e8=>?_) (fun e8=>?_)
       .exact wpS_pure ⟨hE3 _,.inl ⟨_,_,rfl,kB _ _ _ _ m5 (by simpa using e8) rfl⟩⟩
       have e8:¬k'=0:=fun z=>e8 (by simpa using z)
       exact key (k',_) ⟨m5,by dsimp only;omega,by dsimp only;omega,q2'⟩
      .have:k'=nb2-1:=by
        have:¬nb2-1-k'>0:=hk0
        omega
       subst this
       exact key (nb2-1,_) ⟨m4,by dsimp only;omega,by dsimp only;omega,q2'⟩
     clear m4 m5 q2' k1'
     rintro⟨b6,o6⟩ ⟨m5,h12,h13,q2'⟩
     dsimp only at m5 h12 h13 q2'
     refine wpS_bind (Cg hga ?_)
     have m6:=m5.Kz (i5-1) (by omega) (by omega) (KY hga h10) fun i j i1 i2 j1 j2=>(by
      have:i=i5-1:=by omega
      subst this
      rw[hz]
      exact U4e (q2' j j1))
     refine Bj (fun e7=>?_) (fun e7=>?_)
     .exact wpS_pure ⟨hE3 _,.inl ⟨_,_,rfl,kA _ _ _ _ m6 (by simpa using e7) rfl⟩⟩
     have e7:¬i5-1=0:=fun z=>e7 (by simpa using z)
     refine Bj (fun _=>?_) (fun _=>?_)
     .exact wpS_pure ⟨hE3 _,.inr ⟨_,_,_,_,_,_,rfl,m6,by omega,h12,by omega,by omega,by omega⟩⟩
     .exact wpS_pure ⟨hE3 _,_,_,_,_,_,_,rfl,m6,by omega,h12,by omega,by omega,by omega⟩
end
end Tg
end
section
namespace Tg
open PySem PyProof.Rows
open Rk (kv IsI)
variable[Rk]
structure RB(a₀:Array Keyed)(st0:SortSt)(lo:Nat)(st:SortSt):Prop where
 perm:(`aT).Perm a₀
 pre:∀i,i<lo->`aT[i]?=(arrOf st0)[i]?
 kind:kindOf st=Rk.κ
 failed:failedOf st=none
 pend:pendingOf st=pendingOf st0
structure Keys(a₀:Array Keyed):Prop where
 allI:Jq a₀
 uniq:(a₀.toList.map kv).Nodup
theorem YS{a₀ xs:Array Keyed}(h:Jq a₀)(hp:xs.Perm a₀):Jq xs:=fun p hm=>h p ((U46.mp hp).mem_iff.mp hm)
theorem sW{a₀ xs:Array Keyed}(h:Keys a₀)(hp:xs.Perm a₀){i j:Nat}(hi:i<a₀.size)(hj:j<a₀.size)(hij:i≠j):K xs i≠K xs j:=by
 have hn:(xs.toList.map kv).Nodup:=((U46.mp hp).map kv).nodup_iff.mpr h.uniq
 have sz:=hp.size_eq
 have h1:i<xs.size:=by omega
 have h2:j<xs.size:=by omega
 intro z
 rw[←KR h1,←KR h2] at z
 have g:∀k (hk:k<xs.size),(xs.toList.map kv)[k]'(by rw[U0d,U0g];exact hk)=kv xs[k]:=fun k hk=>by rw[U4t,U4a]
 have P:=U1w.mp hn
 rcases Nat.lt_or_gt_of_ne hij with l|l
 .exact P i j (by rw[U0d,U0g];exact h1) (by rw[U0d,U0g];exact h2) l (by rw[g i h1,g j h2];exact z)
 .exact P j i (by rw[U0d,U0g];exact h2) (by rw[U0d,U0g];exact h1) l (by rw[g i h1,g j h2];exact z.symm)
variable{a₀:Array Keyed}{st0:SortSt}{lo:Nat}
theorem RB.size{st:SortSt}(h:RB a₀ st0 lo st):(`aT).size=a₀.size:=h.perm.size_eq
theorem RB.mirror{st:SortSt}(h:RB a₀ st0 lo st){j:Nat}(hj:j<=a₀.size):RB a₀ st0 lo (setArr st (mirror `aT lo j ((j-lo)/2))) :=
 ⟨(mirror_perm _ _ _ _).trans h.perm,fun i hi=>by
  show(PyProof.Rows.mirror `aT lo j ((j-lo)/2))[i]?=_
  rw[getElem?_mirror_all (by rw[h.size];exact hj),if_neg (by omega)]
  exact h.pre i hi,h.kind,h.failed,h.pend⟩
theorem RB.bubble{st:SortSt}(h:RB a₀ st0 lo st){k d:Nat}(hk:lo+k<a₀.size)(hd:d<=k):RB a₀ st0 lo (setArr st (bubble `aT (lo+k) d)) :=
 ⟨(bubble_perm _ _ _).trans h.perm,fun i hi=>by
  show(PyProof.Rows.bubble `aT (lo+k) d)[i]?=_
  rw[getElem?_bubble (by rw[h.size];exact hk) d (by omega),if_neg (by omega),if_neg (by omega)]
  exact h.pre i hi,h.kind,h.failed,h.pend⟩
def KD(xs:Array Keyed)(lo m:Nat):Prop:=∀i j,i<=j->j<m->K xs (lo+i)<=K xs (lo+j)
section
variable{prog:Program}{w:World}{A:Around}{E:Value->Shared->Prop}{s:Shared}[Ask prog w A s]
theorem Ml{st:SortSt}{i j:Nat}{Q:Option Bool->SortSt->Prop}(hB:RB a₀ st0 lo st)(h0:Keys a₀)(hi:i<a₀.size)(hj:j<a₀.size)
  (h:Q (some (decide (K `aT i<K `aT j))) st):wpS `am A E s (ltAt' i j) Q st:=by
 have I:=YS h0.allI hB.perm
 have g1:=I.get (show i<(`aT).size by rw[hB.size];exact hi)
 have g2:=I.get (show j<(`aT).size by rw[hB.size];exact hj)
 rw[ltAt'_eq]
 refine wpS_bind (wpS_get (wpS_bind (Cg (by rw[hB.size];exact hi) (wpS_bind (Cg (by rw[hB.size];exact hj) (Ou g1.1 g2.1 hB.kind ?_))))))
 rw[g1.2,g2.2]
 exact h
theorem Y8{st:SortSt}{n ok:Nat}{Q:Bool->SortSt->Prop}(h0:Keys a₀)(hn:lo+n<=a₀.size)(hok:ok<=n)(hB:RB a₀ st0 lo st)(hs:KD `aT lo ok)
  (h:∀st',RB a₀ st0 lo st'->KD `bn lo n->Q true st'):wpS `am A E s (binarySort' lo n ok) Q st:=by
 rw[binarySort'_eq]
 refine wpS_bind (wpS_mono (wpS_forRange (I:=fun k c st'=>c=(none,())/\RB a₀ st0 lo st'/\KD `bn lo (min k n))
  (Q:=fun c st'=>c=(none,())/\RB a₀ st0 lo st'/\KD `bn lo n) ?step ?fin ?init) ?post)
 case post =>
  rintro c st' ⟨rfl,hB',hs'⟩
  exact wpS_pure (h st' hB' hs')
 case init =>
  refine⟨rfl,hB,fun i j hij hj=>?_⟩
  by_cases h1:ok=0
  .have:i=j:=by omega
   subst this;exact U1j _
  .exact hs i j hij (by omega)
 case fin =>
  rintro c st' ⟨hc,hB',hs'⟩
  refine⟨hc,hB',?_⟩
  rwa [show min (max (max ok 1) n) n=n by omega] at hs'
 case step =>
  rintro k c st' hak hkn ⟨rfl,hB',hs'⟩
  rw[show min k n=k by omega] at hs'
  refine wpS_bind (wpS_mono (wpS_forRange (I:=fun x c st''=>st''=st'/\∃l r,c=(none,l,r)/\l<=r/\r<=k/\r-l<=k-x /\
    (∀i,i<l->K `bn (lo+i)<=K `bn (lo+k))/\(∀i,r<=i->i<k->K `bn (lo+k)<K `bn (lo+i)))
   (Q:=fun c st''=>st''=st'/\∃l r,c=(none,l,r)/\l<=k /\
    (∀i,i<l->K `bn (lo+i)<=K `bn (lo+k))/\(∀i,l<=i->i<k->K `bn (lo+k)<K `bn (lo+i))) ?istep ?ifin ?iinit) ?ipost)
  case iinit=>exact⟨rfl,0,k,rfl,by omega,by omega,by omega,fun i hi=>by omega,fun i h1 h2=>by omega⟩
  case ifin =>
   rintro c st'' ⟨rfl,l,r,rfl,hlr,hrk,hm,hlo,hhi⟩
   have:l=r:=by omega
   subst this
   exact⟨rfl,l,l,rfl,hrk,hlo,hhi⟩
  case istep =>
   rintro x c st'' _ hxk ⟨rfl,l,r,rfl,hlr,hrk,hm,hlo,hhi⟩
   dsimp only
   by_cases hge:l≥r
   .rw[if_pos hge]
    have:l=r:=by omega
    subst this
    exact wpS_pure ⟨rfl,l,l,rfl,hrk,hlo,hhi⟩
   .rw[if_neg hge]
    refine wpS_bind (Ml hB' h0 (by omega) (by omega) ?_)
    by_cases hless:K (arrOf st'') (lo+k)<K (arrOf st'') (lo+(l+r)/2)
    .simp only[hless,decide_true,if_true]
     refine wpS_pure ⟨rfl,l,(l+r)/2,rfl,by omega,by omega,by omega,hlo,fun i h1 h2=>?_⟩
     exact Int.lt_of_lt_of_le hless (hs' _ _ h1 h2)
    .simp only[hless,decide_false,U0s,if_false]
     refine wpS_pure ⟨rfl,(l+r)/2+1,r,rfl,by omega,by omega,by omega,fun i h1=>?_,hhi⟩
     exact U8p (hs' i ((l+r)/2) (by omega) (by omega)) (Int.not_lt.mp hless)
  case ipost =>
   rintro c st'' ⟨rfl,l,r,rfl,hlk,hlo,hhi⟩
   show wpS _ _ _ _ (do moveDown' (lo+k) (lo+l);pure (U41 (none,()))) _ _
   rw[moveDown'_eq]
   have ed:lo+k-(lo+l)=k-l:=by omega
   rw[ed]
   refine wpS_bind (wpS_modify (wpS_pure ⟨rfl,hB'.bubble (by omega) (by omega),?_⟩))
   rw[show min (k+1) n=k+1 by omega]
   have hks:lo+k<(arrOf st'').size:=by rw[hB'.size];omega
   intro i j hij hj
   show K (bubble (arrOf st'') (lo+k) (k-l)) (lo+i)<=K (bubble (arrOf st'') (lo+k) (k-l)) (lo+j)
   rw[K_bubble hks (by omega),K_bubble hks (by omega),show lo+k-(k-l)=lo+l by omega]
   have e1:∀i,0<i->lo+i-1=lo+(i-1):=fun i h=>by omega
   repeat' split
   all_goals first
    |(exfalso;omega)
    |exact U1j _
    |exact hlo _ (by omega)
    |(rw[e1 _ (by omega)];exact U4e (hhi _ (by omega) (by omega)))
    |(rw[e1 i (by omega),e1 j (by omega)];exact hs' _ _ (by omega) (by omega))
    |(rw[e1 j (by omega)];exact hs' _ _ (by omega) (by omega))
    |(rw[e1 j (by omega)];exact hlo _ (by omega))
    |exact hs' _ _ (by omega) (by omega)
theorem Ux{st:SortSt}{nrem:Nat}{Q:Option Nat->SortSt->Prop}(h0:Keys a₀)(hn:lo+nrem<=a₀.size)(h1:1<=nrem)(hB:RB a₀ st0 lo st)
  (h:∀m st',RB a₀ st0 lo st'->1<=m->m<=nrem->KD `bn lo m->Q (some m) st') :
  wpS `am A E s (countRun' lo nrem) Q st:=by
 have up:∀(f:Nat->Option (Option Nat)×Nat->StateT SortSt Sem (ForInStep (Option (Option Nat)×Nat)))(R:Option (Option Nat)×Nat->SortSt->Prop)(a:Nat)(st:SortSt),1<=a->a<=nrem->RB a₀ st0 lo st->KD `aT lo a ->
   (∀x y Q',1<=y->y<nrem->Q' (if K `aT (lo+y)<K `aT (lo+y-1) then ForInStep.done (none,y) else U41 (none,y+1)) st->wpS `am A E s (f x (none,y)) Q' st) ->
   (∀n,a<=n->n<=nrem->KD `aT lo n->(n=nrem∨K `aT (lo+n)<K `aT (lo+n-1))->R (none,n) st)->wpS `am A E s (forIn [a:nrem] (none,a) f) R st:=fun f R a st ha han hB hs hf hR=>by
  refine wpS_forRange (I:=fun x c st'=>st'=st/\c=(none,x)/\KD `aT lo x) ?step ?fin ⟨rfl,rfl,hs⟩
  case fin =>
   rintro c st' ⟨rfl,rfl,hs'⟩
   rw[show max a nrem=nrem by omega] at hs' ⊢
   exact hR nrem han (U0l _) hs' (.inl rfl)
  case step =>
   rintro x c st' hax hxn ⟨rfl,rfl,hs'⟩
   refine hf x x _ (by omega) hxn ?_
   by_cases hless:K `bn (lo+x)<K `bn (lo+x-1)
   .rw[if_pos hless]
    exact hR x hax (by omega) hs' (.inr hless)
   .rw[if_neg hless]
    refine⟨rfl,rfl,fun i j hij hj=>?_⟩
    by_cases hjx:j<x
    .exact hs' i j hij hjx
    .have hj':j=x:=by omega
     subst hj'
     by_cases hi':i=j
     .subst hi';exact U1j _
     .have:=hs' i (j-1) (by omega) (by omega)
      rw[show lo+(j-1)=lo+j-1 by omega] at this
      omega
 unfold countRun'
 refine wpS_bind (up _ _ 1 st (U0l _) h1 hB (fun i j hij hj=>by
  have:i=j:=by omega
  subst this;exact U1j _) (fun x y Q' y1 y2 hq=>?_) fun n n1 n2 hsn hor=>?_)
 .refine wpS_bind (Ml hB h0 (by omega) (by omega) ?_)
  by_cases z:K `aT (lo+y)<K `aT (lo+y-1)
  .rw[if_pos z] at hq
   simp only[z,decide_true,if_true]
   exact wpS_pure hq
  .rw[if_neg z] at hq
   simp only[z,decide_false,U0s,if_false]
   exact wpS_pure hq
 refine Bj (fun e1=>?_) (fun e1=>?_)
 .exact wpS_pure (h n st hB n1 n2 hsn)
 have e1:¬n=nrem:=fun z=>e1 (by simpa using z)
 have hlt:=hor.resolve_left e1
 refine Bj (fun e2=>?_) (fun e2=>?_)
 .have e2:n>1:=e2
  refine wpS_bind (Ml hB h0 (by omega) (by omega) ?_)
  have rose:K `aT lo<K `aT (lo+n-1):=by
   have q1:=hsn 0 (n-1) (by omega) (by omega)
   have q2:=sW h0 hB.perm (i:=lo) (j:=lo+n-1) (by omega) (by omega) (by omega)
   rw[U57,show lo+(n-1)=lo+n-1 by omega] at q1
   omega
  refine Bj (fun _=>?_) (fun e3=>absurd (decide_eq_true rose) e3)
  exact wpS_pure (h n st hB n1 n2 hsn)
 have e2:n=1:=by
  have:¬n>1:=e2
  omega
 subst e2
 have hd0:∀i j,i<j->j<1+1->K `aT (lo+j)<K `aT (lo+i):=fun i j h2 h3=>by
  have e3:i=0:=by omega
  have e4:j=1:=by omega
  subst e3 e4
  exact hlt
 refine wpS_bind (wpS_lift (U39 ⟨rfl,?_⟩))
 refine wpS_bind (wpS_mono (wpS_forRange (I:=fun x c st'=>st'=st/\c=(none,x,0)/\∀i j,i<j->j<x->K `aT (lo+j)<K `aT (lo+i))
  (Q:=fun c st'=>st'=st/\∃n,c=(none,n,0)/\1<=n/\n<=nrem/\∀i j,i<j->j<n->K `aT (lo+j)<K `aT (lo+i)) ?step ?fin ⟨rfl,rfl,hd0⟩) ?post)
 case fin =>
  rintro c st' ⟨rfl,rfl,hd⟩
  rw[show max (1+1) nrem=nrem by omega] at hd
  refine⟨rfl,nrem,?_,by omega,U0l _,hd⟩
  rw[show max (1+1) nrem=nrem by omega]
 case step =>
  rintro x c st' hx1 hx2 ⟨rfl,rfl,hd⟩
  dsimp only
  refine wpS_bind (Ml hB h0 (by omega) (by omega) ?_)
  by_cases z:K `bn (lo+x)<K `bn (lo+x-1)
  .simp only[z,decide_true,if_true]
   refine Bj (fun e=>by omega) (fun _=>?_)
   refine wpS_pure ⟨rfl,rfl,fun i j h2 h3=>?_⟩
   by_cases hj:j<x
   .exact hd i j h2 hj
   .have:j=x:=by omega
    subst this
    by_cases hi:i=j-1
    .subst hi
     rw[show lo+(j-1)=lo+j-1 by omega];exact z
    .have:=hd i (j-1) (by omega) (by omega)
     rw[show lo+(j-1)=lo+j-1 by omega] at this
     omega
  .simp only[z,decide_false,U0s,if_false]
   refine wpS_bind (Ml hB h0 (by omega) (by omega) ?_)
   have larger:K `bn (lo+x-1)<K `bn (lo+x):=by
    have:=sW h0 hB.perm (i:=lo+x) (j:=lo+x-1) (by omega) (by omega) (by omega)
    omega
   simp only[larger,decide_true,if_true]
   exact wpS_pure ⟨rfl,x,rfl,by omega,by omega,hd⟩
 case post =>
  rintro c st' ⟨rfl,n,rfl,n1,n2,hd⟩
  refine Bj (fun e=>by simp at e) (fun _=>?_)
  refine wpS_bind ?_
  show wpS _ _ _ _ (reverseSlice' _ _) _ _
  have hB2:=hB.mirror (j:=lo+n) (by omega)
  have hsz:lo+n<=(`bn).size:=by rw[hB.size];omega
  refine wpS_reverse (wpS_bind (up _ _ n _ n1 n2 hB2 (fun i j hij hj=>?_) (fun x y Q' y1 y2 hq=>?_) fun m m1 m2 hsm _=>wpS_pure (h m _ hB2 (by omega) m2 hsm)))
  .show K (mirror `bn lo (lo+n) ((lo+n-lo)/2)) (lo+i)<=K (mirror `bn lo (lo+n) ((lo+n-lo)/2)) (lo+j)
   rw[K_mirror hsz,K_mirror hsz,if_pos (by omega),if_pos (by omega),show lo+(lo+n)-1-(lo+i)=lo+(n-1-i) by omega,show lo+(lo+n)-1-(lo+j)=lo+(n-1-j) by omega]
   by_cases e:i=j
   .subst e;exact U1j _
   .exact U4e (hd _ _ (by omega) (by omega))
  .refine wpS_bind (Ml hB2 h0 (by omega) (by omega) ?_)
   split at hq
   .rename_i z
    simp only[z,decide_true,if_true]
    exact wpS_pure hq
   .rename_i z
    simp only[z,decide_false,U0s,if_false]
    exact wpS_pure hq
end
end Tg
end
section
namespace Tg
open PySem PyProof.Rows
open Rk (kv IsI)
variable[Rk]
def kx(l:List Keyed)(i:Nat):Int:=match l[i]? with
 |some p=>kv p
 |none=>0
theorem Ql(xs:Array Keyed)(i:Nat):K xs i=kx xs.toList i:=by
 unfold K kx
 rw[U1a]<;>rfl
theorem Td(a b:List Keyed)(i:Nat):kx (a++b) (a.length+i)=kx b i:=by
 unfold kx
 rw[U1h (by omega),U6v]
theorem aQ{a:List Keyed}(b:List Keyed){i:Nat}(h:i<a.length):kx (a++b) i=kx a i:=by
 unfold kx
 rw[U01 h]
theorem Qv{l:List Keyed}{i:Nat}(h:i<l.length):kx l i=kv l[i]:=by
 unfold kx
 rw[U0w h]
theorem Kq(l:List Keyed)(k i:Nat):kx (l.drop k) i=kx l (k+i):=by
 unfold kx
 rw[U74]
theorem Mt{l:List Keyed}{k i:Nat}(h:i<k):kx (l.take k) i=kx l i:=by
 unfold kx
 rw[U75,if_pos h]
theorem JR{l:List Keyed}(h:srt l){i j:Nat}(hij:i<=j)(hj:j<l.length):kx l i<=kx l j:=by
 by_cases e:i=j
 .subst e;exact U1j _
 .rw[Qv (by omega),Qv hj]
  exact U1w.mp h i j (by omega) hj (by omega)
theorem QS{a:Array Keyed}(h:srt a.toList):SortedTo a a.size:=fun i j hij hj=>by
 rw[Ql,Ql]
 exact JR h hij (by rw[U0g];exact hj)
theorem Hz{l:List Keyed}{p:Keyed}(h:p∈l):∃i,i<l.length/\kv p=kx l i:=by
 obtain⟨i,hi,rfl⟩:=U5n h
 exact⟨i,hi,(Qv hi).symm⟩
theorem Rf{a b:List Keyed}(ha:srt a)(hb:srt b)(h:∀p∈a,∀q∈b,kv p<=kv q):srt (a++b):=U06.mpr ⟨ha,hb,h⟩
theorem laid(s:Nat):∀(l:List Keyed)(n:Nat)(arr:Array Keyed),s+n+l.length<=arr.size->((l.zipIdx n).foldl (fun a q=>a.setIfInBounds (s+q.2) q.1) arr).toList=arr.toList.take (s+n)++l++arr.toList.drop (s+n+l.length)
 |[],n,arr,h=>by simp
 |p::l,n,arr,h=>by
  rw[U0f] at h
  rw[U7,U2t,laid s l (n+1) _ (by rw[U6o];omega),Array.toList_setIfInBounds]
  have hl:s+n<arr.toList.length:=by rw[U0g];omega
  have e1:(arr.toList.set (s+n) p).take (s+(n+1))=arr.toList.take (s+n)++[p]:=by
   rw[List.set_eq_take_append_cons_drop,if_pos hl,List.append_cons]
   rw[U4q (by simp;omega),U12 (by simp;omega)]
  have e2:(arr.toList.set (s+n) p).drop (s+(n+1)+l.length)=arr.toList.drop (s+n+(l.length+1)):=by
   rw[List.drop_set_of_lt (by omega)]
   congr 1
   omega
  rw[e1,e2,U0f]
  simp
section
variable{prog:Program}{w:World}{A:Around}{E:Value->Shared->Prop}{s:Shared}[Ask prog w A s]
theorem mq{Z3:Type}{M:Model}{st st':Z3}{Q:PUnit->Z3->Prop}(h:Q ⟨⟩ st'):wpS M A E s (set st':StateT Z3 Sem PUnit) Q st:=by
 unfold wpS;rw[StateT.run_set];exact U0e ⟨rfl,h⟩
theorem ZR{st:SortSt}{i sa na pw sb nb pw2:Nat}{L1 x y L2:List Keyed}{Q:Bool->SortSt->Prop}(hI:Jq `aT)(hk:kindOf st=Rk.κ)(hf:failedOf st=none)(hp1:(pendingOf st)[i]?=some (sa,na,pw))(hp2:(pendingOf st)[i+1]?=some (sb,nb,pw2))
  (hl:(`aT).toList=L1++(x++(y++L2))) (e1:sa=L1.length) (e2:na=x.length) (e3:sb=sa+na) (e4:nb=y.length) (x0:0<na) (y0:0<nb) (sx:srt x) (sy:srt y)
  (h:∀st' z,kindOf st'=Rk.κ->failedOf st'=none->pendingOf st'=((pendingOf st).setIfInBounds i (sa,na+nb,pw)).eraseIdxIfInBounds (i+1)->(`bn).toList=L1++(z++L2)->z.Perm (x++y)->srt z->Q true st') :
  wpS `am A E s (mergeAt' i) Q st:=by
 have hsz:(`aT).size=sa+na+nb+L2.length:=by
  have:(`aT).toList.length=_:=congrArg U3n hl
  rw[U0g] at this
  simp only[U0p] at this
  omega
 have Kx:∀i,i<na->K `aT (sa+i)=kx x i:=fun i hi=>by rw[Ql,hl,e1,Td,aQ _ (by omega)]
 have Ky:∀i,i<nb->K `aT (sb+i)=kx y i:=fun i hi=>by rw[Ql,hl,e3,e1,e2,U86,Td,Td,aQ _ (by omega)]
 unfold mergeAt'
 refine wpS_bind (wpS_get ?_)
 rw[hp1,hp2]
 refine wpS_bind (mq ?_)
 have hsb:sb<(`aT).size:=by omega
 have gk:=hI.get hsb
 have hb1:sa+na<=(`aT).size:=by omega
 have hb2:sb+nb<=(`aT).size:=by omega
 have ky0:K `aT sb=kx y 0:=Ky 0 y0
 refine wpS_bind (Cg hsb ?_)
 refine wpS_bind (Iw (base:=sa) (n:=na) (hint:=0) hk gk.1 hI hb1 x0 (fun i j i1 i2 i3=>?_) fun k k1 k2 k3=>?_)
 .rw[Kx j i2] at i3
  rw[Kx i (by omega)]
  have:=JR sx i1 (by omega)
  unfold bey at *
  simp at i3 ⊢
  omega
 have k2':∀i,i<k->kx x i<=kx y 0:=fun i i1=>by
  have:=k2 i i1
  rw[Kx i (by omega),gk.2,ky0] at this
  unfold bey at this
  simp at this
  omega
 have k3':∀i,k<=i->i<na->kx y 0<kx x i:=fun i i1 i2=>by
  have:=k3 i i1 i2
  rw[Kx i i2,gk.2,ky0] at this
  unfold bey at this
  simp at this
  omega
 clear k2 k3
 refine Bj (fun e5=>?_) (fun e5=>?_)
 .have e5:na-k=0:=by simpa using e5
  refine wpS_pure (h _ (x++y) hk hf rfl (by rw[U04];exact hl) (U5g _) (Rf sx sy fun p hp q hq=>?_))
  obtain⟨i,i1,i2⟩:=Hz hp
  obtain⟨j,j1,j2⟩:=Hz hq
  have:=k2' i (by omega)
  have:=JR sy (U25 j) j1
  omega
 have e5:¬na-k=0:=fun z=>e5 (by simpa using z)
 have hil:sa+k+(na-k)-1<(`aT).size:=by omega
 have gl:=hI.get hil
 have kl:K `aT (sa+k+(na-k)-1)=kx x (na-1):=by
  rw[show sa+k+(na-k)-1=sa+(na-1) by omega]
  exact Kx _ (by omega)
 refine wpS_bind (Cg hil ?_)
 refine wpS_bind (Iw (base:=sb) (n:=nb) (hint:=nb-1) hk gl.1 hI hb2 (by omega) (fun i j i1 i2 i3=>?_) fun m m1 q2 q3=>?_)
 .rw[Ky j i2] at i3
  rw[Ky i (by omega)]
  have:=JR sy i1 (by omega)
  unfold bey at *
  simp at i3 ⊢
  omega
 have q2':∀i,i<m->kx y i<kx x (na-1):=fun i i1=>by
  have:=q2 i i1
  rw[Ky i (by omega),gl.2,kl] at this
  unfold bey at this
  simp at this
  omega
 have q3':∀i,m<=i->i<nb->kx x (na-1)<=kx y i:=fun i i1 i2=>by
  have:=q3 i i1 i2
  rw[Ky i i2,gl.2,kl] at this
  unfold bey at this
  simp at this
  omega
 clear q2 q3
 refine Bj (fun e6=>?_) (fun e6=>?_)
 .have e6:m=0:=by simpa using e6
  refine wpS_pure (h _ (x++y) hk hf rfl (by rw[U04];exact hl) (U5g _) (Rf sx sy fun p hp q hq=>?_))
  obtain⟨i,i1,i2⟩:=Hz hp
  obtain⟨j,j1,j2⟩:=Hz hq
  have:=q3' j (by omega) (by omega)
  have:=JR sx (show i<=na-1 by omega) (by omega)
  omega
 have e6:¬m=0:=fun z=>e6 (by simpa using z)
 have hA:((`aT).extract (sa+k) sb).toList=x.drop k:=by
  rw[U4o,U30,hl,←U56,e1,U6t,List.drop_append_of_le_length (by omega),U4q (by rw[U2h];omega),U12 (by rw[U2h];omega)]
 have hBl:((`aT).extract sb (sb+m)).toList=y.take m:=by
  rw[U4o,U30,hl,e3,←U56,e1,U6t,e2,U6t,U4q (by omega)]
  congr 1
  omega
 obtain⟨a,ha⟩:∃a,a=(arrOf st).extract (sa+k) sb:=⟨_,rfl⟩
 obtain⟨b,hb⟩:∃b,b=(arrOf st).extract sb (sb+m):=⟨_,rfl⟩
 rw[←ha] at hA
 rw[←hb] at hBl
 have za:a.size=na-k:=by rw[←U0g,hA,U2h];omega
 have zb:b.size=m:=by rw[←U0g,hBl,U1q];omega
 have Ia:Jq a:=fun p hp=>hI p (by
  rw[hA] at hp
  rw[hl]
  exact U0y _ (U14 _ (List.mem_of_mem_drop hp)))
 have Ib:Jq b:=fun p hp=>hI p (by
  rw[hBl] at hp
  rw[hl]
  exact U0y _ (U0y _ (U14 _ (U4b hp))))
 have Sa:SortedTo a a.size:=QS (by rw[hA];exact sx.sublist (U8e ..))
 have Sb:SortedTo b b.size:=QS (by rw[hBl];exact sy.sublist (U48 ..))
 have Ka:∀i,K a i=kx x (k+i):=fun i=>by rw[Ql,hA,Kq]
 have Kb:∀i,i<m->K b i=kx y i:=fun i hi=>by rw[Ql,hBl,Mt hi]
 have hmin:∀i,i<a.size->K b 0<=K a i:=fun i hi=>by
  rw[Kb 0 (by omega),Ka]
  exact U4e (k3' _ (by omega) (by omega))
 have hmax:∀j,j<b.size->K b j<=K a (a.size-1):=fun j hj=>by
  rw[Kb j (by omega),Ka,show k+(a.size-1)=na-1 by omega]
  exact U4e (q2' j (by omega))
 have fin:∀(r:Array Keyed)(st':SortSt),EqG (U8k (kindOf st) `aT (((pendingOf st).setIfInBounds i (sa,na+nb,pw)).eraseIdxIfInBounds (i+1)) (gallopOf st) (failedOf st)) st'->r.toList.Perm (a.toList++b.toList)->srt r.toList ->
   ∀st2:SortSt,kindOf st2=kindOf st'->failedOf st2=failedOf st'->pendingOf st2=pendingOf st'->(arrOf st2).toList=((r.toList.zipIdx 0).foldl (fun a q=>a.setIfInBounds (sa+k+q.2) q.1) `bn).toList->Q true st2:=fun r st' hE p1 p2 st2 z1 z2 z3 z4=>by
  have er:`bn=arrOf st:=hE.arr
  have hlen:r.toList.length=na-k+m:=by
   rw[p1.length_eq,U0p,U0g,U0g,za,zb]
  rw[er,laid (sa+k) r.toList 0 `aT (by omega),hl,U57] at z4
  have t1:(L1++(x++(y++L2))).take (sa+k)=L1++x.take k:=by
   rw[e1,List.take_append,U12 (by omega),U6v,U4q (by omega)]
  have t2:(L1++(x++(y++L2))).drop (sa+k+r.toList.length)=y.drop m++L2:=by
   rw[hlen,show sa+k+(na-k+m)=L1.length+(x.length+m) by omega,←U56,U6t,←U56,U6t,List.drop_append_of_le_length (by omega)]
  rw[t1,t2] at z4
  rw[hA,hBl] at p1
  refine h st2 (x.take k++(r.toList++y.drop m)) (z1.trans (hE.kind.trans hk)) (z2.trans (hE.failed.trans hf)) (z3.trans hE.pend) ?_ ?_ ?_
  .rw[z4];simp
  .refine(U2e _ (p1.append_right _)).trans ?_
   rw[U04,U1t,←U04,U1t]
  .refine Rf (sx.sublist (U48 ..)) (Rf p2 (sy.sublist (U8e ..)) fun p hp q hq=>?_) fun p hp q hq=>?_
   .obtain⟨j,j1,j2⟩:=Hz hq
    rw[Kq] at j2
    rw[U2h] at j1
    have g1:=q3' (m+j) (by omega) (by omega)
    rcases U0z.mp (p1.mem_iff.mp hp) with w|w
    .obtain⟨i,i1,i2⟩:=Hz w
     rw[Kq] at i2
     rw[U2h] at i1
     have:=JR sx (show k+i<=na-1 by omega) (by omega)
     omega
    .obtain⟨i,i1,i2⟩:=Hz w
     rw[U1q] at i1
     rw[Mt (by omega)] at i2
     have:=JR sy (show i<=m+j by omega) (by omega)
     omega
   .obtain⟨i,i1,i2⟩:=Hz hp
    rw[U1q] at i1
    rw[Mt (by omega)] at i2
    have g1:=k2' i (by omega)
    rcases U0z.mp hq with w|w
    .rcases U0z.mp (p1.mem_iff.mp w) with w|w
     .obtain⟨j,j1,j2⟩:=Hz w
      rw[Kq] at j2
      rw[U2h] at j1
      have:=JR sx (show i<=k+j by omega) (by omega)
      omega
     .obtain⟨j,j1,j2⟩:=Hz w
      rw[U1q] at j1
      rw[Mt (by omega)] at j2
      have:=JR sy (U25 j) (by omega)
      omega
    .obtain⟨j,j1,j2⟩:=Hz w
     rw[Kq] at j2
     rw[U2h] at j1
     have:=JR sy (U25 (m+j)) (by omega)
     omega
 refine Bj (fun _=>wpS_bind ?_) (fun _=>wpS_bind ?_)
 .refine ZP hk (ha ▸ Ia) (hb ▸ Ib) (ha ▸ Sa) (hb ▸ Sb) (by rw[←ha];omega) (by rw[←hb];omega) (by rw[←ha,←hb];exact hmin) (by rw[←ha,←hb];exact hmax) fun r st' hE p1 p2=>?_
  rw[←ha,←hb] at p1
  refine wpS_bind (wpS_modify (wpS_bind (wpS_get (wpS_pure ?_))))
  have hn:failedOf st'=none:=hE.failed.trans hf
  show Q (failedOf st').isNone _
  rw[hn]
  exact fin r st' hE p1 p2 _ rfl rfl rfl rfl
 .refine ZQ hk (ha ▸ Ia) (hb ▸ Ib) (ha ▸ Sa) (hb ▸ Sb) (by rw[←ha];omega) (by rw[←hb];omega) (by rw[←ha,←hb];exact hmin) (by rw[←ha,←hb];exact hmax) fun r st' hE p1 p2=>?_
  rw[←ha,←hb] at p1
  refine wpS_bind (wpS_modify (wpS_bind (wpS_get (wpS_pure ?_))))
  have hn:failedOf st'=none:=hE.failed.trans hf
  show Q (failedOf st').isNone _
  rw[hn]
  exact fin r st' hE p1 p2 _ rfl rfl rfl rfl
end
end Tg
end
section
namespace Tg
open PySem PyProof.Rows
open Rk (kv IsI)
variable[Rk]
def offs:Nat->List (List Keyed)->List (Nat×Nat)
 |_,[]=>[]
 |s,x::xs=>(s,x.length)::offs (s+x.length) xs
theorem QB:∀(s:Nat)(xs ys:List (List Keyed)),offs s (xs++ys)=offs s xs++offs (s+xs.flatten.length) ys
 |s,[],ys=>by simp[offs]
 |s,x::xs,ys=>by
  rw[U2c,offs,QB,offs,U3f,U0p,←U86];rfl
theorem Nh:∀(s:Nat)(xs:List (List Keyed)),(offs s xs).length=xs.length
 |_,[]=>rfl
 |s,x::xs=>by rw[offs,U0f,Nh,U0f]
theorem WT{Zs Zp:Type}(f:Zs->Zp):∀(l:List Zs)(i:Nat),(l.eraseIdx i).map f=(l.map f).eraseIdx i
 |[],i=>by simp
 |a::l,0=>rfl
 |a::l,i+1=>by
  show f a::(l.eraseIdx i).map f=f a::(l.map f).eraseIdx i
  rw[WT f l i]
structure RI(a₀:Array Keyed)(rest:List Keyed)(lo m:Nat)(st:SortSt):Prop where
 perm:(`aT).Perm a₀
 kind:kindOf st=Rk.κ
 failed:failedOf st=none
 many:(pendingOf st).size=m
 runs:∃xs:List (List Keyed),(`aT).toList=xs.flatten++rest/\xs.flatten.length=lo/\(pendingOf st).toList.map (fun e=>(e.1,e.2.1))=offs 0 xs/\∀x∈xs,x≠[]/\srt x
theorem Yn:∀xs:List (List Keyed),(∀x∈xs,x≠[]/\srt x)->xs.length<=xs.flatten.length
 |[],_=>by simp
 |x::xs,h=>by
  have:=Yn xs fun y hy=>h y (U0k _ hy)
  have:=U5m.mpr (h x U0i).1
  rw[U3f,U0p,U0f]
  omega
theorem RI.few{a₀:Array Keyed}{rest:List Keyed}{lo m:Nat}{st:SortSt}(h:RI a₀ rest lo m st):m<=lo:=by
 obtain⟨xs,_,h2,h3,h4⟩:=h.runs
 have:=Yn xs h4
 have e:(pendingOf st).toList.length=xs.length:=by
  have:=congrArg U3n h3
  rw[U0d,Nh] at this
  exact this
 rw[U0g,h.many] at e
 omega
section
variable{prog:Program}{w:World}{A:Around}{E:Value->Shared->Prop}{s:Shared}[Ask prog w A s]{a₀:Array Keyed}
theorem S7{rest:List Keyed}{lo m i:Nat}{st:SortSt}{Q:Bool->SortSt->Prop}(h0:Jq a₀)(hR:RI a₀ rest lo m st)(hi:i+1<m)(h:∀st',RI a₀ rest lo (m-1) st'->Q true st'):wpS `am A E s (mergeAt' i) Q st:=by
 obtain⟨xs,h1,h2,h3,h4⟩:=hR.runs
 have hlen:xs.length=m:=by
  have:=congrArg U3n h3
  rw[U0d,Nh,U0g,hR.many] at this
  exact this.symm
 obtain⟨x,y,xs2,hd⟩:∃x y xs2,xs.drop i=x::y::xs2:=by
  have e:=U2h (i:=i) (l:=xs)
  match hx:xs.drop i with
  |[]=>rw[hx] at e;simp at e;omega
  |[_]=>rw[hx] at e;simp at e;omega
  |x::y::r=>exact⟨x,y,r,rfl⟩
 obtain⟨xs1,hx1⟩:∃xs1,xs1=xs.take i:=⟨_,rfl⟩
 have hl1:xs1.length=i:=by rw[hx1,U1q];omega
 have hx:xs=xs1++x::y::xs2:=by rw[hx1,←hd,U1t]
 clear hx1 hd
 subst hx
 have ho:offs 0 (xs1++x::y::xs2)=offs 0 xs1++(xs1.flatten.length,x.length)::(xs1.flatten.length+x.length,y.length)::offs (xs1.flatten.length+x.length+y.length) xs2:=by
  rw[QB,U3b];rfl
 rw[ho] at h3
 have hol:(offs 0 xs1).length=i:=by rw[Nh];exact hl1
 have g:∀j:Nat,((pendingOf st)[j]?).map (fun e:Nat×Nat×Nat=>(e.1,e.2.1))=(offs 0 xs1++(xs1.flatten.length,x.length)::(xs1.flatten.length+x.length,y.length)::offs (xs1.flatten.length+x.length+y.length) xs2)[j]?:=fun j=>by
  rw[←h3,U07,U1a]
 have g1:=g i
 have g2:=g (i+1)
 rw[U1h (by omega),hol,U9a] at g1
 rw[U1h (by omega),hol,show i+1-i=1 by omega] at g2
 obtain⟨⟨sa,na,pw⟩,p1,p2⟩:=U2r.mp g1
 obtain⟨⟨sb,nb,pw2⟩,p3,p4⟩:=U2r.mp g2
 obtain⟨rfl,rfl⟩:=Prod.mk.inj p2
 obtain⟨rfl,rfl⟩:=Prod.mk.inj p4
 have mx:=h4 x (by simp)
 have my:=h4 y (by simp)
 refine ZR (L1:=xs1.flatten) (x:=x) (y:=y) (L2:=xs2.flatten++rest) (YS h0 hR.perm) hR.kind hR.failed p1 p3 (by rw[h1];simp) rfl rfl rfl rfl (U5m.mpr mx.1) (U5m.mpr my.1) mx.2 my.2 fun st' z q1 q2 q3 q4 q5 q6=>h st' ⟨?_,q1,q2,?_,xs1++z::xs2,?_,?_,?_,?_⟩
 .refine Array.Perm.trans (U46.mpr ?_) hR.perm
  rw[q4,h1]
  have:(xs1++x::y::xs2).flatten++rest=xs1.flatten++((x++y)++(xs2.flatten++rest)):=by simp
  rw[this]
  exact U2e _ (q5.append_right _)
 .rw[q3,←U0g,Array.toList_eraseIdxIfInBounds,List.length_eraseIdx,U0g,U6o,hR.many,if_pos hi]
 .rw[q4];simp
 .have:=q5.length_eq
  simp only[List.flatten_append,U3f,U0p] at *
  omega
 .have hz:=q5.length_eq
  rw[U0p] at hz
  have e5:offs 0 (xs1++z::xs2)=offs 0 xs1++(xs1.flatten.length,x.length+y.length)::offs (xs1.flatten.length+x.length+y.length) xs2:=by
   rw[QB,U3b,offs,hz,U86]
  rw[q3,Array.toList_eraseIdxIfInBounds,Array.toList_setIfInBounds,WT,List.map_set,h3,e5,U7a _ _ (by omega),hol,U9a,List.set_cons_zero,List.eraseIdx_append_of_length_le (by omega),hol,show i+1-i=1 by omega]
  rfl
 .intro u hu
  rcases U0z.mp hu with k|k
  .exact h4 u (U14 _ k)
  .rcases U0h.mp k with k|k
   .subst k
    refine⟨fun e=>mx.1 ?_,q6⟩
    rw[e] at q5
    have:=q5.length_eq
    rw[U0p,U1m] at this
    exact U3q.mp (by omega)
   .exact h4 u (U0y _ (U0k _ (U0k _ k)))
theorem RI.run{rest:List Keyed}{lo m n:Nat}{st st':SortSt}(hR:RI a₀ rest lo m st)(hB:RB a₀ st lo st')(hn:lo+n<=a₀.size)(hs:KD `bn lo n) :
  ∃x rest',RI a₀ (x++rest') lo m st'/\x.length=n/\srt x:=by
 obtain⟨xs,h1,h2,h3,h4⟩:=hR.runs
 have sz:=hB.size
 have et:(`bn).toList.take lo=xs.flatten:=by
  have:(`aT).toList.take lo=xs.flatten:=by rw[h1,←h2,List.take_left]
  rw[←this]
  refine U8g fun j=>?_
  rw[U75,U75]
  by_cases hj:j<lo
  .rw[if_pos hj,if_pos hj,U1a,U1a]
   exact hB.pre j hj
  .rw[if_neg hj,if_neg hj]
 have e2:(`bn).toList=xs.flatten++(((`bn).toList.drop lo).take n++((`bn).toList.drop lo).drop n):=by
  rw[U1t,←et,U1t]
 have hl:(((`bn).toList.drop lo).take n).length=n:=by
  rw[U1q,U2h,U0g];omega
 refine⟨((`bn).toList.drop lo).take n,((`bn).toList.drop lo).drop n,⟨hB.perm,hB.kind,hB.failed,by rw[hB.pend];exact hR.many,xs,e2,h2,by rw[hB.pend];exact h3,h4⟩,hl,?_⟩
 unfold srt
 rw[U1w]
 intro i j hi hj hij
 rw[←Qv hi,←Qv hj,Mt (by omega),Mt (by omega),Kq,Kq,←Ql,←Ql]
 exact hs i j (by omega) (by omega)
theorem RI.push{x rest:List Keyed}{lo m n:Nat}{st st':SortSt}(hR:RI a₀ (x++rest) lo m st)(hx:x.length=n)(hn:0<n)(hs:srt x)(h1:kindOf st'=kindOf st)(h2:failedOf st'=failedOf st)(h3:arrOf st'=arrOf st)(h4:pendingOf st'=(pendingOf st).push (lo,n,0)):RI a₀ rest (lo+n) (m+1) st':=by
 obtain⟨xs,g1,g2,g3,g4⟩:=hR.runs
 refine⟨by rw[h3];exact hR.perm,h1.trans hR.kind,h2.trans hR.failed,by rw[h4,Array.size_push,hR.many],xs++[x],by rw[h3,g1];simp,by simp[g2,hx],?_,fun u hu=>?_⟩
 .rw[h4,U8f,U18,g3,QB,U3b,g2,offs,hx];rfl
 .rcases U0z.mp hu with k|k
  .exact g4 u k
  .rw[U0q.mp k]
   exact⟨U5m.mp (by omega),hs⟩
theorem RI.same{rest:List Keyed}{lo m:Nat}{st st':SortSt}(hR:RI a₀ rest lo m st)(h1:kindOf st'=kindOf st)(h2:failedOf st'=failedOf st)(h3:arrOf st'=arrOf st)(h4:(pendingOf st').toList.map (fun e=>(e.1,e.2.1))=(pendingOf st).toList.map (fun e=>(e.1,e.2.1))):RI a₀ rest lo m st':=by
 obtain⟨xs,g1,g2,g3,g4⟩:=hR.runs
 refine⟨by rw[h3];exact hR.perm,h1.trans hR.kind,h2.trans hR.failed,?_,xs,by rw[h3];exact g1,g2,h4.trans g3,g4⟩
 have:=congrArg U3n h4
 rw[U0d,U0d,U0g,U0g,hR.many] at this
 exact this
end
end Tg
end
section
namespace Tg
open PySem PyProof.Rows
open Rk (kv IsI)
variable[Rk]
theorem pL{Zs Zp:Type}(g:Zs->Zp)(f:Zs->Zs)(hf:∀a,g (f a)=g a)(l:List Zs)(i:Nat):(l.modify i f).map g=l.map g:=by
 refine U8g fun j=>?_
 rw[U07,U07,List.getElem?_modify]
 cases l[j]? with
 |none=>rfl
 |some a =>
  show some (g (if i=j then f a else a))=some (g a)
  split
  .rw[hf]
  .rfl
theorem ite_le(c:Prop)[Decidable c](a b:Nat):(if c then a else b)<=max a b:=by split<;>omega
section
variable{prog:Program}{w:World}{A:Around}{E:Value->Shared->Prop}{s:Shared}[Ask prog w A s]{a₀:Array Keyed}
theorem ZM{st:SortSt}{Q:Unit->SortSt->Prop}(h0:Keys a₀)(hB:SBase a₀ st)(h2:2<=a₀.size)
  (h:∀st',(`bn).Perm a₀->failedOf st'=none->SortedTo `bn a₀.size->Q () st'):wpS `am A E s sortRuns' Q st:=by
 have base:RI a₀ (`aT).toList 0 0 st:=⟨hB.perm,hB.kind,hB.failed,by rw[hB.pend];rfl,[],by simp,rfl,by rw[hB.pend];rfl,fun x hx=>by simp at hx⟩
 rw[sortRuns'_eq]
 refine wpS_bind (wpS_get ?_)
 dsimp only
 rw[hB.size]
 generalize minRun' a₀.size a₀.size 0=mr
 refine wpS_bind (wpS_mono (wpS_forRange
  (I:=fun x c st'=>∃lo rest m,c=(none,lo)/\RI a₀ rest lo m st'/\x<=lo/\lo<=a₀.size)
  (Q:=fun c st'=>∃rest m,c=(none,a₀.size)/\RI a₀ rest a₀.size m st') ?step ?fin ⟨0,_,0,rfl,base,by omega,by omega⟩) ?post)
 case fin =>
  rintro c st' ⟨lo,rest,m,rfl,hR,h3,h4⟩
  have:lo=a₀.size:=by omega
  subst this
  exact⟨rest,m,rfl,hR⟩
 case step =>
  rintro x c st' _ hx ⟨lo,rest,m,rfl,hR,h3,h4⟩
  dsimp only
  by_cases hge:lo≥a₀.size
  .rw[if_pos hge]
   have:lo=a₀.size:=by omega
   subst this
   exact wpS_pure ⟨rest,m,rfl,hR⟩
  rw[if_neg hge]
  have B0:RB a₀ st' lo st':=⟨hR.perm,fun _ _=>rfl,hR.kind,hR.failed,rfl⟩
  have rest_of:∀(st3:SortSt)(n:Nat),RB a₀ st' lo st3->0<n->lo+n<=a₀.size->KD (arrOf st3) lo n->∃x rest',RI a₀ (x++rest') lo m st3/\x.length=n/\srt x:=fun st3 n b1 b2 b3 b4=>hR.run b1 b3 b4
  refine wpS_bind (Ux h0 (by omega) (by omega) B0 fun k st2 B2 k1 k2 hs2=>?_)
  apply Bj
  case' hx =>
   intro hlt
   refine wpS_bind (wpS_lift (U39 ⟨rfl,?_⟩))
   refine wpS_bind (Y8 (n:=min (a₀.size-lo) mr) h0 (by omega) (by omega) B2 hs2 fun st3 B3 hs3=>?_)
   rw[if_neg (by decide)]
   have n1:0<min (a₀.size-lo) mr:=by omega
   have n2:lo+min (a₀.size-lo) mr<=a₀.size:=by omega
   generalize min (a₀.size-lo) mr=n at *
  case' hy =>
   intro hlt
   obtain⟨n,rfl⟩:∃n,n=k:=⟨_,rfl⟩
   obtain⟨st3,rfl⟩:∃st3,st3=st2:=⟨_,rfl⟩
   have B3:=B2
   have hs3:=hs2
   have n1:0<n:=by omega
   have n2:lo+n<=a₀.size:=by omega
  all_goals
   obtain⟨u,rest',hR3,hu,su⟩:=rest_of st3 n B3 n1 n2 hs3
   refine wpS_bind (wpS_get ?_)
   cases hb:(pendingOf st3).back? with
   |none=>exact wpS_bind (wpS_modify (wpS_pure ⟨lo+n,rest',_,rfl,hR3.push hu n1 su rfl rfl rfl rfl,by omega,n2⟩))
   |some e =>
    obtain⟨s1,l1,p1⟩:=e
    refine wpS_bind (wpS_mono (wpS_forRange (I:=fun _ c st4=>c=(none,())/\∃m,RI a₀ (u++rest') lo m st4) (Q:=fun c st4=>c=(none,())/\∃m,RI a₀ (u++rest') lo m st4) ?_ (fun _ _ hh=>hh) ⟨rfl,m,hR3⟩) ?_)
    .rintro y c st4 _ _ ⟨rfl,m4,hR4⟩
     refine wpS_bind (wpS_get ?_)
     by_cases hp:(pendingOf st4).size>1
     .rw[if_pos hp,getElem?_pos (pendingOf st4) _ (show(pendingOf st4).size-2<(pendingOf st4).size by omega)]
      obtain⟨t1,t2,t3⟩:=(pendingOf st4)[(pendingOf st4).size-2]'(by omega)
      refine Bj (fun _=>wpS_pure ⟨rfl,m4,hR4⟩) (fun _=>?_)
      refine wpS_bind (S7 h0.allI hR4 (by have:=hR4.many;omega) fun st5 hR5=>?_)
      rw[if_neg (by decide)]
      exact wpS_pure ⟨rfl,_,hR5⟩
     .rw[if_neg hp]
      exact wpS_pure ⟨rfl,m4,hR4⟩
    .rintro c st4 ⟨rfl,m4,hR4⟩
     refine wpS_bind (wpS_modify ?_)
     refine wpS_bind (wpS_modify (wpS_pure ⟨lo+n,rest',m4+1,rfl,RI.push (st:=setPending st4 ((pendingOf st4).modify ((pendingOf st4).size-1) fun q=>(q.1,q.2.1,_))) (hR4.same rfl rfl rfl ?_) hu n1 su rfl rfl rfl rfl,by omega,n2⟩))
     show((pendingOf st4).modify _ _).toList.map _=_
     rw[Array.toList_modify]
     refine pL _ _ ?_ _ _
     intro q
     rfl
 case post =>
  rintro c st' ⟨rest,m,rfl,hR⟩
  have hm:m<=a₀.size:=hR.few
  refine wpS_bind (wpS_mono (wpS_forRange (I:=fun x c st4=>c=(none,())/\∃m,RI a₀ rest a₀.size m st4/\m+x<=a₀.size+1) (Q:=fun c st4=>c=(none,())/\∃m,RI a₀ rest a₀.size m st4/\m<=1) ?_ (fun c st4 hh=>?_) ⟨rfl,m,hR,by omega⟩) ?_)
  .rintro x c st4 _ hx ⟨rfl,m4,hR4,hm4⟩
   refine wpS_bind (wpS_get ?_)
   have mm:=hR4.many
   refine Bj (fun e=>wpS_pure ⟨rfl,m4,hR4,by omega⟩) (fun e=>?_)
   have e:¬(pendingOf st4).size<=1:=e
   refine wpS_bind (S7 h0.allI hR4 ?_ fun st5 hR5=>?_)
   .refine U4l (Nat.succ_le_succ (ite_le _ _ _)) ?_
    omega
   .rw[if_neg (by decide)]
    exact wpS_pure ⟨rfl,_,hR5,by omega⟩
  .obtain⟨rfl,m4,hR4,hm4⟩:=hh
   exact⟨rfl,m4,hR4,by omega⟩
  .rintro c st4 ⟨rfl,m4,hR4,hm4⟩
   obtain⟨xs,g1,g2,g3,g4⟩:=hR4.runs
   have hl:xs.length=m4:=by
    have:=congrArg U3n g3
    rw[U0d,Nh,U0g,hR4.many] at this
    exact this.symm
   have sz:(arrOf st4).size=a₀.size:=hR4.perm.size_eq
   have hr:rest=[]:=by
    have:=congrArg U3n g1
    rw[U0g,U0p] at this
    exact U3q.mp (by omega)
   have hs:srt (arrOf st4).toList:=by
    rw[g1,hr,U1o]
    match xs,hl with
    |[],_=>exact .nil
    |[x],_=>rw[U3f,List.flatten_nil,U1o];exact(g4 x (by simp)).2
    |x::y::r,hl=>simp at hl;omega
   have:=QS hs
   rw[sz] at this
   exact wpS_pure (h st4 hR4.perm hR4.failed this)
end
end Tg
end
section
set_option maxRecDepth 100000
namespace SetP
open PySem PyProof.Rows
@[reducible] def rkI:Tg.Rk:=⟨fun p=>numOf p.1,fun p=>∃n t q,p=(.int n t,q),oneType'⟩
theorem zE{prog:Program}{w:World}{A:Around}(s:Shared):@Tg.Ask prog w A s rkI:=by
 letI:=rkI
 refine⟨fun x y hx hy Q E h=>?_⟩
 obtain⟨a,t,p,rfl⟩:=hx
 obtain⟨b,u,q,rfl⟩:=hy
 show wpAny _ _ (keyLt' oneType' _ _) _ _ _
 rw[keyLt'_oneType]
 exact oneLt_int h
theorem pZ{vs:List Value}{ns:List Int}(hI:IntsAre vs ns)(hd:ns.Nodup):@Tg.Keys rkI (pairsOf vs):=by
 letI:=rkI
 refine⟨fun p hp=>?_,?_⟩
 .obtain⟨n,t,e⟩:=hI.intKeys p hp
  exact⟨n,t,p.2,U8l e rfl⟩
 .have e:(pairsOf vs).toList.map Tg.Rk.kv=((vs.zip vs).map Prod.fst).map numOf:=by rw[pairsOf_toList,U0t];rfl
  rw[e,List.map_fst_zip (U0l _),hI.nums]
  exact hd
section
variable{prog:Program}{w:World}{A:Around}{E:Value->Shared->Prop}{s:Shared}
theorem X7{a:Addr}{vs:List Value}{ns:List Int}{n:Nat}{P:Fin->Shared->Prop}(ho:s.heap.get? a=some (seqObj "list" vs.toArray n))(hI:IntsAre vs ns)(hd:ns.Nodup)(hl:vs.length<1000)
  (h:∀(out:Array Value)(ns':List Int),IntsAre out.toList ns'->ns'.Perm ns->ns'.Pairwise (·<=·)->P (.done (.ret .none)) { s with heap:=sortedHeap s.heap a vs out }) :
  wpAny `am A (Builtin.«list.sort» ⟨[.ref a],[]⟩) P E s:=by
 by_cases h64:vs.length<64
 .exact list_sort_tree ho hI h64 h
 obtain⟨v₁,v₂,rest,rfl⟩:∃v₁ v₂ rest,vs=v₁::v₂::rest:=by
  match vs,h64 with
  |[],h64=>simp at h64
  |[_],h64=>simp at h64
  |v₁::v₂::rest,_=>exact⟨v₁,v₂,rest,rfl⟩
 have many:¬(v₁::v₂::rest).toArray.size<2:=by simp
 have lt:=U0o ho
 have room:∀xs:Array Value,xs.size=(v₁::v₂::rest).length->xs.size<=sizeLine+1:=fun xs e=>by rw[e,sizeLine_eq];lia
 rw[list_sort_plain]
 refine U0 (listItems_at ho rfl (U0 (listUpdate_at ho rfl ?_ (hsz:=by rw[U0n,sizeLine_eq];lia))))
 obtain⟨e1,o1⟩:∃e1,(s.heap.update a (U1y fun _=>#[])).get? a=some (seqObj "list" #[] e1):=⟨_,get?_update_seq ho (fun _=>#[])⟩
 refine U0 (seqEpoch_at o1 rfl (U0 (U81 (U0 (U6b (U2j ?_))))))
 have o2:(((s.heap.update a (U1y fun _=>#[])).push (seqObj "tuple" (v₁::v₂::rest).toArray 0)).push (seqObj "list" #[] 0)).get? a=some (seqObj "list" #[] e1) :=
  U0c _ (U0c _ o1)
 show wpAny `am A _ P E { s with heap:=((s.heap.update a (U1y fun _=>#[])).push (seqObj "tuple" (v₁::v₂::rest).toArray 0)).push (seqObj "list" #[] 0) }
 dsimp only
 rw[if_neg many,if_neg many,keyKind_ints hI]
 letI:=rkI
 letI:=zE (prog:=prog) (w:=w) (A:=A) { s with heap:=((s.heap.update a (U1y fun _=>#[])).push (seqObj "tuple" (v₁::v₂::rest).toArray 0)).push (seqObj "list" #[] 0) }
 refine U0 (U0e (U0 (U5q (Tg.ZM (a₀:=pairsOf (v₁::v₂::rest)) (Q:=fun _ st'=>(`bn).Perm (pairsOf (v₁::v₂::rest))/\failedOf st'=none/\Tg.SortedTo `bn (pairsOf (v₁::v₂::rest)).size)
  (pZ hI hd) ⟨Array.Perm.refl _,rfl,rfl,rfl⟩ (by rw[pairsOf_size];simp) fun st' a1 a2 a3=>⟨a1,a2,a3⟩) ?_ fun _ _ e=>e)))
 rintro⟨⟨⟩,st'⟩ s' ⟨rfl,hp,hf,hs⟩
 obtain⟨ns',r1,r2,r3⟩:=sorted_out hI hp hs
 dsimp only
 refine U0 (seqEpoch_at o2 rfl (U0 (listUpdate_at o2 rfl ?_ (hsz2:=room _ ((U82 ..).trans (hp.size_eq.trans (pairsOf_size _)))))))
 rw[hf]
 simp only[bne_self_eq_false,U0s,if_false]
 exact U0e (h _ ns' r1 r2 r3)
theorem fP{S:Addr}{ds:List Int}{Q:Value->Shared->Prop}(hh:A.handled=none)(hS:SetT prog w s.heap S ds)(h64:ds.length<1000)
  (h:∀h' d' tk l vs ns n,(∀b o,s.heap.get? b=some o->h'.get? b=some o)->(∀b o,s.heap.get? b=some o->b<l)->h'.get? l=some { cls:=.type "list",data:=.seq vs n }->IntsAre vs.toList ns->ns.Perm ds->ns.Pairwise (·<=·)->Q (.ref l) { s with heap:=h',drawn:=d',toks:=tk }) :
  wpAny `am A (call (.builtin "sorted") [.ref S]) Q E s:=by
 refine U5e kind_sorted plain_sorted entry_sorted (args_sorted1 _) ?_
 unfold Builtin.«sorted»
 refine U0 (m:=checkCount "sorted" 1 1 _) (U0e ?_)
 refine U0 (Wj (A:=A.in1) (by simpa using hh) hS fun h1 d1 t1 vs ns k1 hi hp=>?_)
 have hv64:vs.length<1000:=by rw[show vs.length=ns.length from IntsAre.length hi,hp.length_eq];exact h64
 refine U0 (U6b ?_)
 have hoL:(h1.push (seqObj "list" vs.toArray 0)).get? h1.objs.size=some (seqObj "list" vs.toArray 0):=U0u _ rfl
 show wpAny _ _ _ _ _ { s with heap:=h1.push (seqObj "list" vs.toArray 0),drawn:=d1,toks:=t1 }
 refine U0 (U2j (U2m slot_list_sort ⟨_,hoL,rfl⟩ entry_list_sort (X7 hoL hi (hp.nodup_iff.mpr hS.nd) hv64 fun out ns' a1 a2 a3=>⟨_,rfl,?_⟩) (args_list_sort _)))
 refine U0e ⟨_,rfl,?_⟩
 have old:∀b o,s.heap.get? b=some o->b≠h1.objs.size:=fun b o e=>U02 (U0o (k1 b o e))
 obtain⟨n',e'⟩:=Hx (out:=out) hoL
 refine h _ d1 t1 h1.objs.size out ns' n' (fun b o e=>HX (old b o e) (U0c _ (k1 b o e))) (fun b o e=>U0o (k1 b o e)) e' a1 (a2.trans hp) a3
end
end SetP
end
section
namespace L2
open PySem PySem.Spec PyProof.Rows
variable{X:Cx}
theorem VP(hc:X.calm=true):Df X (.builtin "sorted") (fun xs H Q=>∃(a:Addr)(ds:List Int),xs=[.ref a]/\H a=some (Qg X.prog X.w a ds)/\ds.length<1000 /\
  ∀(l:Addr)(ns:List Int),H l=none->ns.Perm ds->ns.Pairwise (·<=·)->Q (.ref l) (upd H l (.lst (ns.map V.int)))):=by
 intro pins s Z3 H xs us Q I r h
 obtain⟨a,ds,rfl,hH,hl,q⟩:=h
 obtain⟨u,rfl,rx⟩:=vals1 r
 cases rx
 obtain⟨T,_,_⟩:=(show Dm X.prog X.w H s.heap a (Qg X.prog X.w a ds) from I.hok a _ hH)
 refine SetP.fP (I.ok.hd hc) T hl fun h' d' tk l vs ns n k hb e hi hp hs=>?_
 have hn:s.heap.get? l=none:=by
  cases q:s.heap.get? l with
  |none=>rfl
  |some o=>exact absurd (hb l o q) (U4g _)
 have hsy:sysModules≠l:=by
  obtain⟨o,_,_,e,_⟩:=I.ok.mod.glob
  exact U02 (U4c (by decide:(1:Nat)<3) (hb _ _ (I.bk _ _ e)))
 have hlen:ns.length<1000:=by rw[hp.length_eq];exact hl
 refine⟨.ref l,_,I.laidN (d':=d') (t':=tk) (o:=.lst (ns.map V.int)) k hn hsy ⟨?_,vs.toList,n,O4 hi,by simpa using e⟩,rfl,q l ns (I.Pb hn) hp hs⟩
 rw[U0d]
 exact U2g (R8 (by omega))
end L2
end
section
namespace VS
open PySem PySem.Spec L2
def Ly(a:BL):BL:=fun env S=>(a env S).bind fun p=>(listOf p.2 p.1).bind fun ds=>(intsOf ds).bind fun ns=>if ns.length<1000/\(SetP.once ns).length<1000 then some (.lst true ((Cz ns).map .int),p.2) else none
theorem Zi{X:Cx}{a:Expr}{f:BL}{p p2 pos pos2:Pos}(hc:X.calm=true)(ha:JE X a f)(hg:Gl X "sorted")(hm:X.mg "sorted"=none)(hg2:Gl X "set")(hm2:X.mg "set"=none)
  (he:starEach [a] X.env=[(false,eval a X.env)]:=by rfl) (he2:starEach [.Call (.Name "set" p2) [a] [] pos2] X.env=[(false,eval (.Call (.Name "set" p2) [a] [] pos2) X.env)]:=by rfl):JE X (.Call (.Name "sorted" p) [.Call (.Name "set" p2) [a] [] pos2] [] pos) (Ly f) :=
 ⟨PE.imp (Ng (VP hc) hg hm OD (Jv (Lw (Ys hc) hg2 hm2 Xw (Jv ha.pe Lp he) (he:=he) (hpl:=rfl)) Lp he2) (he:=he2) (hpl:=rfl)) fun Z3 H Q h=>by
  obtain⟨Γ,μ,env,S,d,S',hK,R,e,q⟩:=h
  obtain⟨⟨y,S1⟩,e1,e⟩:=bind_some e
  obtain⟨ds,e2,e⟩:=bind_some e
  obtain⟨ns,e3,e⟩:=bind_some e
  by_cases hl:ns.length<1000/\(SetP.once ns).length<1000
  .rw[if_pos hl] at e
   cases e
   refine⟨Γ,μ,env,S,y,_,hK,R,e1,fun v1 μ1 H1 x1 R1 r1=>?_⟩
   obtain⟨b,xs,rfl,hb,rb⟩:=VR.list R1 r1 e2
   have:=FT e3
   subst this
   have:=rb.MK
   subst this
   refine⟨b,ns,rfl,SqL.of hb,(by have:=hl.2;omega),fun s hs=>?_⟩
   obtain⟨R2,x2⟩:=R1.grow (Ci hs (Qg X.prog X.w s (SetP.once ns)))
   refine⟨s,_,rfl,Bq,hl.2,fun l ms hl' hp hsrt=>?_⟩
   have:=V1 hp hsrt
   subst this
   obtain⟨R3,x3⟩:=R2.grow (Ci hl' (.lst ((Cz ns).map V.int)))
   exact q _ μ1 _ (x1.trans (x2.trans x3)) R3 (.lst (R2.ok hl' true) (R2.dead hl') Bq (VRs.ints _))
  .rw[if_neg hl] at e;cases e⟩
theorem ZG(a:BL)(env:VS.Env)(S:Store):Ly a env S=(a env S).bind fun p=>(listOf p.2 p.1).bind fun ds=>(intsOf ds).bind fun ns=>if ns.length<1000/\(SetP.once ns).length<1000 then some (.lst true ((Cz ns).map .int),p.2) else none:=rfl
end VS
end
section
namespace L2
open PySem PySem.Spec PyProof.Rows
open PySem.SeqAt PySem.MeetsSeq
open PySem.AutoSeq1 (wpAny_loadPart')
end L2
end
section
namespace VS
open PySem PySem.Spec L2
end VS
end
section
namespace VS
open PySem PySem.Spec L2
structure Jaa(P:Program)(w:World)(K:U0b)(mg:Str->Option Value)(base:Heap)(a:Addr)(k:Nat)(sem:DX):Prop where
 cal:∃ps fd,DY P w K mg base CX0 k a fd ps (spP K sem ps.length)/\Binds K fd ps []/\U1g K (.ref a)=true/\∀ds r,sem ds=some r->ds.length=ps.length/\Br r=true
section
variable{X:Cx}
end
end VS
end
section
namespace VS
def ltS(p q:Int×Int):Bool:=if p.1=q.1 then decide (p.2<q.2) else decide (p.1<q.1)
def ltB:List (Int×Int)->List (Int×Int)->Bool
 |p::r,q::t=>if p=q then ltB r t else ltS p q
 |[],_::_=>true
 |_,[]=>false
end VS
namespace Asc
open PySem PySem.W PySem.Calls PyProof.Rows VS
inductive Qk (h:Heap):List Value->List (Int×Int)->Prop
 |nil:Qk h [] []
 |cons {a:Addr} {its:Array Value} {p:Int×Int} {us:List Value} {ps:List (Int×Int)}:IsTup h a its->IntsAre its.toList [p.1,p.2]->Qk h us ps->Qk h (.ref a::us) (p::ps)
inductive Xi (h:Heap):List Value->List (List (Int×Int))->Prop
 |nil:Xi h [] []
 |cons {a:Addr} {its:Array Value} {b:List (Int×Int)} {us:List Value} {bs:List (List (Int×Int))}:IsTup h a its->Qk h its.toList b->Xi h us bs->Xi h (.ref a::us) (b::bs)
theorem Tf{prog:Program}{w:World}:∀{vs:List Value} {ns:List Int},IntsAre vs ns->ItemsAre (intKind prog w) ns vs
 |_,_,.nil=>.nil
 |_,_,.cons n t r=>.cons (by simp[intKind,U7y]) (Tf r)
theorem yu(p q:Int×Int):HT.lexLt [p.1,p.2] [q.1,q.2]=ltS p q:=by
 unfold ltS
 rw[HT.Gd,HT.Gd,HT.QZ]
 by_cases h:p.1=q.1
 .rw[if_pos h,if_pos h]
  by_cases h2:p.2=q.2
  .rw[if_pos h2,h2];simp
  .rw[if_neg h2]
 .rw[if_neg h,if_neg h]
section
variable{prog:Program}{w:World}{A:Around}{E:Value->Shared->Prop}{s:Shared}
theorem Um{fin:Bool}{Q:Bool->Shared->Prop}(hu:A.units<cLine):∀{us vs:List Value} {a b:List (Int×Int)} (i:Nat),Qk s.heap us a->Qk s.heap vs b->fin=decide (us.length<vs.length)->Q (ltB a b) s->KatLex prog w A false fin Q (us.zip vs) i s
 |_,_,_,_,i,.nil,.nil,hf,h=>by
  subst hf
  exact h
 |_,_,_,_,i,.nil,.cons _ _ _,hf,h=>by
  subst hf
  exact kat_nil (by
   rw[show decide (([]:List Value).length<(_::_:List Value).length)=true from decide_eq_true (by simp)]
   exact h)
 |_,_,_,_,i,.cons _ _ _,.nil,hf,h=>by
  subst hf
  exact kat_nil h
 |_,_,p::ra,q::rb,i,@Qk.cons _ x ix _ us _ t1 i1 r1,@Qk.cons _ y iy _ vs _ t2 i2 r2,hf,h=>by
  rw[U4j]
  refine kat_cons ?_
  obtain⟨o1,e1,c1,n1,d1⟩:=id t1
  obtain⟨o2,e2,c2,n2,d2⟩:=id t2
  refine wpAny_eqBool_tuple (knd:=intKind prog w) hu ⟨o1,ix,n1,e1,c1,d1,Tf i1⟩ ⟨o2,iy,n2,e2,c2,d2,Tf i2⟩ ?_
  rw[ltB] at h
  by_cases he:p=q
  .subst he
   rw[if_pos rfl] at h
   rw[decide_eq_true rfl]
   exact kat_yes (Um hu (i+1) r1 r2 (by rw[hf];simp) h)
  .rw[if_neg he] at h
   rw[decide_eq_false (fun z=>he (by
    injection z with z1 z2
    injection z2 with z2 _
    exact U8l z1 z2))]
   refine kat_no ?_
   rw[U8w]
   refine kat_one _ _ (HT.V4 t1 t2 i1 i2 hu ?_)
   rw[yu]
   exact h
theorem Js{h:Heap}:∀{vs:List Value} {bs:List (List (Int×Int))},Xi h vs bs->(∀b∈bs,b≠[])->∃fs,KatTups h vs fs/\fs.length=vs.length/\∀f∈fs,∃a its,f=.ref a/\IsTup h a its
 |_,_,.nil,_=>⟨[],trivial,rfl,fun _ z=>nomatch z⟩
 |_,b::bs,@Xi.cons _ a its _ us _ t sg r,hn=>by
  obtain⟨fs,k,hl,hf⟩:=Js r fun c hc=>hn c (U0k _ hc)
  obtain⟨o,e,c,n,d⟩:=t
  have hb:=hn b U0i
  match b,sg,hb with
  |p::ps,sg,_ =>
   generalize hi:its.toList=is at sg
   cases sg with
   |@cons a2 its2 _ us2 _ t2 i2 r2 =>
    refine⟨.ref a2::fs,KatTups.cons e c d ?_ k,by simp[hl],fun f hf'=>?_⟩
    .rw[←U1a,hi];rfl
    .rcases U0h.mp hf' with z|z
     .exact⟨a2,its2,z,t2⟩
     .exact hf f z
def Asks(prog:Program)(w:World)(A:Around)(s:Shared)(κ:SortKind)(arr:Array Keyed):Prop :=
 ∀i x y,arr[i+1]?=some x->arr[i]?=some y->∀(Q:Bool->Shared->Prop)(E:Value->Shared->Prop),Q false s->wpAny `am A (keyLt' κ x.1 y.1) Q E s
variable{κ:SortKind}{arr:Array Keyed}
theorem Ou{st:SortSt}{i:Nat}{Q:Option Bool->SortSt->Prop}(hk:kindOf st=κ)(ha:arrOf st=arr)(hA:Asks prog w A s κ arr)(hi:i+1<arr.size)(h:Q (some false) st):wpS `am A E s (ltAt' (i+1) i) Q st:=by
 subst hk ha
 rw[ltAt'_eq]
 refine wpS_bind (wpS_get ?_)
 show wpS _ _ _ _ (do let x ←elem' (arrOf st) (i+1);let y ←elem' (arrOf st) i;lt' x y) Q st
 have e1:`aT[i+1]?=some `aT[i+1]:=getElem?_pos ..
 have e2:`aT[i]?=some `aT[i]:=getElem?_pos ..
 rw[elem'_eq,elem'_eq,e1,e2]
 refine wpS_bind (wpS_pure (wpS_bind (wpS_pure ?_)))
 rw[lt'_eq]
 refine wpS_bind (wpS_get ?_)
 refine wpS_bind (wpS_lift (U6a (hA i _ _ e1 e2 _ _ ⟨rfl,?_⟩)))
 exact wpS_pure h
theorem yZ(vs:List Value):(pairsOf vs).map (·.2)=vs.toArray:=by
 apply U8q.mp
 rw[Array.toList_map,pairsOf_toList,List.map_snd_zip (U0l _)]
end
end Asc
namespace L2
open PySem PySem.Spec PyProof.Rows VS
inductive XR (K:U0b) (H:Hp):List V->List (Int×Int)->Prop
 |nil:XR K H [] []
 |cons {a:Addr} {p:Int×Int} {us:List V} {ps:List (Int×Int)}:SqT K H a [.int p.1,.int p.2]->XR K H us ps->XR K H (.ref a::us) (p::ps)
inductive bf (K:U0b) (H:Hp):List V->List (List (Int×Int))->Prop
 |nil:bf K H [] []
 |cons {a:Addr} {xs:List V} {b:List (Int×Int)} {us:List V} {bs:List (List (Int×Int))}:SqT K H a xs->XR K H xs b->bf K H us bs->bf K H (.ref a::us) (b::bs)
variable{X:Cx}
end L2
end
section
namespace VS
open PySem PySem.Spec L2
end VS
end
section
namespace Tup
open HT
theorem Vo:∀a:List Int,lexLt a a=false
 |[]=>rfl
 |x::r=>by rw[Gd,if_pos rfl];exact Vo r
theorem Pg:∀{a b:List Int},lexLt a b=false->a=b∨lexLt b a=true
 |[],[],_=>.inl rfl
 |[],_::_,h=>by cases h
 |_::_,[],_=>.inr rfl
 |x::a,y::b,h=>by
  rw[Gd] at h
  rw[Gd]
  by_cases e:x=y
  .rw[if_pos e] at h
   rw[if_pos e.symm]
   rcases Pg h with z|z
   .exact .inl (by rw[e,z])
   .exact .inr z
  .rw[if_neg e] at h
   rw[if_neg (U2s e)]
   have:=of_decide_eq_false h
   exact .inr (decide_eq_true (by omega))
theorem Qu:∀{a b c:List Int},lexLt a b=true->lexLt b c=true->lexLt a c=true
 |[],[],_,h,_=>by cases h
 |[],_::_,[],_,h=>by cases h
 |[],_::_,_::_,_,_=>rfl
 |_::_,[],_,h,_=>by cases h
 |_::_,_::_,[],_,h=>by cases h
 |x::a,y::b,z::c,h,k=>by
  rw[Gd] at h k ⊢
  by_cases e:x=y
  .subst e
   rw[if_pos rfl] at h
   by_cases e2:x=z
   .rw[if_pos e2] at k ⊢;exact Qu h k
   .rw[if_neg e2] at k ⊢;exact k
  .rw[if_neg e] at h
   have h':=of_decide_eq_true h
   by_cases e2:y=z
   .rw[←e2,if_neg e];exact h
   .rw[if_neg e2] at k
    have k':=of_decide_eq_true k
    rw[if_neg (by omega)]
    exact decide_eq_true (by omega)
def rank(ts:List `bo)(t:List Int):Nat:=(ts.filter fun u=>lexLt u t).length
theorem aD{a b:List Int}(h:lexLt a b=true):∀ts:List `bo,rank ts a<=rank ts b
 |[]=>U0l _
 |u::r=>by
  have ih:=aD h r
  unfold rank at ih ⊢
  rw[U21,U21]
  by_cases e:lexLt u a=true
  .rw[if_pos e,if_pos (Qu e h),U0f,U0f];omega
  .rw[if_neg e]
   split
   .rw[U0f];omega
   .exact ih
theorem Mr{a b:List Int}(h:lexLt a b=true):∀{ts:List `bo},a∈ts->rank ts a<rank ts b
 |u::r,hm=>by
  rcases U0h.mp hm with e|e
  .have ih:=aD h r
   unfold rank at ih ⊢
   rw[U21,U21,←e,if_neg (by rw[Vo];decide),if_pos h,U0f];omega
  .have ih:=Mr h (ts:=r) e
   unfold rank at ih ⊢
   rw[U21,U21]
   by_cases e:lexLt u a=true
   .rw[if_pos e,if_pos (Qu e h),U0f,U0f];omega
   .rw[if_neg e]
    split
    .rw[U0f];omega
    .exact ih
theorem o8{a b:List Int}{ts:List `bo}(ha:a∈ts)(hb:b∈ts):decide ((rank ts a:Int)<rank ts b)=lexLt a b:=by
 cases h:lexLt a b with
 |true=>exact decide_eq_true (by have:=Mr h ha;omega)
 |false =>
  refine decide_eq_false ?_
  rcases Pg h with z|z
  .rw[z];omega
  .have:=Mr z hb;omega
def Sy(t:List Int):List `bo->List `bo
 |[]=>[t]
 |u::r=>if lexLt t u=true then t::u::r else u::Sy t r
def GJ:List `bo->List `bo
 |[]=>[]
 |t::r=>Sy t (GJ r)
theorem RL(t:List Int):∀l,(Sy t l).Perm (t::l)
 |[]=>.refl _
 |u::r=>by
  rw[Sy]
  split
  .exact .refl _
  .exact((RL t r).cons u).trans (.swap ..)
theorem Fw:∀l,(GJ l).Perm l
 |[]=>.refl _
 |t::r=>(RL t _).trans ((Fw r).cons t)
theorem WX{t:List Int}:∀{l:List `bo},t ∉ l->l.Pairwise (fun a b=>lexLt a b=true)->(Sy t l).Pairwise fun a b=>lexLt a b=true
 |[],_,_=>by simp[Sy]
 |u::r,hn,h=>by
  obtain⟨h1,h2⟩:=U11.mp h
  rw[Sy]
  split
  .rename_i q
   refine U11.mpr ⟨fun z hz=>?_,h⟩
   rcases U0h.mp hz with e|e
   .rw[e];exact q
   .exact Qu q (h1 z e)
  .rename_i q
   have ne:t≠u:=fun e=>hn (by rw[e];exact U0i)
   have hut:lexLt u t=true:=by
    rcases Pg (U8i.mpr q) with z|z
    .exact absurd z ne
    .exact z
   refine U11.mpr ⟨fun z hz=>?_,WX (fun e=>hn (U0k _ e)) h2⟩
   rcases U0h.mp ((RL t r).mem_iff.mp hz) with e|e
   .rw[e];exact hut
   .exact h1 z e
theorem Iz:∀{l:List `bo},l.Nodup->(GJ l).Pairwise fun a b=>lexLt a b=true
 |[],_=>.nil
 |t::r,h=>by
  obtain⟨h1,h2⟩:=U3y.mp h
  exact WX (fun e=>h1 ((Fw r).mem_iff.mp e)) (Iz h2)
theorem HJ:∀{a b:List `bo},a.Perm b->a.Pairwise (fun a b=>lexLt a b=true)->b.Pairwise (fun a b=>lexLt a b=true)->a=b
 |[],b,p,_,_=>(U17.nil_eq p)
 |x::a,[],p,_,_=>by have:=p.length_eq;simp at this
 |x::a,y::b,p,ha,hb=>by
  obtain⟨a1,a2⟩:=U11.mp ha
  obtain⟨b1,b2⟩:=U11.mp hb
  have e:x=y:=by
   rcases U0h.mp (p.mem_iff.mp U0i) with z|z
   .exact z
   .rcases U0h.mp (p.mem_iff.mpr U0i) with w|w
    .exact w.symm
    .have k:=Qu (a1 y w) (b1 x z)
     rw[Vo] at k;cases k
  subst e
  rw[HJ p.cons_inv a2 b2]
end Tup
end
section
set_option maxRecDepth 100000
namespace Tup
open PySem PySem.W PySem.Calls PyProof.Rows
inductive G7 (h:Heap):List Value->List `bo->Prop
 |nil:G7 h [] []
 |cons {a:Addr} {its:Array Value} {t:List Int} {us:List Value} {ts:List `bo}:IsTup h a its->IntsAre its.toList t->G7 h us ts->G7 h (.ref a::us) (t::ts)
theorem G7.keep{h h':Heap}(k:∀b o,o.cls=.type "tuple"->h.get? b=some o->h'.get? b=some o):∀{us:List Value} {ts:List `bo},G7 h us ts->G7 h' us ts
 |_,_,.nil=>.nil
 |_,_,.cons ⟨o,e,c,d⟩ i r=>.cons ⟨o,k _ o c e,c,d⟩ i (r.keep k)
theorem G7.length{h:Heap}:∀{us:List Value} {ts:List `bo},G7 h us ts->us.length=ts.length
 |_,_,.nil=>rfl
 |_,_,.cons _ _ r=>by rw[U0f,U0f,r.length]
def dec(h:Heap):Value->List Int
 |.ref a=>match h.get? a with
  |some o=>match o.data with
   |.seq its _=>its.toList.map numOf
   |_=>[]
  |none=>[]
 |_=>[]
theorem dec_is{h:Heap}{a:Addr}{its:Array Value}{t:List Int}(ht:IsTup h a its)(hi:IntsAre its.toList t):dec h (.ref a)=t:=by
 obtain⟨o,e,c,n,d⟩:=ht
 unfold dec
 simp only[e,d]
 exact hi.nums
theorem G7.decs{h:Heap}:∀{us:List Value} {ts:List `bo},G7 h us ts->us.map (dec h)=ts
 |_,_,.nil=>rfl
 |_,_,.cons t i r=>by rw[U0r,dec_is t i,r.decs]
theorem G7.each{h:Heap}:∀{us:List Value} {ts:List `bo},G7 h us ts->∀v∈us,∃a its t,v=.ref a/\IsTup h a its/\IntsAre its.toList t/\t∈ts
 |_,_,.nil,_,h=>by cases h
 |_,_,.cons t i r,v,hv=>by
  rcases U0h.mp hv with e|e
  .exact⟨_,_,_,e,t,i,U0i⟩
  .obtain⟨a,its,u,h1,h2,h3,h4⟩:=r.each v e
   exact⟨a,its,u,h1,h2,h3,U0k _ h4⟩
section
variable{prog:Program}{w:World}{A:Around}{E:Value->Shared->Prop}{s:Shared}
theorem Um{fin:Bool}{Q:Bool->Shared->Prop}:∀{us vs:List Value} {a b:List Int} (i:Nat),IntsAre us a->IntsAre vs b->fin=decide (us.length<vs.length)->Q (HT.lexLt a b) s->KatLex prog w A true fin Q (us.zip vs) i s
 |_,_,_,_,i,.nil,.nil,hf,h=>by
  subst hf
  exact h
 |_,_,_,_,i,.nil,.cons _ _ _,hf,h=>by
  subst hf
  exact kat_nil (by
   rw[show decide (([]:List Value).length<(_::_:List Value).length)=true from decide_eq_true (by simp)]
   exact h)
 |_,_,_,_,i,.cons _ _ _,.nil,hf,h=>by
  subst hf
  exact kat_nil h
 |_,_,p::ra,q::rb,i,.cons _ t r1,.cons _ u r2,hf,h=>by
  rw[U4j]
  refine kat_cons (wpAny_eqBool_int ?_)
  rw[HT.Gd] at h
  by_cases he:p=q
  .subst he
   rw[if_pos rfl] at h
   rw[show(p==p)=true from beq_self_eq_true p]
   exact kat_yes (Um (i+1) r1 r2 (by rw[hf];simp) h)
  .rw[if_neg he] at h
   rw[show(p==q)=false from beq_eq_false_iff_ne.mpr he]
   refine kat_no ?_
   rw[U8]
   cases i with
   |zero=>exact oneLt_int h
   |succ i=>exact kat_one _ _ (wpAny_lt_int h)
theorem uU{x y:Addr}{xs ys:Array Value}{a b:List Int}{Q:Bool->Shared->Prop}(tx:IsTup s.heap x xs)(ty:IsTup s.heap y ys)(hx:IntsAre xs.toList a)(hy:IntsAre ys.toList b)(h:Q (HT.lexLt a b) s):wpAny `am A (keyLt' (tuples' true) (.ref x) (.ref y)) Q E s:=by
 obtain⟨o1,e1,c1,n1,d1⟩:=tx
 obtain⟨o2,e2,c2,n2,d2⟩:=ty
 exact kat_lt e1 d1 e2 d2 (Um 0 hx hy (by simp) h)
theorem Js{h:Heap}:∀{vs:List Value} {ts:List `bo},G7 h vs ts->(∀t∈ts,t≠[])->∃fs,KatTups h vs fs/\fs.length=vs.length/\∀f∈fs,∃n t,f=.int n t
 |_,_,.nil,_=>⟨[],trivial,rfl,fun _ z=>nomatch z⟩
 |_,b::bs,@G7.cons _ a its _ us _ t sg r,hn=>by
  obtain⟨fs,k,hl,hf⟩:=Js r fun c hc=>hn c (U0k _ hc)
  obtain⟨o,e,c,n,d⟩:=t
  have hb:=hn b U0i
  generalize hi:its.toList=is at sg
  cases sg with
  |nil=>exact absurd rfl hb
  |cons m tk r2 =>
   refine⟨.int m tk::fs,KatTups.cons e c d ?_ k,by simp[hl],fun f hf'=>?_⟩
   .rw[←U1a,hi];rfl
   .rcases U0h.mp hf' with z|z
    .exact⟨m,tk,z⟩
    .exact hf f z
theorem ju{vs:List Value}{ts:List `bo}{Q:SortKind->Shared->Prop}(hT:G7 s.heap vs ts)(hn:∀t∈ts,t≠[])(h2:0<vs.length)(h:Q (tuples' true) s):wpAny `am A (keyKind' vs.toArray) Q E s:=by
 obtain⟨fs,k,hl,hf⟩:=Js hT hn
 refine kat_kind (T:=.type "int") k (by omega) (fun v hv=>?_) (by decide) (by
  have:(U22 "int" != U22 "tuple")=true:=by decide
  rw[this];exact h)
 obtain⟨n,t,rfl⟩:=hf v hv
 exact .now
@[reducible] def rk(h:Heap)(ts:List `bo):Tg.Rk:=⟨fun p=>rank ts (dec h p.1),fun p=>∃a its t,p.1=.ref a/\IsTup h a its/\IntsAre its.toList t/\t∈ts,tuples' true⟩
theorem ask(s:Shared)(ts:List `bo):@Tg.Ask prog w A s (rk s.heap ts):=by
 letI:=rk s.heap ts
 refine⟨fun x y hx hy Q E h=>?_⟩
 obtain⟨a,ia,t,e1,t1,i1,m1⟩:=hx
 obtain⟨b,ib,u,e2,t2,i2,m2⟩:=hy
 rw[e1,e2]
 refine uU t1 t2 i1 i2 ?_
 have k:decide ((rank ts (dec s.heap x.1):Int)<rank ts (dec s.heap y.1))=HT.lexLt t u:=by rw[e1,e2,dec_is t1 i1,dec_is t2 i2,o8 m1 m2]
 rw[←k];exact h
end
end Tup
end
section
namespace Tg
open PySem PyProof.Rows
open Rk (kv IsI)
variable[Rk]
section
variable{prog:Program}{w:World}{A:Around}{E:Value->Shared->Prop}{s:Shared}[Ask prog w A s]{a₀:Array Keyed}
theorem ZL{st:SortSt}{Q:Unit->SortSt->Prop}(h0:Keys a₀)(hB:SBase a₀ st)(h2:2<=a₀.size)(h64:a₀.size<64)
  (h:∀st',(`bn).Perm a₀->failedOf st'=none->SortedTo `bn a₀.size->Q () st'):wpS `am A E s sortRuns' Q st:=by
 have B0:RB a₀ st 0 st:=⟨hB.perm,fun _ _=>rfl,hB.kind,hB.failed,rfl⟩
 rw[sortRuns'_eq]
 refine wpS_bind (wpS_get ?_)
 dsimp only
 have hmr:minRun' a₀.size a₀.size 0=a₀.size:=by
  obtain⟨f,hf⟩:∃f,a₀.size=f+1:=⟨a₀.size-1,by omega⟩
  have:minRun' (f+1) a₀.size 0=a₀.size:=by rw[minRun'_succ,if_pos h64];rfl
  rwa [←hf] at this
 rw[hB.size,hmr]
 refine wpS_bind (wpS_mono (wpS_forRange
  (I:=fun x c st'=>(x=0/\c=(none,0)/\st'=st)∨(1<=x/\c=(none,a₀.size)/\(`bn).Perm a₀/\failedOf st'=none/\SortedTo `bn a₀.size/\(pendingOf st').size<=1))
  (Q:=fun c st'=>c=(none,a₀.size)/\(`bn).Perm a₀/\failedOf st'=none/\SortedTo `bn a₀.size/\(pendingOf st').size<=1) ?step ?fin (.inl ⟨rfl,rfl,rfl⟩)) ?post)
 case fin =>
  rintro c st' (⟨hx,_,_⟩|⟨_,hD⟩)
  .omega
  .exact hD
 case step =>
  rintro x c st' _ hx (⟨rfl,rfl,rfl⟩|⟨hx1,rfl,hD⟩)
  .have so:∀{xs:Array Keyed},KD xs 0 a₀.size->SortedTo xs a₀.size:=fun hs i j hij hj=>by
    have:=hs i j hij hj
    rwa [U3b,U3b] at this
   dsimp only
   rw[if_neg (by omega)]
   refine wpS_bind (Ux h0 (by omega) (by omega) B0 fun k st2 B2 k1 k2 hs2=>?_)
   have e0:min (a₀.size-0) a₀.size=a₀.size:=by omega
   apply Bj
   case' hx =>
    intro hlt
    refine wpS_bind (wpS_lift (U39 ⟨rfl,?_⟩))
    refine wpS_bind (Y8 (n:=min (a₀.size-0) a₀.size) h0 (by omega) (by omega) B2 hs2 fun st3 B3 hs3=>?_)
    rw[if_neg (by decide)]
    rw[e0] at *
   case' hy =>
    intro hlt
    obtain rfl:k=a₀.size:=by omega
    obtain⟨st3,rfl⟩:∃st3,st3=st2:=⟨_,rfl⟩
    have B3:=B2
    have hs3:=hs2
   all_goals
    have hb:(pendingOf st3).back?=none:=by rw[B3.pend,hB.pend];rfl
    refine wpS_bind (wpS_get ?_)
    rw[hb]
    refine wpS_bind (wpS_modify (wpS_pure (.inr ⟨by omega,by rw[U3b],B3.perm,B3.failed,so hs3,?_⟩)))
    show((pendingOf st3).push _).size<=1
    rw[B3.pend,hB.pend]
    exact U0l 1
  .dsimp only
   rw[if_pos (U0l _)]
   exact wpS_pure ⟨rfl,hD⟩
 case post =>
  rintro c st' ⟨rfl,d1,d2,d3,d4⟩
  dsimp only
  refine wpS_bind (wpS_mono (wpS_forRange (I:=fun _ c st''=>st''=st'/\c=(none,())) (Q:=fun c st''=>st''=st'/\c=(none,())) ?_ (fun _ _ hh=>hh) ⟨rfl,rfl⟩) ?_)
  .rintro x c st'' _ _ ⟨rfl,rfl⟩
   refine wpS_bind (wpS_get ?_)
   rw[if_pos d4]
   exact wpS_pure ⟨rfl,rfl⟩
  .rintro c st'' ⟨rfl,rfl⟩
   exact wpS_pure (h _ d1 d2 d3)
end
end Tg
end
section
set_option maxRecDepth 100000
namespace Tup
open PySem PySem.W PySem.Calls PyProof.Rows
theorem nG{h:Heap}{vs:List Value}{ts:List `bo}(hT:G7 h vs ts)(hd:ts.Nodup){xs:Array Keyed}(hp:xs.Perm (pairsOf vs))(hs:@Tg.SortedTo (rk h ts) xs (pairsOf vs).size):(xs.map (·.2)).toList.Perm vs/\(xs.map (·.2)).toList.map (dec h)=GJ ts:=by
 letI:=rk h ts
 have hl:xs.toList.Perm (vs.zip vs):=by rw[←pairsOf_toList];exact U46.mp hp
 have hz:∀(l:List Value),∀p∈l.zip l,p.1=p.2/\p.2∈l:=fun l=>by
  induction l with
  |nil=>intro p hp;cases hp
  |cons a r ih =>
   intro p hp
   rw[U4j] at hp
   rcases U0h.mp hp with e|e
   .rw[e];exact⟨rfl,U0i⟩
   .exact⟨(ih p e).1,U0k _ (ih p e).2⟩
 have mem:∀p∈xs.toList,p.1=p.2/\p.2∈vs:=fun p hp'=>hz vs p (hl.mem_iff.mp hp')
 have e1:(xs.map (·.2)).toList=xs.toList.map (·.2):=Array.toList_map
 have p1:(xs.toList.map (·.2)).Perm vs:=by
  have:=hl.map (·.2)
  rwa [List.map_snd_zip (U0l _)] at this
 have p2:((xs.toList.map (·.2)).map (dec h)).Perm ts:=by rw[←hT.decs];exact p1.map _
 refine⟨by rw[e1];exact p1,?_⟩
 rw[e1]
 refine HJ (p2.trans (Fw ts).symm) ?_ (Iz hd)
 have nd:((xs.toList.map (·.2)).map (dec h)).Nodup:=p2.nodup_iff.mpr hd
 refine U1w.mpr fun i j hi hj hij=>?_
 have n1:=U1w.mp nd i j hi hj hij
 have hi':i<xs.size:=by simpa using hi
 have hj':j<xs.size:=by simpa using hj
 have k:=hs i j (by omega) (by rw[←hp.size_eq];exact hj')
 rw[←Tg.KR hi',←Tg.KR hj'] at k
 have g:∀i (hi:i<xs.size),((xs.toList.map (·.2)).map (dec h))[i]'(by simpa using hi)=dec h xs[i].1:=fun i hi=>by
  rw[U4t,U4t,U4a,(mem xs[i] (by simp)).1]
 rw[g i hi',g j hj'] at n1 ⊢
 have m:∀i (hi:i<xs.size),dec h xs[i].1∈ts:=fun i hi=>by
  rw[(mem xs[i] (by simp)).1,←hT.decs]
  exact U4r (mem xs[i] (by simp)).2
 cases q:HT.lexLt (dec h xs[i].1) (dec h xs[j].1) with
 |true=>rfl
 |false =>
  rcases Pg q with z|z
  .exact absurd z n1
  .have:=Mr z (m j hj')
   have k':(rank ts (dec h xs[i].1):Int)<=rank ts (dec h xs[j].1):=k
   omega
section
variable{prog:Program}{w:World}{A:Around}{E:Value->Shared->Prop}{s:Shared}
theorem QX{a:Addr}{vs:List Value}{ts:List `bo}{n:Nat}{P:Fin->Shared->Prop}(ho:s.heap.get? a=some (seqObj "list" vs.toArray n))(hT:G7 s.heap vs ts)(hn:∀t∈ts,t≠[])(hd:ts.Nodup)(hl:vs.length<64)
  (h:∀out:Array Value,out.toList.Perm vs->out.toList.map (dec s.heap)=GJ ts->P (.done (.ret .none)) { s with heap:=sortedHeap s.heap a vs out }) :
  wpAny `am A (Builtin.«list.sort» ⟨[.ref a],[]⟩) P E s:=by
 have lt:=U0o ho
 have hz:vs.length<=sizeLine:=by rw[sizeLine_eq];omega
 rw[list_sort_plain]
 refine U0 (listItems_at ho rfl (U0 (listUpdate_at ho rfl ?_ (hsz:=by rw[U0n];omega))))
 obtain⟨e1,o1⟩:∃e1,(s.heap.update a (U1y fun _=>#[])).get? a=some (seqObj "list" #[] e1):=⟨_,get?_update_seq ho (fun _=>#[])⟩
 refine U0 (seqEpoch_at o1 rfl (U0 (U81 (U0 (U6b (U2j ?_))) (by simpa using hz))))
 have o2:(((s.heap.update a (U1y fun _=>#[])).push (seqObj "tuple" vs.toArray 0)).push (seqObj "list" #[] 0)).get? a=some (seqObj "list" #[] e1) :=
  U0c _ (U0c _ o1)
 have T2:G7 (((s.heap.update a (U1y fun _=>#[])).push (seqObj "tuple" vs.toArray 0)).push (seqObj "list" #[] 0)) vs ts:=hT.keep fun b o c e=>by
  have hne:b≠a:=fun z=>by
   rw[z,ho] at e
   cases e
   exact absurd (show U22 "list"=U22 "tuple" from c) (by decide)
  exact U0c _ (U0c _ ((U1n _ _ (U2s hne)).trans e))
 have dd:∀out:List Value,out.Perm vs->out.map (dec (((s.heap.update a (U1y fun _=>#[])).push (seqObj "tuple" vs.toArray 0)).push (seqObj "list" #[] 0)))=out.map (dec s.heap):=fun out po=>by
  refine U4s fun v hv=>?_
  obtain⟨b,its,t,rfl,q1,q2,_⟩:=hT.each v (po.mem_iff.mp hv)
  rw[dec_is q1 q2]
  have:G7 (((s.heap.update a (U1y fun _=>#[])).push (seqObj "tuple" vs.toArray 0)).push (seqObj "list" #[] 0)) [.ref b] [t]:=(G7.cons q1 q2 .nil).keep fun b o c e=>by
   have hne:b≠a:=fun z=>by
    rw[z,ho] at e
    cases e
    exact absurd (show U22 "list"=U22 "tuple" from c) (by decide)
   exact U0c _ (U0c _ ((U1n _ _ (U2s hne)).trans e))
  cases this with
  |cons r1 r2 _=>exact dec_is r1 r2
 show wpAny `am A _ P E { s with heap:=((s.heap.update a (U1y fun _=>#[])).push (seqObj "tuple" vs.toArray 0)).push (seqObj "list" #[] 0) }
 dsimp only
 by_cases h2:vs.toArray.size<2
 .rw[if_pos h2,if_pos h2]
  refine U0 (U0e ?_)
  rw[StateT.run_pure]
  refine U0 (U0e ?_)
  dsimp only
  have hout:(arrOf (U8k general' (vs.toArray.zip vs.toArray) #[] 7 none)).map (·.2)=vs.toArray:=Asc.yZ vs
  rw[hout]
  refine U0 (seqEpoch_at o2 rfl ?_)
  refine U0 (listUpdate_at o2 rfl ?_ (hsz2:=by rw[U0n];omega))
  simp only[bne_self_eq_false,U0s,if_false]
  refine U0e (h _ (U5g _) ?_)
  show vs.map (dec s.heap)=_
  rw[hT.decs]
  have hlen:=hT.length
  rw[U0n] at h2
  match ts,hlen with
  |[],_=>rfl
  |[t],_=>rfl
  |t::u::r,hlen=>simp at hlen;omega
 .rw[if_neg h2,if_neg h2]
  have h2':2<=vs.length:=by rw[U0n] at h2;omega
  refine U0 (ju (s:={ s with heap:=((s.heap.update a (U1y fun _=>#[])).push (seqObj "tuple" vs.toArray 0)).push (seqObj "list" #[] 0) }) T2 hn (by omega) ?_)
  generalize hS:({ s with heap:=((s.heap.update a (U1y fun _=>#[])).push (seqObj "tuple" vs.toArray 0)).push (seqObj "list" #[] 0) }:Shared)=s2
  have hh:s2.heap=((s.heap.update a (U1y fun _=>#[])).push (seqObj "tuple" vs.toArray 0)).push (seqObj "list" #[] 0):=by rw[←hS]
  rw[←hh] at T2
  letI:=rk s2.heap ts
  haveI:=ask (prog:=prog) (w:=w) (A:=A) s2 ts
  have keys:Tg.Keys (pairsOf vs):=by
   refine⟨fun p hp=>?_,?_⟩
   .rw[pairsOf_toList] at hp
    have hm:p.1∈vs:=(U40 hp).1
    exact T2.each p.1 hm
   .have e:(pairsOf vs).toList.map Tg.Rk.kv=(((vs.zip vs).map Prod.fst).map (dec s2.heap)).map fun t=>(rank ts t:Int):=by rw[pairsOf_toList,U0t,U0t];rfl
    rw[e,List.map_fst_zip (U0l _),T2.decs]
    refine U1w.mpr fun i j hi hj hij=>?_
    rw[U4t,U4t]
    have hi':i<ts.length:=by simpa using hi
    have hj':j<ts.length:=by simpa using hj
    have ne:=U1w.mp hd i j hi' hj' hij
    intro z
    cases q:HT.lexLt ts[i] ts[j] with
    |true=>have:=Mr q (U3c hi');omega
    |false =>
     rcases Pg q with y|y
     .exact ne y
     .have:=Mr y (U3c hj');omega
  refine U0 (U5q (Tg.ZL (s:=s2) (a₀:=pairsOf vs) (st:=U8k (tuples' true) (vs.toArray.zip vs.toArray) #[] 7 none) (Q:=fun _ st'=>(`bn).Perm (pairsOf vs)/\failedOf st'=none/\Tg.SortedTo `bn (pairsOf vs).size)
   keys ⟨Array.Perm.refl _,rfl,rfl,rfl⟩ (by rw[pairsOf_size];exact h2') (by rw[pairsOf_size];omega) fun st' a1 a2 a3=>⟨a1,a2,a3⟩) ?_ fun _ _ e=>e)
  rintro⟨⟨⟩,st'⟩ s' ⟨rfl,hp,hf,hs⟩
  obtain⟨r1,r2⟩:=nG T2 hd hp hs
  rw[hh,dd _ r1] at r2
  subst hS
  dsimp only
  refine U0 (seqEpoch_at o2 rfl (U0 (listUpdate_at o2 rfl ?_ (hsz2:=by
   rw[U82,hp.size_eq,pairsOf_size];omega))))
  rw[hf]
  simp only[bne_self_eq_false,U0s,if_false]
  exact U0e (h _ r1 r2)
end
end Tup
end
section
set_option maxRecDepth 100000
namespace Tup
open PySem PySem.W PySem.Calls PyProof.Rows
section
variable{prog:Program}{w:World}{A:Around}{E:Value->Shared->Prop}{s:Shared}
theorem cD{l:Addr}{vs:List Value}{ts:List `bo}{Q:Value->Shared->Prop}(hl:s.heap.IsList l vs.toArray)(hT:G7 s.heap vs ts)(hn:∀t∈ts,t≠[])(hd:ts.Nodup)(h3:vs.length<64)
  (h:∀h' l' n (out:Array Value),(∀b o,s.heap.get? b=some o->h'.get? b=some o)->(∀b o,s.heap.get? b=some o->b<l')->h'.get? l'=some (seqObj "list" out n)->out.toList.Perm vs->out.toList.map (dec s.heap)=GJ ts->Q (.ref l') { s with heap:=h' }) :
  wpAny `am A (call (.builtin "sorted") [.ref l]) Q E s:=by
 have hz:vs.length<=sizeLine:=by rw[sizeLine_eq];omega
 refine U5e kind_sorted plain_sorted entry_sorted (args_sorted1 _) ?_
 unfold Builtin.«sorted»
 refine U0 (m:=checkCount "sorted" 1 1 _) (U0e ?_)
 refine U0 (collect_list hl ?_ hz)
 refine U0 (U6b ?_ (by simpa using hz))
 have hsz:((s.heap.push (seqObj "list" #[] 0)).update s.heap.objs.size (U1y (·++vs.toArray))).objs.size=s.heap.objs.size+1:=by
  rw[Heap.size_update,size_push']
 have hoL:(((s.heap.push (seqObj "list" #[] 0)).update s.heap.objs.size (U1y (·++vs.toArray))).push (seqObj "list" vs.toArray 0)).get? (s.heap.objs.size+1)=some (seqObj "list" vs.toArray 0):=by
  rw[←hsz];exact U0u _ rfl
 have keep:∀b o,s.heap.get? b=some o->(((s.heap.push (seqObj "list" #[] 0)).update s.heap.objs.size (U1y (·++vs.toArray))).push (seqObj "list" vs.toArray 0)).get? b=some o:=fun b o q=>by
  have hlt:b<s.heap.objs.size:=U0o q
  rw[Heap.get?_push_ne _ _ _ (by rw[hsz];exact U02 (U5y hlt)),Heap.get?_update_ne _ _ _ _ (U02 hlt),Heap.get?_push_ne _ _ _ (U02 hlt)]
  exact q
 show wpAny _ _ _ _ _ { s with heap:=((s.heap.push (seqObj "list" #[] 0)).update s.heap.objs.size (U1y (·++vs.toArray))).push (seqObj "list" vs.toArray 0) }
 rw[hsz]
 refine U0 (U2j (U2m slot_list_sort ⟨_,hoL,rfl⟩ entry_list_sort (QX (s:={ s with heap:=((s.heap.push (seqObj "list" #[] 0)).update s.heap.objs.size (U1y (·++vs.toArray))).push (seqObj "list" vs.toArray 0) }) hoL (hT.keep fun b o _ e=>keep b o e) hn hd h3 fun out p1 p2=>⟨_,rfl,?_⟩) (args_list_sort _)))
 refine U0e ⟨_,rfl,?_⟩
 have old:∀b o,s.heap.get? b=some o->b<s.heap.objs.size+1:=fun b o e=>U5y (U0o e)
 obtain⟨n',e'⟩:=SetP.Hx (out:=out) hoL
 have p3:out.toList.map (dec s.heap)=GJ ts:=by
  rw[←p2]
  refine U4s fun v hv=>?_
  obtain⟨b,its,t,rfl,q1,q2,_⟩:=hT.each v (p1.mem_iff.mp hv)
  obtain⟨o,e,c⟩:=id q1
  rw[dec_is q1 q2,dec_is (show IsTup _ b its from ⟨o,keep b o e,c⟩) q2]
 exact h _ _ n' out (fun b o e=>SetP.HX (U02 (old b o e)) (keep b o e)) old e' p1 p3
end
end Tup
namespace L2
open PySem PySem.Spec PyProof.Rows
inductive GZ (H:Hp):List V->List `bo->Prop
 |nil:GZ H [] []
 |cons {a:Addr} {t:List Int} {us:List V} {ts:List `bo}:H a=some (.tup (t.map V.int))->GZ H us ts->GZ H (.ref a::us) (t::ts)
variable{X:Cx}
theorem GZ.heap{pins:List (Addr×Obj)}{Z3:St}{H:Hp}{s:Shared}(I:Inv X pins Z3 H s):∀{us:List V} {ts:List `bo} {vs:List Value},GZ H us ts->Vals us vs->Tup.G7 s.heap vs ts
 |_,_,_,.nil,.nil=>.nil
 |_,_,_,@GZ.cons _ a t _ _ e r,.cons rv rvs=>by
  cases rv
  obtain⟨its,r1,p1,_⟩:=I.tuple (SqT.of (K:=X.K) e)
  exact .cons p1 (intsAre_of (ns:=t) r1) (r.heap I rvs)
theorem GZ.each{H:Hp}:∀{us:List V} {ts:List `bo},GZ H us ts->∀u∈us,∃(a:Addr)(t:List Int),u=.ref a/\H a=some (.tup (t.map V.int))
 |_,_,.nil,_,h=>by cases h
 |_,_,.cons e r,u,hu=>by
  rcases U0h.mp hu with z|z
  .exact⟨_,_,z,e⟩
  .exact r.each u z
theorem W6{us:List V}{vs:List Value}(r:Vals us vs):∀{out:List Value},out.Perm vs->∃us',us'.Perm us/\Vals us' out:=by
 intro out p
 induction p generalizing us with
 |nil=>exact⟨us,.refl _,r⟩
 |cons x _ ih =>
  cases r with
  |cons a b =>
   obtain⟨us',p,q⟩:=ih b
   exact⟨_::us',p.cons _,.cons a q⟩
 |swap x y l =>
  cases r with
  |cons a b =>
   cases b with
   |cons b c=>exact⟨_,.swap ..,.cons b (.cons a c)⟩
 |trans _ _ ih1 ih2 =>
  obtain⟨us1,p1,q1⟩:=ih2 r
  obtain⟨us2,p2,q2⟩:=ih1 q1
  exact⟨us2,p2.trans p1,q2⟩
theorem R6{pins:List (Addr×Obj)}{Z3:St}{H:Hp}{s:Shared}(I:Inv X pins Z3 H s):∀{us:List V} {vs:List Value},Vals us vs->(∀u∈us,∃(a:Addr)(t:List Int),u=.ref a/\H a=some (.tup (t.map V.int)))->GZ H us (vs.map (Tup.dec s.heap))
 |_,_,.nil,_=>.nil
 |_,_,.cons rv rvs,h=>by
  obtain⟨a,t,rfl,e⟩:=h _ U0i
  cases rv
  obtain⟨its,r1,p1,_⟩:=I.tuple (SqT.of (K:=X.K) e)
  rw[U0r,Tup.dec_is p1 (intsAre_of (ns:=t) r1)]
  exact .cons e (R6 I rvs fun u hu=>h u (U0k _ hu))
theorem ZJ:Df X (.builtin "sorted") (fun xs H Q=>∃(a:Addr)(us:List V)(ts:List `bo),xs=[.ref a]/\SqL X.K H a us/\GZ H us ts/\(∀t∈ts,t≠[])/\ts.Nodup/\ts.length<64 /\
  ∀(l:Addr)(us':List V),H l=none->GZ H us' (Tup.GJ ts)->Q (.ref l) (upd H l (.lst us'))):=by
 intro pins s Z3 H xs us0 Q I r h
 obtain⟨a,us,ts,rfl,ha,hB,hn,hd,h3,q⟩:=h
 obtain⟨u,rfl,rx⟩:=vals1 r
 cases rx
 obtain⟨its,rv,ht,hz⟩:=I.list ha
 have hlen:=rv.length
 have hT:=hB.heap I rv
 refine Tup.cD ht.isList hT hn hd (by rw[hT.length];exact h3) fun h' l n out k hb e p1 p2=>?_
 have hn':s.heap.get? l=none:=by
  cases q:s.heap.get? l with
  |none=>rfl
  |some o=>exact absurd (hb l o q) (U4g _)
 have hsy:sysModules≠l:=by
  obtain⟨o,_,_,e,_⟩:=I.ok.mod.glob
  exact U02 (U4c (by decide:(1:Nat)<3) (hb _ _ (I.bk _ _ e)))
 obtain⟨us',pu,ru⟩:=W6 rv p1
 have tb:=R6 I ru fun u hu=>hB.each u (pu.mem_iff.mp hu)
 rw[p2] at tb
 have hz':us'.length<=sizeLine:=by rw[pu.length_eq];exact hz
 exact⟨.ref l,_,I.laidN (d':=s.drawn) (t':=s.toks) (o:=.lst us') k hn' hsy ⟨hz',out.toList,n,ru,e⟩,rfl,q l us' (I.Pb hn') tb⟩
end L2
end
section
namespace VS
open PySem PySem.Spec L2
def unT:D->Option `bo
 |.tup ds=>intsOf ds
 |_=>none
def N5:List D->Option (List `bo)
 |[]=>some []
 |d::r=>(unT d).bind fun p=>(N5 r).map (p::·)
def Rc(t:List Int):D:=.tup (t.map .int)
def Qy(a:BL):BL:=fun env S=>(a env S).bind fun p=>(listOf p.2 p.1).bind fun ds=>(N5 ds).bind fun ts=>if (∀t∈ts,t≠[])/\ts.Nodup/\ts.length<64 then some (.lst true ((Tup.GJ ts).map Rc),p.2) else none
theorem Js{Γ:Fr}{μ:Mu}{H:Hp}:∀{ds:List D} {vs:List V} {ts:List `bo},VRs Γ μ H vs ds->N5 ds=some ts->GZ H vs ts
 |[],_,_,.nil,e=>by
  cases e
  exact .nil
 |d::ds,_,_,.cons r rs,e=>by
  rw[N5] at e
  obtain⟨p,e1,e⟩:=bind_some e
  obtain⟨qs,e2,rfl⟩:=map_some e
  unfold unT at e1
  split at e1
  .cases r with
   |@tup x xs _ hp rp =>
    have:=FT e1
    subst this
    have:=rp.MK
    subst this
    exact .cons hp (Js rs e2)
  .cases e1
theorem T8{Γ:Fr}{μ:Mu}{H:Hp}:∀{vs:List V} {ts:List `bo},GZ H vs ts->VRs Γ μ H vs (ts.map Rc)
 |_,_,.nil=>.nil
 |_,_,.cons e r=>.cons (.tup e (VRs.ints _)) (T8 r)
theorem jx{X:Cx}{a:Expr}{f:BL}{p pos:Pos}(hg:Gl X "sorted")(hm:X.mg "sorted"=none)(ha:JE X a f)(he:starEach [a] X.env=[(false,eval a X.env)]:=by rfl):JE X (.Call (.Name "sorted" p) [a] [] pos) (Qy f) :=
 ⟨PE.imp (Ng ZJ hg hm OD (Jv ha.pe Lp he) (he:=he) (hpl:=rfl)) fun Z3 H Q h=>by
  obtain⟨Γ,μ,env,S,d,S',hK,R,e,q⟩:=h
  obtain⟨⟨y,S1⟩,e1,e⟩:=bind_some e
  obtain⟨ds,e2,e⟩:=bind_some e
  obtain⟨ts,e3,e⟩:=bind_some e
  by_cases hl:(∀t∈ts,t≠[])/\ts.Nodup/\ts.length<64
  .rw[if_pos hl] at e
   cases e
   refine⟨Γ,μ,env,S,y,S1,hK,R,e1,fun v1 μ1 H1 x1 R1 r1=>?_⟩
   obtain⟨a',xs,rfl,ha',rs⟩:=VR.list R1 r1 e2
   refine⟨a',xs,ts,rfl,SqL.of ha',Js rs e3,hl.1,hl.2.1,hl.2.2,fun l us' hn tb=>?_⟩
   obtain⟨R2,x2⟩:=R1.grow (Ci hn (.lst us'))
   exact q _ μ1 _ (x1.trans x2) R2 (.lst (R1.ok hn true) (R1.dead hn) Bq ((T8 tb).ext x2))
  .rw[if_neg hl] at e;cases e⟩
theorem gW(a:BL)(env:VS.Env)(S:Store):VS.Qy a env S=(a env S).bind fun p=>(listOf p.2 p.1).bind fun ds=>(N5 ds).bind fun ts=>if (∀t∈ts,t≠[])/\ts.Nodup/\ts.length<64 then some (.lst true ((Tup.GJ ts).map Rc),p.2) else none:=rfl
end VS
end
section
namespace SetP
open PySem
abbrev Pr:=U8z
def adv(m:Nat)(p:Pr):Pr:=if p.more>0 then { p with j:=p.j+1,more:=p.more-1 } else
 { p with j:=(U3s m p.i p.perturb).1,more:=U2i m (U3s m p.i p.perturb).1-(U3s m p.i p.perturb).1,i:=(U3s m p.i p.perturb).1,perturb:=(U3s m p.i p.perturb).2 }
theorem Wv(m:Nat)(p:Pr):(adv m p).dummy=p.dummy:=by unfold adv;split<;>rfl
def it(m:Nat)(p:Pr):Nat->Pr
 |0=>p
 |n+1=>it m (adv m p) n
theorem KQ(m:Nat):∀(a b:Nat)(p:Pr),it m p (a+b)=it m (it m p a) b
 |0,b,p=>by rw[U3b];rfl
 |a+1,b,p=>by rw[show a+1+b=(a+b)+1 by omega];exact KQ m a b (adv m p)
def rs(m i q:Nat):Pr:={ j:=i,more:=U2i m i-i,i:=i,perturb:=q,dummy:=none }
def st0(m:Nat)(h:Int):Pr:=rs m (U2b h%(m+1)) (U2b h)
theorem Xr(m i q:Nat):∀(c j M:Nat),c<=M->it m { j:=j,more:=M,i:=i,perturb:=q,dummy:=none } c={ j:=j+c,more:=M-c,i:=i,perturb:=q,dummy:=none }
 |0,j,M,_=>rfl
 |c+1,j,M,h=>by
  show it m (adv m _) c=_
  have e:adv m { j:=j,more:=M,i:=i,perturb:=q,dummy:=none }={ j:=j+1,more:=M-1,i:=i,perturb:=q,dummy:=none }:=by
   unfold adv;rw[if_pos (show M>0 by omega)]
  rw[e,Xr m i q c (j+1) (M-1) (by omega)]
  congr 1<;>omega
theorem Qp{m i:Nat}(h:i<=m):i<=U2i m i/\U2i m i<=m/\U2i m i<=i+9:=by
 unfold U2i;split<;>omega
theorem Ph(m i q:Nat):(U3s m i q).1<=m:=U50 (U7i _ (U7n m))
theorem Vq(m i q:Nat):it m (rs m i q) (U2i m i-i+1)=rs m (U3s m i q).1 (U3s m i q).2:=by
 rw[KQ,show it m (rs m i q) (U2i m i-i)=_ from Xr m i q _ i _ (U0l _)]
 show adv m _=_
 unfold adv
 rw[if_neg (by dsimp only;omega)]
 rfl
def lp(m:Nat):Nat->Nat->Nat->Nat×Nat
 |0,i,q=>(i,q)
 |n+1,i,q=>lp m n (U3s m i q).1 (U3s m i q).2
theorem lu(m:Nat):∀(n i q:Nat),i<=m->(lp m n i q).1<=m
 |0,i,q,h=>h
 |n+1,i,q,h=>lu m n _ _ (Ph m i q)
theorem dw(m:Nat):∀(a b i q:Nat),lp m (a+b) i q=lp m b (lp m a i q).1 (lp m a i q).2
 |0,b,i,q=>by rw[U3b];rfl
 |a+1,b,i,q=>by rw[show a+1+b=(a+b)+1 by omega];exact dw m a b _ _
theorem sI(m:Nat):∀(n i q:Nat),(lp m n i q).2=q/32^n
 |0,i,q=>by simp[lp]
 |n+1,i,q=>by
  show(lp m n _ _).2=_
  rw[sI m n]
  show q/32/32^n=_
  rw[Nat.div_div_eq_div_mul,Nat.pow_succ,U8m]
theorem mC(m:Nat):∀(n i q:Nat),i<=m->∃K,K<=10*n/\it m (rs m i q) K=rs m (lp m n i q).1 (lp m n i q).2
 |0,i,q,h=>⟨0,U0l _,rfl⟩
 |n+1,i,q,h=>by
  obtain⟨K,hK,e⟩:=mC m n (U3s m i q).1 (U3s m i q).2 (Ph m i q)
  have:=Qp h
  exact⟨U2i m i-i+1+K,by omega,by rw[KQ,Vq,e];rfl⟩
def cyc(m:Nat):Nat->Nat->Nat
 |0,i=>i
 |n+1,i=>cyc m n ((i*5+1)%(m+1))
theorem Rx(m:Nat):∀(a b i:Nat),cyc m (a+b) i=cyc m b (cyc m a i)
 |0,b,i=>by rw[U3b];rfl
 |a+1,b,i=>by rw[show a+1+b=(a+b)+1 by omega];exact Rx m a b _
theorem dh(m:Nat):∀(n i:Nat),(lp m n i 0).1=cyc m n i
 |0,i=>rfl
 |n+1,i=>by
  show(lp m n ((i*5+1+0/32)%(m+1)) (0/32)).1=_
  rw[Nat.zero_div,U57]
  exact dh m n _
def orb(m:Nat):Nat->Nat->List Nat
 |0,_=>[]
 |n+1,i=>i::orb m n ((i*5+1)%(m+1))
theorem Vl(m:Nat):∀(n i j:Nat),j∈orb m n i->∃k,k<n/\cyc m k i=j
 |0,_,_,h=>by cases h
 |n+1,i,j,h=>by
  rcases U0h.mp h with e|e
  .exact⟨0,by omega,e.symm⟩
  .obtain⟨k,hk,e⟩:=Vl m n _ j e
   exact⟨k+1,by omega,e⟩
def Msk(m:Nat):Prop:=m=7∨m=31∨m=127
theorem pA{m:Nat}(hm:Msk m):cyc m (m+1) 0=0/\∀j,j<=m->j∈orb m (m+1) 0:=by
 have key:∀m,cyc m (m+1) 0=0->((U3e (m+1)).all fun j=>(orb m (m+1) 0).contains j)=true->cyc m (m+1) 0=0/\∀j,j<=m->j∈orb m (m+1) 0:=fun m h0 h=>⟨h0,fun j hj=>by
  have:=U32.mp h j (U2y.mpr (by omega))
  simpa using this⟩
 rcases hm with rfl|rfl|rfl
 .exact key _ (by decide +kernel) (by decide +kernel)
 .exact key _ (by decide +kernel) (by decide +kernel)
 .exact key _ (by decide +kernel) (by decide +kernel)
theorem qP{m:Nat}(hm:Msk m){i j:Nat}(hi:i<=m)(hj:j<=m):∃k,k<=m/\cyc m k i=j:=by
 obtain⟨h0,h⟩:=pA hm
 obtain⟨a,ha,ea⟩:=Vl m _ _ _ (h i hi)
 obtain⟨b,hb,eb⟩:=Vl m _ _ _ (h j hj)
 by_cases hab:a<=b
 .refine⟨b-a,by omega,?_⟩
  rw[←ea,←Rx,show a+(b-a)=b by omega,eb]
 .refine⟨m+1-a+b,by omega,?_⟩
  rw[←ea,←Rx,show a+(m+1-a+b)=(m+1)+b by omega,Rx,h0,eb]
theorem bD(h:Int):U2b h<2^64:=by
 unfold U2b
 have:=U6p h (show(0:Int)<2^64 by decide)
 have:=U7o h (show(2^64:Int)≠0 by decide)
 omega
theorem dj{m:Nat}(hm:Msk m){i q j:Nat}(hi:i<=m)(hq:q<2^64)(hj:j<=m):∃n,n<=m+13/\(lp m n i q).1=j:=by
 obtain⟨k,hk,e⟩:=qP hm (lu m 13 i q hi) hj
 refine⟨13+k,by omega,?_⟩
 rw[dw,sI,Nat.div_eq_of_lt (U4c hq (by decide)),dh,e]
theorem eU{m:Nat}(hm:Msk m)(h:Int){j:Nat}(hj:j<=m):∃n,n<10*U3k m/\(it m (st0 m h) n).j=j:=by
 have hi:U2b h%(m+1)<=m:=U50 (U7i _ (U7n m))
 obtain⟨n,hn,e⟩:=dj hm hi (bD h) hj
 obtain⟨K,hK,eK⟩:=mC m n _ (U2b h) hi
 refine⟨K,by unfold U3k;omega,?_⟩
 unfold st0
 rw[eK]
 exact e
theorem mD{m:Nat}:∀(n:Nat)(p:Pr),p.j+p.more<=m->(it m p n).j<=m
 |0,p,h=>by show p.j<=m;omega
 |n+1,p,h=>by
  show(it m (adv m p) n).j<=m
  refine mD n _ ?_
  unfold adv
  split
  .dsimp only;omega
  .dsimp only
   have:=Qp (Ph m p.i p.perturb)
   omega
theorem dJ(m:Nat)(h:Int)(n:Nat):(it m (st0 m h) n).j<=m:=by
 refine mD n _ ?_
 have:=Qp (m:=m) (i:=U2b h%(m+1)) (U50 (U7i _ (U7n m)))
 show U2b h%(m+1)+(U2i m (U2b h%(m+1))-U2b h%(m+1))<=m
 omega
theorem Nj{t:SetTable}{i j:Nat}(h:t.slot j=.live i):t.place[i]?=some j:=by
 unfold U77 at h
 dsimp only at h
 split at h
 .rename_i q
  cases h
  simpa using q
 .split at h<;>cases h
theorem R9{t:SetTable}(hr:Gh t.place){i j:Nat}(h:t.place[i]?=some j):t.slot j=.live i:=by
 have hi:i<t.place.size:=(U3t.mp h).1
 have hg:t.place.getD i 0=j:=by rw[U16,h];rfl
 obtain⟨a,b,c⟩:=Mj (j:=j) hr
 have e:U1f t.place j=i:=by
  rcases U5w (U1f t.place j) i with z|z|z
  .have h1:=c _ (U0l _) (by omega)
   have h2:=hr.lt z hi
   omega
  .exact z
  .have:=b i z;omega
 unfold U77
 dsimp only
 rw[e,h]
 simp
theorem V2{t:SetTable}(hr:Gh t.place)(hd:t.dummies=#[])(j:Nat):t.slot j=.empty∨∃i,t.slot j=.live i:=by
 unfold U77
 dsimp only
 split
 .exact .inr ⟨_,rfl⟩
 .rw[hd]
  exact .inl rfl
theorem Wi{t:SetTable}(hr:Gh t.place)(hd:t.dummies=#[]){j:Nat}:t.slot j=.empty↔j ∉ t.place.toList:=by
 constructor
 .intro h z
  obtain⟨i,hi⟩:=U1l.mp z
  rw[U1a] at hi
  rw[R9 hr hi] at h
  cases h
 .intro h
  rcases V2 hr hd j with z|⟨i,z⟩
  .exact z
  .exact absurd (U1l.mpr ⟨i,by rw[U1a];exact Nj z⟩) h
theorem eY{t:SetTable}(hr:Gh t.place)(hd:t.dummies=#[]){f:Nat->Int}{h:Int}:∀(N fuel:Nat)(p:Pr),N<fuel->t.slot (it t.mask p N).j=.empty->∃k,k<=N/\(∀c,c<k->∃i,t.slot (it t.mask p c).j=.live i/\f i≠h) /\
  ((t.slot (it t.mask p k).j=.empty/\U3h t f h fuel p=some (.empty (it t.mask p k).j p.dummy))∨∃i,t.slot (it t.mask p k).j=.live i/\f i=h/\U3h t f h fuel p=some (.candidate (it t.mask p k).j i (it t.mask p (k+1))))
 |_,0,_,hN,_=>absurd hN (U3a _)
 |N,fuel+1,p,hN,he=>by
  rcases V2 hr hd p.j with z|⟨i,z⟩
  .refine⟨0,U25 _,fun c hc=>absurd hc (U3a _),.inl ⟨z,?_⟩⟩
   unfold U3h
   rw[z]
   rfl
  .by_cases hf:f i=h
   .refine⟨0,U25 _,fun c hc=>absurd hc (U3a _),.inr ⟨i,z,hf,?_⟩⟩
    unfold U3h
    rw[z]
    dsimp only
    rw[if_pos (by simpa using hf)]
    rfl
   .cases N with
    |zero=>rw[show it t.mask p 0=p from rfl,z] at he;cases he
    |succ N =>
     obtain⟨k,hk,h1,h2⟩:=eY hr hd (f:=f) (h:=h) N fuel (adv t.mask p) (by omega) he
     have eg:U3h t f h (fuel+1) p=U3h t f h fuel (adv t.mask p):=by
      conv=>lhs;unfold U3h
      rw[z]
      dsimp only
      rw[if_neg (by simpa using hf)]
      rfl
     refine⟨k+1,by omega,fun c hc=>?_,?_⟩
     .cases c with
      |zero=>exact⟨i,z,hf⟩
      |succ c=>exact h1 c (by omega)
     .rw[eg]
      rw[Wv] at h2
      exact h2
end SetP
end
section
namespace SetP
open PySem
theorem len_sub{Zs:Type}[DecidableEq Zs]:∀{a b:List Zs},a.Nodup->(∀x∈a,x∈b)->a.length<=b.length
 |[],b,_,_=>U25 _
 |x::r,b,nd,h=>by
  obtain⟨h1,h2⟩:=U3y.mp nd
  have hx:=h x U0i
  have:=len_sub (a:=r) (b:=b.erase x) h2 fun y hy=>(U7h (fun(e:y=x)=>h1 (e ▸ hy))).mpr (h y (U0k _ hy))
  rw[U6l hx] at this
  have:=List.length_pos_of_mem hx
  rw[U0f];omega
theorem TV{Zs:Type}[DecidableEq Zs]:∀{ds ns:List Zs},ds.Nodup->(∀k,k∈ds->k∈ns)->ns.length<=ds.length->ns.Perm ds
 |[],ns,_,_,h=>by
  have e:ns=[]:=U3q.mp (by simpa using h)
  rw[e]
 |d::r,ns,nd,sub,h=>by
  have hd:d∈ns:=sub d U0i
  obtain⟨h1,h2⟩:=U3y.mp nd
  refine(List.perm_cons_erase hd).trans (U51 d (TV h2 (fun k hk=>(U7h (fun(e:k=d)=>h1 (e ▸ hk))).mpr (sub k (U0k _ hk))) ?_))
  rw[U6l hd]
  rw[U0f] at h
  omega
def Way(m:Nat)(T:Nat->Prop)(j:Nat)(h:Int):Prop:=∃n,(it m (st0 m h) n).j=j/\∀c,c<n->T (it m (st0 m h) c).j
theorem Way.mono{m:Nat}{T T':Nat->Prop}{j:Nat}{h:Int}(x:Way m T j h)(k:∀j,T j->T' j):Way m T' j h:=by
 obtain⟨n,e,a⟩:=x
 exact⟨n,e,fun c hc=>k _ (a c hc)⟩
structure Good(t:SetTable)(hs:List Int):Prop where
 msk:Msk t.mask
 dm:t.dummies=#[]
 rise:Gh t.place
 le:∀j∈t.place.toList,j<=t.mask
 len:t.place.size=hs.length
 room:t.place.size*5<t.mask*3
 way:∀p∈t.place.toList.zip hs,Way t.mask (·∈t.place.toList) p.1 p.2
theorem Good.fits{t:SetTable}{hs:List Int}(g:Good t hs):t.fits hs.length=true:=by
 unfold U79 U8a
 rw[g.dm,g.len]
 have:=g.room
 rw[g.len] at this
 simp
 omega
theorem RM{m:Nat}{l:List Nat}(h:l.length<=m):∃j,j<=m/\j ∉ l:=by
 apply U4m
 intro z
 have:=len_sub (a:=U3e (m+1)) (b:=l) List.nodup_range fun j hj=>U4m fun q=>z ⟨j,U50 (U2y.mp hj),q⟩
 rw[U5z] at this
 omega
theorem Good.fresh(f mv:Nat)(led:Bool):Good (.fresh f mv led) []:=⟨.inl rfl,rfl,YL,(fun j hj=>by cases hj),rfl,(show 0*5<7*3 by decide),(fun p hp=>by cases hp)⟩
theorem bh{Zs Zp:Type}{a:Array Zs}{b:Array Zp}{p:Nat}{x:Zs}{y:Zp}(h:a.size=b.size):∀q∈(U3g a p x).toList.zip (U3g b p y).toList,q=(x,y)∨q∈a.toList.zip b.toList:=by
 intro q hq
 rw[U31,U31,List.zip_append (by simp[h]),U4j] at hq
 rcases U0z.mp hq with z|z
 .rw[List.zip_eq_zipWith,←List.take_zipWith] at z
  exact .inr (U4b z)
 .rcases U0h.mp z with z|z
  .exact .inl z
  .rw[List.zip_eq_zipWith,←List.drop_zipWith] at z
   exact .inr (List.mem_of_mem_drop z)
theorem Ot{Zs:Type}(a:Array Zs)(p:Nat)(x:Zs):(U3g a p x).toList.Perm (x::a.toList):=by
 rw[U31]
 refine List.perm_middle.trans (U51 x ?_)
 rw[U1t]
structure Full(t:SetTable)(hs:List Int):Prop where
 msk:Msk t.mask
 dm:t.dummies=#[]
 rise:Gh t.place
 le:∀j∈t.place.toList,j<=t.mask
 len:t.place.size=hs.length
 room:(t.place.size-1)*5<t.mask*3
 pos:0<t.place.size
 way:∀p∈t.place.toList.zip hs,Way t.mask (·∈t.place.toList) p.1 p.2
theorem Full.good{t:SetTable}{hs:List Int}(g:Full t hs)(h:t.tooFull=false):Good t hs:=by
 refine⟨g.msk,g.dm,g.rise,g.le,g.len,?_,g.way⟩
 unfold SetTable.tooFull U8a at h
 rw[g.dm] at h
 simpa using h
theorem Full.fits{t:SetTable}{hs:List Int}(g:Full t hs):t.fits hs.length=true:=by
 unfold U79 U8a
 rw[g.dm,g.len]
 have:=g.room
 rw[g.len] at this
 have h2:=g.msk
 unfold Msk at h2
 simp
 omega
theorem Good.put{t:SetTable}{es:Array (Int×Value)}{h:Int}{x:Value}{j:Nat}(g:Good t (es.toList.map (·.1)))(hj:j ∉ t.place.toList)(hw:Way t.mask (·∈t.place.toList) j h) :
  Full (t.put j).1 ((U3g es (t.put j).2 (h,x)).toList.map (·.1)):=by
 have hd:(t.put j).1.dummies=#[]:=by
  unfold SetTable.put
  dsimp only
  rw[g.dm]
  rfl
 have hp:(t.put j).1.place=U3g t.place (U1f t.place j) j:=rfl
 have pm:=Ot t.place (U1f t.place j) j
 have pe:=Ot es (U1f t.place j) (h,x)
 have hsz:(t.put j).1.place.size=t.place.size+1:=by
  rw[hp]
  have:=pm.length_eq
  simpa using this
 have mem:∀i,i∈(t.put j).1.place.toList↔i=j∨i∈t.place.toList:=fun i=>by rw[hp,pm.mem_iff,U0h]
 have gl:=g.len
 rw[U0d,U0g] at gl
 obtain⟨n,e1,e2⟩:=id hw
 have hjm:j<=t.mask:=e1 ▸ dJ t.mask h n
 refine⟨g.msk,hd,?_,fun i hi=>?_,?_,?_,?_,fun q hq=>?_⟩
 .rw[hp]
  refine S9 g.rise fun z=>hj ?_
  exact U1l.mpr ⟨_,by rw[U1a];exact z⟩
 .rcases(mem i).mp hi with z|z
  .rw[z];exact hjm
  .exact g.le i z
 .rw[hsz,U0d]
  have:=pe.length_eq
  rw[show(t.put j).2=U1f t.place j from rfl,this,gl,U0f,U0g]
 .rw[hsz];exact g.room
 .rw[hsz];exact U7n _
 .have e:((U3g es (t.put j).2 (h,x)).toList.map (·.1))=(U3g (es.map (·.1)) (U1f t.place j) h).toList:=by
   rw[U31,U31]
   simp[SetTable.put]
  rw[e,hp] at hq
  rcases bh (by rw[U82];exact gl) q hq with z|z
  .rw[z]
   exact hw.mono fun i hi=>(mem i).mpr (.inr hi)
  .refine(g.way q ?_).mono fun i hi=>(mem i).mpr (.inr hi)
   simpa using z
theorem Good.probe{t:SetTable}{hs:List Int}(g:Good t hs){f:Nat->Int}{h:Int}(n:Nat)(hn:∀c,c<n->(it t.mask (st0 t.mask h) c).j∈t.place.toList):∃k,n<=k/\k<10*U3k t.mask/\(∀c,n<=c->c<k->∃i,t.slot (it t.mask (st0 t.mask h) c).j=.live i/\f i≠h) /\
  (((it t.mask (st0 t.mask h) k).j ∉ t.place.toList/\t.probe f h (it t.mask (st0 t.mask h) n)=some (.empty (it t.mask (st0 t.mask h) k).j none)) ∨
   ∃i,t.slot (it t.mask (st0 t.mask h) k).j=.live i/\f i=h/\t.probe f h (it t.mask (st0 t.mask h) n)=some (.candidate (it t.mask (st0 t.mask h) k).j i (it t.mask (st0 t.mask h) (k+1)))):=by
 have dum:∀n (p:Pr),(it t.mask p n).dummy=p.dummy:=fun n=>by
  induction n with
  |zero=>intro p;rfl
  |succ n ih=>intro p;exact(ih (adv t.mask p)).trans (Wv _ _)
 obtain⟨j,hj,hj2⟩:=RM (m:=t.mask) (l:=t.place.toList) (by have:=g.room;rw[U0g];omega)
 obtain⟨N,hN,eN⟩:=eU g.msk h hj
 have hnN:n<=N:=by
  apply U4m
  intro z
  exact hj2 (eN ▸ hn N (by omega))
 obtain⟨k,hk,a,b⟩:=eY g.rise g.dm (f:=f) (h:=h) (N-n) (10*U3k t.mask) (it t.mask (st0 t.mask h) n) (by omega) (by
  rw[←KQ,show n+(N-n)=N by omega,eN]
  exact(Wi g.rise g.dm).mpr hj2)
 refine⟨n+k,by omega,by omega,fun c h1 h2=>?_,?_⟩
 .have:=a (c-n) (by omega)
  rw[←KQ,show n+(c-n)=c by omega] at this
  exact this
 .rw[←KQ,dum,←KQ,show n+(k+1)=n+k+1 by omega] at b
  rw[←Wi g.rise g.dm]
  exact b
end SetP
end
section
namespace SetP
open PySem
def Own(o:Array (Option Nat))(j:Nat):Prop:=(o.getD j (some 0)).isSome=true
theorem cY{f:Nat->Bool}:∀{n k:Nat},(U3e n).find? f=some k->k<n/\f k=true/\∀c,c<k->f c=false:=by
 intro n k h
 obtain⟨h1,as,bs,h2,h3⟩:=List.find?_eq_some_iff_append.mp h
 have hk:k<n:=U2y.mp (h2 ▸ (by simp))
 refine⟨hk,h1,fun c hc=>?_⟩
 have hl:as.length=k:=by
  have e:(U3e n)[as.length]?=some k:=by rw[h2];simp
  rw[U6e (by
   have:=congrArg U3n h2
   simp at this
   omega)] at e
  exact U00 e
 have hm:c∈as:=by
  have e:(U3e n)[c]?=some c:=U6e (by omega)
  rw[h2,U01 (by omega)] at e
  exact U1p e
 simpa using h3 c hm
theorem Yl{m:Nat}{o:Array (Option Nat)}:∀(fuel i q j:Nat),i<=m->U2x m o fuel i q=some j->j<=m/\¬Own o j/\∃n,(it m (rs m i q) n).j=j/\∀c,c<n->Own o (it m (rs m i q) c).j
 |0,_,_,_,_,h=>by unfold U2x at h;cases h
 |fuel+1,i,q,j,hi,h=>by
  unfold U2x at h
  have hr:=Qp hi
  have at':∀c,c<=U2i m i-i->(it m (rs m i q) c).j=i+c:=fun c hc=>by
   rw[show it m (rs m i q) c=_ from Xr m i q c i _ hc]
  split at h
  .rename_i k hk
   cases h
   obtain⟨h1,h2,h3⟩:=cY hk
   refine⟨by omega,?_,k,at' k (by omega),fun c hc=>?_⟩
   .unfold Own;simpa using h2
   .rw[at' c (by omega)]
    have:=h3 c hc
    unfold Own
    simpa [U6i] using this
  .rename_i hk
   have hall:∀c,c<=U2i m i-i->Own o (i+c):=fun c hc=>by
    have:=List.find?_eq_none.mp hk c (U2y.mpr (by omega))
    unfold Own
    simpa [U6i] using this
   obtain⟨a,b,n,e,w⟩:=Yl fuel _ _ j (Ph m i q) h
   refine⟨a,b,U2i m i-i+1+n,by rw[KQ,Vq];exact e,fun c hc=>?_⟩
   by_cases hc2:c<=U2i m i-i
   .rw[at' c hc2];exact hall c hc2
   .obtain⟨d,rfl⟩:∃d,c=U2i m i-i+1+d:=⟨c-(U2i m i-i+1),by omega⟩
    rw[KQ,Vq]
    exact w d (by omega)
theorem WY{m:Nat}{o:Array (Option Nat)}:∀(fuel i q n:Nat),i<=m->n<fuel->¬Own o (lp m n i q).1->∃j,U2x m o fuel i q=some j
 |0,_,_,_,_,h,_=>absurd h (U3a _)
 |fuel+1,i,q,n,hi,hn,h=>by
  unfold U2x
  split
  .exact⟨_,rfl⟩
  .rename_i hk
   cases n with
   |zero =>
    exfalso
    apply h
    have hr:=Qp hi
    have:=List.find?_eq_none.mp hk 0 (U2y.mpr (by omega))
    unfold Own
    simpa [lp,U6i] using this
   |succ n=>exact WY fuel _ _ n (Ph m i q) (by omega) h
structure Lay(m:Nat)(hs:List Int)(o:Array (Option Nat))(js:List Nat):Prop where
 size:o.size=m+1
 len:js.length=hs.length
 to:∀(j k:Nat),o[j]?=some (some k)->js[k]?=some j
 fro:∀(j k:Nat),js[k]?=some j->o[j]?=some (some k)
 way:∀p∈js.zip hs,Way m (·∈js) p.1 p.2
theorem Lay.own{m:Nat}{hs:List Int}{o:Array (Option Nat)}{js:List Nat}(x:Lay m hs o js){j:Nat}(hj:j<=m):Own o j↔j∈js:=by
 have hlt:j<o.size:=by rw[x.size];omega
 have e:o[j]?=some o[j]:=U05 hlt
 unfold Own
 rw[U16,e]
 constructor
 .intro h
  obtain⟨k,hk⟩:=U4n.mp h
  rw[show(some o[j]).getD (some 0)=o[j] from rfl] at hk
  rw[hk] at e
  exact U1p (x.to j k e)
 .intro h
  obtain⟨k,hk⟩:=U1l.mp h
  have:=x.fro j k hk
  rw[e] at this
  rw[this]
  rfl
theorem Lay.step{m:Nat}(hm:Msk m){hs:List Int}{o:Array (Option Nat)}{js:List Nat}(x:Lay m hs o js)(h:Int)(hr:hs.length<=m) :
  ∃j,U2x m o (U3k m) (U2b h%(m+1)) (U2b h)=some j/\Lay m (hs++[h]) (o.setIfInBounds j (some hs.length)) (js++[j]):=by
 have hi:U2b h%(m+1)<=m:=U50 (U7i _ (U7n m))
 obtain⟨j0,hj0,hn0⟩:=RM (m:=m) (l:=js) (by rw[x.len];exact hr)
 obtain⟨n,hn,e⟩:=dj hm hi (bD h) hj0
 obtain⟨j,hj⟩:=WY (o:=o) (U3k m) _ (U2b h) n hi (by unfold U3k;omega) (by rw[e,x.own hj0];exact hn0)
 obtain⟨h1,h2,n',e1,e2⟩:=Yl _ _ _ _ hi hj
 have hnj:j ∉ js:=fun z=>h2 ((x.own h1).mpr z)
 have hlt:j<o.size:=by rw[x.size];omega
 refine⟨j,hj,by rw[U6o];exact x.size,by simp[x.len],fun i k q=>?_,fun i k q=>?_,fun p hp=>?_⟩
 .by_cases hij:j=i
  .subst hij
   rw[Array.getElem?_setIfInBounds_self_of_lt hlt] at q
   have:=U00 (U00 q)
   rw[←this,←x.len]
   simp
  .rw[Array.getElem?_setIfInBounds_ne hij] at q
   have:=x.to i k q
   rw[U01 ((U0j.mp this).1)]
   exact this
 .rcases U4f k js.length with z|z
  .rw[U01 z] at q
   have hij:j≠i:=fun e=>hnj (e ▸ U1p q)
   rw[Array.getElem?_setIfInBounds_ne hij]
   exact x.fro i k q
  .rw[U1h z] at q
   have hk:k=js.length:=by
    have:=(U0j.mp q).1
    simp at this
    omega
   subst hk
   simp at q
   subst q
   rw[Array.getElem?_setIfInBounds_self_of_lt hlt,x.len]
 .rw[List.zip_append x.len] at hp
  rcases U0z.mp hp with z|z
  .exact(x.way p z).mono fun i hi=>U14 _ hi
  .simp at z
   subst z
   exact⟨n',e1,fun c hc=>U14 _ ((x.own (dJ m h c)).mp (e2 c hc))⟩
theorem pW{m:Nat}(hm:Msk m)(hs:List Int)(hr:hs.length<=m):∃o js,U2v m hs.toArray=some o/\Lay m hs o js:=by
 have go:∀(rest done:List Int)(o:Array (Option Nat))(js:List Nat),Lay m done o js->done.length+rest.length<=m ->
   ∃o' js',(rest.foldl (fun(acc:Option (Array (Option Nat)×Nat)) h=>do
    let (owner,k) ←acc
    let j ←U2x m owner (U3k m) (U2b h%(m+1)) (U2b h)
    pure (owner.setIfInBounds j (some k),k+1)) (some (o,done.length)))=some (o',(done++rest).length)/\Lay m (done++rest) o' js':=by
  intro rest
  induction rest with
  |nil=>intro done o js x _;exact⟨o,js,by simp,by simpa using x⟩
  |cons h r ih =>
   intro done o js x hl
   rw[U0f] at hl
   obtain⟨j,e,y⟩:=x.step hm h (by omega)
   obtain⟨o',js',a,b⟩:=ih (done++[h]) _ _ y (by simp;omega)
   refine⟨o',js',?_,by simpa using b⟩
   rw[U2t]
   have e2:(do
    let (owner,k) ←some (o,done.length)
    let j ←U2x m owner (U3k m) (U2b h%(m+1)) (U2b h)
    pure (owner.setIfInBounds j (some k),k+1))=some (o.setIfInBounds j (some done.length),(done++[h]).length):=by
    show(U2x m o (U3k m) (U2b h%(m+1)) (U2b h)).bind _=_
    rw[e]
    simp
   rw[e2,a]
   simp
 have x0:Lay m [] (Array.replicate (m+1) none) []:=by
  refine⟨by simp,rfl,fun j k q=>?_,fun j k q=>by simp at q,fun p hp=>by cases hp⟩
  have hlt:=(U3t.mp q).1
  simp at hlt
  rw[Array.getElem?_replicate,if_pos hlt] at q
  cases q
 obtain⟨o,js,a,b⟩:=go hs [] _ _ x0 (by simpa using hr)
 refine⟨o,js,?_,by simpa using b⟩
 unfold U2v
 rw[List.foldl_toArray]
 rw[show(0:Nat)=([]:List Int).length from rfl,a]
 rfl
end SetP
end
section
namespace SetP
open PySem
theorem Y5{es:Array (Int×Value)}:∀(l:List (Nat×Nat)),(∀p∈l,p.2<es.size)->∀q∈(l.map (·.1)).zip (((l.map (·.2)).filterMap fun k=>es[k]?).map (·.1)),∃p∈l,∃e,q.1=p.1/\es[p.2]?=some e/\q.2=e.1
 |[],_,q,hq=>by cases hq
 |p::l,h,q,hq=>by
  have hp:=h p U0i
  rw[U0r,U0r,List.filterMap_cons_some (b:=es[p.2]) (U05 hp),U0r,U4j] at hq
  rcases U0h.mp hq with z|z
  .exact⟨p,U0i,es[p.2],by rw[z],U05 hp,by rw[z]⟩
  .obtain⟨p',h1,e,h2⟩:=Y5 l (fun p hp=>h p (U0k _ hp)) q z
   exact⟨p',U0k _ h1,e,h2⟩
theorem Zb{t:SetTable}{es:Array (Int×Value)}{wanted:Nat}(hm:Msk (U3p wanted-1))(hr:es.size*5<(U3p wanted-1)*3) :
  ∃t' order,t.relaid (es.map (·.1)) wanted=some (t',order)/\(order.filterMap fun k=>es[k]?).toList.Perm es.toList/\Good t' ((order.filterMap fun k=>es[k]?).toList.map (·.1))/\t'.led=t.led:=by
 generalize hM:U3p wanted-1=m at hm hr
 obtain⟨o,js,a,x⟩:=pW hm (es.toList.map (·.1)) (by rw[U0d,U0g];omega)
 have hl:=x.len
 rw[U0d,U0g (xs:=es)] at hl
 have ea:(es.toList.map (·.1)).toArray=es.map (·.1):=by
  apply U8q.mp
  simp
 rw[ea] at a
 generalize hL:((U3e (m+1)).filterMap fun j=>(o.getD j none).map (j,·))=live
 have mem:∀p:Nat×Nat,p∈live↔o[p.1]?=some (some p.2):=fun p=>by
  rw[←hL,U71]
  constructor
  .rintro⟨j,hj,e⟩
   obtain⟨k,e1,e2⟩:=U2r.mp e
   subst e2
   have hlt:j<o.size:=by rw[x.size];exact U2y.mp hj
   rw[U16,U05 hlt] at e1
   rw[U05 hlt]
   exact congrArg some e1
  .intro e
   have hlt:=(U3t.mp e).1
   refine⟨p.1,U2y.mpr (by rw[←x.size];exact hlt),?_⟩
   rw[U16,e]
   rfl
 have rise:(live.map (·.1)).Pairwise (·<·):=by
  rw[←hL]
  exact U64.sublist (QC (fun j=>o.getD j none) _)
 have nd:(live.map (·.1)).Nodup:=rise.imp fun h=>U02 h
 have F1:∀p∈live,js[p.2]?=some p.1:=fun p hp=>x.to _ _ ((mem p).mp hp)
 have Fk:∀p∈live,p.2<es.size:=fun p hp=>by
  have:=(U0j.mp (F1 p hp)).1
  omega
 have memP:∀j,j∈live.map (·.1)↔j∈js:=fun j=>by
  rw[U0x]
  constructor
  .rintro⟨p,hp,rfl⟩
   exact U1p (F1 p hp)
  .intro h
   obtain⟨k,hk⟩:=U1l.mp h
   exact⟨(j,k),(mem _).mpr (x.fro j k hk),rfl⟩
 have hle:live.length<=es.size:=by
  have:=len_sub nd fun j hj=>(memP j).mp hj
  rw[U0d] at this
  omega
 have pr:(live.map (·.2)).Perm (U3e es.size):=by
  refine TV List.nodup_range (fun k hk=>?_) (by rw[U0d,U5z];exact hle)
  have hk':k<js.length:=by rw[hl];exact U2y.mp hk
  exact U0x.mpr ⟨(js[k],k),(mem _).mpr (x.fro _ k (U0w hk')),rfl⟩
 have hsz:live.length=es.size:=by
  have:=pr.length_eq
  simpa using this
 refine⟨{ mask:=m,place:=(live.map (·.1)).toArray,dummies:=#[],finger:=t.finger,led:=t.led,moves:=t.movedTo m,plain:=t.plain },(live.map (·.2)).toArray,?_,?_,?_,rfl⟩
 .unfold SetTable.relaid SetTable.laid
  rw[hM,a]
  dsimp only[Option.bind_eq_bind,Option.bind,Option.pure_def]
  rw[hL]
 .rw[Array.toList_filterMap]
  exact(pr.filterMap _).trans (by rw[filterMap_getElem?_range])
 .rw[Array.toList_filterMap]
  refine⟨hm,rfl,rise,fun j hj=>?_,?_,?_,fun q hq=>?_⟩
  .obtain⟨p,hp,e⟩:=U0x.mp ((memP j).mpr ((memP j).mp hj))
   have:=(U3t.mp ((mem p).mp hp)).1
   rw[x.size] at this
   show j<=m
   omega
  .rw[U0d,((pr.filterMap _).trans (by rw[filterMap_getElem?_range])).length_eq,U0g]
   simpa using hsz
  .simpa [hsz] using hr
  .obtain⟨p,hp,e,h1,h2,h3⟩:=Y5 live Fk q hq
   have hj:=F1 p hp
   have:=x.way (p.1,e.1) (by
    obtain⟨k,hk⟩:∃k,k=p.2:=⟨_,rfl⟩
    refine U1l.mpr ⟨p.2,?_⟩
    rw[U5f]
    exact⟨hj,by rw[U07,U1a,h2];rfl⟩)
   rw[h1,h3]
   exact this.mono fun j hj=>(memP j).mpr hj
theorem nW:U3p 20=32:=by decide +kernel
theorem nU:U3p 76=128:=by decide +kernel
theorem Full.grown{t:SetTable}{es:Array (Int×Value)}{h:Int}{n:Nat}{hs:List Int}(g:Full t hs)(hn:hs.length=n+1)(hf:t.tooFull=true)(h64:n<70):Msk (U3p (U29 (n+1))-1)/\(n+1)*5<(U3p (U29 (n+1))-1)*3/\U3p (U29 (n+1))<=128:=by
 have h1:=g.room
 rw[g.len,hn] at h1
 unfold SetTable.tooFull U8a at hf
 rw[g.dm,g.len,hn] at hf
 have hf':t.mask*3<=(n+1)*5:=by simpa using hf
 have hm:=g.msk
 unfold Msk at hm
 have:n+1=5∨n+1=19:=by omega
 rcases this with e|e
 .rw[e,show U29 5=20 by decide,nW];exact⟨.inr (.inl rfl),by decide,by decide⟩
 .rw[e,show U29 19=76 by decide,nU];exact⟨.inr (.inr rfl),by decide,by decide⟩
end SetP
end
section
set_option maxRecDepth 100000
namespace SetP
open PySem PyProof.Rows
abbrev GK(prog:Program)(w:World)(h:Heap)(k:List Int)(b:Addr):Prop:=IsTupleKey (intKind prog w) h k b
abbrev Gm(prog:Program)(w:World)(k:List Int):Int:=tupleKeyHash (intKind prog w) k
def ent(prog:Program)(w:World)(p:List Int×Addr):Int×Value:=(Gm prog w p.1,.ref p.2)
section
variable{prog:Program}{w:World}{A:Around}{E:Value->Shared->Prop}{s:Shared}
theorem gZ(n:Nat){v:Value}(h:carriedByValue v=true):ofAClassStatement n v=pure false:=by
 cases v with
 |ref a=>simp[carriedByValue] at h
 |_=>cases n<;>(unfold ofAClassStatement;rfl)
theorem au{k:List Int}{b:Addr}{Q:Bool->Shared->Prop}(hk:GK prog w s.heap k b)(h:Q false s):wpAny `am A (ofAClassStatement 8 (.ref b)) Q E s:=by
 have hT:=hk.typeIs
 obtain⟨o,items,n,ho,_,hd,hi⟩:=hk
 unfold ofAClassStatement
 refine U0 (U6k hT ?_)
 dsimp only
 rw[if_pos (by decide)]
 refine U0 (U0e ?_)
 simp only[U36,U0s,if_false]
 refine U0 (U3j ho hd ?_)
 dsimp only
 refine U0 ?_
 rw[←Array.forIn_toList]
 refine U67 _ (fun rest r s'=>r.1=none/\s'=s/\∀v∈rest,carriedByValue v=true) _ ?_ ?_ _ _ ⟨rfl,rfl,hi.byValue⟩
 .rintro v rest r s' ⟨hr,rfl,hall⟩
  rw[gZ _ (hall v U0i)]
  refine U0 (U0e ?_)
  simp only[U0s,if_false]
  exact U0e ⟨rfl,rfl,fun u hu'=>hall u (U0k _ hu')⟩
 .rintro⟨r1,r2⟩ s' ⟨hr,rfl,_⟩
  simp only at hr
  subst hr
  exact U0e h
theorem iD{k:List Int}{b:Addr}{Q:Bool->Shared->Prop}(hk:GK prog w s.heap k b)(h:Q true s):wpAny `am A (hashByValue 8 (.ref b)) Q E s:=by
 have hT:=hk.typeIs
 obtain⟨o,items,n,ho,_,hd,hi⟩:=hk
 unfold hashByValue
 refine U0 (wpAny_specialOf hT F.slot_tuple_hash.lookup ?_)
 dsimp only
 refine U0 (U3j ho hd ?_)
 refine U0 ?_
 show wpAny _ _ (forIn items _ _) _ _ s
 rw[←Array.forIn_toList]
 refine U67 _ (fun rest r s'=>r.1=none/\s'=s/\∃ks,ItemsAre (intKind prog w) ks rest) _ ?_ ?_ _ _ ⟨rfl,rfl,k,hi⟩
 .rintro v rest r s' ⟨hr,rfl,ks,hall⟩
  cases hall with
  |@cons k' _ ks' _ h1 hl' =>
   obtain⟨t,rfl⟩:=U6w (show U7y k' v=true from h1)
   show wpAny _ _ (pure true >>= _) _ _ _
   refine U0 (U0e ?_)
   simp only[U36,U0s,if_false]
   exact U0e ⟨rfl,rfl,ks',hl'⟩
 .rintro⟨r1,r2⟩ s' ⟨hr,rfl,_⟩
  simp only at hr
  subst hr
  exact U0e h
theorem j8{k:List Int}{b:Addr}{stored:List Value}{Q:Bool->Shared->Prop}(hk:GK prog w s.heap k b)(hst:∀v∈stored,∃k' b',v=.ref b'/\GK prog w s.heap k' b')(h:Q false s) :
  wpAny `am A (searchCouldBeSeen (.ref b) stored) Q E s:=by
 unfold searchCouldBeSeen
 refine U0 ?_
 refine U67 _ (fun rest r s'=>s'=s/\r=(none,())/\∀v∈rest,∃k' b',v=.ref b'/\GK prog w s.heap k' b') _ ?_ ?_ _ _ ⟨rfl,rfl,hst⟩
 .rintro x rest r s' ⟨rfl,rfl,hr⟩
  obtain⟨k',b',rfl,hb⟩:=hr x U0i
  have hr':=fun v hv=>hr v (U0k _ hv)
  dsimp only
  split
  .exact U0e ⟨rfl,rfl,hr'⟩
  .refine U0 (wpAny_eqIsQuiet_tuple hk ?_)
   simp only[U36,U0s,if_false]
   refine U0 (wpAny_eqIsQuiet_tuple hb ?_)
   simp only[U36,U0s,if_false]
   refine U0 (au hk ?_)
   simp only[U0s,if_false]
   refine U0 (au hb ?_)
   simp only[U0s,if_false]
   exact U0e ⟨rfl,rfl,hr'⟩
 .rintro r s' ⟨rfl,rfl,_⟩
  exact U0e h
end
end SetP
end
section
set_option maxRecDepth 100000
namespace SetP
open PySem PyProof.Rows
section
variable{prog:Program}{w:World}{A:Around}{E:Value->Shared->Prop}{s:Shared}
theorem jP{a b:Addr}{o:Obj}{es:Array (Int×Value)}{ep:Nat}{t:SetTable}{k:List Int}{kb:List (List Int×Addr)}{Q:SetFound->Shared->Prop}(hu:A.units<cLine)
  (ho:s.heap.get? a=some o) (hd:o.data=.set es ep t) (hp:es.toList.Perm (kb.map (ent prog w))) (g:Good t (es.toList.map (·.1))) (hk:GK prog w s.heap k b) (hks:∀p∈kb,GK prog w s.heap p.1 p.2)
  (h1:k∈kb.map (·.1)->Q (.there none) s) (h2:∀j,j ∉ t.place.toList->Way t.mask (·∈t.place.toList) j (Gm prog w k)->k ∉ kb.map (·.1)->Q (.free j false) s) :
  ∀(fuel n:Nat)(stand:Option U8z),10*U3k t.mask<=n+fuel->stand.getD (t.probeStart (Gm prog w k))=it t.mask (st0 t.mask (Gm prog w k)) n ->
   (∀c,c<n->(it t.mask (st0 t.mask (Gm prog w k)) c).j∈t.place.toList) ->
   (∀c,c<n->∀(i:Nat) b',t.place[i]?=some (it t.mask (st0 t.mask (Gm prog w k)) c).j->(k,b')∈kb->es[i]?≠some (ent prog w (k,b'))) ->
   wpAny `am A (setSearchFrom a (.ref b) (Gm prog w k) true fuel stand) Q E s:=by
 have hsz:es.size=(es.toList.map (·.1)).length:=by simp
 have hf:t.fits es.size=true:=by rw[hsz];exact g.fits
 have hle:t.place.size=es.size:=by rw[g.len];simp
 intro fuel
 induction fuel with
 |zero =>
  intro n stand hn _ hpl _
  exfalso
  obtain⟨j,hj,hj2⟩:=RM (m:=t.mask) (l:=t.place.toList) (by have:=g.room;rw[U0g];omega)
  obtain⟨N,hN,eN⟩:=eU g.msk (Gm prog w k) hj
  exact hj2 (eN ▸ hpl N (by omega))
 |succ fuel ih =>
  intro n stand hn hst hpl hne
  unfold setSearchFrom
  refine U0 (U26 ho hd hf ?_)
  dsimp only
  have hodd:t.gaveWay=false:=by
   unfold SetTable.gaveWay
   have:=g.msk
   unfold Msk at this
   rcases this with e|e|e<;>rw[e]<;>decide
  rw[hodd,hst]
  simp only[U0s,if_false]
  obtain⟨K,hK1,hK2,hK3,hc⟩:=g.probe (f:=fun i=>(es[i]?.map (·.1)).getD 0) (h:=Gm prog w k) n hpl
  have hplK:∀c,c<K->(it t.mask (st0 t.mask (Gm prog w k)) c).j∈t.place.toList:=fun c hc=>by
   rcases U4f c n with z|z
   .exact hpl c z
   .obtain⟨i,hi,_⟩:=hK3 c z hc
    exact U1l.mpr ⟨i,by rw[U1a];exact Nj hi⟩
  have hneK:∀c,c<K->∀(i:Nat) b',t.place[i]?=some (it t.mask (st0 t.mask (Gm prog w k)) c).j->(k,b')∈kb->es[i]?≠some (ent prog w (k,b')):=fun c hc i b' hi hin he=>by
   rcases U4f c n with z|z
   .exact hne c z i b' hi hin he
   .obtain⟨i',hi',hf'⟩:=hK3 c z hc
    rw[R9 g.rise hi] at hi'
    cases hi'
    rw[he] at hf'
    exact hf' rfl
  rcases hc with ⟨hem,hpr⟩|⟨i,hsl,hfi,hpr⟩
  .erw [hpr]
   dsimp only
   refine U0e (h2 _ hem ⟨K,rfl,hplK⟩ fun hmem=>?_)
   obtain⟨⟨k',b'⟩,hm,rfl⟩:=U0x.mp hmem
   have he:ent prog w (k',b')∈es.toList:=hp.mem_iff.mpr (U4r hm)
   obtain⟨i,hi⟩:=U1l.mp he
   have hi':es[i]?=some (ent prog w (k',b')):=by rw[←U1a];exact hi
   have hlt:i<t.place.size:=by rw[hle];exact(U3t.mp hi').1
   obtain⟨n0,e0,w0⟩:=g.way (t.place[i],Gm prog w k') (by
    refine U1l.mpr ⟨i,?_⟩
    rw[U5f]
    exact⟨by rw[U1a];exact U05 hlt,by rw[U07,hi];rfl⟩)
   rcases U5w n0 K with z|z|z
   .exact hneK n0 z i b' (by rw[e0];exact U05 hlt) hm hi'
   .apply hem
    rw[←z,e0]
    exact U1l.mpr ⟨i,by rw[U1a];exact U05 hlt⟩
   .exact hem (w0 K z)
  .erw [hpr]
   dsimp only
   have hpi:=Nj hsl
   have hlt:i<es.size:=by rw[←hle];exact(U3t.mp hpi).1
   have hei:es[i]?=some es[i]:=U05 hlt
   have hmem:es[i]∈es.toList:=by simp
   obtain⟨p,hpk,hpe⟩:=U0x.mp (hp.mem_iff.mp hmem)
   have hy:=hks p hpk
   rw[←hpe] at hei
   rw[hei]
   have hst':∀v∈List.map (fun x=>x.snd) (Array.filter (fun x=>x.fst==Gm prog w k) es).toList,∃k' b',v=.ref b'/\GK prog w s.heap k' b':=fun v hv=>by
    obtain⟨e,he,rfl⟩:=U0x.mp hv
    have he':e∈es.toList:=by
     rw[Array.toList_filter] at he
     exact(U1u.mp he).1
    obtain⟨q,hq,rfl⟩:=U0x.mp (hp.mem_iff.mp he')
    exact⟨q.1,q.2,rfl,hks q hq⟩
   have same:t.sameMemory t.moves t.mask=some true:=by unfold SetTable.sameMemory;simp
   split
   case' isTrue =>
    refine U0 (j8 hk hst' ?_)
    simp only[U0s,if_false]
   all_goals
    dsimp only[ent]
    refine U0 (U2j (wpAny_eqBool_tuple hu hy hk ?_))
    refine U0 (U26 ho hd hf ?_)
    by_cases hpk':p.1=k
    .rw[decide_eq_true hpk']
     exact U0e (h1 (hpk' ▸ U4r hpk))
    .rw[decide_eq_false hpk']
     simp only[U8y,U0s,if_false,same,if_true,hsl,hei,ent]
     refine U0 (wpAny_isSame_ref_self ?_)
     refine U0 (U0e ?_)
     rw[if_pos rfl]
     refine ih (K+1) _ (by omega) rfl (fun c hc=>?_) fun c hc i' b' hi' hin he'=>?_
     .rcases U4f c K with z|z
      .exact hplK c z
      .obtain rfl:c=K:=by omega
       exact U1l.mpr ⟨i,by rw[U1a];exact hpi⟩
     .rcases U4f c K with z|z
      .exact hneK c z i' b' hi' hin he'
      .obtain rfl:c=K:=by omega
       rw[R9 g.rise hi'] at hsl
       cases hsl
       rw[hei] at he'
       have e2:U24 p.2=U24 b':=congrArg Prod.snd (U00 he')
       have e3:p.2=b':=by injection e2
       have h4:=hks _ hin
       rw[←e3] at h4
       exact hpk' (hy.inj h4)
end
end SetP
end
section
set_option maxRecDepth 100000
namespace SetP
open PySem PyProof.Rows
structure N8(prog:Program)(w:World)(h:Heap)(a:Addr)(kb:List (List Int×Addr)):Prop where
 nd:(kb.map (·.1)).Nodup
 ex:∃o es ep t,h.get? a=some o/\o.ExactSet/\o.data=.set es ep t/\es.toList.Perm (kb.map (ent prog w))/\Good t (es.toList.map (·.1))/\t.led=Ik w
def K6(kb:List (List Int×Addr))(k:List Int)(b:Addr):List (List Int×Addr):=if k∈kb.map (·.1) then kb else kb++[(k,b)]
section
variable{prog:Program}{w:World}{A:Around}{E:Value->Shared->Prop}{s:Shared}
theorem N8.sameBut{h h':Heap}{a:Addr}{kb:List (List Int×Addr)}(x:N8 prog w h a kb)(hs:∀o,h.get? a=some o->h'.get? a=some o):N8 prog w h' a kb:=by
 obtain⟨nd,o,es,ep,t,e,r⟩:=x
 exact⟨nd,o,es,ep,t,hs o e,r⟩
theorem Zw{h:Heap}{a:Addr}{o:Obj}{es:Array (Int×Value)}{ep:Nat}{t:SetTable}(ho:h.get? a=some o)(hd:o.data=.set es ep t)(es':Array (Int×Value))(t':SetTable) :
  (h.update a (U7g es' t')).get? a=some { o with data:=.set es' (ep+1) t' }:=by
 have:=U3i (U7g es' t') ho (by rw[putSet_of es' t' hd];rfl)
 rw[putSet_of es' t' hd] at this;exact this
theorem xr{a b:Addr}{kb:List (List Int×Addr)}{k:List Int}{Q:Bool->Shared->Prop}(hu:A.units<cLine)(hS:N8 prog w s.heap a kb)(hk:GK prog w s.heap k b)(hks:∀p∈kb,GK prog w s.heap p.1 p.2)(room:kb.length<64)
  (h:∀r h',U1c a s.heap h'->N8 prog w h' a (K6 kb k b)->Q r { s with heap:=h' }):wpAny (model prog w) A (setAddHashed a (.ref b) (Gm prog w k)) Q E s:=by
 obtain⟨nd,o,es,ep,t,ho,hex,hd,hp,g,hl⟩:=id hS
 have hsz:es.size=(es.toList.map (·.1)).length:=by simp
 have hlen:es.size=kb.length:=by have:=hp.length_eq;simpa using this
 have hf:t.fits es.size=true:=by rw[hsz];exact g.fits
 have hmm:t.mask<=127:=by have:=g.msk;unfold Msk at this;omega
 unfold setAddHashed setAddHashedIn
 refine U2j (U0 (U26 ho hd hf ?_))
 dsimp only
 rw[if_neg (by simp[byScan,Value.scannable])]
 refine U0 ?_
 unfold setSearch
 refine jP (hu:=hu) ho hd hp g hk hks (fun hm=>?_) (fun j hj hw hn=>?_) 100000 0 none (by unfold U3k;omega) rfl (fun c hc=>absurd hc (U3a _)) (fun c hc=>absurd hc (U3a _))
 .refine U0e ?_
  have q:=h false s.heap (U1c.refl a s.heap) (by
   have e:K6 kb k b=kb:=by unfold K6;rw[if_pos hm]
   rw[e];exact hS)
  cases s;exact q
 .have eA:K6 kb k b=kb++[(k,b)]:=by unfold K6;rw[if_neg hn]
  have ndA:((K6 kb k b).map (·.1)).Nodup:=by
   rw[eA,U18]
   exact U6x.mpr ⟨nd,by simp,fun x hx y hy=>by
    simp at hy
    subst hy
    intro e
    exact hn (e ▸ hx)⟩
  dsimp only
  refine U0 (U26 ho hd hf ?_)
  dsimp only
  have G:=g.put (es:=es) (x:=.ref b) hj hw
  have pm:(U3g es (t.put j).2 (Gm prog w k,.ref b)).toList.Perm ((K6 kb k b).map (ent prog w)):=by
   rw[eA,U18]
   exact(Ot _ _ _).trans ((U51 _ hp).trans (List.perm_append_singleton _ _).symm)
  have hT1:(t.put j).1.led=Ik w:=hl
  generalize hes1:U3g es (t.put j).2 (Gm prog w k,U24 b)=es1 at G pm
  generalize ht1:(t.put j).1=t1 at G hT1
  have hs1:es1.size=es.size+1:=by
   have:=pm.length_eq
   rw[eA] at this
   simp at this
   omega
  have fin:∀t2:SetTable,Full t2 (es1.toList.map (·.1))->t2.led=Ik w->wpAny `am A (do
    storeSet a es1 t2
    if (!false&&t2.tooFull)=true then do
      setRelay a (U29 (es.size+1))
      pure true
     else pure true) Q E s:=fun t2 G2 hl2=>by
   have g1:=Zw ho hd es1 t2
   have hb1:es1.size<scanBound:=by unfold scanBound;omega
   refine U0 (U6y ho hd ?_ (fits_of_scanBound hb1))
   have sb1:=U13 s.heap a (U7g es1 t2)
   cases htf:t2.tooFull with
   |false =>
    simp only[U7v,U8y,U0s,if_false]
    exact U0e (h _ _ sb1 ⟨ndA,_,es1,ep+1,t2,g1,hex,rfl,pm,G2.good htf,hl2⟩)
   |true =>
    simp only[U7v,Bool.and_true,if_true]
    obtain⟨m1,m2,m3⟩:=G2.grown (es:=es1) (h:=0) (n:=es.size) (by rw[U0d,U0g,hs1]) htf (by omega)
    obtain⟨t3,order,e3,p3,G3,l3⟩:=Zb (t:=t2) (es:=es1) m1 (by rw[hs1];exact m2)
    have hf2:t2.fits es1.size=true:=by
     have:=G2.fits
     rwa [U0d,U0g] at this
    unfold setRelay
    refine U0 (U0 (U26 g1 rfl hf2 ?_))
    dsimp only
    rw[if_neg (by rw[sizeLine_eq];omega),e3]
    have s3:(order.filterMap fun k=>es1[k]?).size=es1.size:=by have:=p3.length_eq;rwa [U0g,U0g] at this
    refine U0 (wpAny_of_eq (a:=((order.filterMap fun k=>es1[k]?),t3)) ?_ ?_)
    .show(if ((order.filterMap fun k=>es1[k]?).size != es1.size)=true then _ else _)=_
     rw[if_neg (by rw[s3];simp)]
    .dsimp only
     refine U6y g1 rfl ?_ (fits_of_scanBound (by rw[s3];exact hb1))
     refine U0e (h _ _ (sb1.trans (U13 _ a _)) ⟨ndA,_,_,ep+1+1,t3,Zw g1 rfl _ _,hex,rfl,p3.trans pm,G3,l3.trans hl2⟩)
  split
  .refine U0 (iD hk ?_)
   rw[if_pos rfl]
   exact fin t1 G hT1
  .refine U0 (U0e ?_)
   rw[if_pos rfl]
   exact fin t1 G hT1
end
end SetP
end
section
set_option maxRecDepth 100000
namespace SetP
open PySem PyProof.Rows
def Og(ds:List `bo)(k:List Int):List `bo:=if k∈ds then ds else ds++[k]
def Fq(ns:List `bo):List `bo:=ns.foldl Og []
theorem WM(ns:List `bo):(Fq ns).Nodup/\∀j,j∈Fq ns↔j∈ns:=by
 have all:∀(ns ds:List `bo),ds.Nodup->(ns.foldl Og ds).Nodup/\∀j,j∈ns.foldl Og ds↔j∈ds∨j∈ns:=by
  intro ns
  induction ns with
  |nil=>intro ds h;exact⟨h,fun j=>by simp⟩
  |cons n r ih =>
   intro ds h
   have h':(Og ds n).Nodup/\∀j,j∈Og ds n↔j∈ds∨j=n:=by
    unfold Og
    split
    .rename_i q
     exact⟨h,fun j=>⟨.inl,fun z=>z.elim id fun e=>e ▸ q⟩⟩
    .rename_i q
     exact⟨U6x.mpr ⟨h,by simp,fun a ha b hb=>by rw[U0q] at hb;subst hb;rintro rfl;exact q ha⟩,fun j=>by rw[U0z,U0q]⟩
   obtain⟨a,b⟩:=ih (Og ds n) h'.1
   exact⟨a,fun j=>by rw[U2t,b j,h'.2,U0h,or_assoc]⟩
 obtain⟨a,b⟩:=all ns [] U6r
 exact⟨a,fun j=>by rw[show Fq ns=ns.foldl Og [] from rfl,b j];simp⟩
def Jc(kb:List (List Int×Addr)):List (List Int×Addr):=kb.foldl (fun a p=>K6 a p.1 p.2) []
theorem cO(kb:List (List Int×Addr)):(Jc kb).map (·.1)=Fq (kb.map (·.1)):=by
 have all:∀(kb ds:List (List Int×Addr)),(kb.foldl (fun a p=>K6 a p.1 p.2) ds).map (·.1)=(kb.map (·.1)).foldl Og (ds.map (·.1)):=by
  intro kb
  induction kb with
  |nil=>intro ds;rfl
  |cons p r ih =>
   intro ds
   rw[U2t,U0r,U2t,ih]
   congr 1
   unfold K6 Og
   split
   .rfl
   .simp
 exact all kb []
theorem WL(kb:List (List Int×Addr)):∀p∈Jc kb,p∈kb:=by
 have all:∀(kb ds:List (List Int×Addr)),∀p∈kb.foldl (fun a p=>K6 a p.1 p.2) ds,p∈ds∨p∈kb:=by
  intro kb
  induction kb with
  |nil=>intro ds p hp;exact .inl hp
  |cons q r ih =>
   intro ds p hp
   rcases ih _ p hp with z|z
   .dsimp only[K6] at z
    split at z
    .exact .inl z
    .rcases U0z.mp z with z|z
     .exact .inl z
     .rw[U0q] at z
      exact .inr (z ▸ U0i)
   .exact .inr (U0k _ z)
 intro p hp
 rcases all kb [] p hp with z|z
 .cases z
 .exact z
theorem cM(kb:List (List Int×Addr))(i:Nat):(Jc (kb.take i)).length<=(Jc kb).length:=by
 have fl:∀(kb ds:List (List Int×Addr)),ds.length<=(kb.foldl (fun a p=>K6 a p.1 p.2) ds).length:=by
  intro kb
  induction kb with
  |nil=>intro ds;exact U0l _
  |cons p r ih =>
   intro ds
   refine U1b ?_ (ih _)
   dsimp only[K6]
   split<;>simp
 have:=fl (kb.drop i) (Jc (kb.take i))
 unfold Jc at this ⊢
 rw[←U49,U1t] at this
 exact this
theorem TF{prog:Program}{w:World}{h:Heap}{k:List Int}{b:Addr}(x:GK prog w h k b):∃its,IsTup h b its/\IntsAre its.toList k:=by
 obtain⟨o,its,n,ho,hc,hd,hi⟩:=x
 refine⟨its,⟨o,ho,hc,n,hd⟩,?_⟩
 generalize its.toList=l at hi
 induction hi with
 |nil=>exact .nil
 |@cons k v ks vs h1 _ ih =>
  obtain⟨t,rfl⟩:=U6w (show U7y k v=true from h1)
  exact .cons k t ih
theorem jA{prog:Program}{w:World}{h:Heap}{k:List Int}{b:Addr}{its:Array Value}(x:IsTup h b its)(hi:IntsAre its.toList k):GK prog w h k b:=by
 obtain⟨o,ho,hc,n,hd⟩:=x
 refine⟨o,its,n,ho,hc,hd,?_⟩
 generalize its.toList=l at hi
 induction hi with
 |nil=>exact .nil
 |cons n t _ ih=>exact .cons (intKind_is prog w n t) ih
section
variable{prog:Program}{w:World}{A:Around}{E:Value->Shared->Prop}{s:Shared}
theorem GK.move{h h':Heap}{k:List Int}{b:Addr}(x:GK prog w h k b)(c:∀o,h.get? b=some o->h'.get? b=some o):GK prog w h' k b:=by
 obtain⟨o,its,n,ho,r⟩:=x
 exact⟨o,its,n,c o ho,r⟩
theorem nY{l:Addr}{items:Array Value}{kb:List (List Int×Addr)}{Q:Value->Shared->Prop}(hh:A.handled=none)(hu:A.units+4<cLine)(hl:s.heap.IsList l items)(hi:items.toList=kb.map fun p=>.ref p.2)(hT:∀p∈kb,GK prog w s.heap p.1 p.2)
  (hb:(Jc kb).length<64) (h:∀h' tk,(∀b o,s.heap.get? b=some o->h'.get? b=some o)->N8 prog w h' s.heap.objs.size (Jc kb)->Q `bq { s with heap:=h',toks:=tk }) :
  wpAny `am A (call (.type "set") [.ref l]) Q E s:=by
 have hlen:items.size=kb.length:=by have:=congrArg U3n hi;simpa using this
 have lt:∀p∈kb,p.2<s.heap.objs.size:=fun p hp=>by
  obtain⟨o,_,_,ho,_⟩:=hT p hp
  exact U0o ho
 refine Zy hh hl (fun i h=>N8 prog w h s.heap.objs.size (Jc (kb.take i))/\∀p∈kb,GK prog w h p.1 p.2)
  (fun i h h' k T=>⟨T.1.sameBut fun o q=>k _ o (U0l _) q,fun p hp=>GK.move (T.2 p hp) fun o q=>k _ o (U2g (lt p hp)) q⟩) (fun A' hA i hlt s' Q' E' T hQ=>?_) (fun h' k e=>?_) fun h' tk k T=>?_
 .have hn:i<kb.length:=by omega
  have hv:items[i]=.ref kb[i].2:=by
   have e:items.toList[i]?=(kb.map fun p=>U24 p.2)[i]?:=by rw[hi]
   rw[U1a,U05 hlt,U07,U0w hn] at e
   exact U00 e
  have hm:kb[i]∈kb:=U3c hn
  have hk:=T.2 _ hm
  rw[hv]
  unfold setAdd
  refine U2j (U0 (wpAny_pyHash_tuple (by omega) hk ?_))
  refine xr (s:={ s' with toks:=s'.toks+(kb[i].1.length+1) }) (by omega) T.1 hk (fun p hp=>T.2 p (U4b (WL _ p hp))) (by have:=cM kb i;omega) fun r h2 sb2 T2=>hQ _ _ _ sb2 ⟨?_,fun p hp=>GK.move (T.2 p hp) fun o q=>(sb2.2 _ (U02 (lt p hp))).trans q⟩
  rw[List.take_succ_eq_append_getElem hn]
  unfold Jc at T2 ⊢
  rw[U49]
  exact T2
 .exact⟨⟨U6r,_,#[],0,_,e,⟨rfl,rfl,rfl⟩,rfl,.refl _,Good.fresh _ _ _,rfl⟩,fun p hp=>GK.move (hT p hp) fun o q=>k _ _ q⟩
 .rw[U12 (by omega)] at T
  exact h h' tk k T.1
theorem N8.toW{h:Heap}{S:Addr}{kb:List (List Int×Addr)}(x:N8 prog w h S kb)(hb:kb.length<64):∃es,T4 w h S es/\es.toList.Perm (kb.map (ent prog w)):=by
 obtain⟨nd,o,es,ep,t,ho,hex,hd,hp,g,hl⟩:=x
 have hlen:es.size=kb.length:=by have:=hp.length_eq;simpa using this
 have hf:t.fits es.size=true:=by have:=g.fits;rwa [U0d,U0g] at this
 exact⟨es,⟨o,ep,t,ho,hex,hd,by unfold scanBound;omega,hf,g.rise,hl⟩,hp⟩
theorem jH{S:Addr}{kb:List (List Int×Addr)}{Q:Value->Shared->Prop}(hh:A.handled=none)(hS:N8 prog w s.heap S kb)(hT:∀p∈kb,GK prog w s.heap p.1 p.2)(hn:∀p∈kb,p.1≠[])(h3:kb.length<64)
  (h:∀h' d' tk l n (out:Array Value),(∀b o,s.heap.get? b=some o->h'.get? b=some o)->(∀b o,s.heap.get? b=some o->b<l)->h'.get? l=some (seqObj "list" out n)->out.toList.Perm (kb.map fun p=>.ref p.2)->out.toList.map (Tup.dec s.heap)=Tup.GJ (kb.map (·.1))->Q (.ref l) { s with heap:=h',drawn:=d',toks:=tk }) :
  wpAny `am A (call (.builtin "sorted") [.ref S]) Q E s:=by
 obtain⟨es,W,hp⟩:=hS.toW h3
 refine U5e kind_sorted plain_sorted entry_sorted (args_sorted1 _) ?_
 unfold Builtin.«sorted»
 refine U0 (m:=checkCount "sorted" 1 1 _) (U0e ?_)
 refine U0 (Wk (A:=A.in1) (by simpa using hh) W fun h1 d1 t1 vs k1 ⟨l,pl,el⟩=>?_)
 have pv:vs.Perm (kb.map fun p=>.ref p.2):=by
  rw[el]
  have:=(pl.trans hp).map (·.2)
  rw[U0t] at this
  exact this
 have each:∀v∈vs,∃p∈kb,v=.ref p.2:=fun v hv=>by
  obtain⟨p,hp,e⟩:=U0x.mp (pv.mem_iff.mp hv)
  exact⟨p,hp,e.symm⟩
 have tups:∀(g:Heap),(∀b o,s.heap.get? b=some o->g.get? b=some o)->∀us:List Value,(∀v∈us,∃p∈kb,v=.ref p.2)->Tup.G7 g us (us.map (Tup.dec s.heap)):=fun g kg us=>by
  induction us with
  |nil=>intro _;exact .nil
  |cons v r ih =>
   intro hv
   obtain⟨p,hp,rfl⟩:=hv v U0i
   obtain⟨its,q1,q2⟩:=TF (hT p hp)
   obtain⟨o,e,c⟩:=id q1
   rw[U0r,Tup.dec_is q1 q2]
   exact .cons ⟨o,kg _ _ e,c⟩ q2 (ih fun v hv'=>hv v (U0k _ hv'))
 have pk:(vs.map (Tup.dec s.heap)).Perm (kb.map (·.1)):=by
  have:=pv.map (Tup.dec s.heap)
  rw[U0t] at this
  refine this.trans (U17.of_eq (U4s fun p hp=>?_))
  obtain⟨its,q1,q2⟩:=TF (hT p hp)
  exact Tup.dec_is q1 q2
 have nd:(vs.map (Tup.dec s.heap)).Nodup:=pk.nodup_iff.mpr hS.nd
 have hv64:vs.length<64:=by rw[pv.length_eq,U0d];exact h3
 refine U0 (U6b ?_)
 have hoL:(h1.push (seqObj "list" vs.toArray 0)).get? h1.objs.size=some (seqObj "list" vs.toArray 0):=U0u _ rfl
 show wpAny _ _ _ _ _ { s with heap:=h1.push (seqObj "list" vs.toArray 0),drawn:=d1,toks:=t1 }
 have k2:∀b o,s.heap.get? b=some o->(h1.push (seqObj "list" vs.toArray 0)).get? b=some o:=fun b o e=>U0c _ (k1 b o e)
 refine U0 (U2j (U2m slot_list_sort ⟨_,hoL,rfl⟩ entry_list_sort (Tup.QX hoL (tups _ k2 vs each) (fun t ht=>?_) nd hv64 fun out a1 a2=>⟨_,rfl,?_⟩) (args_list_sort _)))
 .obtain⟨p,hp,e⟩:=U0x.mp (pk.mem_iff.mp ht)
  exact e ▸ hn p hp
 refine U0e ⟨_,rfl,?_⟩
 have old:∀b o,s.heap.get? b=some o->b<h1.objs.size:=fun b o e=>U0o (k1 b o e)
 obtain⟨n',e'⟩:=Hx (out:=out) hoL
 refine h _ d1 t1 h1.objs.size n' out (fun b o e=>HX (U02 (old b o e)) (k2 b o e)) old e' (a1.trans pv) ?_
 have e2:out.toList.map (Tup.dec s.heap)=out.toList.map (Tup.dec (h1.push (seqObj "list" vs.toArray 0))):=U4s fun v hv=>by
  obtain⟨p,hp,rfl⟩:=each v (a1.mem_iff.mp hv)
  obtain⟨its,q1,q2⟩:=TF (hT p hp)
  obtain⟨o,e,c⟩:=id q1
  rw[Tup.dec_is q1 q2,Tup.dec_is (show IsTup _ p.2 its from ⟨o,k2 _ _ e,c⟩) q2]
 rw[e2,a2]
 exact Tup.HJ ((Tup.Fw _).trans (pk.trans (Tup.Fw _).symm)) (Tup.Iz nd) (Tup.Iz hS.nd)
end
end SetP
end
section
namespace L2
open PySem PySem.Spec PyProof.Rows
def UJ(P:Program)(w:World)(a:Addr)(kb:List (List Int×Addr)):HO:=.ext fun h=>SetP.N8 P w h a kb
variable{X:Cx}
theorem ux{A:Around}{k:Nat}(hr:Eb k A):A.units+4<cLine:=by have:=hr.units;omega
theorem Uy{pins:List (Addr×Obj)}{Z3:St}{H:Hp}{s:Shared}(I:Inv X pins Z3 H s):∀{us:List V} {ts:List `bo} {vs:List Value},GZ H us ts->Vals us vs ->
  ∃kb:List (List Int×Addr),kb.map (·.1)=ts/\vs=kb.map (fun p=>.ref p.2)/\∀p∈kb,H p.2=some (.tup (p.1.map V.int))
 |_,_,_,.nil,.nil=>⟨[],rfl,rfl,fun p hp=>by cases hp⟩
 |_,_,_,@GZ.cons _ a t _ _ e r,.cons rv rvs=>by
  cases rv
  obtain⟨kb,h1,h2,h3⟩:=Uy I r rvs
  refine⟨(t,a)::kb,by rw[U0r,h1],by rw[U0r,h2],fun p hp=>?_⟩
  rcases U0h.mp hp with z|z
  .rw[z];exact e
  .exact h3 p z
theorem Zu{pins:List (Addr×Obj)}{Z3:St}{H:Hp}{s:Shared}(I:Inv X pins Z3 H s){k:List Int}{b:Addr}(e:H b=some (.tup (k.map V.int))):SetP.GK X.prog X.w s.heap k b:=by
 obtain⟨its,r1,p1,_⟩:=I.tuple (SqT.of (K:=X.K) e)
 exact SetP.jA p1 (by simpa using intsAre_of (ns:=k) r1)
theorem gj(hc:X.calm=true)(hu:X.A.units+4<cLine):Df X (.type "set") (fun xs H Q=>∃(p:Addr)(us:List V)(ts:List `bo),xs=[.ref p]/\SqL X.K H p us/\GZ H us ts/\(SetP.Fq ts).length<64 /\
  ∀(a:Addr)(kb:List (List Int×Addr)),H a=none->kb.map (·.1)=SetP.Fq ts->(∀q∈kb,H q.2=some (.tup (q.1.map V.int)))->Q (.ref a) (upd H a (UJ X.prog X.w a kb))):=by
 intro pins s Z3 H xs us0 Q I r h
 obtain⟨p,us,ts,rfl,hq,hT,hl,q⟩:=h
 obtain⟨u,rfl,rx⟩:=vals1 r
 cases rx
 obtain⟨its,rv,pl,hz⟩:=I.list hq
 obtain⟨kb,h1,h2,h3⟩:=Uy I hT rv
 have hk:(SetP.Jc kb).map (·.1)=SetP.Fq ts:=by rw[SetP.cO,h1]
 refine SetP.nY (I.ok.hd hc) hu pl.isList (by simpa using h2) (fun q hq=>Zu I (h3 q hq)) (by have:=congrArg U3n hk;rw[U0d] at this;omega) fun h' tk k T=>?_
 have hn:s.heap.get? s.heap.objs.size=none:=U7c (U0l _)
 refine⟨.ref s.heap.objs.size,_,I.laidN (d':=s.drawn) (t':=tk) (o:=UJ X.prog X.w s.heap.objs.size (SetP.Jc kb)) k hn (U02 I.bL) ⟨T,?_,fun h1 h2 y k=>y.sameBut k⟩,rfl,q _ _ (I.hok.fresh (U0l _)) hk fun x hx=>h3 x (SetP.WL kb x hx)⟩
 obtain⟨_,o,_,_,_,e,_⟩:=T
 exact⟨o,e⟩
theorem VN(hc:X.calm=true):Df X (.builtin "sorted") (fun xs H Q=>∃(a:Addr)(kb:List (List Int×Addr)),xs=[.ref a]/\H a=some (UJ X.prog X.w a kb)/\(∀q∈kb,H q.2=some (.tup (q.1.map V.int)))/\(∀q∈kb,q.1≠[])/\kb.length<64 /\
  ∀(l:Addr)(us':List V),H l=none->GZ H us' (Tup.GJ (kb.map (·.1)))->Q (.ref l) (upd H l (.lst us'))):=by
 intro pins s Z3 H xs us0 Q I r h
 obtain⟨a,kb,rfl,hH,hT,hn,h3,q⟩:=h
 obtain⟨u,rfl,rx⟩:=vals1 r
 cases rx
 obtain⟨T,_,_⟩:=(show Dm X.prog X.w H s.heap a (UJ X.prog X.w a kb) from I.hok a _ hH)
 refine SetP.jH (I.ok.hd hc) T (fun p hp=>Zu I (hT p hp)) hn h3 fun h' d' tk l n out k hb e p1 p2=>?_
 have hn':s.heap.get? l=none:=by
  cases q:s.heap.get? l with
  |none=>rfl
  |some o=>exact absurd (hb l o q) (U4g _)
 have hsy:sysModules≠l:=by
  obtain⟨o,_,_,e,_⟩:=I.ok.mod.glob
  exact U02 (U4c (by decide:(1:Nat)<3) (hb _ _ (I.bk _ _ e)))
 have all:∀kb:List (List Int×Addr),Vals (kb.map fun p=>V.ref p.2) (kb.map fun p=>U24 p.2):=fun kb=>by
  induction kb with
  |nil=>exact .nil
  |cons p r ih=>exact .cons rfl ih
 have rv:=all kb
 obtain⟨us',pu,ru⟩:=W6 rv p1
 have tb:=R6 I ru fun u hu=>by
  obtain⟨p,hp,rfl⟩:=U0x.mp (pu.mem_iff.mp hu)
  exact⟨p.2,p.1,rfl,hT p hp⟩
 rw[p2] at tb
 have hz':us'.length<=sizeLine:=by rw[pu.length_eq,U0d];exact U2g (R8 (by omega))
 exact⟨.ref l,_,I.laidN (d':=d') (t':=tk) (o:=.lst us') k hn' hsy ⟨hz',out.toList,n,ru,e⟩,rfl,q l us' (I.Pb hn') tb⟩
end L2
namespace VS
open PySem PySem.Spec L2
def O8(a:BL):BL:=fun env S=>(a env S).bind fun p=>(listOf p.2 p.1).bind fun ds=>(N5 ds).bind fun ts=>if (∀t∈ts,t≠[])/\(SetP.Fq ts).length<64 then some (.lst true ((Tup.GJ (SetP.Fq ts)).map Rc),p.2) else none
theorem Zh{X:Cx}{a:Expr}{f:BL}{p p2 pos pos2:Pos}(hc:X.calm=true)(hu:X.A.units+4<cLine)(ha:JE X a f)(hg:Gl X "sorted")(hm:X.mg "sorted"=none)(hg2:Gl X "set")(hm2:X.mg "set"=none)
  (he:starEach [a] X.env=[(false,eval a X.env)]:=by rfl) (he2:starEach [.Call (.Name "set" p2) [a] [] pos2] X.env=[(false,eval (.Call (.Name "set" p2) [a] [] pos2) X.env)]:=by rfl):JE X (.Call (.Name "sorted" p) [.Call (.Name "set" p2) [a] [] pos2] [] pos) (O8 f) :=
 ⟨PE.imp (Ng (VN hc) hg hm OD (Jv (Lw (gj hc hu) hg2 hm2 Xw (Jv ha.pe Lp he) (he:=he) (hpl:=rfl)) Lp he2) (he:=he2) (hpl:=rfl)) fun Z3 H Q h=>by
  obtain⟨Γ,μ,env,S,d,S',hK,R,e,q⟩:=h
  obtain⟨⟨y,S1⟩,e1,e⟩:=bind_some e
  obtain⟨ds,e2,e⟩:=bind_some e
  obtain⟨ts,e3,e⟩:=bind_some e
  by_cases hl:(∀t∈ts,t≠[])/\(SetP.Fq ts).length<64
  .rw[if_pos hl] at e
   cases e
   refine⟨Γ,μ,env,S,y,_,hK,R,e1,fun v1 μ1 H1 x1 R1 r1=>?_⟩
   obtain⟨b,xs,rfl,hb,rb⟩:=VR.list R1 r1 e2
   refine⟨b,xs,ts,rfl,SqL.of hb,Js rb e3,hl.2,fun s kb hs hkb hTk=>?_⟩
   obtain⟨R2,x2⟩:=R1.grow (Ci hs (UJ X.prog X.w s kb))
   refine⟨s,kb,rfl,Bq,fun q hq=>?_,fun q hq=>?_,?_,fun l us' hl' tb=>?_⟩
   .rw[Bh fun z=>?_]
    .exact hTk q hq
    .have:=hTk q hq
     rw[z,hs] at this
     cases this
   .have hm:q.1∈SetP.Fq ts:=hkb ▸ U4r hq
    exact hl.1 _ ((SetP.WM ts).2 _ |>.mp hm)
   .have:=congrArg U3n hkb
    rw[U0d] at this
    omega
   .rw[hkb] at tb
    obtain⟨R3,x3⟩:=R2.grow (Ci hl' (.lst us'))
    exact q _ μ1 _ (x1.trans (x2.trans x3)) R3 (.lst (R2.ok hl' true) (R2.dead hl') Bq ((T8 tb).ext x3))
  .rw[if_neg hl] at e;cases e⟩
theorem ZF(a:BL)(env:VS.Env)(S:Store):O8 a env S=(a env S).bind fun p=>(listOf p.2 p.1).bind fun ds=>(N5 ds).bind fun ts=>if (∀t∈ts,t≠[])/\(SetP.Fq ts).length<64 then some (.lst true ((Tup.GJ (SetP.Fq ts)).map Rc),p.2) else none:=rfl
end VS
end
section
namespace VS
def at1(bs:List (List St2))(i w:Nat):St2:=(bs.getD i []).getD w (0,0)
def inS(p:St2)(x:Int):Bool:=decide (p.1<=x)&&decide (x<p.2)
def steps(E:List Int):List St2:=E.zip E.tail
theorem V0(a b:Int)(r:List Int):steps (a::b::r)=(a,b)::steps (b::r):=rfl
theorem R7:∀{E:List Int},E.Pairwise (·<·)->∀p∈steps E,p.1<p.2/\p.1∈E/\p.2∈E/\∀e∈E,e<=p.1∨p.2<=e
 |[],_,p,h=>by simp[steps] at h
 |[a],_,p,h=>by simp[steps] at h
 |a::b::r,hp,p,h=>by
  have hab:=(U11.mp hp).1
  have ht:=(U11.mp hp).2
  rw[V0] at h
  rcases U0h.mp h with z|z
  .subst z
   refine⟨hab b U0i,by simp,by simp,fun e he=>?_⟩
   rcases U0h.mp he with q|q
   .left;show e<=a;lia
   .right
    show b<=e
    rcases U0h.mp q with q|q
    .lia
    .exact U4e ((U11.mp ht).1 e q)
  .obtain⟨h1,h2,h3,h4⟩:=R7 ht p z
   refine⟨h1,U0k _ h2,U0k _ h3,fun e he=>?_⟩
   rcases U0h.mp he with q|q
   .left;rw[q];exact U4e (hab _ h2)
   .exact h4 e q
theorem cF(ns:List Int):(Cz ns).Pairwise (·<·):=by
 obtain⟨o1,o2,o3⟩:=SetP.Ie ns
 have hp:(Cz ns).Perm (SetP.once ns):=U3x _ _
 have hs:(Cz ns).Pairwise (·<=·):=by
  have:=List.pairwise_mergeSort (le:=fun a b:Int=>decide (a<=b)) (by intro a b c h1 h2;simp at *;lia) (by intro a b;simp;lia) (SetP.once ns)
  exact this.imp fun h=>by simpa using h
 exact(hs.and (hp.nodup_iff.mpr o1)).imp fun⟨h,n⟩=>by lia
end VS
end
section
namespace VS
end VS
end
section
namespace VS
def S1(vs:List St2):Int:=((steps (Cz (vs.map (fun p=>p.1)++vs.map fun p=>p.2))).map fun p=>(p.2-p.1)*(if vs.any (fun v=>inS v p.1) then 1 else 0)).sum
end VS
end
section
namespace VS
structure Norm(l:List St2):Prop where
 pos:∀p∈l,p.1<p.2
 far:l.Pairwise fun p q=>p.2<q.1
def cov(l:List St2)(x:Int):Bool:=l.any fun p=>inS p x
structure Asc(l:List St2):Prop where
 pos:∀p∈l,p.1<p.2
 up:l.Pairwise fun p q=>p.2<=q.1
theorem Oi:∀{E:List Int},E.Pairwise (·<·)->∀{x:Int},(∃a∈E,a<=x)->(∃b∈E,x<b)->∃p∈steps E,p.1<=x/\x<p.2
 |[],_,x,⟨a,ha,_⟩,_=>by simp at ha
 |[a],_,x,⟨c,hc,h1⟩,⟨b,hb,h2⟩=>by
  rw[U0q.mp hc] at h1
  rw[U0q.mp hb] at h2
  lia
 |a::b::r,h,x,⟨c,hc,h1⟩,⟨d,hd,h2⟩=>by
  have hh:=U11.mp h
  have ab:=hh.1 b U0i
  rw[V0]
  by_cases z:x<b
  .refine⟨(a,b),U0i,?_,z⟩
   rcases U0h.mp hc with w|w
   .rw[w] at h1;exact h1
   .show a<=x
    have:=hh.1 c w;lia
  .obtain⟨p,hp,k⟩:=Oi hh.2 (x:=x) ⟨b,U0i,by lia⟩ ⟨d,by
    rcases U0h.mp hd with w|w
    .lia
    .exact w,h2⟩
   exact⟨p,U0k _ hp,k⟩
end VS
end
section
namespace VS
open PySem L2
theorem HJ:∀{a b:List Int},a.Pairwise (·<·)->b.Pairwise (·<·)->(∀x,x∈a↔x∈b)->a=b
 |[],[],_,_,_=>rfl
 |[],y::b,_,_,h=>by have:=(h y).mpr U0i;simp at this
 |x::a,[],_,_,h=>by have:=(h x).mp U0i;simp at this
 |x::a,y::b,ha,hb,h=>by
  obtain⟨a1,a2⟩:=U11.mp ha
  obtain⟨b1,b2⟩:=U11.mp hb
  have e:x=y:=by
   rcases U0h.mp ((h x).mp U0i) with z|z
   .exact z
   .rcases U0h.mp ((h y).mpr U0i) with w|w
    .exact w.symm
    .have:=b1 x z;have:=a1 y w;lia
  subst e
  congr 1
  refine HJ a2 b2 fun z=>?_
  constructor
  .intro hz
   rcases U0h.mp ((h z).mp (U0k _ hz)) with w|w
   .have:=a1 z hz;lia
   .exact w
  .intro hz
   rcases U0h.mp ((h z).mpr (U0k _ hz)) with w|w
   .have:=b1 z hz;lia
   .exact w
def cnt(ps:List St2)(x:Int):Int:=(ps.map fun p=>if inS p x=true then (1:Int) else 0).sum
end VS
end
section
namespace W29
open PySem L2 VS
def V8:Bb :=
 (Di (Py (eCB JB (Aa (Ab 0) (Aa (eC (.ty "int")) Af))) (iW (eCB JB (Aa (Ab 0) (Aa (eC (.ty "bool")) Af))))))
def Gy:DX:=Gf 1 1 V8
def M9:Bl :=
 Cv 1 [] (DP (Ab 0)) (Pat.sem (.nm 0)) J7 (Bd Gy `bj)
def Ra:Bb :=
 (Di (Py (eCB JB (Aa (Ab 0) (Aa (eC (.ty "tuple")) Af))) (Py (eOp (oEq false) (eCB G6 `bj) (Ab 1)) (eCB Jo (Aa (Az M9) Af)))))
def FN:DX:=Gf 2 2 Ra
def Hf:Bl :=
 Cv 1 [] (DP (Ab 0)) (Pat.sem (.nm 0)) J7 (Py (Bd FN (Aa (Ab 0) (Aa (eC (.int 2)) Af))) (eOp oGe (eOp oIx (Ab 0) `af) `ag))
def Ji:Bl :=
 Cv 2 [] (UW (Aa (Ab 0) (Aa (eSl oSl (Ab 0) (LQ `af) LR) Af))) (Pat.sem (.tp [(.nm 0),(.nm 1)])) J7 (Py (eOp oLt (eOp oIx (Ab 0) `ag) (eOp oIx (Ab 1) `ag)) (eOp (oEq true) (eOp oIx (Ab 0) `af) (eOp oIx (Ab 1) `af)))
def RZ:Bb :=
 (Bk (sIf (tOr (Hy (BR (eCB JB (Aa (Ab 0) (Aa (eC (.ty "list")) Af))))) (Hy (BR (eCB Jo (Aa (Az Hf) Af)))))
  (Di (eC (.bl false)))
  Ez)
  (Bk (sIf (BR (eOp (oEq false) (eCB G6 `bj) `ag))
  (Di (eC (.bl true)))
  Ez)
  (Bk (sIf (tOr (BR (eOp (oEq false) (eOp oIx (eOp oIx (Ab 0) `ag) `af) `ag)) (BR (eOp (oEq true) (eOp oIx (eOp oIx (Ab 0) (eUn El `af)) `af) `ag)))
  (Di (eC (.bl false)))
  Ez)
  (Di (eCB Jo (Aa (Az Ji) Af))))))
def FJ:DX:=Gf 1 1 RZ
def Pq:Bb :=
 (sIf (Hy (BR (Bd FJ `bj)))
  dO
  Ez)
def CW:DX:=Gf 1 1 Pq
def Gn:Bl :=
 Cv 2 [] (UW (Aa (Ab 0) (Aa (eSl oSl (Ab 0) (LQ `af) LR) Af))) (Pat.sem (.tp [(.nm 0),(.nm 1)])) J7 (Bo (Aa (eOp oIx (Ab 0) `ag) (Aa (eOp oIx (Ab 1) `ag) (Aa (eOp oIx (Ab 0) `af) Af))))
def JD:Bl :=
 Cv 1 [] (DP (Ab 1)) (Pat.sem (.nm 0)) (BR (eOp oGt (eOp oIx (Ab 0) (eC (.int 2))) `ag)) (Ab 0)
def Nu:Bb :=
 (Bk (BZ 1 (Az Gn))
  (Di (Az JD)))
def Dr:DX:=Gf 1 2 Nu
def Sq:Bb :=
 (Bk (Gv (Bd CW `bj))
  (Di (Bd Dr `bj)))
def Du:DX:=Gf 1 1 Sq
def Kc:Bb :=
 (BZ 3 (eOp K4 (Ab 3) `af))
def RQ:Bb :=
 G9 (K3 (BR (eOp oGt (Ab 3) `ag)) (BR (eOp oGe (eOp oIx (eOp oIx (Ab 0) (eOp K4 (Ab 3) `af)) `af) (Ab 2)))) Kc 100000
def Ni:Bb :=
 (BZ 4 (eOp Bv (Ab 4) `af))
def RP:Bb :=
 G9 (BR (eOp oGe (eOp oIx (eOp oIx (Ab 0) (Ab 4)) `af) (Ab 2))) Ni 100000
def SN:Bb :=
 (Bk (BZ 2 (eOp oIx (eOp oIx (Ab 0) (Ab 1)) `af))
  (Bk (BZ 3 (Ab 1))
  (Bk RQ
  (Bk (BZ 4 (Ab 1))
  (Bk RP
  (Di (Bo (Aa (eOp oIx (eOp oIx (Ab 0) (Ab 3)) `ag) (Aa (eOp oIx (eOp oIx (Ab 0) (Ab 4)) `ag) (Aa (Ab 2) Af))))))))))
def Et:DX:=Gf 2 5 SN
def HY:Bl :=
 Cv 2 [] (Ut `bj) (Pat.sem (.tp [(.nm 0),(.nm 1)])) (BR (eOp oGt (eOp oIx (Ab 1) `af) `ag)) (Ab 0)
def Jr:Bl :=
 Cv 1 [0] (DP (Ab 1)) (Pat.sem (.nm 0)) J7 (Bd Et (Aa (Ab 1) `bj))
def Oa:Bb :=
 (Bk (Gv (Bd CW `bj))
  (Bk (BZ 1 (Az HY))
  (Di (O8 (Az Jr)))))
def Bt:DX:=Gf 1 2 Oa
def Sd:Bb :=
 (Bk (BZ 2 (eOp oMod (eOp Bv (eOp Bv (eOp oMod (Ab 0) (eC (.int 2147483629))) (eOp Gg (eOp Gg (eC (.int 1000003)) (Ab 1)) (Ab 1))) (eOp Gg (eC (.int 7919)) (Ab 1))) (eC (.int 2147483629))))
  (Bk (BZ 2 (eOp oMod (eOp Gg (Ab 2) (Ab 2)) (eC (.int 2147483587))))
  (Di (eOp oDiv (eOp oMod (eOp Gg (Ab 2) (eOp Bv (Ab 2) (eC (.int 40961)))) (eC (.int 2147483563))) (eC (.int 4))))))
def GQ:DX:=Gf 2 3 Sd
def QT:Bb :=
 (Di (Az (Aa (eOp Gg (Ab 0) (eCB Pz (Aa (eOp oGe (Ab 0) (eOp G5 (eC (.int 10)) (eC (.int 18)))) Af))) (Aa (Ab 0) (Aa `ag Af)))))
def FW:DX:=Gf 1 1 QT
def Mi:Bb :=
 (Bk (sIf (BR (eOp oGt (eOp oIx (Ab 0) `ag) `ag))
  (Bk (BZ 2 (eOp oMod (eOp oIx (Ab 0) `ag) (Ab 1)))
  (Bk (Uj (eOp oDiv (eOp oIx (Ab 0) `ag) (Ab 1)) (Ab 0) `ag)
  (Di (Ab 2))))
  Ez)
  (Bk (Uj (eOp Bv (eOp oIx (Ab 0) (eC (.int 2))) `af) (Ab 0) (eC (.int 2)))
  (Di (eOp oMod (eOp Gg (Bd GQ (Aa (eOp oIx (Ab 0) `af) (Aa (eOp oIx (Ab 0) (eC (.int 2))) Af))) (eOp oIx (Az (Aa `af (Aa (eC (.int 8191)) Af))) (eCB Pz (Aa (eOp oGt (Ab 1) (eOp G5 (eC (.int 10)) (eC (.int 6)))) Af)))) (Ab 1)))))
def Ak:M6:=runM 2 3 Mi
def SX:Bb :=
 (Di (eOp oIx (Az `be) (BK Ak (Aa (Ab 0) (Aa (eC (.int 5)) Af)))))
def Dt:M6:=runM 1 1 SX
def Qa:Bb :=
 (Bk (BZ 2 (eOp Bv (eOp oIx (Ab 1) `ag) (BK Ak (Aa (Ab 0) (Aa (eOp oIx (Ab 1) `af) Af)))))
  (Bk (BZ 3 (eOp Bv (eOp oIx (Ab 1) `ag) (BK Ak (Aa (Ab 0) (Aa (eOp oIx (Ab 1) `af) Af)))))
  (Bk (sIf (BR (eOp (oEq false) (Ab 2) (Ab 3)))
  (BZ 3 (eOp Bv (Ab 2) `af))
  Ez)
  (Di (Bo (Aa (eCB O2 (Aa (Ab 2) (Aa (Ab 3) Af))) (Aa (eCB XQ (Aa (Ab 2) (Aa (Ab 3) Af))) Af)))))))
def Dy:M6:=runM 2 4 Qa
def Sg:Bb :=
 (Bk (bH (BK Dy (Aa (Ab 0) (Aa (Ab 1) Af))) (Pat.sem (.tp [(.nm 3),(.nm 4)])))
  (Bk (BZ 5 (eOp Bv `af (eOp oIx (Az `aw) (BK Ak (Aa (Ab 0) (Aa (eC (.int 3)) Af))))))
  (Bk (BZ 6 (BK Ak (Aa (Ab 0) (Aa (eC (.int 8)) Af))))
  (Bk (sIf (tOr (BR (eOp (oEq false) (Ab 2) (Az Af))) (BR (eOp oGt (Ab 6) (eC (.int 4)))))
  (Di (Bo (Aa (Ab 3) (Aa (Ab 4) (Aa (Ab 5) Af)))))
  Ez)
  (Bk (BZ 7 (eOp oIx (Ab 2) (BK Ak (Aa (Ab 0) (Aa (eCB G6 (Aa (Ab 2) Af)) Af)))))
  (Bk (BZ 8 (eCB O2 (Aa (eOp G5 (eC (.int 10)) (eC (.int 9))) (Aa (eOp Bv (eOp Bv (eOp oIx (Ab 7) `af) `af) (BK Ak (Aa (Ab 0) (Aa (eC (.int 4)) Af)))) Af))))
  (Bk (BZ 9 (eOp Bv (eOp Bv (eOp oIx (Ab 7) `ag) `af) (BK Ak (Aa (Ab 0) (Aa (eOp K4 (eOp oIx (Ab 7) `af) (eOp oIx (Ab 7) `ag)) Af)))))
  (Bk (BZ 10 (Jm (Aa (Ab 7) (Aa (Bo (Aa (eOp oIx (Ab 7) `ag) (Aa (eOp oIx (Ab 7) `af) (Aa (Ab 5) Af)))) (Aa (Bo (Aa (Ab 3) (Aa (Ab 4) (Aa (eOp oIx (Ab 7) (eC (.int 2))) Af)))) (Aa (Bo (Aa (eOp oIx (Ab 7) `af) (Aa (Ab 8) (Aa (Ab 5) Af)))) Af))))))
  (Bk (Gv (Fv Fb (Ab 10) (Aa (Bo (Aa (eOp oIx (Ab 7) `ag) (Aa (Ab 9) (Aa (Ab 5) Af)))) Af)))
  (Bk (sIf (BR (eOp oGe (eOp oIx (eOp oIx (Ab 10) (Ab 6)) `ag) (eOp oIx (eOp oIx (Ab 10) (Ab 6)) `af)))
  (Di (Ab 7))
  Ez)
  (Di (eOp oIx (Ab 10) (Ab 6)))))))))))))
def Eu:M6:=runM 3 11 Sg
def Jh:Bb :=
 (Gv (Fv Fb (Ab 4) (Aa (BK Eu (Aa (Ab 0) (Aa (Ab 1) (Aa (Ab 4) Af)))) Af)))
def M7:Bb :=
 Kf (Gx (Aa (Ab 3) Af)) (Pat.sem (.nm 5))
  Jh
def RX:Bb :=
 (Bk (BZ 3 (eOp oIx (Az (Aa (BK Ak (Aa (Ab 0) (Aa (eC (.int 4)) Af))) (Aa (BK Ak (Aa (Ab 0) (Aa (eOp Bv (Ab 2) `af) Af))) (Aa (Ab 2) Af)))) (BK Ak (Aa (Ab 0) (Aa (eC (.int 3)) Af)))))
  (Bk (BZ 4 (Jm Af))
  (Bk M7
  (Di (Ab 4)))))
def Ej:M6:=runM 3 6 RX
def Oq:Bl :=
 Cv 1 [] (DP (Ab 0)) (Pat.sem (.nm 0)) J7 (eOp oIx (Ab 0) `ag)
def Oo:Bl :=
 Cv 1 [] (DP (Ab 0)) (Pat.sem (.nm 0)) J7 (eOp oIx (Ab 0) `af)
def Lf:Bb :=
 (sIf (K3 (BR (eOp oLe (eOp oIx (Ab 5) `ag) (Ab 3))) (K3 (BR (eOp oLt (Ab 3) (eOp oIx (Ab 5) `af))) (BR (eOp oGt (eOp oIx (Ab 5) (eC (.int 2))) (Ab 4)))))
  (BZ 4 (eOp oIx (Ab 5) (eC (.int 2))))
  Ez)
def Om:Bb :=
 Kf (DP (Ab 0)) (Pat.sem (.nm 5))
  Lf
def Le:Bb :=
 (Bk (BZ 4 `ag)
  (Bk Om
  (sIf (BR (eOp (oEq true) (Ab 4) (eOp oIx (eOp oIx (eOp Bv (Az (Aa (Bo (Aa `ag (Aa `ag Af))) Af)) (Ab 2)) (eUn El `af)) `af)))
  (Gv (Fv Fb (Ab 2) (Aa (Bo (Aa (Ab 3) (Aa (Ab 4) Af))) Af)))
  Ez)))
def Ol:Bb :=
 Kf (DP (Ab 1)) (Pat.sem (.nm 3))
  Le
def V7:Bb :=
 (Bk (BZ 1 (Ly (eOp Bv (Az Oq) (Az Oo))))
  (Bk (BZ 2 (Jm Af))
  (Bk Ol
  (Di (Ab 2)))))
def CJ:DX:=Gf 1 6 V7
def Jb(rec:DX):Bl :=
 Cv 1 [] (DP (Ab 3)) (Pat.sem (.nm 0)) J7 (eOp oIx (Ab 0) (eC (.int 2)))
def Ds(rec:DX):Bb :=
 (Bk (sIf (K3 (BR (eOp (oEq true) (Ab 3) (Az Af))) (tOr (BR (eOp oLe (eOp oIx (Ab 4) (eC (.int 2))) (Ab 1))) (BR (eOp (oEq true) (eOp oIx (eOp oIx (Ab 3) (eUn El `af)) `af) (eOp oIx (Ab 4) `ag)))))
  (Bk (BZ 5 (eCB Q6 (Aa (Az (Jb rec)) Af)))
  (Bk `aI
  (BZ 3 (Jm Af))))
  Ez)
  (sIf (BR (eOp oGt (eOp oIx (Ab 4) (eC (.int 2))) (Ab 1)))
  (Gv (Fv Fb (Ab 3) (Aa (Ab 4) Af)))
  Ez))
def Oj(rec:DX):Bb :=
 Kf (DP (eOp Bv (Ab 0) (Az (Aa (Bo (Aa (eC .non) (Aa (eC .non) (Aa (Ab 1) Af)))) Af)))) (Pat.sem (.nm 4))
  (Ds rec)
def V6(rec:DX):Bb :=
 (Bk (BZ 2 (Az Af))
  (Bk (BZ 3 (Jm Af))
  (Bk (Oj rec)
  (Di (Ab 2)))))
def Al:Nat->DX
 |0=>fun _=>none
 |n+1=>Gf 2 6 (V6 (Al n))
def Ke:Bb :=
 (sIf (BR (eOp (oEq true) (eOp oIx (eOp oIx (Ab 0) (Ab 2)) `af) `ag))
  (Gv (Fv Fb (Ab 1) (Aa (Bo (Aa (eOp oIx (eOp oIx (Ab 0) (Ab 2)) `ag) (Aa (eOp oIx (eOp oIx (Ab 0) (eOp Bv (Ab 2) `af)) `ag) (Aa (eOp oIx (eOp oIx (Ab 0) (Ab 2)) `af) Af)))) Af)))
  Ez)
def Nq:Bb :=
 Kf (Gx (Aa (eOp K4 (eCB G6 `bj) `af) Af)) (Pat.sem (.nm 2))
  Ke
def Sh:Bb :=
 (Bk (BZ 1 (Jm Af))
  (Bk Nq
  (Di (Ab 1))))
def Ew:DX:=Gf 1 3 Sh
def Gs:Bl :=
 Cv 1 [] (DP (Ab 0)) (Pat.sem (.nm 0)) J7 (eOp oIx (Ab 0) `ag)
def Gq:Bl :=
 Cv 1 [] (DP (Ab 0)) (Pat.sem (.nm 0)) (BR (eOp oGt (eOp oIx (Ab 0) `af) `ag)) (eOp oIx (Ab 0) `af)
def JM:Bl :=
 Cv 1 [5,6] (DP (Ab 3)) (Pat.sem (.nm 0)) (BR (eOp oLt (Ab 1) (Ab 2))) (Bo (Aa (Ab 1) (Aa (Ab 2) `bj)))
def Gu:Bb :=
 (BZ 4 (eOp Bv (Ab 4) (Az JM)))
def JK:Bb :=
 Kf (DP (Ab 2)) (Pat.sem (.nm 6))
  Gu
def MJ:Bb :=
 JK
def JH:Bb :=
 Kf (DP (Ab 2)) (Pat.sem (.nm 5))
  MJ
def JL:Bl :=
 Cv 1 [10] (DP (Ab 4)) (Pat.sem (.nm 0)) (tOr (BR (eOp (oEq false) (Ab 1) (Az Af))) (BR (eOp bJ (eOp oIx (Ab 1) (eUn El `af)) (Ab 0)))) (eOp Bv (Ab 1) (Az `bj))
def JN:Bb :=
 (Gv (Fv Ro (Ab 9) (Aa (Az JL) Af)))
def JF:Bb :=
 Kf (DP (Ab 7)) (Pat.sem (.nm 10))
  JN
def Gp:Bl :=
 Cv 1 [0] (DP (Ab 7)) (Pat.sem (.nm 0)) (BR (eOp (oEq false) (Bd CJ `bj) (Ab 1))) `af
def Fp:Bb :=
 (Bk (sIf (BR (eOp oGt (eOp Gg (eCB G6 (Aa (Ab 7) Af)) (eCB G6 (Aa (Ab 4) Af))) (eC (.int 3000))))
  (Di (eC (.bl true)))
  Ez)
  (Bk (BZ 9 (Jm Af))
  (Bk JF
  (Bk (BZ 7 (Ab 9))
  (sIf (BR (eOp (oEq true) (Az Gp) (Az Af)))
  (Di (eC (.bl false)))
  Ez)))))
def Fj:Bb :=
 Kf (Gx (Aa (eOp K4 (eCB G6 (Aa (Ab 1) Af)) `af) Af)) (Pat.sem (.nm 8))
  Fp
def Nv:Bb :=
 (Bk (BZ 2 (Az Gs))
  (Bk (BZ 3 (QJ (Az Gq)))
  (Bk (BZ 4 (Az Af))
  (Bk JH
  (Bk (BZ 7 (Az (Aa (Az Af) Af)))
  (Bk Fj
  (Di (eC (.bl true)))))))))
def Cy:DX:=Gf 2 11 Nv
def Kd:Bb :=
 (Bk (BZ 6 (Az (Aa (IW Du (Aa (Ab 2) Af)) (Aa (IW Bt (Aa (Ab 2) Af)) Af))))
  (Bk (sIf (tOr (BR (eOp (Xb true) (eCB K9 (Aa (Ab 6) Af)) (eCB K9 (Aa (Az (Aa (Ab 3) (Aa (Ab 4) Af))) Af)))) (BR (eOp (oEq true) (Ab 2) (Ab 0))))
  (Di (eC (.bl false)))
  Ez)
  (Bk (Gv (Fv Fb (eOp oIx (Ab 6) `ag) (Aa `ag Af)))
  (Gv (Fv Qs (eOp oIx (Ab 6) `af) Af)))))
def Np:Bb :=
 Kf (Gx (Aa (eC (.int 2)) Af)) (Pat.sem (.nm 5))
  Kd
def SQ:Bb :=
 (Bk (BZ 2 (Ub nList `bj))
  (Bk (BZ 3 (Bd Ew `bj))
  (Bk (BZ 4 (Qy (Bd (Al 42) (Aa (Ab 3) (Aa `ag Af)))))
  (Bk Np
  (Bk (sIf (K3 (BR (Ab 1)) (Hy (BR (Bd Cy (Aa (Ab 0) (Aa (Ab 4) Af))))))
  (Di (eC (.bl false)))
  Ez)
  (Di (Py (eOp (oEq false) (Bd CJ (Aa (Ab 4) Af)) (Ab 0)) (eOp (oEq false) (Bd CJ (Aa (Ab 3) Af)) (Ab 0)))))))))
def Ed:DX:=Gf 2 7 SQ
def Uq:Bl :=
 Cv 1 [] (DP (Ab 3)) (Pat.sem (.nm 0)) J7 (Bo (Aa (eOp oIx (Ab 0) `ag) (Aa (eOp oIx (Ab 0) `af) (Aa (eOp Bv `af (eOp oMod (eOp oIx (Ab 0) (eC (.int 2))) (eC (.int 3)))) Af))))
def Ur:Bb :=
 (Bk (BZ 2 (IW FW (Aa (Ab 1) Af)))
  (Bk (BZ 3 (BK Ej (Aa (Ab 2) (Aa (BK Dt (Aa (Ab 2) Af)) (Aa (eC (.int 40)) Af)))))
  (Bk (sIf (Hy (BR (Bd Ed (Aa (Bd CJ (Aa (Ab 3) Af)) (Aa (eC (.bl false)) Af)))))
  (Di (eC (.bl false)))
  Ez)
  (Bk (BZ 4 (Az Uq))
  (sIf (tOr (Hy (BR (Bd Ed (Aa (Bd CJ (Aa (Ab 4) Af)) (Aa (eC (.bl false)) Af))))) (Hy (BR (Bd Ed (Aa (Bd CJ (Aa (eSl oSl (Ab 4) LR (LQ (eC (.int 4)))) Af)) (Aa (eC (.bl true)) Af))))))
  (Di (eC (.bl false)))
  Ez)))))
def Xp:Bb :=
 Kf (DP (eOp Bv (Az (Aa `ag Af)) (eSl oSl (Ab 0) LR (LQ (eC (.int 12)))))) (Pat.sem (.nm 1))
  Ur
def mG:Bb :=
 (Bk Xp
  (Di (eOp (oEq false) (Bd Bt `ar) `az)))
def Vi:DX:=Gf 1 5 mG
end W29
end
section
namespace W29
open PySem PySem.Spec L2 VS
def top (i : Nat) : Stmt := PySem.Challenge.pw_boxcover_k29_houses_under_skylines.main.body.getD i (.Pass ⟨0, 0, 0, 0⟩)
abbrev J5:Stmt:=top 4
abbrev GD:Stmt:=top 6
abbrev FZ:Stmt:=top 7
abbrev Fy:Stmt:=top 8
abbrev Dq:Stmt:=top 9
abbrev Hu:Stmt:=top 10
abbrev Hj:Stmt:=top 11
abbrev Dz:Stmt:=top 12
abbrev Hq:Stmt:=top 14
abbrev J3:Stmt:=top 15
abbrev J4:Stmt:=top 16
abbrev Ho:Stmt:=top 17
abbrev GR:Stmt:=top 18
abbrev Hr:Stmt:=top 19
abbrev HF:Stmt:=top 20
abbrev Gb:Stmt:=top 21
abbrev HW:Stmt:=top 22
abbrev Ht:Stmt:=top 23
abbrev Cj:Stmt:=top 24
abbrev Hl:Stmt:=top 25
abbrev LC:Stmt:=top 26
theorem Za:Cp ["thing"] ["thing"] (Am J5):=⟨rfl,rfl,rfl,by decide +kernel,rfl,by decide +kernel,by decide +kernel⟩
theorem X3:Cp ["thing","many"] ["thing","many"] (Am GD):=⟨rfl,rfl,rfl,by decide +kernel,rfl,by decide +kernel,by decide +kernel⟩
theorem Wz:Cp ["thing"] ["thing"] (Am FZ):=⟨rfl,rfl,rfl,by decide +kernel,rfl,by decide +kernel,by decide +kernel⟩
theorem VH:Cp ["skyline"] ["skyline"] (Am Fy):=⟨rfl,rfl,rfl,by decide +kernel,rfl,by decide +kernel,by decide +kernel⟩
theorem MF:Cp ["skyline","steps"] ["skyline"] (Am Dq):=⟨rfl,rfl,rfl,by decide +kernel,rfl,by decide +kernel,by decide +kernel⟩
theorem Yx:Cp ["skyline"] ["skyline"] (Am Hu):=⟨rfl,rfl,rfl,by decide +kernel,rfl,by decide +kernel,by decide +kernel⟩
theorem Gz:Cp ["skyline","place","height","first","behind"] ["skyline","place"] (Am Hj):=⟨rfl,rfl,rfl,by decide +kernel,rfl,by decide +kernel,by decide +kernel⟩
theorem Nt:Cp ["skyline","places"] ["skyline"] (Am Dz):=⟨rfl,rfl,rfl,by decide +kernel,rfl,by decide +kernel,by decide +kernel⟩
theorem Nk:Cp ["cell","k","number"] ["cell","k"] (Am Hq):=⟨rfl,rfl,rfl,by decide +kernel,rfl,by decide +kernel,by decide +kernel⟩
theorem ZX:Cp ["cell"] ["cell"] (Am J3):=⟨rfl,rfl,rfl,by decide +kernel,rfl,by decide +kernel,by decide +kernel⟩
theorem S8:Cp ["well","many","got"] ["well","many"] (Am J4):=⟨rfl,rfl,rfl,by decide +kernel,rfl,by decide +kernel,by decide +kernel⟩
theorem Yw:Cp ["well"] ["well"] (Am Ho):=⟨rfl,rfl,rfl,by decide +kernel,rfl,by decide +kernel,by decide +kernel⟩
theorem J6:Cp ["well","reach","one","other"] ["well","reach"] (Am GR):=⟨rfl,rfl,rfl,by decide +kernel,rfl,by decide +kernel,by decide +kernel⟩
theorem Ep:Cp ["well","reach","houses","low","high","height","kind","here","beside","within","some"] ["well","reach","houses"] (Am Hr):=⟨rfl,rfl,rfl,by decide +kernel,rfl,by decide +kernel,by decide +kernel⟩
theorem Jg:Cp ["well","reach","most","many","found","k"] ["well","reach","most"] (Am HF):=⟨rfl,rfl,rfl,by decide +kernel,rfl,by decide +kernel,by decide +kernel⟩
theorem Gk:Cp ["houses","marks","found","mark","height","house"] ["houses"] (Am Gb):=⟨rfl,rfl,rfl,by decide +kernel,rfl,by decide +kernel,by decide +kernel⟩
theorem Gj:Cp ["cells","base","found","part","cell","least"] ["cells","base"] (Am HW):=⟨rfl,rfl,rfl,by decide +kernel,rfl,by decide +kernel,by decide +kernel⟩
theorem Nm:Cp ["skyline","found","k"] ["skyline"] (Am Ht):=⟨rfl,rfl,rfl,by decide +kernel,rfl,by decide +kernel,by decide +kernel⟩
theorem CK:Cp ["skyline","houses","numbers","heights","every","low","high","lists","k","longer","some"] ["skyline","houses"] (Am Cj):=⟨rfl,rfl,rfl,by decide +kernel,rfl,by decide +kernel,by decide +kernel⟩
theorem HD:Cp ["skyline","small","handed","cells","houses","turn","told"] ["skyline","small"] (Am Hl):=⟨rfl,rfl,rfl,by decide +kernel,rfl,by decide +kernel,by decide +kernel⟩
theorem Qo:Cp ["script","cell","well","some","low"] ["script"] (Am LC):=⟨rfl,rfl,rfl,by decide +kernel,rfl,by decide +kernel,by decide +kernel⟩
section
variable{P:Program}{w:World}{K:U0b}{mg:Str->Option Value}{base:Heap}
set_option maxHeartbeats 4000000 in
theorem Zf{f:Addr}{fd:FuncData}(F:Fun K "is_whole" "is_whole" J5 f fd)(B:Blt mg):DY P w K mg base CX0 1 f fd ["thing"] (spP K Gy 1) :=
 fnP F Za fun cdv A outer s H E hr =>
  (BW (Ca (PJ (Dd QL Rg rfl (B.is "isinstance") Jj (Ad (Ae 0) (Ad (XJ (n:="int") rfl (B.is "int") Xy) Aj))) (Qx (uo (Dd QL Rg rfl (B.is "isinstance") Jj (Ad (Ae 0) (Ad (XJ (n:="bool") rfl (B.is "bool") qU) Aj))))))))
set_option maxHeartbeats 4000000 in
theorem X6{f:Addr}{fd:FuncData}(F:Fun K "are_wholes" "are_wholes" GD f fd)(B:Blt mg)(c_is_whole:Bf P w K mg base "is_whole" 1 Gy):DY P w K mg base CX0 2 f fd ["thing","many"] (spP K FN 2) :=
 fnP F X3 fun cdv A outer s H E hr =>
  (BW (Ca (PJ (Dd QL Rg rfl (B.is "isinstance") Jj (Ad (Ae 0) (Ad (XJ (n:="tuple") rfl (B.is "tuple") lH) Aj))) (PJ (KN (JZ hr) JX (Dd GF Km rfl (B.is "len") Nb (Ad (Ae 0) Aj)) (Ae 1) (Bw _)) (Qx (Dd (Tp rfl) Vj rfl (B.is "all") Xz (Ad (Fg rfl (Dp.of (sc:=Am GD) (N:=["thing","many"]) (N2:=["part"]) (k:=1) (caps:=[]) (by decide +kernel)) rfl (Ef (Ae 0)) ⟨fun _ _ _ _ _=>⟨(Bx (i:=0) (show U23 (["part"]:List Str) by decide +kernel)),Hi,(Cr c_is_whole hr (by omega) rfl (Ad (Ae 0) Aj))⟩⟩) Aj)))))))
set_option maxHeartbeats 4000000 in
theorem X5{f:Addr}{fd:FuncData}(F:Fun K "is_skyline" "is_skyline" FZ f fd)(B:Blt mg)(Bz:mg "zip"=none)(c_are_wholes:Bf P w K mg base "are_wholes" 2 FN):DY P w K mg base CX0 3 f fd ["thing"] (spP K FJ 1) :=
 fnP F Wz fun cdv A outer s H E hr =>
  (Ao (Ft (K8 (Q5 (NZ (Lq (Dd QL Rg rfl (B.is "isinstance") Jj (Ad (Ae 0) (Ad (XJ (n:="list") rfl (B.is "list") bC) Aj))))) (NT (NZ (Lq (Dd (Tp rfl) Vj rfl (B.is "all") Xz (Ad (Fg rfl (Dp.of (sc:=Am FZ) (N:=["thing"]) (N2:=["part"]) (k:=1) (caps:=[]) (by decide +kernel)) rfl (Ef (Ae 0)) ⟨fun _ _ _ _ _=>⟨(Bx (i:=0) (show U23 (["part"]:List Str) by decide +kernel)),Hi,(PJ (Cr c_are_wholes hr (by omega) rfl (Ad (Ae 0) (Ad Ag Aj))) (Qx (KN UL Qn (Ax Av Aq (Ae 0) Ag (fun _ _=>rfl)) Ag (Bw _))))⟩⟩) Aj)))))))
   (BW (Ca Il))
   Dv)
   (Ao (Ft (Ce (JZ hr) JX (Dd GF Km rfl (B.is "len") Nb (Ad (Ae 0) Aj)) Ag (Bw _))
   (BW (Ca Il))
   Dv)
   (Ao (Ft (K8 (Q5 (Ce (JZ hr) JX (Ax Av Aq (Ax Av Aq (Ae 0) Ag (fun _ _=>rfl)) Ag (fun _ _=>rfl)) Ag (Bw _)) (NT (Ce (KJ hr) Lj (Ax Av Aq (Ax Av Aq (Ae 0) (O1 Li Jt Ag) (fun _ _=>rfl)) Ag (fun _ _=>rfl)) Ag (Bw _)))))
   (BW (Ca Il))
   Dv)
   (BW (Ca (Dd (Tp rfl) Vj rfl (B.is "all") Xz (Ad (Fg rfl (Dp.of (sc:=Am FZ) (N:=["thing"]) (N2:=["before","behind"]) (k:=2) (caps:=[]) (by decide +kernel)) rfl (eG rfl Bz (Ad (Ae 0) (Ad (QF Ue Uh (Ae 0) (Rt Ag) Ru) Aj))) ⟨fun _ _ _ _ _=>⟨(Us rfl (Ih (Bx (i:=0) (show U23 (["before","behind"]:List Str) by decide +kernel)) (Ih (Bx (i:=1) (show U23 (["before","behind"]:List Str) by decide +kernel)) Rv))),Hi,(PJ (KN bU Xk (Ax Av Aq (Ae 0) Ag (fun _ _=>rfl)) (Ax Av Aq (Ae 1) Ag (fun _ _=>rfl)) (Bw _)) (Qx (KN (KJ hr) Lj (Ax Av Aq (Ae 0) Ag (fun _ _=>rfl)) (Ax Av Aq (Ae 1) Ag (fun _ _=>rfl)) (Bw _))))⟩⟩) Aj)))))))
set_option maxHeartbeats 4000000 in
theorem VJ{f:Addr}{fd:FuncData}(F:Fun K "need_skyline" "need_skyline" Fy f fd)(B:Blt mg)(c_is_skyline:Bf P w K mg base "is_skyline" 3 FJ):DY P w K mg base CX0 4 f fd ["skyline"] (spP K CW 1) :=
 fnP F VH fun cdv A outer s H E hr =>
  (BW (Ft (NZ (Lq (Cr c_is_skyline hr (by omega) rfl (Ad (Ae 0) Aj))))
   (BW jw)
   Dv))
set_option maxHeartbeats 4000000 in
theorem Ry{f:Addr}{fd:FuncData}(F:Fun K "standing_under" "standing_under" Dq f fd)(B:Blt mg)(Bz:mg "zip"=none):DY P w K mg base CX0 1 f fd ["skyline"] (spP K Dr 1) :=
 fnP F MF fun cdv A outer s H E hr =>
  (Ao (Lg (i:=1) rfl MF.nd (Dp.of (sc:=Am Dq) (N:=["skyline","steps"]) (N2:=["before","behind"]) (k:=2) (caps:=[]) (by decide +kernel)) rfl (eG rfl Bz (Ad (Ae 0) (Ad (QF Ue Uh (Ae 0) (Rt Ag) Ru) Aj))) ⟨fun _ _ _ _ _=>⟨(Us rfl (Ih (Bx (i:=0) (show U23 (["before","behind"]:List Str) by decide +kernel)) (Ih (Bx (i:=1) (show U23 (["before","behind"]:List Str) by decide +kernel)) Rv))),Hi,(Cw (Ad (Ax Av Aq (Ae 0) Ag (fun _ _=>rfl)) (Ad (Ax Av Aq (Ae 1) Ag (fun _ _=>rfl)) (Ad (Ax Av Aq (Ae 0) Ag (fun _ _=>rfl)) Aj))) (Ai `aS))⟩⟩)
   (BW (Ca (Fg rfl (Dp.of (sc:=Am Dq) (N:=["skyline","steps"]) (N2:=["step"]) (k:=1) (caps:=[]) (by decide +kernel)) rfl (Ef (Ae 1)) ⟨fun _ _ _ _ _=>⟨(Bx (i:=0) (show U23 (["step"]:List Str) by decide +kernel)),(Mv (Ce LK JV (Ax Av Aq (Ae 0) Ag (fun _ _=>rfl)) Ag (Bw _))),(Ae 0)⟩⟩))))
set_option maxHeartbeats 4000000 in
theorem Z6{f:Addr}{fd:FuncData}(F:Fun K "houses_of" "houses_of" Hu f fd)(B:Blt mg)(c_need_skyline:Bf P w K mg base "need_skyline" 4 CW)(c_standing_under:Bf P w K mg base "standing_under" 1 Dr):DY P w K mg base CX0 5 f fd ["skyline"] (spP K Du 1) :=
 fnP F Yx fun cdv A outer s H E hr =>
  (Ao (Ja (Cr c_need_skyline hr (by omega) rfl (Ad (Ae 0) Aj)))
   (BW (Ca (Cr c_standing_under hr (by omega) rfl (Ad (Ae 0) Aj)))))
set_option maxHeartbeats 4000000 in
theorem Yz{f:Addr}{fd:FuncData}(F:Fun K "widest_at" "widest_at" Hj f fd)(B:Blt mg):DY P w K mg base CX0 1 f fd ["skyline","place"] (spP K Et 2) :=
 fnP F Gz fun cdv A outer s H E hr =>
  (Ao (Bu (i:=2) Gz.nd (Ax Av Aq (Ax Av Aq (Ae 0) (Ae 1) (fun _ _=>rfl)) Ag (fun _ _=>rfl)))
   (Ao (Bu (i:=3) Gz.nd (Ae 1))
   (Ao (Yj 100000 U2z (K8 (Qw (Ce LK JV (Ae 3) Ag (Bw _)) (Rq (Ce UL Qn (Ax Av Aq (Ax Av Aq (Ae 0) (Bp Qq PL (Ae 3) Ag) (fun _ _=>rfl)) Ag (fun _ _=>rfl)) (Ae 2) (Bw _))))) (BW (Bu (i:=3) Gz.nd (Bp Qq PL (Ae 3) Ag))))
   (Ao (Bu (i:=4) Gz.nd (Ae 1))
   (Ao (Yj 100000 U2z (Ce UL Qn (Ax Av Aq (Ax Av Aq (Ae 0) (Ae 4) (fun _ _=>rfl)) Ag (fun _ _=>rfl)) (Ae 2) (Bw _)) (BW (Bu (i:=4) Gz.nd (Bp DK DG (Ae 4) Ag))))
   (BW (Ca (Cw (Ad (Ax Av Aq (Ax Av Aq (Ae 0) (Ae 3) (fun _ _=>rfl)) Ag (fun _ _=>rfl)) (Ad (Ax Av Aq (Ax Av Aq (Ae 0) (Ae 4) (fun _ _=>rfl)) Ag (fun _ _=>rfl)) (Ad (Ae 2) Aj))) (Ai `aS)))))))))
set_option maxHeartbeats 4000000 in
theorem Tw{f:Addr}{fd:FuncData}(F:Fun K "fewest_houses" "fewest_houses" Dz f fd)(B:Blt mg)(Be:mg "enumerate"=none)(c_need_skyline:Bf P w K mg base "need_skyline" 4 CW)(c_widest_at:Bf P w K mg base "widest_at" 1 Et):DY P w K mg base CX0 5 f fd ["skyline"] (spP K Bt 1) :=
 fnP F Nt fun cdv A outer s H E hr =>
  (Ao (Ja (Cr c_need_skyline hr (by omega) rfl (Ad (Ae 0) Aj)))
   (Ao (Lg (i:=1) rfl Nt.nd (Dp.of (sc:=Am Dz) (N:=["skyline","places"]) (N2:=["place","corner"]) (k:=2) (caps:=[]) (by decide +kernel)) rfl (pq rfl Be (Ad (Ae 0) Aj)) ⟨fun _ _ _ _ _=>⟨(Us rfl (Ih (Bx (i:=0) (show U23 (["place","corner"]:List Str) by decide +kernel)) (Ih (Bx (i:=1) (show U23 (["place","corner"]:List Str) by decide +kernel)) Rv))),(Mv (Ce LK JV (Ax Av Aq (Ae 1) Ag (fun _ _=>rfl)) Ag (Bw _))),(Ae 0)⟩⟩)
   (BW (Ca (Zh rfl (ux hr) (Fg rfl (Dp.of (sc:=Am Dz) (N:=["skyline","places"]) (N2:=["place","skyline"]) (k:=1) (caps:=[0]) (by decide +kernel)) rfl (Ef (Ae 1)) ⟨fun _ _ _ _ _=>⟨(Bx (i:=0) (show U23 (["place","skyline"]:List Str) by decide +kernel)),Hi,(Cr c_widest_at hr (by omega) rfl (Ad (Ae 1) (Ad (Ae 0) Aj)))⟩⟩) rfl (B.is "sorted") rfl (B.is "set"))))))
set_option maxHeartbeats 4000000 in
theorem Z2{f:Addr}{fd:FuncData}(F:Fun K "_law_mixed" "_law_mixed" Hq f fd)(B:Blt mg):DY P w K mg base CX0 1 f fd ["cell","k"] (spP K GQ 2) :=
 fnP F Nk fun cdv A outer s H E hr =>
  (Ao (Bu (i:=2) Nk.nd (Bp NQ Kl (Bp DK DG (Bp DK DG (Bp NQ Kl (Ae 0) Ag) (Bp Ip Io (Bp Ip Io Ag (Ae 1)) (Ae 1))) (Bp Ip Io Ag (Ae 1))) Ag))
   (Ao (Bu (i:=2) Nk.nd (Bp NQ Kl (Bp Ip Io (Ae 2) (Ae 2)) Ag))
   (BW (Ca (Bp YX aA (Bp NQ Kl (Bp Ip Io (Ae 2) (Bp DK DG (Ae 2) Ag)) Ag) Ag)))))
set_option maxHeartbeats 4000000 in
theorem Zc{f:Addr}{fd:FuncData}(F:Fun K "_law_well" "_law_well" J3 f fd)(B:Blt mg):DY P w K mg base CX0 1 f fd ["cell"] (spP K FW 1) :=
 fnP F ZX fun cdv A outer s H E hr =>
  (BW (Ca (Dh (Ad (Bp Ip Io (Ae 0) (WW Wo Zz rfl (B.is "int") Xy (Ad (KN UL Qn (Ae 0) (Bp Oz Mp Ag Ag) (Bw _)) Aj))) (Ad (Ae 0) (Ad Ag Aj))) (Ai `aS))))
set_option maxHeartbeats 4000000 in
theorem Ze{f:Addr}{fd:FuncData}(F:Fun K "_law_draw" "_law_draw" J4 f fd)(B:Blt mg)(c_law_mixed:Bf P w K mg base "_law_mixed" 1 GQ):DY P w K mg base CX0 2 f fd ["well","many"] (spM K Ak 2) :=
 fnM F S8 fun cdv A outer s H E hr =>
  (Ao (Ft (Ce LK JV (Ax Av Aq (Ae 0) Ag (fun _ _=>rfl)) Ag (Bw _))
   (Ao (Bu (i:=2) S8.nd (Bp NQ Kl (Ax Av Aq (Ae 0) Ag (fun _ _=>rfl)) (Ae 1)))
   (Ao (Yk (Bp YX aA (Ax Av Aq (Ae 0) Ag (fun _ _=>rfl)) (Ae 1)) (Ae 0) Ag)
   (BW (Ca (Ae 2)))))
   Dv)
   (Ao (Yk (Bp DK DG (Ax Av Aq (Ae 0) Ag (fun _ _=>rfl)) Ag) (Ae 0) Ag)
   (BW (Ca (Bp NQ Kl (Bp Ip Io (Cr c_law_mixed hr (by omega) rfl (Ad (Ax Av Aq (Ae 0) Ag (fun _ _=>rfl)) (Ad (Ax Av Aq (Ae 0) Ag (fun _ _=>rfl)) Aj))) (Ax Av Aq (Dh (Ad Ag (Ad Ag Aj)) `aS) (WW Wo Zz rfl (B.is "int") Xy (Ad (KN LK JV (Ae 1) (Bp Oz Mp Ag Ag) (Bw _)) Aj)) (fun _ _=>rfl))) (Ae 1))))))
set_option maxHeartbeats 4000000 in
theorem Z1{f:Addr}{fd:FuncData}(F:Fun K "_law_reach" "_law_reach" Ho f fd)(B:Blt mg)(c_law_draw:K7 P w K mg base "_law_draw" 2 Ak):DY P w K mg base CX0 3 f fd ["well"] (spM K Dt 1) :=
 fnM F Yw fun cdv A outer s H E hr =>
  (BW (Ca (Ax Av Aq (Dh (Ad (Cw (Ad Ag (Ad Ag Aj)) `aS) (Ad (Cw (Ad (O1 Li Jt Ag) (Ad Ag Aj)) `aS) (Ad (Cw (Ad Ag (Ad Ag Aj)) `aS) (Ad (Cw (Ad (O1 Li Jt Ag) (Ad Ag Aj)) `aS) (Ad (Cw (Ad (O1 Li Jt (Bp Oz Mp Ag Ag)) (Ad (Bp Ip Io Ag (Bp Oz Mp Ag Ag)) Aj)) `aS) Aj))))) (Ai (Ai (Ai `aS)))) (Dl c_law_draw hr (by omega) rfl (Ad (Ae 0) (Ad Ag Aj))) (fun _ _=>rfl))))
set_option maxHeartbeats 4000000 in
theorem W0{f:Addr}{fd:FuncData}(F:Fun K "_law_stretch" "_law_stretch" GR f fd)(B:Blt mg)(c_law_draw:K7 P w K mg base "_law_draw" 2 Ak):DY P w K mg base CX0 3 f fd ["well","reach"] (spM K Dy 2) :=
 fnM F J6 fun cdv A outer s H E hr =>
  (Ao (Bu (i:=2) J6.nd (Bp DK DG (Ax Av Aq (Ae 1) Ag (fun _ _=>rfl)) (Dl c_law_draw hr (by omega) rfl (Ad (Ae 0) (Ad (Ax Av Aq (Ae 1) Ag (fun _ _=>rfl)) Aj)))))
   (Ao (Bu (i:=3) J6.nd (Bp DK DG (Ax Av Aq (Ae 1) Ag (fun _ _=>rfl)) (Dl c_law_draw hr (by omega) rfl (Ad (Ae 0) (Ad (Ax Av Aq (Ae 1) Ag (fun _ _=>rfl)) Aj)))))
   (Ao (Ft (Ce (JZ hr) JX (Ae 2) (Ae 3) (Bw _))
   (BW (Bu (i:=3) J6.nd (Bp DK DG (Ae 2) Ag)))
   Dv)
   (BW (Ca (Cw (Ad (Dd (Wn rfl) YH rfl (B.is "min") Xx (Ad (Ae 2) (Ad (Ae 3) Aj))) (Ad (Dd (iB rfl) jN rfl (B.is "max") vJ (Ad (Ae 2) (Ad (Ae 3) Aj))) Aj)) `aS))))))
set_option maxHeartbeats 4000000 in
theorem Z4{f:Addr}{fd:FuncData}(F:Fun K "_law_house" "_law_house" Hr f fd)(B:Blt mg)(c_law_stretch:K7 P w K mg base "_law_stretch" 3 Dy)(c_law_draw:K7 P w K mg base "_law_draw" 2 Ak):DY P w K mg base CX0 4 f fd ["well","reach","houses"] (spM K Eu 3) :=
 fnM F Ep fun cdv A outer s H E hr =>
  (Ao (uh (Dl c_law_stretch hr (by omega) rfl (Ad (Ae 0) (Ad (Ae 1) Aj))) (Us rfl (Ih (Bx (i:=3) Ep.nd) (Ih (Bx (i:=4) Ep.nd) Rv))))
   (Ao (Bu (i:=5) Ep.nd (Bp DK DG Ag (Ax Av Aq (Dh (Ad (Dl c_law_draw hr (by omega) rfl (Ad (Ae 0) (Ad Ag Aj))) (Ad (Dl c_law_draw hr (by omega) rfl (Ad (Ae 0) (Ad Ag Aj))) (Ad (Dl c_law_draw hr (by omega) rfl (Ad (Ae 0) (Ad (Bp Oz Mp Ag Ag) Aj))) Aj))) (Ai `aS)) (Dl c_law_draw hr (by omega) rfl (Ad (Ae 0) (Ad Ag Aj))) (fun _ _=>rfl))))
   (Ao (Bu (i:=6) Ep.nd (Dl c_law_draw hr (by omega) rfl (Ad (Ae 0) (Ad Ag Aj))))
   (Ao (Ft (K8 (Q5 (Ce (JZ hr) JX (Ae 2) (Dh Aj Ay) (Bw _)) (NT (Ce LK JV (Ae 6) Ag (Bw _)))))
   (BW (Ca (Cw (Ad (Ae 3) (Ad (Ae 4) (Ad (Ae 5) Aj))) (Ai `aS))))
   Dv)
   (Ao (Bu (i:=7) Ep.nd (Ax Av Aq (Ae 2) (Dl c_law_draw hr (by omega) rfl (Ad (Ae 0) (Ad (Dd GF Km rfl (B.is "len") Nb (Ad (Ae 2) Aj)) Aj))) (fun _ _=>rfl)))
   (Ao (Bu (i:=8) Ep.nd (Dd (Wn rfl) YH rfl (B.is "min") Xx (Ad (Bp Oz Mp Ag Ag) (Ad (Bp DK DG (Bp DK DG (Ax Av Aq (Ae 7) Ag (fun _ _=>rfl)) Ag) (Dl c_law_draw hr (by omega) rfl (Ad (Ae 0) (Ad Ag Aj)))) Aj))))
   (Ao (Bu (i:=9) Ep.nd (Bp DK DG (Bp DK DG (Ax Av Aq (Ae 7) Ag (fun _ _=>rfl)) Ag) (Dl c_law_draw hr (by omega) rfl (Ad (Ae 0) (Ad (Bp Qq PL (Ax Av Aq (Ae 7) Ag (fun _ _=>rfl)) (Ax Av Aq (Ae 7) Ag (fun _ _=>rfl))) Aj)))))
   (Ao (Bu (i:=10) Ep.nd (Ks (Ad (Ae 7) (Ad (Cw (Ad (Ax Av Aq (Ae 7) Ag (fun _ _=>rfl)) (Ad (Ax Av Aq (Ae 7) Ag (fun _ _=>rfl)) (Ad (Ae 5) Aj))) (Ai `aS)) (Ad (Cw (Ad (Ae 3) (Ad (Ae 4) (Ad (Ax Av Aq (Ae 7) Ag (fun _ _=>rfl)) Aj))) (Ai `aS)) (Ad (Cw (Ad (Ax Av Aq (Ae 7) Ag (fun _ _=>rfl)) (Ad (Ae 8) (Ad (Ae 5) Aj))) (Ai `aS)) Aj)))) (Ai (Ai `aS))))
   (Ao (Ja (Kr U28 U34 U35 Jy Jw (Ae 10) (Ad (Cw (Ad (Ax Av Aq (Ae 7) Ag (fun _ _=>rfl)) (Ad (Ae 9) (Ad (Ae 5) Aj))) (Ai `aS)) Aj)))
   (Ao (Ft (Ce UL Qn (Ax Av Aq (Ax Av Aq (Ae 10) (Ae 6) (fun _ _=>rfl)) Ag (fun _ _=>rfl)) (Ax Av Aq (Ax Av Aq (Ae 10) (Ae 6) (fun _ _=>rfl)) Ag (fun _ _=>rfl)) (Bw _))
   (BW (Ca (Ae 7)))
   Dv)
   (BW (Ca (Ax Av Aq (Ae 10) (Ae 6) (fun _ _=>rfl))))))))))))))
set_option maxHeartbeats 4000000 in
theorem X4{f:Addr}{fd:FuncData}(F:Fun K "_law_houses" "_law_houses" HF f fd)(B:Blt mg)(c_law_draw:K7 P w K mg base "_law_draw" 2 Ak)(c_law_house:K7 P w K mg base "_law_house" 4 Eu):DY P w K mg base CX0 5 f fd ["well","reach","most"] (spM K Ej 3) :=
 fnM F Jg fun cdv A outer s H E hr =>
  (Ao (Bu (i:=3) Jg.nd (Ax Av Aq (Dh (Ad (Dl c_law_draw hr (by omega) rfl (Ad (Ae 0) (Ad Ag Aj))) (Ad (Dl c_law_draw hr (by omega) rfl (Ad (Ae 0) (Ad (Bp DK DG (Ae 2) Ag) Aj))) (Ad (Ae 2) Aj))) (Ai `aS)) (Dl c_law_draw hr (by omega) rfl (Ad (Ae 0) (Ad Ag Aj))) (fun _ _=>rfl)))
   (Ao (Bu (i:=4) Jg.nd (Ks Aj Ay))
   (Ao (IK rfl (O7 rfl (B.is "range") (Ad (Ae 3) Aj)) (Bx (i:=5) Jg.nd)
   (BW (Ja (Kr U28 U34 U35 Jy Jw (Ae 4) (Ad (Dl c_law_house hr (by omega) rfl (Ad (Ae 0) (Ad (Ae 1) (Ad (Ae 4) Aj)))) Aj)))) U2z)
   (BW (Ca (Ae 4))))))
set_option maxHeartbeats 4000000 in
theorem Zd{f:Addr}{fd:FuncData}(F:Fun K "_law_line" "_law_line" Gb f fd)(B:Blt mg):DY P w K mg base CX0 1 f fd ["houses"] (spP K CJ 1) :=
 fnP F Gk fun cdv A outer s H E hr =>
  (Ao (Bu (i:=1) Gk.nd (Zi rfl (Bp DK DG (Fg rfl (Dp.of (sc:=Am Gb) (N:=["houses","marks","found","mark","height","house"]) (N2:=["house"]) (k:=1) (caps:=[]) (by decide +kernel)) rfl (Ef (Ae 0)) ⟨fun _ _ _ _ _=>⟨(Bx (i:=0) (show U23 (["house"]:List Str) by decide +kernel)),Hi,(Ax Av Aq (Ae 0) Ag (fun _ _=>rfl))⟩⟩) (Fg rfl (Dp.of (sc:=Am Gb) (N:=["houses","marks","found","mark","height","house"]) (N2:=["house"]) (k:=1) (caps:=[]) (by decide +kernel)) rfl (Ef (Ae 0)) ⟨fun _ _ _ _ _=>⟨(Bx (i:=0) (show U23 (["house"]:List Str) by decide +kernel)),Hi,(Ax Av Aq (Ae 0) Ag (fun _ _=>rfl))⟩⟩)) rfl (B.is "sorted") rfl (B.is "set")))
   (Ao (Bu (i:=2) Gk.nd (Ks Aj Ay))
   (Ao (IK rfl (Ef (Ae 1)) (Bx (i:=3) Gk.nd)
   (Ao (Bu (i:=4) Gk.nd Ag)
   (Ao (IK rfl (Ef (Ae 0)) (Bx (i:=5) Gk.nd)
   (BW (Ft (K8 (Qw (Ce lq dN (Ax Av Aq (Ae 5) Ag (fun _ _=>rfl)) (Ae 3) (Bw _)) (Qw (Ce bU Xk (Ae 3) (Ax Av Aq (Ae 5) Ag (fun _ _=>rfl)) (Bw _)) (Rq (Ce LK JV (Ax Av Aq (Ae 5) Ag (fun _ _=>rfl)) (Ae 4) (Bw _))))))
   (BW (Bu (i:=4) Gk.nd (Ax Av Aq (Ae 5) Ag (fun _ _=>rfl))))
   Dv)) U2z)
   (BW (Ft (Ce (KJ hr) Lj (Ae 4) (Ax Av Aq (Ax Av Aq (Bp DK DG (Dh (Ad (Cw (Ad Ag (Ad Ag Aj)) `aS) Aj) (Ai Ay)) (Ae 2)) (O1 Li Jt Ag) (fun _ _=>rfl)) Ag (fun _ _=>rfl)) (Bw _))
   (BW (Ja (Kr U28 U34 U35 Jy Jw (Ae 2) (Ad (Cw (Ad (Ae 3) (Ad (Ae 4) Aj)) `aS) Aj))))
   Dv)))) U2z)
   (BW (Ca (Ae 2))))))
set_option maxHeartbeats 4000000 in
theorem Aw{f:Addr}{fd:FuncData}(F:Fun K "_law_over" "_law_over" HW f fd)(B:Blt mg){n k:Nat}(hk:0<=k)(c_law_over:Bf P w K mg base "_law_over" k (Al n)):DY P w K mg base CX0 (k+1) f fd ["cells","base"] (spP K (Al (n+1)) 2) :=
 fnP F Gj fun cdv A outer s H E hr =>
  (Ao (Bu (i:=2) Gj.nd (Dh Aj Ay))
   (Ao (Bu (i:=3) Gj.nd (Ks Aj Ay))
   (Ao (IK rfl (Ef (Bp DK DG (Ae 0) (Dh (Ad (Cw (Ad eH (Ad eH (Ad (Ae 1) Aj))) (Ai `aS)) Aj) (Ai Ay)))) (Bx (i:=4) Gj.nd)
   (Ao (Ft (K8 (Qw (Ce (KJ hr) Lj (Ae 3) (Dh Aj Ay) (Bw _)) (Rq (K8 (Q5 (Ce lq dN (Ax Av Aq (Ae 4) Ag (fun _ _=>rfl)) (Ae 1) (Bw _)) (NT (Ce (KJ hr) Lj (Ax Av Aq (Ax Av Aq (Ae 3) (O1 Li Jt Ag) (fun _ _=>rfl)) Ag (fun _ _=>rfl)) (Ax Av Aq (Ae 4) Ag (fun _ _=>rfl)) (Bw _))))))))
   (Ao (Bu (i:=5) Gj.nd (Dd (gq rfl rfl) jM rfl (B.is "min") Xx (Ad (Fg rfl (Dp.of (sc:=Am HW) (N:=["cells","base","found","part","cell","least"]) (N2:=["one"]) (k:=1) (caps:=[]) (by decide +kernel)) rfl (Ef (Ae 3)) ⟨fun _ _ _ _ _=>⟨(Bx (i:=0) (show U23 (["one"]:List Str) by decide +kernel)),Hi,(Ax Av Aq (Ae 0) Ag (fun _ _=>rfl))⟩⟩) Aj)))
   (Ao (Bu (i:=2) Gj.nd (Bp DK DG (Bp DK DG (Ae 2) (Dh (Ad (Cw (Ad (Ax Av Aq (Ax Av Aq (Ae 3) Ag (fun _ _=>rfl)) Ag (fun _ _=>rfl)) (Ad (Ax Av Aq (Ax Av Aq (Ae 3) (O1 Li Jt Ag) (fun _ _=>rfl)) Ag (fun _ _=>rfl)) (Ad (Ae 5) Aj))) (Ai `aS)) Aj) (Ai Ay))) (Cr c_law_over hr (by omega) rfl (Ad (Ae 3) (Ad (Ae 5) Aj)))))
   (BW (Bu (i:=3) Gj.nd (Ks Aj Ay)))))
   Dv)
   (BW (Ft (Ce LK JV (Ax Av Aq (Ae 4) Ag (fun _ _=>rfl)) (Ae 1) (Bw _))
   (BW (Ja (Kr U28 U34 U35 Jy Jw (Ae 3) (Ad (Ae 4) Aj))))
   Dv))) U2z)
   (BW (Ca (Ae 2))))))
set_option maxHeartbeats 4000000 in
theorem Z5{f:Addr}{fd:FuncData}(F:Fun K "_law_cells" "_law_cells" Ht f fd)(B:Blt mg):DY P w K mg base CX0 1 f fd ["skyline"] (spP K Ew 1) :=
 fnP F Nm fun cdv A outer s H E hr =>
  (Ao (Bu (i:=1) Nm.nd (Ks Aj Ay))
   (Ao (IK rfl (O7 rfl (B.is "range") (Ad (Bp Qq PL (Dd GF Km rfl (B.is "len") Nb (Ad (Ae 0) Aj)) Ag) Aj)) (Bx (i:=2) Nm.nd)
   (BW (Ft (Ce (KJ hr) Lj (Ax Av Aq (Ax Av Aq (Ae 0) (Ae 2) (fun _ _=>rfl)) Ag (fun _ _=>rfl)) Ag (Bw _))
   (BW (Ja (Kr U28 U34 U35 Jy Jw (Ae 1) (Ad (Cw (Ad (Ax Av Aq (Ax Av Aq (Ae 0) (Ae 2) (fun _ _=>rfl)) Ag (fun _ _=>rfl)) (Ad (Ax Av Aq (Ax Av Aq (Ae 0) (Bp DK DG (Ae 2) Ag) (fun _ _=>rfl)) Ag (fun _ _=>rfl)) (Ad (Ax Av Aq (Ax Av Aq (Ae 0) (Ae 2) (fun _ _=>rfl)) Ag (fun _ _=>rfl)) Aj))) (Ai `aS)) Aj))))
   Dv)) U2z)
   (BW (Ca (Ae 1)))))
set_option maxHeartbeats 4000000 in
theorem Rz{f:Addr}{fd:FuncData}(F:Fun K "_law_none_fewer" "_law_none_fewer" Cj f fd)(B:Blt mg)(c_law_line:Bf P w K mg base "_law_line" 1 CJ):DY P w K mg base CX0 2 f fd ["skyline","houses"] (spP K Cy 2) :=
 fnP F CK fun cdv A outer s H E hr =>
  (Ao (Lg (i:=2) rfl CK.nd (Dp.of (sc:=Am Cj) (N:=["skyline","houses","numbers","heights","every","low","high","lists","k","longer","some"]) (N2:=["one"]) (k:=1) (caps:=[]) (by decide +kernel)) rfl (Ef (Ae 0)) ⟨fun _ _ _ _ _=>⟨(Bx (i:=0) (show U23 (["one"]:List Str) by decide +kernel)),Hi,(Ax Av Aq (Ae 0) Ag (fun _ _=>rfl))⟩⟩)
   (Ao (Bu (i:=3) CK.nd (cW rfl (Fg rfl (Dp.of (sc:=Am Cj) (N:=["skyline","houses","numbers","heights","every","low","high","lists","k","longer","some"]) (N2:=["one"]) (k:=1) (caps:=[]) (by decide +kernel)) rfl (Ef (Ae 0)) ⟨fun _ _ _ _ _=>⟨(Bx (i:=0) (show U23 (["one"]:List Str) by decide +kernel)),(Mv (Ce LK JV (Ax Av Aq (Ae 0) Ag (fun _ _=>rfl)) Ag (Bw _))),(Ax Av Aq (Ae 0) Ag (fun _ _=>rfl))⟩⟩) rfl (B.is "sorted") rfl (B.is "set")))
   (Ao (Bu (i:=4) CK.nd (Dh Aj Ay))
   (Ao (IK rfl (Ef (Ae 2)) (Bx (i:=5) CK.nd)
   (BW (IK rfl (Ef (Ae 2)) (Bx (i:=6) CK.nd)
   (BW (Bu (i:=4) CK.nd (Bp DK DG (Ae 4) (Fg rfl (Dp.of (sc:=Am Cj) (N:=["skyline","houses","numbers","heights","every","low","high","lists","k","longer","some"]) (N2:=["height","low","high"]) (k:=1) (caps:=[5,6]) (by decide +kernel)) rfl (Ef (Ae 3)) ⟨fun _ _ _ _ _=>⟨(Bx (i:=0) (show U23 (["height","low","high"]:List Str) by decide +kernel)),(Mv (Ce bU Xk (Ae 1) (Ae 2) (Bw _))),(Cw (Ad (Ae 1) (Ad (Ae 2) (Ad (Ae 0) Aj))) (Ai `aS))⟩⟩)))) U2z)) U2z)
   (Ao (Bu (i:=7) CK.nd (Dh (Ad (Dh Aj Ay) Aj) (Ai Ay)))
   (Ao (IK rfl (O7 rfl (B.is "range") (Ad (Bp Qq PL (Dd GF Km rfl (B.is "len") Nb (Ad (Ae 1) Aj)) Ag) Aj)) (Bx (i:=8) CK.nd)
   (Ao (Ft (Ce LK JV (Bp Ip Io (Dd GF Km rfl (B.is "len") Nb (Ad (Ae 7) Aj)) (Dd GF Km rfl (B.is "len") Nb (Ad (Ae 4) Aj))) Ag (Bw _))
   (BW (Ca Il))
   Dv)
   (Ao (Bu (i:=9) CK.nd (Ks Aj Ay))
   (Ao (IK rfl (Ef (Ae 7)) (Bx (i:=10) CK.nd)
   (BW (Ja (Kr U28 PySem.F.slot_list_extend PySem.F.type_list_extend gG fQ (Ae 9) (Ad (Fg rfl (Dp.of (sc:=Am Cj) (N:=["skyline","houses","numbers","heights","every","low","high","lists","k","longer","some"]) (N2:=["one","some"]) (k:=1) (caps:=[10]) (by decide +kernel)) rfl (Ef (Ae 4)) ⟨fun _ _ _ _ _=>⟨(Bx (i:=0) (show U23 (["one","some"]:List Str) by decide +kernel)),(Mv (K8 (Q5 (Ce (JZ hr) JX (Ae 1) (Dh Aj Ay) (Bw _)) (NT (Ce (pD hr) nq (Ax Av Aq (Ae 1) (O1 Li Jt Ag) (fun _ _=>rfl)) (Ae 0) (Bw _)))))),(Bp DK DG (Ae 1) (Dh (Ad (Ae 0) Aj) (Ai Ay)))⟩⟩) Aj)))) U2z)
   (Ao (Bu (i:=7) CK.nd (Ae 9))
   (BW (Ft (Ce (KJ hr) Lj (Fg rfl (Dp.of (sc:=Am Cj) (N:=["skyline","houses","numbers","heights","every","low","high","lists","k","longer","some"]) (N2:=["some","skyline"]) (k:=1) (caps:=[0]) (by decide +kernel)) rfl (Ef (Ae 7)) ⟨fun _ _ _ _ _=>⟨(Bx (i:=0) (show U23 (["some","skyline"]:List Str) by decide +kernel)),(Mv (Ce (JZ hr) JX (Cr c_law_line hr (by omega) rfl (Ad (Ae 0) Aj)) (Ae 1) (Bw _))),Ag⟩⟩) (Dh Aj Ay) (Bw _))
   (BW (Ca Il))
   Dv)))))) U2z)
   (BW (Ca Il))))))))
set_option maxHeartbeats 4000000 in
theorem Z0{f:Addr}{fd:FuncData}(F:Fun K "_law_right" "_law_right" Hl f fd)(B:Blt mg)(c_law_cells:Bf P w K mg base "_law_cells" 1 Ew)(c_law_over:Bf P w K mg base "_law_over" 42 (Al 42))(c_fewest_houses:Bf P w K mg base "fewest_houses" 5 Bt)(c_houses_of:Bf P w K mg base "houses_of" 5 Du)(c_law_none_fewer:Bf P w K mg base "_law_none_fewer" 2 Cy)(c_law_line:Bf P w K mg base "_law_line" 1 CJ):DY P w K mg base CX0 43 f fd ["skyline","small"] (spP K Ed 2) :=
 fnP F HD fun cdv A outer s H E hr =>
  (Ao (Bu (i:=2) HD.nd (qC ZK jO rfl (B.is "list") bC (Ad (Ae 0) Aj)))
   (Ao (Bu (i:=3) HD.nd (Cr c_law_cells hr (by omega) rfl (Ad (Ae 0) Aj)))
   (Ao (Bu (i:=4) HD.nd (jx rfl (B.is "sorted") (Cr c_law_over hr (by omega) rfl (Ad (Ae 3) (Ad Ag Aj)))))
   (Ao (IK rfl (O7 rfl (B.is "range") (Ad Ag Aj)) (Bx (i:=5) HD.nd)
   (Ao (Bu (i:=6) HD.nd (Dh (Ad (Te c_houses_of hr (by omega) rfl (Ad (Ae 2) Aj)) (Ad (Te c_fewest_houses hr (by omega) rfl (Ad (Ae 2) Aj)) Aj)) `aS))
   (Ao (Ft (K8 (Q5 (Ce (KJ hr) nj (Dd (VD hr) YG rfl (B.is "repr") bB (Ad (Ae 6) Aj)) (Dd (VD hr) YG rfl (B.is "repr") bB (Ad (Dh (Ad (Ae 3) (Ad (Ae 4) Aj)) `aS) Aj)) (Bw _)) (NT (Ce (KJ hr) Lj (Ae 2) (Ae 0) (Bw _)))))
   (BW (Ca Il))
   Dv)
   (Ao (Ja (Kr U28 U34 U35 Jy Jw (Ax Av Aq (Ae 6) Ag (fun _ _=>rfl)) (Ad Ag Aj)))
   (BW (Ja (jy U28 PySem.F.slot_list_clear PySem.F.type_list_clear jj jL (Ax Av Aq (Ae 6) Ag (fun _ _=>rfl)))))))) U2z)
   (Ao (Ft (K8 (Qw (Lq (Ae 1)) (Rq (NZ (Lq (Cr c_law_none_fewer hr (by omega) rfl (Ad (Ae 0) (Ad (Ae 4) Aj))))))))
   (BW (Ca Il))
   Dv)
   (BW (Ca (PJ (KN (JZ hr) JX (Cr c_law_line hr (by omega) rfl (Ad (Ae 4) Aj)) (Ae 0) (Bw _)) (Qx (KN (JZ hr) JX (Cr c_law_line hr (by omega) rfl (Ad (Ae 3) Aj)) (Ae 0) (Bw _)))))))))))
set_option maxHeartbeats 4000000 in
theorem uP{f:Addr}{fd:FuncData}(F:Fun K "law" "law" LC f fd)(B:Blt mg)(c_law_well:Bf P w K mg base "_law_well" 1 FW)(c_law_houses:K7 P w K mg base "_law_houses" 5 Ej)(c_law_reach:K7 P w K mg base "_law_reach" 3 Dt)(c_law_right:Bf P w K mg base "_law_right" 43 Ed)(c_law_line:Bf P w K mg base "_law_line" 1 CJ)(c_fewest_houses:Bf P w K mg base "fewest_houses" 5 Bt):DY P w K mg base CX0 44 f fd ["script"] (spP K Vi 1) :=
 fnP F Qo fun cdv A outer s H E hr =>
  (Ao (IK rfl (Ef (Bp DK DG (Dh (Ad Ag Aj) (Ai Ay)) (QF Ue Uh (Ae 0) Ru (Rt Ag)))) (Bx (i:=1) Qo.nd)
   (Ao (Bu (i:=2) Qo.nd (Te c_law_well hr (by omega) rfl (Ad (Ae 1) Aj)))
   (Ao (Bu (i:=3) Qo.nd (Dl c_law_houses hr (by omega) rfl (Ad (Ae 2) (Ad (Dl c_law_reach hr (by omega) rfl (Ad (Ae 2) Aj)) (Ad Ag Aj)))))
   (Ao (Ft (NZ (Lq (Cr c_law_right hr (by omega) rfl (Ad (Cr c_law_line hr (by omega) rfl (Ad (Ae 3) Aj)) (Ad Il Aj)))))
   (BW (Ca Il))
   Dv)
   (Ao (Lg (i:=4) rfl Qo.nd (Dp.of (sc:=Am LC) (N:=["script","cell","well","some","low"]) (N2:=["one"]) (k:=1) (caps:=[]) (by decide +kernel)) rfl (Ef (Ae 3)) ⟨fun _ _ _ _ _=>⟨(Bx (i:=0) (show U23 (["one"]:List Str) by decide +kernel)),Hi,(Cw (Ad (Ax Av Aq (Ae 0) Ag (fun _ _=>rfl)) (Ad (Ax Av Aq (Ae 0) Ag (fun _ _=>rfl)) (Ad (Bp DK DG Ag (Bp NQ Kl (Ax Av Aq (Ae 0) Ag (fun _ _=>rfl)) Ag)) Aj))) (Ai `aS))⟩⟩)
   (BW (Ft (K8 (Q5 (NZ (Lq (Cr c_law_right hr (by omega) rfl (Ad (Cr c_law_line hr (by omega) rfl (Ad (Ae 4) Aj)) (Ad Il Aj))))) (NT (NZ (Lq (Cr c_law_right hr (by omega) rfl (Ad (Cr c_law_line hr (by omega) rfl (Ad (QF Ue Uh (Ae 4) Ru (Rt Ag)) Aj)) (Ad Il Aj))))))))
   (BW (Ca Il))
   Dv)))))) U2z)
   (BW (Ca (KN (JZ hr) JX (Cr c_fewest_houses hr (by omega) rfl (Ad (Dh (Ad (Cw (Ad Ag (Ad Ag Aj)) `aS) (Ad (Cw (Ad Ag (Ad Ag Aj)) `aS) (Ad (Cw (Ad Ag (Ad Ag Aj)) `aS) (Ad (Cw (Ad Ag (Ad Ag Aj)) `aS) (Ad (Cw (Ad Ag (Ad Ag Aj)) `aS) (Ad (Cw (Ad Ag (Ad Ag Aj)) `aS) Aj)))))) (Ai (Ai (Ai (Ai `aS))))) Aj)) (Dh (Ad (Cw (Ad Ag (Ad Ag (Ad Ag Aj))) (Ai `aS)) (Ad (Cw (Ad Ag (Ad Ag (Ad Ag Aj))) (Ai `aS)) (Ad (Cw (Ad Ag (Ad Ag (Ad Ag Aj))) (Ai `aS)) Aj))) (Ai `aS)) (Bw _)))))
end
end W29
end
section
namespace W29
open PySem L2 VS
theorem Z7(i:Int):Gy [.int i]=some (.bl true):=by
 simp[Gy,V8,Dk,EY,Jf,Ei,BX,GC,Mz,qO,Eh,den,-U0t,-U1d]
theorem dB{Zs:Type}(l:List Zs):Jo.boolsOf (l.map fun _=>D.bl true)=some (l.map fun _=>true):=by
 have:=Zn (l.map fun _=>true)
 rw[U0t] at this
 exact this
theorem Dj{sem:DX}{a:Bl}{env:VS.Env}{S S':Store}{ds es:List D}{r:D}(h:a env S=some (ds,S'))(hp:Bm ds=true)(ha:Cu ds=es)(hr:sem es=some r):Bd sem a env S=some (r,S'):=by
 rw[Lz,h]
 simp only[U0a,DQ 0 S' hp,ha,hr,hp,Bool.true_or,if_true]
end W29
end
section
namespace W29
open PySem L2 VS
theorem jk(c k:Int)(h0:0<=k)(h1:k<1000000000000):∃v,GQ [.int c,.int k]=some (.int v):=by
 have hk:-18446744073709551616<k/\k<18446744073709551616:=by omega
 have ha:∀t:Int,-18446744073709551616<t%2147483629/\t%2147483629<18446744073709551616:=fun t=>by omega
 have hb:∀t:Int,-18446744073709551616<t%2147483587/\t%2147483587<18446744073709551616:=fun t=>by omega
 simp[GQ,Sd,Fx,CP,Dk,EY,Jf,Ba,oI,M5,Vd,Vc,Bv,Gg,oDiv,oMod,VS.listOf,Eh,den,U03,-U0t,-U1d,hk,ha,hb]
theorem Fd(x y z m:Int)(h0:0<m)(h1:m<2^63)(z0:0<=z)(z1:z<100000000000):∃r x' z',Ak [x,y,z] [.int m]=some (.int r,[x',y,z'])/\(0<=r/\r<m)/\z<=z'/\z'<=z+1:=by
 have hm:m<18446744073709551616:=by omega
 by_cases h:0<x
 .refine⟨x%m,x/m,z,?_,⟨U7o _ (by omega),U6p _ h0⟩,by omega,by omega⟩
  simp[Ak,Mi,Fx,CP,Dk,Ox,PX,RD,EY,Jf,Ba,Ei,BX,GC,Cd,Ck,Lz,oI,Jk,M5,Vd,Vc,Oe,Bv,Gg,oDiv,oMod,G5,oGt,oIx,Pz,VS.listOf,En,Kp,intsOf,den,U03,-U0t,-U1d,h,h0,hm]
 .obtain⟨v,hv⟩:=jk y (z+1) (by omega) (by omega)
  by_cases h6:1000000<m
  .refine⟨v*8191%m,x,z+1,?_,⟨U7o _ (by omega),U6p _ h0⟩,by omega,by omega⟩
   simp[Ak,Mi,Fx,CP,Dk,Ox,PX,RD,EY,Jf,Ba,Ei,BX,GC,Cd,Ck,Lz,oI,Jk,M5,Vd,Vc,Oe,Bv,Gg,oDiv,oMod,G5,oGt,oIx,Pz,VS.listOf,En,Kp,intsOf,den,DW,age,Cu,Br,Bm,U03,-U0t,-U1d,h,h0,hm,hv,h6]
  .refine⟨v*1%m,x,z+1,?_,⟨U7o _ (by omega),U6p _ h0⟩,by omega,by omega⟩
   simp[Ak,Mi,Fx,CP,Dk,Ox,PX,RD,EY,Jf,Ba,Ei,BX,GC,Cd,Ck,Lz,oI,Jk,M5,Vd,Vc,Oe,Bv,Gg,oDiv,oMod,G5,oGt,oIx,Pz,VS.listOf,En,Kp,intsOf,den,DW,age,Cu,Br,Bm,U03,-U0t,-U1d,h,h0,hm,hv,h6]
theorem n6(c:Int):∃x,FW [.int c]=some (.lst true [.int x,.int c,.int 0]):=by
 by_cases h:(1000000000000000000:Int)<=c
 .simp[FW,QT,Dk,EY,Jf,Ba,Ei,BX,GC,Ck,oI,Jk,M5,Oe,Gg,G5,oGe,Pz,VS.listOf,Eh,den,DW,-U0t,-U1d,h]
 .simp[FW,QT,Dk,EY,Jf,Ba,Ei,BX,GC,Ck,oI,Jk,M5,Oe,Gg,G5,oGe,Pz,VS.listOf,Eh,den,DW,-U0t,-U1d,h]
end W29
end
section
namespace W29
open PySem L2 VS
theorem TJ{sem:DX}{a:Bl}{env:VS.Env}{S S':Store}{d d':D}{cs:List D}(h:Bd sem a env S=some (d,S'))(ht:Pu S'.length d=some (d',cs)):IW sem a env S=some (d',S'++[some cs]):=by
 rw[gU,h,U0a]
 show(Pu S'.length d).bind _=_
 rw[ht];rfl
theorem QM{sem:M6}{a:Bl}{env:VS.Env}{S S':Store}{i:Nat}{rest es:List D}{ns ms:List Int}{r:D}(h:a env S=some (.ref i::rest,S'))(hi:S'[i]?=some (some (ns.map D.int)))(hp:Bm rest=true)(ha:Cu rest=es)(hr:sem ns es=some (r,ms)):BK sem a env S=some (r,S'.set i (some (ms.map D.int))):=by
 rw[RN,h]
 simp only[U0a,hi,Mg,DQ 0 _ hp,ha,hr,hp,Bool.true_or,if_true]
theorem iC{sem:DX}{a:Bl}{env:VS.Env}{S S':Store}{ds es fs:List D}{r:D}(h:a env S=some (ds,S'))(hd:DW 0 S' ds=some es)(ha:Cu es=fs)(hr:sem fs=some r)(hn:newD r=true):Bd sem a env S=some (r,S'):=by
 rw[Lz,h]
 simp only[U0a,hd,ha,hr,hn,U9b,if_true]
theorem Rm{g:Store->D->List D->Option (D×Store)}{o:BL}{a:Bl}{env:VS.Env}{S S1 S2 S3:Store}{d r:D}{cs ds:List D}(h:o env S=some (d,S1))(hl:VS.listOf S1 d=some cs)(h2:a env S1=some (ds,S2))(h3:g S2 d ds=some (r,S3)):Fv g o a env S=some (r,S3):=by
 rw[Yp,h,U0a]
 show(if (VS.listOf S1 d).isSome=true then _ else _)=_
 rw[hl]
 show(a env S1).bind _=_
 rw[h2]
 exact h3
theorem J8(S:Store)(a:Option (List D))(l:List (Option (List D))):(S++a::l)[S.length]?=some a:=by simp
theorem iV(S:Store)(a b:Option (List D))(l:List (Option (List D))):(S++a::b::l)[S.length+1]?=some b:=by
 rw[U1h (by omega)]
 simp
theorem XS(S:Store)(a c:Option (List D))(l:List (Option (List D))):(S++a::l).set S.length c=S++c::l:=by
 rw[U7a _ _ (by omega)]
 simp
theorem yc(S:Store)(a b c:Option (List D))(l:List (Option (List D))):(S++a::b::l).set (S.length+1) c=S++a::c::l:=by
 rw[U7a _ _ (by omega)]
 simp
end W29
end
section
namespace W29
open PySem L2 VS
theorem Fe{x y z c r x' z':Int}{a:BL}{env:VS.Env}{S:Store}{j:Nat}(h:Ak [x,y,z] [.int c]=some (.int r,[x',y,z']))(h0:env[j]?=some (some `av))(ha:a env (some [.int x,.int y,.int z]::S)=some (.int c,some [.int x,.int y,.int z]::S)):BK Ak (Aa (Ab j) (Aa a Af)) env (some [.int x,.int y,.int z]::S)=some (.int r,some [.int x',.int y,.int z']::S):=by
 have v0:Ab j env (some [.int x,.int y,.int z]::S)=some (.ref 0,some [.int x,.int y,.int z]::S):=by rw[EY,h0];rfl
 exact QM (ns:=[x,y,z]) (rest:=[.int c]) (es:=[.int c]) (i:=0) (S':=some [.int x,.int y,.int z]::S) (by rw[BX,v0,U0a,BX,ha];rfl) rfl (by simp[Bm,Br]) (by simp[Cu,age]) h
theorem cC(x y z r0 r1:Int)(h1:0<r1)(h2:r1<=2000000000)(z0:0<=z)(z1:z<10000000000):∃(p:St2)(x' z':Int),Dy [x,y,z] [.tup [.int r0,.int r1]]=some (Ah p,[x',y,z'])/\(r0<=p.1/\p.1<p.2/\p.2<=r0+r1)/\z<=z'/\z'<=z+2:=by
 obtain⟨a,x1,z2,d1,⟨a0,a1⟩,k1,k2⟩:=Fd x y z r1 h1 (by omega) z0 (by omega)
 obtain⟨b,x2,z3,d2,⟨b0,b1⟩,k3,k4⟩:=Fd x1 y z2 r1 h1 (by omega) (by omega) (by omega)
 have v1:∀(e2 e3:Option D)(S:Store),eOp oIx (Ab 1) `ag [some `av,some `ae,e2,e3] S=some (.int r0,S):=fun _ _ _=>rfl
 have v2:∀(e2 e3:Option D)(S:Store),eOp oIx (Ab 1) `af [some `av,some `ae,e2,e3] S=some (.int r1,S):=fun _ _ _=>rfl
 have s1:(BZ 2 (eOp Bv (eOp oIx (Ab 1) `ag) (BK Ak (Aa (Ab 0) (Aa (eOp oIx (Ab 1) `af) Af))))) [some `av,some `ae,none,none] [some [.int x,.int y,.int z]]=some (.nx,[some `av,some `ae,some (.int (r0+a)),none],[some [.int x1,.int y,.int z2]]):=by
  rw[CP,Ba,v1,U0a,Fe d1 rfl (v2 _ _ _)];rfl
 have s2:(BZ 3 (eOp Bv (eOp oIx (Ab 1) `ag) (BK Ak (Aa (Ab 0) (Aa (eOp oIx (Ab 1) `af) Af))))) [some `av,some `ae,some (.int (r0+a)),none] [some [.int x1,.int y,.int z2]]=some (.nx,[some `av,some `ae,some (.int (r0+a)),some (.int (r0+b))],[some [.int x2,.int y,.int z3]]):=by
  rw[CP,Ba,v1,U0a,Fe d2 rfl (v2 _ _ _)];rfl
 have ts:BR (eOp (oEq false) (Ab 2) (Ab 3)) [some `av,some `ae,some (.int (r0+a)),some (.int (r0+b))] [some [.int x2,.int y,.int z3]]=some (decide (r0+a=r0+b),[some [.int x2,.int y,.int z3]]):=by
  simp[EY,Ba,Cd,oEq,-U0t,-U1d]
 obtain⟨c,s3,c0,c1,c2⟩:∃c:Int,(sIf (BR (eOp (oEq false) (Ab 2) (Ab 3))) (BZ 3 (eOp Bv (Ab 2) (eC (.int 1)))) Ez) [some (.ref 0),some (.tup [.int r0,.int r1]),some (.int (r0+a)),some (.int (r0+b))] [some [.int x2,.int y,.int z3]]=some (.nx,[some (.ref 0),some (.tup [.int r0,.int r1]),some (.int (r0+a)),some (.int c)],[some [.int x2,.int y,.int z3]])/\c≠r0+a/\r0<=c/\c<=r0+r1:=by
  by_cases h:r0+a=r0+b
  .rw[show decide (r0+a=r0+b)=true from decide_eq_true h] at ts
   exact⟨r0+a+1,by rw[IV ts];rfl,by omega,by omega,by omega⟩
  .rw[show decide (r0+a=r0+b)=false from decide_eq_false h] at ts
   exact⟨r0+b,by rw[FP ts];rfl,by omega,by omega,by omega⟩
 refine⟨(if c<r0+a then c else r0+a,if c>r0+a then c else r0+a),x2,z3,?_,?_,by omega,by omega⟩
 .unfold Dy
  rw[Kp]
  simp only[U0f,U1m,U0r,U2a,U2p,U2q,U03,U1x,U2c,U1v,if_true]
  unfold Qa
  rw[BJ s1,BJ s2,BJ s3]
  simp[Dk,EY,Ei,BX,GC,Kv,XQ,O2,intsOf,den,DW,-U0t,-U1d,Ah]
 .simp only
  split<;>split<;>omega
end W29
end
section
namespace W29
open PySem L2 VS
theorem jT(x y z:Int)(z0:0<=z)(z1:z<10000000000):∃r0 r1 x' z':Int,Dt [x,y,z] []=some (.tup [.int r0,.int r1],[x',y,z'])/\(-1000000000<=r0/\0<r1/\r0+r1<=1000000000)/\z<=z'/\z'<=z+1:=by
 obtain⟨r,x1,z2,d1,⟨a0,a1⟩,k1,k2⟩:=Fd x y z 5 (by decide) (by decide) z0 (by omega)
 obtain⟨r0,r1,f1,h⟩:∃r0 r1:Int,atI [D.tup [.int 0,.int 6],.tup [.int (-3),.int 8],.tup [.int 0,.int 13],.tup [.int (-20),.int 41],.tup [.int (-1000000000),.int 2000000000]] r=some (.tup [.int r0,.int r1])/\(-1000000000<=r0/\0<r1/\r0+r1<=1000000000):=by
  have:r=0∨r=1∨r=2∨r=3∨r=4:=by omega
  rcases this with rfl|rfl|rfl|rfl|rfl
  .exact⟨0,6,rfl,by decide⟩
  .exact⟨-3,8,rfl,by decide⟩
  .exact⟨0,13,rfl,by decide⟩
  .exact⟨-20,41,rfl,by decide⟩
  .exact⟨-1000000000,2000000000,rfl,by decide⟩
 refine⟨r0,r1,x1,z2,?_,h,k1,k2⟩
 have c1:BK Ak (Aa (Ab 0) (Aa (eC (.int 5)) Af)) [some `av] [some [.int x,.int y,.int z]]=some (.int r,[some [.int x1,.int y,.int z2]]):=Fe d1 rfl rfl
 have q0:Az `be [some `av] [some [.int x,.int y,.int z]]=some (.lst true [.tup [.int 0,.int 6],.tup [.int (-3),.int 8],.tup [.int 0,.int 13],.tup [.int (-20),.int 41],.tup [.int (-1000000000),.int 2000000000]],[some [.int x,.int y,.int z]]):=by simp[Jf,Ba,vB,Ei,BX,Ck,Kv,oI,M5,Oe,Gg,G5,El,VS.listOf,-U0t,-U1d]
 unfold Dt
 rw[Kp]
 simp only[U0f,U1m,U0r,U2a,U2p,U2q,U03,U1x,U2c,U1v,if_true]
 unfold SX
 rw[Dk,Ba,q0,U0a,c1,U0a]
 show((U2w _ (atI [D.tup [.int 0,.int 6],.tup [.int (-3),.int 8],.tup [.int 0,.int 13],.tup [.int (-20),.int 41],.tup [.int (-1000000000),.int 2000000000]] r)).bind _).bind _=_
 rw[f1]
 simp[intsOf,den,DW,-U0t,-U1d]
end W29
end
section
namespace W29
open PySem L2 VS
theorem Vv(ws:List Nat)(w:Nat)(xs:List PyData)(hl:xs.length<=w)(h:∀x∈xs,fit ws x=true):fit (w::ws) (.list xs)=true/\fit (w::ws) (.tuple xs)=true:=by
 have a:xs.all (fit ws)=true:=U32.mpr h
 simp[fit,hl,a]
theorem aC{S:Store}{d:D}{p:PyData}{ws:List Nat}(h:DN S d=some p)(hf:fit ws p=true)(hw:ws.length<=50)(hb:bnd ws<=1000000):K9 S [d]=some (.str p.shown):=by
 obtain⟨f1,f2,f3⟩:=eZ ws p hf
 show(DN S d).bind _=_
 rw[h,U0a]
 have:(p.showable&&decide (p.depth<=60)&&decide (p.shown.length<=1000000))=true:=by
  rw[U0v,U0v]
  exact⟨⟨f1,decide_eq_true (by omega)⟩,decide_eq_true (by omega)⟩
 rw[if_pos this]
theorem Xl(S:Store)(m:Bool)(l:List St2):DN S (.lst m `bm)=some (.list (l.map pS)):=by
 have hp:Bm `bm=true:=Bg (Ij _ fun p _=>Ga p)
 have:Hv `bm=some (l.map pS):=by
  induction l with
  |nil=>rfl
  |cons p r ih=>rw[U0r,Hv,T9,ih (Bg (Ij _ fun p _=>Ga p))];rfl
 rw[DN,den,DQ 0 S hp]
 show toP (.lst m `bm)=_
 rw[toP,this];rfl
theorem eF(l:List St2):lev 2 (.list (l.map pS))=true:=by
 show(l.map pS).all (lev 1)=true
 rw[U32]
 intro x hx
 obtain⟨p,_,rfl⟩:=U0x.mp hx
 exact uW 0 p
theorem Ir(k:List St2):Dn (k.map Ah)=true:=Ij _ fun p _=>Ga p
theorem Pn{env:VS.Env}{S S':Store}{o:BL}{i:Nat}{l:List D}{d:D}{a:BL}(ho:o env S=some (.ref i,S))(hi:S[i]?=some (some l))(ha:a env S=some (d,S))(hl:l.length<1000000)(hS:S.set i (some (l++[d]))=S'):Gv (Fv Fb o (Aa a Af)) env S=some (.nx,env,S'):=by
 rw[Ko,Rm (d:=.ref i) (cs:=l) (ds:=[d]) (r:=.non) (S1:=S) (S2:=S) (S3:=S') ho (by rw[VS.listOf,hi];rfl) (by rw[BX,ha];rfl) (by
  unfold Fb
  simp only[hi]
  rw[if_pos hl,hS])]
 rfl
theorem add_lists{a b:BL}{env:VS.Env}{S:Store}{xs ys:List D}(ha:a env S=some (.lst true xs,S))(hb:b env S=some (.lst true ys,S))(hl:xs.length+ys.length<=1000000):eOp Bv a b env S=some (.lst true (xs++ys),S):=by
 rw[Ba,ha,U0a,hb,U0a]
 show(U2w _ (if xs.length+ys.length<=1000000 then some (D.lst true (xs++ys)) else none))=_
 rw[if_pos hl];rfl
end W29
end
section
namespace W29
open PySem L2 VS
abbrev T3:=Int×Int×Int
def Ac(p:T3):D:=.tup [.int p.1,.int p.2.1,.int p.2.2]
theorem aY(p:T3):Bs (Ac p)=true:=by simp[Ac,Bs,Dn]
theorem CZ(k:List T3):Dn (k.map Ac)=true:=Ij _ fun p _=>aY p
def pT3(p:T3):PyData:=.tuple [.int p.1,.int p.2.1,.int p.2.2]
theorem sY(p:T3):toP (Ac p)=some (pT3 p):=by simp[Ac,toP,Hv,pT3]
theorem PN(S:Store)(m:Bool)(k:List T3):DN S (.lst m (k.map Ac))=some (.list (k.map pT3)):=by
 have:Hv (k.map Ac)=some (k.map pT3):=by
  induction k with
  |nil=>rfl
  |cons p r ih=>rw[U0r,Hv,sY,ih];rfl
 rw[DN,den,DQ 0 S (Bg (CZ k))]
 show toP (.lst m (k.map Ac))=_
 rw[toP,this];rfl
structure Hs(hs:List T3):Prop where
 few:hs.length<=400
 all:∀t∈hs,t.1<t.2.1/\1<=t.2.2/\t.2.2<=1000000000/\-1000000000<=t.1/\t.2.1<=1000000000
theorem Rh(m:Bool)(hs:List T3):Bm [.lst m `aE]=true:=by rw[Bm,Br,Bg (CZ hs),Bm];rfl
theorem Uv(m:Bool)(hs:List T3):Cu [.lst m `aE]=[.lst false `aE]:=by rw[Cu,age,Dw (CZ hs),Cu]
def inH(t:T3)(x:Int):Bool:=decide (t.1<=x)&&decide (x<t.2.1)
def Ey(hs:List T3)(x:Int):List Int:=(hs.filter fun t=>inH t x).map fun t=>t.2.2
def hgt(hs:List T3)(x:Int):Int:=(Qh (Ey hs x)).getD 0
theorem oF(m:Bool)(hs:List T3)(x:Int):Bm [.lst m `aE,.int x]=true:=by simp[Bm,Br,Bg (CZ hs)]
theorem vK(m:Bool)(hs:List T3)(x:Int):Cu [.lst m `aE,.int x]=[.lst false `aE,.int x]:=by simp[Cu,age,Dw (CZ hs)]
def Fi(a:List St2×Int)(p:St2):List St2×Int:=(if p.2≠a.2 then a.1++[p] else a.1,p.2)
theorem Xv:∀(l:List St2)(a:List St2×Int),(l.foldl Fi a).1.length<=a.1.length+l.length
 |[],a=>by simp
 |p::l,a=>by
  have:=Xv l (Fi a p)
  have:(Fi a p).1.length<=a.1.length+1:=by
   unfold Fi
   dsimp only
   split
   .simp
   .omega
  rw[U2t,U0f]
  omega
theorem dY{hs:List T3}(hl:hs.length<=1000){m:Bool}{r:VS.Env}{S:Store}(h:r[0]?=some (some (.lst m `aE)))(k:Int)(F:T3->Int)(hF:∀t,atI [D.int t.1,.int t.2.1,.int t.2.2] k=some (.int (F t))):Cv 1 [] (DP (Ab 0)) (Pat.sem (.nm 0)) J7 (eOp oIx (Ab 0) (eC (.int k))) r S=some ((hs.map F).map .int,S):=by
 have v:Ab 0 r S=some (.lst m `aE,S):=by rw[EY,h];rfl
 have e:DP (Ab 0) r S=some ((hs.map Ac,[]),S):=by rw[Mw,v];rfl
 unfold Cv
 rw[e]
 simp only[U0a]
 rw[Iu (by simp) Ac (fun t=>.int (F t)) hs (by omega),U0t]
 .rfl
 .intro t ht
  refine⟨_,Dc _ _ _,?_⟩
  show U2w _ (atI [D.int t.1,.int t.2.1,.int t.2.2] k)=_
  rw[hF];rfl
def ends(hs:List T3):List Int:=Cz (hs.map (·.1)++hs.map (·.2.1))
theorem qM{hs:List T3}(hl:hs.length<=400){a b:Bl}{r:VS.Env}{S:Store}(ha:a r S=some ((hs.map (·.1)).map .int,S))(hb:b r S=some ((hs.map (·.2.1)).map .int,S)):Ly (eOp Bv (Az a) (Az b)) r S=some (.lst true ((ends hs).map .int),S):=by
 have q:=(SetP.Ie (hs.map (·.1)++hs.map (·.2.1))).2.1
 have hlen:(hs.map (·.1)++hs.map (·.2.1)).length<=800:=by simp;omega
 have c:eOp Bv (Az a) (Az b) r S=some (.lst true ((hs.map (·.1)++hs.map (·.2.1)).map .int),S):=by
  rw[add_lists (xs:=(hs.map (·.1)).map .int) (ys:=(hs.map (·.2.1)).map .int) (by rw[Ck,ha];rfl) (by rw[Ck,hb];rfl) (by simp;omega),←U18]
 rw[ZG,c]
 show(intsOf ((hs.map (·.1)++hs.map (·.2.1)).map D.int)).bind _=_
 rw[Mg,U0a,if_pos ⟨by omega,by omega⟩]
 rfl
theorem kh{hs:List T3}(hl:hs.length<=400):(ends hs).length<=800:=by
 have q:=(SetP.Ie (hs.map (·.1)++hs.map (·.2.1))).2.1
 unfold ends Cz
 rw[(U3x _ _).length_eq]
 simp at q
 omega
def sky(hs:List T3):List St2:=(((ends hs).map fun x=>(x,hgt hs x)).foldl Fi ([],0)).1
theorem eX{hs:List T3}(h:Hs hs){x F:Int}(h1:F=0∨F∈Ey hs x)(h2:0<=F)(h3:∀n∈Ey hs x,n<=F):F=hgt hs x:=by
 unfold hgt
 cases e:Qh (Ey hs x) with
 |none =>
  have:Ey hs x=[]:=by
   cases q:Ey hs x with
   |nil=>rfl
   |cons a r=>rw[q] at e;simp[Qh] at e
  rw[this] at h1
  simpa using h1
 |some m =>
  obtain⟨g1,g2⟩:=Rn e
  have:1<=m:=by
   obtain⟨t,ht,rfl⟩:=U0x.mp g1
   exact(h.all t (U1u.mp ht).1).2.1
  have q1:=h3 m g1
  show F=m
  rcases h1 with z|z
  .omega
  .have:=g2 F z;omega
def GX(x:Int)(hh:Int)(t:T3):Int:=if inH t x=true/\t.2.2>hh then t.2.2 else hh
theorem mF(x:Int):∀(l:List T3)(hh:Int),hh<=l.foldl (GX x) hh/\(l.foldl (GX x) hh=hh∨l.foldl (GX x) hh∈Ey l x)/\∀n∈Ey l x,n<=l.foldl (GX x) hh
 |[],hh=>⟨U1j _,.inl rfl,fun n hn=>by simp[Ey] at hn⟩
 |t::l,hh=>by
  obtain⟨a1,a2,a3⟩:=mF x l (GX x hh t)
  have s1:hh<=GX x hh t:=by unfold GX;split<;>omega
  rw[U2t]
  have tp:Ey (t::l) x=if inH t x=true then t.2.2::Ey l x else Ey l x:=by
   unfold Ey
   rw[U21]
   split<;>rfl
  rw[tp]
  by_cases z:inH t x=true
  .rw[if_pos z]
   have s2:t.2.2<=GX x hh t:=by unfold GX;split<;>(try simp[z] at *)<;>omega
   refine⟨by omega,?_,fun n hn=>?_⟩
   .rcases a2 with w|w
    .rw[w]
     unfold GX
     split
     .exact .inr U0i
     .exact .inl rfl
    .exact .inr (U0k _ w)
   .rcases U0h.mp hn with w|w
    .rw[w];omega
    .exact a3 n w
  .rw[if_neg z]
   have s2:GX x hh t=hh:=by unfold GX;rw[if_neg (fun w=>z w.1)]
   rw[s2] at a1 a2 a3 ⊢
   exact⟨a1,a2,a3⟩
theorem kW{hs:List T3}(h:Hs hs)(x:Int):hs.foldl (GX x) 0=hgt hs x:=by
 obtain⟨a1,a2,a3⟩:=mF x hs 0
 exact eX h a2 a1 a3
theorem pR(t:T3)(x hh:Int)(e0 e1 e2:Option D)(S:Store):Lf [e0,e1,e2,some (.int x),some (.int hh),some (Ac t)] S=some (.nx,[e0,e1,e2,some (.int x),some (.int (GX x hh t)),some (Ac t)],S):=by
 have t1:BR (eOp oLe (eOp oIx (Ab 5) `ag) (Ab 3)) [e0,e1,e2,some (.int x),some (.int hh),some (Ac t)] S=some (decide (t.1<=x),S):=rfl
 have t2:BR (eOp oLt (Ab 3) (eOp oIx (Ab 5) `af)) [e0,e1,e2,some (.int x),some (.int hh),some (Ac t)] S=some (decide (x<t.2.1),S):=rfl
 have t3:BR (eOp oGt (eOp oIx (Ab 5) (eC (.int 2))) (Ab 4)) [e0,e1,e2,some (.int x),some (.int hh),some (Ac t)] S=some (decide (hh<t.2.2),S):=rfl
 unfold Lf GX inH
 have ts:K3 (BR (eOp oLe (eOp oIx (Ab 5) `ag) (Ab 3))) (K3 (BR (eOp oLt (Ab 3) (eOp oIx (Ab 5) `af))) (BR (eOp oGt (eOp oIx (Ab 5) (eC (.int 2))) (Ab 4)))) [e0,e1,e2,some (.int x),some (.int hh),some (Ac t)] S=some (decide (t.1<=x)&&decide (x<t.2.1)&&decide (hh<t.2.2),S):=by
  rw[Im,t1]
  cases decide (t.1<=x) with
  |false=>rfl
  |true =>
   simp only[U0a,if_true,U8]
   rw[Im,t2]
   cases decide (x<t.2.1) with
   |false=>rfl
   |true =>
    simp only[U0a,if_true,U8]
    exact t3
 by_cases g:(decide (t.1<=x)&&decide (x<t.2.1))=true/\t.2.2>hh
 .rw[if_pos g]
  rw[g.1,decide_eq_true (show hh<t.2.2 from g.2)] at ts
  rw[IV ts];rfl
 .rw[if_neg g]
  have:(decide (t.1<=x)&&decide (x<t.2.1)&&decide (hh<t.2.2))=false:=by
   rw[U8i]
   intro w
   rw[U0v,decide_eq_true_eq] at w
   exact g w
  rw[this] at ts
  rw[FP ts];rfl
theorem pP{hs:List T3}(h:Hs hs)(x:Int)(e1 e2 z5:Option D)(S:Store):∃y5:Option D,Om [some `aa,e1,e2,some (.int x),some (.int 0),z5] S=some (.nx,[some `aa,e1,e2,some (.int x),some (.int (hgt hs x)),y5],S):=by
 have e:DP (Ab 0) [some `aa,e1,e2,some (.int x),some (.int 0),z5] S=some ((hs.map Ac,[]),S):=rfl
 obtain⟨env',S',e3,y5,he,hS⟩:=Gi (w:=[]) (g:=Pat.sem (.nm 5)) (b:=Lf) (ds:=hs.map Ac) (env:=[some `aa,e1,e2,some (.int x),some (.int 0),z5]) (S:=S)
  (fun i env S'=>∃y5:Option D,env=[some `aa,e1,e2,some (.int x),some (.int ((hs.take i).foldl (GX x) 0)),y5]/\S'=S)
  ⟨z5,rfl,rfl⟩ (fun i env S _=>by simp) (fun i d env S' hd q=>by
   obtain⟨y5,he,hS⟩:=q
   subst he hS
   rw[U07] at hd
   obtain⟨t,ht,rfl⟩:=U2r.mp hd
   refine⟨_,Dc _ _ _,_,_,pR t x ((hs.take i).foldl (GX x) 0) _ _ _ _,some (Ac t),?_,rfl⟩
   rw[U7w,ht,U76,U49];rfl)
 subst he hS
 have hlm:(`aE).length=hs.length:=by simp
 rw[hlm,U69,kW h] at e3
 refine⟨y5,?_⟩
 unfold Om
 rw[GP,e]
 exact e3
def prev(acc:List St2):Int:=(acc.getLast?.map (·.2)).getD 0
theorem qR{acc:List St2}{hh:Int}(p:St2)(h:prev acc=hh):prev (Fi (acc,hh) p).1=(Fi (acc,hh) p).2:=by
 unfold Fi
 dsimp only
 split
 .unfold prev;simp
 .rename_i z
  have:p.2=hh:=by
   by_cases w:p.2=hh
   .exact w
   .exact absurd w z
  rw[this];exact h
theorem Wa:∀(l:List St2)(a:List St2×Int),prev a.1=a.2->prev (l.foldl Fi a).1=(l.foldl Fi a).2
 |[],a,h=>h
 |p::l,a,h=>by rw[U2t];exact Wa l _ (qR p h)
theorem pQ{hs:List T3}(h:Hs hs)(x:Int)(acc:List St2)(hl:acc.length<1000)(e1 z4 z5:Option D):∃y5:Option D,Le [some `aa,e1,some `av,some (.int x),z4,z5] [some (acc.map Ah)]=some (.nx,[some `aa,e1,some `av,some (.int x),some (.int (hgt hs x)),y5],[some ((Fi (acc,prev acc) (x,hgt hs x)).1.map Ah)]):=by
 obtain⟨y5,l1⟩:=pP h x e1 (some `av) z5 [some (acc.map Ah)]
 have s1:(BZ 4 `ag) [some `aa,e1,some `av,some (.int x),z4,z5] [some (acc.map Ah)]=some (.nx,[some `aa,e1,some `av,some (.int x),some (.int 0),z5],[some (acc.map Ah)]):=rfl
 generalize hgt hs x=hx at *
 have a1:eOp Bv (Az (Aa (Bo (Aa `ag (Aa `ag Af))) Af)) (Ab 2) [some `aa,e1,some `av,some (.int x),some (.int hx),y5] [some (acc.map Ah)]=some (.lst true (Ah (0,0)::acc.map Ah),[some (acc.map Ah)]):=by
  show U2w _ (if 1+(acc.map Ah).length<=1000000 then some (D.lst true ([Ah (0,0)]++acc.map Ah)) else none)=_
  rw[if_pos (by rw[U0d];omega)];rfl
 have a2:eOp oIx (eOp Bv (Az (Aa (Bo (Aa `ag (Aa `ag Af))) Af)) (Ab 2)) (eUn El `af) [some `aa,e1,some `av,some (.int x),some (.int hx),y5] [some (acc.map Ah)]=some (Ah ((acc.getLast?).getD (0,0)),[some (acc.map Ah)]):=by
  have n1:eUn El `af [some `aa,e1,some `av,some (.int x),some (.int hx),y5] [some (acc.map Ah)]=some (.int (-1),[some (acc.map Ah)]):=rfl
  rw[Ba,a1,U0a,n1,U0a]
  show U2w _ (atI (Ah (0,0)::acc.map Ah) (-1))=_
  rcases U43 acc with z|⟨l,q,z⟩
  .rw[z];rfl
  .rw[U44] at z
   subst z
   rw[U18,←U2c]
   show U2w _ (atI (Ah (0,0)::l.map Ah++[Ah q]) (-1))=_
   rw[Tt];simp
 have a3:eOp oIx (eOp oIx (eOp Bv (Az (Aa (Bo (Aa `ag (Aa `ag Af))) Af)) (Ab 2)) (eUn El `af)) `af [some `aa,e1,some `av,some (.int x),some (.int hx),y5] [some (acc.map Ah)]=some (.int (prev acc),[some (acc.map Ah)]):=by
  rw[Ba,a2]
  have:prev acc=((acc.getLast?).getD (0,0)).2:=by unfold prev;cases acc.getLast?<;>rfl
  rw[this];rfl
 have t1:BR (eOp (oEq true) (Ab 4) (eOp oIx (eOp oIx (eOp Bv (Az (Aa (Bo (Aa `ag (Aa `ag Af))) Af)) (Ab 2)) (eUn El `af)) `af)) [some `aa,e1,some `av,some (.int x),some (.int hx),y5] [some (acc.map Ah)]=some (!decide (hx=prev acc),[some (acc.map Ah)]):=by
  have v4:Ab 4 [some `aa,e1,some `av,some (.int x),some (.int hx),y5] [some (acc.map Ah)]=some (.int hx,[some (acc.map Ah)]):=rfl
  rw[Cd,Ba,v4,U0a,a3,U0a]
  show some ((true ^^ decide (hx=prev acc)),_)=_
  rw[U66]
 refine⟨y5,?_⟩
 unfold Le Fi
 rw[BJ s1,BJ l1]
 by_cases z:hx=prev acc
 .rw[decide_eq_true z] at t1
  rw[FP t1,if_neg (by simp[z])]
  rfl
 .rw[decide_eq_false z] at t1
  rw[IV t1,if_pos z,U18]
  exact Pn (i:=0) (l:=acc.map Ah) (d:=Ah (x,hx)) rfl rfl rfl (by rw[U0d];omega) rfl
theorem Rp{hs:List T3}(h:Hs hs):CJ [.lst false `aE]=some (.lst true ((`bg).map Ah)):=by
 have few:=h.few
 have el:=kh few
 have s1:(BZ 1 (Ly (eOp Bv (Az Oq) (Az Oo)))) [some `aa,none,none,none,none,none] []=some (.nx,[some `aa,some (.lst true ((ends hs).map .int)),none,none,none,none],[]):=by
  have q1:Oq [some `aa,none,none,none,none,none] []=some ((hs.map (·.1)).map .int,[]):=dY (m:=false) (by omega) rfl 0 (·.1) fun _=>rfl
  have q2:Oo [some `aa,none,none,none,none,none] []=some ((hs.map (·.2.1)).map .int,[]):=dY (m:=false) (by omega) rfl 1 (·.2.1) fun _=>rfl
  rw[CP,qM few q1 q2];rfl
 have s2:(BZ 2 (Jm Af)) [some `aa,some (.lst true ((ends hs).map .int)),none,none,none,none] []=some (.nx,[some `aa,some (.lst true ((ends hs).map .int)),some `av,none,none,none],[some []]):=rfl
 have e:DP (Ab 1) [some `aa,some (.lst true ((ends hs).map .int)),some `av,none,none,none] [some []]=some (((ends hs).map .int,[]),[some []]):=rfl
 obtain⟨E,hE⟩:∃E:Nat->List St2×Int,∀i,E i=(((ends hs).take i).map fun x=>(x,hgt hs x)).foldl Fi ([],0):=⟨_,fun _=>rfl⟩
 obtain⟨env',S',e2,z3,z4,z5,he,hS⟩:=Gi (w:=[]) (g:=Pat.sem (.nm 3)) (b:=Le) (ds:=(ends hs).map .int) (env:=[some `aa,some (.lst true ((ends hs).map .int)),some `av,none,none,none]) (S:=[some []])
  (fun i env S=>∃z3 z4 z5:Option D,env=[some `aa,some (.lst true ((ends hs).map .int)),some `av,z3,z4,z5]/\S=[some ((E i).1.map Ah)])
  ⟨none,none,none,rfl,by rw[hE];rfl⟩ (fun i env S _=>by simp) (fun i d env S hd q=>by
   obtain⟨z3,z4,z5,he,hS⟩:=q
   subst he hS
   rw[U07] at hd
   obtain⟨x,hx,rfl⟩:=U2r.mp hd
   have fewE:=Xv (((ends hs).take i).map fun x=>(x,hgt hs x)) ([],0)
   rw[←hE,U0d,U1q] at fewE
   have pv:prev (E i).1=(E i).2:=by rw[hE];exact Wa _ _ rfl
   obtain⟨y5,b2⟩:=pQ h x (E i).1 (by simp at fewE;omega) (some (.lst true ((ends hs).map .int))) z4 z5
   refine⟨_,Dc _ _ _,_,_,b2,_,_,_,rfl,?_⟩
   rw[pv,hE (i+1),U7w,hx,U76,U18,U49,←hE]
   rfl)
 subst he hS
 have hlm:((ends hs).map D.int).length=(ends hs).length:=by simp
 have hsk:(E ((ends hs).map D.int).length).1=sky hs:=by rw[hlm,hE,U69];rfl
 rw[hsk] at e2
 have l2:Ol [some `aa,some (.lst true ((ends hs).map .int)),some `av,none,none,none] [some []]=some (.nx,[some `aa,some (.lst true ((ends hs).map .int)),some `av,z3,z4,z5],[some ((`bg).map Ah)]):=by
  unfold Ol
  rw[GP,e]
  exact e2
 unfold CJ
 rw[Eh]
 simp only[U0f,U1m,U0r,U2a,U2p,U2q,U03,U1x,U2c,U1v,if_true]
 unfold V7
 rw[BJ s1,BJ s2,BJ l2]
 generalize sky hs=k
 show den 0 [some (k.map Ah)] `av=_
 rw[den,if_neg (by omega)]
 show(if Bm (k.map Ah)=true then _ else _)=_
 rw[if_pos (Bg (Ir k))]
theorem Wh(hs:List T3):(ends hs).Pairwise (·<·):=cF _
theorem QH{hs:List T3}{x:Int}:x∈ends hs↔∃t∈hs,x=t.1∨x=t.2.1:=by
 unfold ends Cz
 rw[(U3x _ _).mem_iff,(SetP.Ie _).2.2,U0z,U0x,U0x]
 constructor
 .rintro(⟨t,ht,rfl⟩|⟨t,ht,rfl⟩)
  .exact⟨t,ht,.inl rfl⟩
  .exact⟨t,ht,.inr rfl⟩
 .rintro⟨t,ht,rfl|rfl⟩
  .exact .inl ⟨t,ht,rfl⟩
  .exact .inr ⟨t,ht,rfl⟩
theorem kO{hs:List T3}{x y:Int}(hxy:x<=y)(h:∀e∈ends hs,¬(x<e/\e<=y)):hgt hs y=hgt hs x:=by
 unfold hgt Ey
 have:(hs.filter fun t=>inH t y)=hs.filter fun t=>inH t x:=List.filter_congr fun t ht=>by
  have h1:=h t.1 (QH.mpr ⟨t,ht,.inl rfl⟩)
  have h2:=h t.2.1 (QH.mpr ⟨t,ht,.inr rfl⟩)
  unfold inH
  rw[U4z,U0v,U0v,decide_eq_true_eq,decide_eq_true_eq,decide_eq_true_eq,decide_eq_true_eq]
  omega
 rw[this]
theorem Ku{hs:List T3}{x:Int}(h:∀t∈hs,¬(t.1<=x/\x<t.2.1)):hgt hs x=0:=by
 unfold hgt Ey
 have:(hs.filter fun t=>inH t x)=[]:=List.filter_eq_nil_iff.mpr fun t ht w=>by
  unfold inH at w
  rw[U0v,decide_eq_true_eq,decide_eq_true_eq] at w
  exact h t ht w
 rw[this];rfl
def Link(f:Int->Int):Int->List Int->Prop
 |_,[]=>True
 |hh,x::E=>f (x-1)=hh/\Link f (f x) E
theorem Wm(f:Int->Int):∀(E:List Int)(acc:List St2)(hh:Int),Link f hh E->((E.map fun x=>(x,f x)).foldl Fi (acc,hh)).1=acc++(E.filter fun x=>decide (f x≠f (x-1))).map fun x=>(x,f x)
 |[],acc,hh,_=>by simp
 |x::E,acc,hh,h=>by
  obtain⟨h1,h2⟩:=h
  subst h1
  rw[U0r,U2t]
  show((E.map fun x=>(x,f x)).foldl Fi (if f x≠f (x-1) then acc++[(x,f x)] else acc,f x)).1=_
  rw[Wm f E _ _ h2,U21]
  by_cases z:f x=f (x-1)
  .rw[if_neg (by simp[z]),if_neg (by simp[z])]
  .rw[if_pos z,if_pos (by simp[z]),U0r,U04];rfl
theorem Vt{hs:List T3}(h:Hs hs)(x:Int):0<=hgt hs x/\hgt hs x<=1000000000:=by
 unfold hgt
 cases e:Qh (Ey hs x) with
 |none=>exact⟨by decide,by decide⟩
 |some m =>
  obtain⟨t,ht,rfl⟩:=U0x.mp (Rn e).1
  have:=h.all t (U1u.mp ht).1
  show 0<=t.2.2/\t.2.2<=1000000000
  omega
end W29
end
section
namespace W29
open PySem L2 VS
def InT(r0 r1:Int)(k:Nat)(t:T3):Prop:=r0<=t.1/\t.1<t.2.1/\t.2.1<=r0+r1+5*k/\t.2.1<=1000000000/\1<=t.2.2/\t.2.2<=1000000000
theorem p9(env:VS.Env)(S:Store):eOp G5 (eC (.int 10)) (eC (.int 9)) env S=some (.int 1000000000,S):=by simp[Jf,Ba,oI,Oe,G5,-U0t,-U1d]
theorem dg(m:Bool)(hs:List T3)(S:Store):oEq false S (.lst m `aE) (.lst true [])=some (.bl hs.isEmpty):=by
 have lv:lev 2 (.list (hs.map pT3))=true:=by
  show(hs.map pT3).all (lev 1)=true
  rw[U32]
  intro x hx
  obtain⟨t,_,rfl⟩:=U0x.mp hx
  simp[pT3,lev]
 have:=aZ (neg:=false) (m:=true) 2 (PN S m hs) lv (by decide)
 rw[List.isEmpty_map,U7x] at this
 exact this
theorem vq{a b c i:Int}(h0:0<=i)(h1:i<3)(ha:0<=a/\a<3)(hb:0<=b/\b<9)(hc:0<=c/\c<1000000000):∃v:Int,atI [D.int a,.int b,.int c] i=some (.int v)/\0<=v/\v<1000000000:=by
 have:i=0∨i=1∨i=2:=by omega
 rcases this with rfl|rfl|rfl
 .exact⟨a,rfl,by omega,by omega⟩
 .exact⟨b,rfl,by omega,by omega⟩
 .exact⟨c,rfl,by omega,by omega⟩
theorem Zj(x y z r0 r1:Int)(k:Nat)(q0:-1000000000<=r0)(q1:0<r1)(q2:r0+r1<=1000000000)(hs:List T3)(hl:hs.length<=1000)(hb:∀t∈hs,InT r0 r1 k t)(z0:0<=z)(z1:z<100000000):∃(t:T3)(x' z':Int),
  Eu [x,y,z] [.tup [.int r0,.int r1],.lst false `aE]=some (Ac t,[x',y,z'])/\InT r0 r1 (k+1) t/\z<=z'/\z'<=z+12:=by
 obtain⟨p,x1,z2,d1,⟨p0,p1,p2⟩,k1,k2⟩:=cC x y z r0 r1 q1 (by omega) z0 (by omega)
 obtain⟨a,x2,z3,d2,a0,k3,k4⟩:=Fd x1 y z2 3 (by decide) (by decide) (by omega) (by omega)
 obtain⟨b,x3,z4,d3,b0,k5,k6⟩:=Fd x2 y z3 9 (by decide) (by decide) (by omega) (by omega)
 obtain⟨c,x4,z5,d4,c0,k7,k8⟩:=Fd x3 y z4 1000000000 (by decide) (by decide) (by omega) (by omega)
 obtain⟨i,x5,z6,d5,i0,k9,k10⟩:=Fd x4 y z5 3 (by decide) (by decide) (by omega) (by omega)
 obtain⟨kd,x6,z7,d6,⟨kd0,kd1⟩,k11,k12⟩:=Fd x5 y z6 8 (by decide) (by decide) (by omega) (by omega)
 obtain⟨v,hv,v0,v1⟩:=vq i0.1 i0.2 a0 b0 c0
 have s1:(bH (BK Dy (Aa (Ab 0) (Aa (Ab 1) Af))) (Pat.sem (.tp [(.nm 3),(.nm 4)]))) [some `av,some `ae,some `aa,none,none,none,none,none,none,none,none] [some [.int x,.int y,.int z]]=some (.nx,[some `av,some `ae,some `aa,some (.int p.1),some (.int p.2),none,none,none,none,none,none],[some [.int x1,.int y,.int z2]]):=by
  have c1:BK Dy (Aa (Ab 0) (Aa (Ab 1) Af)) [some `av,some `ae,some `aa,none,none,none,none,none,none,none,none] [some [.int x,.int y,.int z]]=some (Ah p,[some [.int x1,.int y,.int z2]]) :=
   QM (ns:=[x,y,z]) (rest:=[.tup [.int r0,.int r1]]) (es:=[.tup [.int r0,.int r1]]) (i:=0) (S':=[some [.int x,.int y,.int z]]) rfl rfl (by simp[Bm,Br]) (by simp[Cu,age]) d1
  rw[o7,c1]
  simp[Dc,Ul,Q9,O6,-U0t,-U1d,Ah]
 have s2:(BZ 5 (eOp Bv `af (eOp oIx (Az `aw) (BK Ak (Aa (Ab 0) (Aa (eC (.int 3)) Af)))))) [some `av,some `ae,some `aa,some (.int p.1),some (.int p.2),none,none,none,none,none,none] [some [.int x1,.int y,.int z2]]=some (.nx,[some `av,some `ae,some `aa,some (.int p.1),some (.int p.2),some (.int (1+v)),none,none,none,none,none],[some [.int x5,.int y,.int z6]]):=by
  have o1:(BK Ak (Aa (Ab 0) (Aa (eC (.int 3)) Af))) [some `av,some `ae,some `aa,some (.int p.1),some (.int p.2),none,none,none,none,none,none] [some [.int x1,.int y,.int z2]]=some (.int a,[some [.int x2,.int y,.int z3]]):=Fe d2 rfl rfl
  have o2:(BK Ak (Aa (Ab 0) (Aa (eC (.int 9)) Af))) [some `av,some `ae,some `aa,some (.int p.1),some (.int p.2),none,none,none,none,none,none] [some [.int x2,.int y,.int z3]]=some (.int b,[some [.int x3,.int y,.int z4]]):=Fe d3 rfl rfl
  have o3:BK Ak (Aa (Ab 0) (Aa (eOp G5 (eC (.int 10)) (eC (.int 9))) Af)) [some `av,some `ae,some `aa,some (.int p.1),some (.int p.2),none,none,none,none,none,none] [some [.int x3,.int y,.int z4]]=some (.int c,[some [.int x4,.int y,.int z5]]):=Fe d4 rfl (p9 _ _)
  have o4:(BK Ak (Aa (Ab 0) (Aa (eC (.int 3)) Af))) [some `av,some `ae,some `aa,some (.int p.1),some (.int p.2),none,none,none,none,none,none] [some [.int x4,.int y,.int z5]]=some (.int i,[some [.int x5,.int y,.int z6]]):=Fe d5 rfl rfl
  have o5:Az `aw [some `av,some `ae,some `aa,some (.int p.1),some (.int p.2),none,none,none,none,none,none] [some [.int x1,.int y,.int z2]]=some (.lst true [.int a,.int b,.int c],[some [.int x4,.int y,.int z5]]):=by
   rw[Ck,BX,o1,U0a,BX,o2,U0a,BX,o3];rfl
  have o6:eOp oIx (Az `aw) (BK Ak (Aa (Ab 0) (Aa (eC (.int 3)) Af))) [some `av,some `ae,some `aa,some (.int p.1),some (.int p.2),none,none,none,none,none,none] [some [.int x1,.int y,.int z2]]=some (.int v,[some [.int x5,.int y,.int z6]]):=by
   rw[Ba,o5,U0a,o4,U0a]
   show U2w _ (atI [D.int a,.int b,.int c] i)=_
   rw[hv];rfl
  rw[CP,Ba,Jf,U0a,o6];rfl
 have s3:(BZ 6 (BK Ak (Aa (Ab 0) (Aa (eC (.int 8)) Af)))) [some `av,some `ae,some `aa,some (.int p.1),some (.int p.2),some (.int (1+v)),none,none,none,none,none] [some [.int x5,.int y,.int z6]]=some (.nx,[some `av,some `ae,some `aa,some (.int p.1),some (.int p.2),some (.int (1+v)),some (.int kd),none,none,none,none],[some [.int x6,.int y,.int z7]]):=by
  have o1:(BK Ak (Aa (Ab 0) (Aa (eC (.int 8)) Af))) [some `av,some `ae,some `aa,some (.int p.1),some (.int p.2),some (.int (1+v)),none,none,none,none,none] [some [.int x5,.int y,.int z6]]=some (.int kd,[some [.int x6,.int y,.int z7]]):=Fe d6 rfl rfl
  rw[CP,o1];rfl
 have t1:BR (eOp (oEq false) (Ab 2) (Az Af)) [some `av,some `ae,some `aa,some (.int p.1),some (.int p.2),some (.int (1+v)),some (.int kd),none,none,none,none] [some [.int x6,.int y,.int z7]]=some (hs.isEmpty,[some [.int x6,.int y,.int z7]]):=by
  have f0:Az Af [some `av,some `ae,some `aa,some (.int p.1),some (.int p.2),some (.int (1+v)),some (.int kd),none,none,none,none] [some [.int x6,.int y,.int z7]]=some (.lst true [],[some [.int x6,.int y,.int z7]]):=rfl
  have v2:Ab 2 [some `av,some `ae,some `aa,some (.int p.1),some (.int p.2),some (.int (1+v)),some (.int kd),none,none,none,none] [some [.int x6,.int y,.int z7]]=some (.lst false `aE,[some [.int x6,.int y,.int z7]]):=rfl
  rw[Cd,Ba,v2,U0a,f0,U0a]
  simp only[dg]
  cases hs.isEmpty<;>rfl
 have t2:BR (eOp oGt (Ab 6) (eC (.int 4))) [some `av,some `ae,some `aa,some (.int p.1),some (.int p.2),some (.int (1+v)),some (.int kd),none,none,none,none] [some [.int x6,.int y,.int z7]]=some (decide (4<kd),[some [.int x6,.int y,.int z7]]):=rfl
 have ts:(VS.tOr (BR (eOp (oEq false) (Ab 2) (Az Af))) (BR (eOp oGt (Ab 6) (eC (.int 4))))) [some `av,some `ae,some `aa,some (.int p.1),some (.int p.2),some (.int (1+v)),some (.int kd),none,none,none,none] [some [.int x6,.int y,.int z7]]=some (hs.isEmpty||decide (4<kd),[some [.int x6,.int y,.int z7]]):=by
  rw[KH,t1]
  cases hs.isEmpty with
  |true=>rfl
  |false =>
   simp only[U0a,U0s,if_false,Bool.false_or]
   exact t2
 unfold Eu
 rw[Kp]
 simp only[U0f,U1m,U0r,U2a,U2p,U2q,U03,U1x,U2c,U1v,if_true]
 unfold Sg
 rw[BJ s1,BJ s2,BJ s3]
 by_cases g:(hs.isEmpty||decide (4<kd))=true
 .rw[g] at ts
  rw[Fx,IV ts]
  refine⟨(p.1,p.2,1+v),x6,z7,?_,⟨p0,p1,by show p.2<=r0+r1+5*((k+1:Nat):Int);omega,by show p.2<=1000000000;omega,by show 1<=1+v;omega,by show 1+v<=1000000000;omega⟩,by omega,by omega⟩
  simp[Fx,CP,Dk,Ox,Ko,PX,EY,Jf,Ba,Ei,BX,GC,Cd,qN,Kv,RN,Yp,oI,Jk,Oe,Bv,K4,G5,oGe,oIx,G6,O2,VS.listOf,En,Fb,intsOf,den,DW,-U0t,-U1d,Ac]
 .rw[U8i.mpr g] at ts
  have s0:(sIf (VS.tOr (BR (eOp (oEq false) (Ab 2) (Az Af))) (BR (eOp oGt (Ab 6) (eC (.int 4))))) (Di (Bo (Aa (Ab 3) (Aa (Ab 4) (Aa (Ab 5) Af))))) Ez) [some `av,some `ae,some `aa,some (.int p.1),some (.int p.2),some (.int (1+v)),some (.int kd),none,none,none,none] [some [.int x6,.int y,.int z7]]=some (.nx,[some `av,some `ae,some `aa,some (.int p.1),some (.int p.2),some (.int (1+v)),some (.int kd),none,none,none,none],[some [.int x6,.int y,.int z7]]):=by rw[FP ts];rfl
  have hne:¬hs.isEmpty=true:=fun w=>g (by rw[w];rfl)
  have hkd:kd<=4:=by
   by_cases w:4<kd
   .exact absurd (by rw[decide_eq_true w,U9b]) g
   .omega
  have hlp:0<hs.length:=by
   cases hs with
   |nil=>exact absurd rfl hne
   |cons _ _=>simp
  obtain⟨j,x7,z8,d7,⟨j0,j1⟩,k13,k14⟩:=Fd x6 y z7 hs.length (by omega) (by omega) (by omega) (by omega)
  obtain⟨jn,rfl⟩:∃jn:Nat,j=jn:=⟨j.toNat,by omega⟩
  have hjn:jn<hs.length:=by omega
  obtain⟨t,ht⟩:∃t,t=hs[jn]:=⟨_,rfl⟩
  obtain⟨w1,w2,w3,w4,w5,w6⟩:=hb t (by rw[ht];exact U3c hjn)
  obtain⟨e,x8,z9,d8,e0,k15,k16⟩:=Fd x7 y z8 4 (by decide) (by decide) (by omega) (by omega)
  obtain⟨f,x9,z10,d9,f0,k17,k18⟩:=Fd x8 y z9 (t.2.1-t.1) (by omega) (by omega) (by omega) (by omega)
  obtain⟨bs,hbs⟩:∃bs:Int,bs=min 1000000000 (t.2.1+1+e):=⟨_,rfl⟩
  have s4:(BZ 7 (eOp oIx (Ab 2) (BK Ak (Aa (Ab 0) (Aa (eCB G6 (Aa (Ab 2) Af)) Af))))) [some `av,some `ae,some `aa,some (.int p.1),some (.int p.2),some (.int (1+v)),some (.int kd),none,none,none,none] [some [.int x6,.int y,.int z7]]=some (.nx,[some `av,some `ae,some `aa,some (.int p.1),some (.int p.2),some (.int (1+v)),some (.int kd),some (Ac t),none,none,none],[some [.int x7,.int y,.int z8]]):=by
   have o1:BK Ak (Aa (Ab 0) (Aa (eCB G6 (Aa (Ab 2) Af)) Af)) [some `av,some `ae,some `aa,some (.int p.1),some (.int p.2),some (.int (1+v)),some (.int kd),none,none,none,none] [some [.int x6,.int y,.int z7]]=some (.int jn,[some [.int x7,.int y,.int z8]]):=Fe d7 rfl (by
    show(some (D.int ((`aE).length:Nat),_):Option (D×Store))=_
    rw[U0d])
   have v2:Ab 2 [some `av,some `ae,some `aa,some (.int p.1),some (.int p.2),some (.int (1+v)),some (.int kd),none,none,none,none] [some [.int x6,.int y,.int z7]]=some (.lst false `aE,[some [.int x6,.int y,.int z7]]):=rfl
   rw[CP,Ba,v2,U0a,o1,U0a]
   show(U2w _ (atI `aE (jn:Int))).bind _=_
   rw[Vy (v:=Ac t) (by rw[U07,U0w hjn,ht];rfl)]
   rfl
  have s5:(BZ 8 (eCB O2 (Aa (eOp G5 (eC (.int 10)) (eC (.int 9))) (Aa (eOp Bv (eOp Bv (eOp oIx (Ab 7) `af) `af) (BK Ak (Aa (Ab 0) (Aa (eC (.int 4)) Af)))) Af)))) [some `av,some `ae,some `aa,some (.int p.1),some (.int p.2),some (.int (1+v)),some (.int kd),some (Ac t),none,none,none] [some [.int x7,.int y,.int z8]]=some (.nx,[some `av,some `ae,some `aa,some (.int p.1),some (.int p.2),some (.int (1+v)),some (.int kd),some (Ac t),some (.int bs),none,none],[some [.int x8,.int y,.int z9]]):=by
   have o1:(BK Ak (Aa (Ab 0) (Aa (eC (.int 4)) Af))) [some `av,some `ae,some `aa,some (.int p.1),some (.int p.2),some (.int (1+v)),some (.int kd),some (Ac t),none,none,none] [some [.int x7,.int y,.int z8]]=some (.int e,[some [.int x8,.int y,.int z9]]):=Fe d8 rfl rfl
   have o0:eOp Bv (eOp oIx (Ab 7) `af) `af [some `av,some `ae,some `aa,some (.int p.1),some (.int p.2),some (.int (1+v)),some (.int kd),some (Ac t),none,none,none] [some [.int x7,.int y,.int z8]]=some (.int (t.2.1+1),[some [.int x7,.int y,.int z8]]):=rfl
   have o2:eOp Bv (eOp Bv (eOp oIx (Ab 7) `af) `af) (BK Ak (Aa (Ab 0) (Aa (eC (.int 4)) Af))) [some `av,some `ae,some `aa,some (.int p.1),some (.int p.2),some (.int (1+v)),some (.int kd),some (Ac t),none,none,none] [some [.int x7,.int y,.int z8]]=some (.int (t.2.1+1+e),[some [.int x8,.int y,.int z9]]):=by
    rw[Ba,o0,U0a,o1];rfl
   rw[CP,GC,BX,p9,U0a,BX,o2]
   simp only[U0a,Ei]
   rw[hbs]
   simp[O2,-U0t,-U1d]
   omega
  have s6:(BZ 9 (eOp Bv (eOp Bv (eOp oIx (Ab 7) `ag) `af) (BK Ak (Aa (Ab 0) (Aa (eOp K4 (eOp oIx (Ab 7) `af) (eOp oIx (Ab 7) `ag)) Af))))) [some `av,some `ae,some `aa,some (.int p.1),some (.int p.2),some (.int (1+v)),some (.int kd),some (Ac t),some (.int bs),none,none] [some [.int x8,.int y,.int z9]]=some (.nx,[some `av,some `ae,some `aa,some (.int p.1),some (.int p.2),some (.int (1+v)),some (.int kd),some (Ac t),some (.int bs),some (.int (t.1+1+f)),none],[some [.int x9,.int y,.int z10]]):=by
   have o1:BK Ak (Aa (Ab 0) (Aa (eOp K4 (eOp oIx (Ab 7) `af) (eOp oIx (Ab 7) `ag)) Af)) [some `av,some `ae,some `aa,some (.int p.1),some (.int p.2),some (.int (1+v)),some (.int kd),some (Ac t),some (.int bs),none,none] [some [.int x8,.int y,.int z9]]=some (.int f,[some [.int x9,.int y,.int z10]]):=Fe d9 rfl rfl
   have o0:eOp Bv (eOp oIx (Ab 7) `ag) `af [some `av,some `ae,some `aa,some (.int p.1),some (.int p.2),some (.int (1+v)),some (.int kd),some (Ac t),some (.int bs),none,none] [some [.int x8,.int y,.int z9]]=some (.int (t.1+1),[some [.int x8,.int y,.int z9]]):=rfl
   rw[CP,Ba,o0,U0a,o1];rfl
  have s7:(BZ 10 (Jm (Aa (Ab 7) (Aa (Bo (Aa (eOp oIx (Ab 7) `ag) (Aa (eOp oIx (Ab 7) `af) (Aa (Ab 5) Af)))) (Aa (Bo (Aa (Ab 3) (Aa (Ab 4) (Aa (eOp oIx (Ab 7) (eC (.int 2))) Af)))) (Aa (Bo (Aa (eOp oIx (Ab 7) `af) (Aa (Ab 8) (Aa (Ab 5) Af)))) Af)))))) [some `av,some `ae,some `aa,some (.int p.1),some (.int p.2),some (.int (1+v)),some (.int kd),some (Ac t),some (.int bs),some (.int (t.1+1+f)),none] [some [.int x9,.int y,.int z10]]=some (.nx,[some `av,some `ae,some `aa,some (.int p.1),some (.int p.2),some (.int (1+v)),some (.int kd),some (Ac t),some (.int bs),some (.int (t.1+1+f)),some (.ref 1)],[some [.int x9,.int y,.int z10],some ([t,(t.1,t.2.1,1+v),(p.1,p.2,t.2.2),(t.2.1,bs,1+v)].map Ac)]):=rfl
  have s8:(Gv (Fv Fb (Ab 10) (Aa (Bo (Aa (eOp oIx (Ab 7) `ag) (Aa (Ab 9) (Aa (Ab 5) Af)))) Af))) [some `av,some `ae,some `aa,some (.int p.1),some (.int p.2),some (.int (1+v)),some (.int kd),some (Ac t),some (.int bs),some (.int (t.1+1+f)),some (.ref 1)] [some [.int x9,.int y,.int z10],some ([t,(t.1,t.2.1,1+v),(p.1,p.2,t.2.2),(t.2.1,bs,1+v)].map Ac)]=some (.nx,[some `av,some `ae,some `aa,some (.int p.1),some (.int p.2),some (.int (1+v)),some (.int kd),some (Ac t),some (.int bs),some (.int (t.1+1+f)),some (.ref 1)],[some [.int x9,.int y,.int z10],some ([t,(t.1,t.2.1,1+v),(p.1,p.2,t.2.2),(t.2.1,bs,1+v),(t.1,t.1+1+f,1+v)].map Ac)]):=Pn (i:=1) (d:=Ac (t.1,t.1+1+f,1+v)) rfl rfl rfl (by simp) rfl
  obtain⟨u,hu,hu2⟩:∃u:T3,atI ([t,(t.1,t.2.1,1+v),(p.1,p.2,t.2.2),(t.2.1,bs,1+v),(t.1,t.1+1+f,1+v)].map Ac) kd=some (Ac u)/\(u.1<u.2.1->InT r0 r1 (k+1) u):=by
   have:kd=0∨kd=1∨kd=2∨kd=3∨kd=4:=by omega
   rcases this with rfl|rfl|rfl|rfl|rfl
   .exact⟨t,rfl,fun _=>⟨w1,w2,by omega,w4,w5,w6⟩⟩
   .exact⟨(t.1,t.2.1,1+v),rfl,fun _=>⟨w1,w2,by show t.2.1<=_;omega,w4,by show 1<=1+v;omega,by show 1+v<=_;omega⟩⟩
   .exact⟨(p.1,p.2,t.2.2),rfl,fun _=>⟨p0,p1,by show p.2<=_;omega,by show p.2<=_;omega,w5,w6⟩⟩
   .exact⟨(t.2.1,bs,1+v),rfl,fun q=>⟨by show r0<=t.2.1;omega,q,by show bs<=_;omega,by show bs<=_;omega,by show 1<=1+v;omega,by show 1+v<=_;omega⟩⟩
   .exact⟨(t.1,t.1+1+f,1+v),rfl,fun q=>⟨w1,q,by show t.1+1+f<=_;omega,by show t.1+1+f<=_;omega,by show 1<=1+v;omega,by show 1+v<=_;omega⟩⟩
  obtain⟨us,hus⟩:∃us:List T3,us=[t,(t.1,t.2.1,1+v),(p.1,p.2,t.2.2),(t.2.1,bs,1+v),(t.1,t.1+1+f,1+v)]:=⟨_,rfl⟩
  rw[←hus] at s8 hu
  have at1:eOp oIx (Ab 10) (Ab 6) [some `av,some `ae,some `aa,some (.int p.1),some (.int p.2),some (.int (1+v)),some (.int kd),some (Ac t),some (.int bs),some (.int (t.1+1+f)),some (.ref 1)] [some [.int x9,.int y,.int z10],some (us.map Ac)]=some (Ac u,[some [.int x9,.int y,.int z10],some (us.map Ac)]):=by
   show U2w _ (atI (us.map Ac) kd)=_
   rw[hu];rfl
  have t3:BR (eOp oGe (eOp oIx (eOp oIx (Ab 10) (Ab 6)) `ag) (eOp oIx (eOp oIx (Ab 10) (Ab 6)) `af)) [some `av,some `ae,some `aa,some (.int p.1),some (.int p.2),some (.int (1+v)),some (.int kd),some (Ac t),some (.int bs),some (.int (t.1+1+f)),some (.ref 1)] [some [.int x9,.int y,.int z10],some (us.map Ac)]=some (decide (u.2.1<=u.1),[some [.int x9,.int y,.int z10],some (us.map Ac)]):=by
   have b1:eOp oIx (eOp oIx (Ab 10) (Ab 6)) `ag [some `av,some `ae,some `aa,some (.int p.1),some (.int p.2),some (.int (1+v)),some (.int kd),some (Ac t),some (.int bs),some (.int (t.1+1+f)),some (.ref 1)] [some [.int x9,.int y,.int z10],some (us.map Ac)]=some (.int u.1,[some [.int x9,.int y,.int z10],some (us.map Ac)]):=by rw[Ba,at1];rfl
   have b2:eOp oIx (eOp oIx (Ab 10) (Ab 6)) `af [some `av,some `ae,some `aa,some (.int p.1),some (.int p.2),some (.int (1+v)),some (.int kd),some (Ac t),some (.int bs),some (.int (t.1+1+f)),some (.ref 1)] [some [.int x9,.int y,.int z10],some (us.map Ac)]=some (.int u.2.1,[some [.int x9,.int y,.int z10],some (us.map Ac)]):=by rw[Ba,at1];rfl
   rw[Cd,Ba,b1,U0a,b2];rfl
  rw[BJ s0,BJ s4,BJ s5,BJ s6,BJ s7,BJ s8,Fx]
  by_cases q:u.2.1<=u.1
  .rw[decide_eq_true q] at t3
   rw[IV t3]
   refine⟨t,x9,z10,?_,⟨w1,w2,by omega,w4,w5,w6⟩,by omega,by omega⟩
   simp[Dk,EY,Ba,oIx,VS.listOf,En,intsOf,den,DW,-U0t,-U1d,Ac]
  .rw[decide_eq_false q] at t3
   rw[FP t3]
   refine⟨u,x9,z10,?_,hu2 (by omega),by omega,by omega⟩
   simp only[PX,U0a,Dk,at1]
   simp[intsOf,den,DW,-U0t,-U1d,Ac]
end W29
end
section
namespace W29
open PySem L2 VS
theorem InT.more{r0 r1:Int}{k j:Nat}{t:T3}(h:InT r0 r1 k t)(hk:k<=j):InT r0 r1 j t:=by
 obtain⟨g1,g2,g3,g4,g5,g6⟩:=h
 exact⟨g1,g2,by omega,g4,g5,g6⟩
theorem gP(x y z r0 r1:Int)(k:Nat)(q0:-1000000000<=r0)(q1:0<r1)(q2:r0+r1<=1000000000)(hs:List T3)(hl:hs.length<=100)(hb:∀t∈hs,InT r0 r1 k t)(z0:0<=z)(z1:z<10000000)(e2 e3 e5:Option D):∃(t:T3)(x' z':Int),InT r0 r1 (k+1) t/\(z<=z'/\z'<=z+12) /\
  Jh [some `av,some `ae,e2,e3,some (.ref 1),e5] [some [.int x,.int y,.int z],some `aE]=some (.nx,[some `av,some `ae,e2,e3,some (.ref 1),e5],[some [.int x',.int y,.int z'],some ((hs++[t]).map Ac)]):=by
 obtain⟨t,x',z',e,bi,k1,k2⟩:=Zj x y z r0 r1 k q0 q1 q2 hs (by omega) hb z0 (by omega)
 refine⟨t,x',z',bi,⟨k1,k2⟩,?_⟩
 have hd:DW 0 [none,some `aE] [.tup [.int r0,.int r1],.ref 1]=some [.tup [.int r0,.int r1],.lst true `aE]:=by
  have hp:=Bg (CZ hs)
  simp[DW,den,hp]
 have ha:Cu [.tup [.int r0,.int r1],.lst true `aE]=[.tup [.int r0,.int r1],.lst false `aE]:=by
  have:=Dw (CZ hs)
  simp[Cu,age,this]
 have hnew:newD (Ac t)=true:=QG (aY t)
 have c1:BK Eu (Aa (Ab 0) (Aa (Ab 1) (Aa (Ab 4) Af))) [some `av,some `ae,e2,e3,some (.ref 1),e5] [some [.int x,.int y,.int z],some `aE]=some (Ac t,[some [.int x',.int y,.int z'],some `aE]):=by
  have a:Aa (Ab 0) (Aa (Ab 1) (Aa (Ab 4) Af)) [some `av,some `ae,e2,e3,some (.ref 1),e5] [some [.int x,.int y,.int z],some `aE]=some ([.ref 0,.tup [.int r0,.int r1],.ref 1],[some [.int x,.int y,.int z],some `aE]):=rfl
  rw[RN,a]
  show((DW 0 [none,some `aE] [.tup [.int r0,.int r1],.ref 1]).bind fun ds=>(Eu [x,y,z] (Cu ds)).bind fun r=>if (Bm [.tup [.int r0,.int r1],.ref 1]||newD r.1)=true then some (r.1,[some (r.2.map D.int),some `aE]) else none)=_
  rw[hd,U0a,ha,e,U0a,hnew,U9b]
  rfl
 unfold Jh
 rw[Ko,Rm (d:=.ref 1) (cs:=hs.map Ac) (ds:=[Ac t]) (r:=.non) (S1:=[some [.int x,.int y,.int z],some `aE]) (S2:=[some [.int x',.int y,.int z'],some `aE]) (S3:=[some [.int x',.int y,.int z'],some ((hs++[t]).map Ac)]) rfl rfl (by rw[BX,c1];rfl) (by
  show(if (`aE).length<1000000 then some (D.non,[some [.int x',.int y,.int z'],some (hs.map Ac++[Ac t])]) else none)=_
  rw[if_pos (by rw[U0d];omega),U18]
  rfl)]
 rfl
theorem gO(x y z r0 r1:Int)(most:Nat)(hm:most<=40)(h3:3<=most)(q0:-1000000000<=r0)(q1:0<r1)(q2:r0+r1<=1000000000)(z0:0<=z)(z1:z<1000000):∃(hs:List T3)(x' z':Int),
  Ej [x,y,z] [.tup [.int r0,.int r1],.int most]=some (.lst true `aE,[x',y,z'])/\hs.length<=most/\(∀t∈hs,InT r0 r1 most t)/\z<=z'/\z'<=z+1000:=by
 obtain⟨a,x1,z2,d1,⟨a0,a1⟩,k1,k2⟩:=Fd x y z 4 (by decide) (by decide) z0 (by omega)
 obtain⟨b,x2,z3,d2,⟨b0,b1⟩,k3,k4⟩:=Fd x1 y z2 ((most:Int)+1) (by omega) (by omega) (by omega) (by omega)
 obtain⟨c,x3,z4,d3,⟨c0,c1⟩,k5,k6⟩:=Fd x2 y z3 3 (by decide) (by decide) (by omega) (by omega)
 obtain⟨m,f1,hmm⟩:∃m:Nat,atI [D.int a,D.int b,D.int most] c=some (.int m)/\m<=most:=by
  have:c=0∨c=1∨c=2:=by omega
  rcases this with rfl|rfl|rfl
  .exact⟨a.toNat,by rw[show((a.toNat:Nat):Int)=a by omega];rfl,by omega⟩
  .exact⟨b.toNat,by rw[show((b.toNat:Nat):Int)=b by omega];rfl,by omega⟩
  .exact⟨most,rfl,U0l _⟩
 have s1:(BZ 3 (eOp oIx (Az (Aa (BK Ak (Aa (Ab 0) (Aa (eC (.int 4)) Af))) (Aa (BK Ak (Aa (Ab 0) (Aa (eOp Bv (Ab 2) `af) Af))) (Aa (Ab 2) Af)))) (BK Ak (Aa (Ab 0) (Aa (eC (.int 3)) Af))))) [some `av,some `ae,some (.int most),none,none,none] [some [.int x,.int y,.int z]]=some (.nx,[some `av,some `ae,some (.int most),some (.int m),none,none],[some [.int x3,.int y,.int z4]]):=by
  have o1:BK Ak (Aa (Ab 0) (Aa (eC (.int 4)) Af)) [some `av,some `ae,some (.int most),none,none,none] [some [.int x,.int y,.int z]]=some (.int a,[some [.int x1,.int y,.int z2]]):=Fe d1 rfl rfl
  have o2:BK Ak (Aa (Ab 0) (Aa (eOp Bv (Ab 2) `af) Af)) [some `av,some `ae,some (.int most),none,none,none] [some [.int x1,.int y,.int z2]]=some (.int b,[some [.int x2,.int y,.int z3]]):=Fe d2 rfl rfl
  have o3:BK Ak (Aa (Ab 0) (Aa (eC (.int 3)) Af)) [some `av,some `ae,some (.int most),none,none,none] [some [.int x2,.int y,.int z3]]=some (.int c,[some [.int x3,.int y,.int z4]]):=Fe d3 rfl rfl
  have o4:Az (Aa (BK Ak (Aa (Ab 0) (Aa (eC (.int 4)) Af))) (Aa (BK Ak (Aa (Ab 0) (Aa (eOp Bv (Ab 2) `af) Af))) (Aa (Ab 2) Af))) [some `av,some `ae,some (.int most),none,none,none] [some [.int x,.int y,.int z]]=some (.lst true [.int a,.int b,.int most],[some [.int x2,.int y,.int z3]]):=by
   rw[Ck,BX,o1,U0a,BX,o2];rfl
  rw[CP,Ba,o4,U0a,o3,U0a]
  show(U2w _ (atI [D.int a,D.int b,D.int most] c)).bind _=_
  rw[f1];rfl
 have s2:(BZ 4 (Jm Af)) [some `av,some `ae,some (.int most),some (.int m),none,none] [some [.int x3,.int y,.int z4]]=some (.nx,[some `av,some `ae,some (.int most),some (.int m),some (.ref 1),none],[some [.int x3,.int y,.int z4],some []]):=rfl
 have e:Gx (Aa (Ab 3) Af) [some `av,some `ae,some (.int most),some (.int m),some (.ref 1),none] [some [.int x3,.int y,.int z4],some []]=some ((upD 0 m,[]),[some [.int x3,.int y,.int z4],some []]):=Uk _ rfl (by simp) (by omega) (by omega)
 obtain⟨env',S',e5,hs,x',z',y6,he,hS,hl,hb,k7,k8⟩:=Gi (w:=[]) (g:=Pat.sem (.nm 5)) (b:=Jh) (ds:=upD 0 m) (env:=[some `av,some `ae,some (.int most),some (.int m),some (.ref 1),none]) (S:=[some [.int x3,.int y,.int z4],some []])
  (fun i env S=>∃(hs:List T3)(x' z':Int)(y6:Option D),env=[some `av,some `ae,some (.int most),some (.int m),some (.ref 1),y6]/\S=[some [.int x',.int y,.int z'],some `aE]/\hs.length=min i m/\(∀t∈hs,InT r0 r1 (min i m) t)/\z4<=z'/\z'<=z4+12*(min i m:Nat))
  ⟨[],x3,z4,none,rfl,rfl,by simp,(fun b h=>by cases h),by omega,by simp⟩ (fun i env S _=>by simp) (fun i d env S hd q=>by
   obtain⟨hs,x',z',y6,he,hS,hl,hb,k7,k8⟩:=q
   obtain⟨hi,rfl⟩:=Vf hd
   have hmi:min i m=i:=by omega
   rw[hmi] at hl hb k8
   subst he hS
   obtain⟨t,x5,z5,hb5,⟨k9,k10⟩,e6⟩:=gP x' y z' r0 r1 i q0 q1 q2 hs (by omega) hb (by omega) (by omega) (some (.int most)) (some (.int m)) (some (.int (0+i)))
   have hmi2:min (i+1) m=i+1:=by omega
   refine⟨_,Dc _ _ _,_,_,e6,hs++[t],x5,z5,_,rfl,rfl,by simp;omega,?_,by omega,by rw[hmi2];omega⟩
   rw[hmi2]
   intro c hc
   rcases U0z.mp hc with h|h
   .exact(hb c h).more (by omega)
   .rw[U0q.mp h];exact hb5)
 rw[Ve,U8r] at hl hb k8
 subst he hS
 have l1:M7 [some `av,some `ae,some (.int most),some (.int m),some (.ref 1),none] [some [.int x3,.int y,.int z4],some []]=some (.nx,[some `av,some `ae,some (.int most),some (.int m),some (.ref 1),y6],[some [.int x',.int y,.int z'],some `aE]):=by
  unfold M7
  rw[GP,e]
  exact e5
 refine⟨hs,x',z',?_,by omega,fun t h=>(hb t h).more hmm,by omega,by omega⟩
 unfold Ej
 rw[Kp]
 simp only[U0f,U1m,U0r,U2a,U2p,U2q,U03,U1x,U2c,U1v,if_true]
 unfold RX
 rw[BJ s1,BJ s2,BJ l1]
 have hp:=Bg (CZ hs)
 simp[Dk,EY,intsOf,den,-U0t,-U1d,hp]
end W29
end
section
namespace W29
open PySem L2 VS
theorem Qd{f:Int->Int}:∀(n:Nat){x y:Int},y=x+n->(∀e,x<e->e<=y->f e=f (e-1))->f y=f x
 |0,x,y,h,_=>by rw[h];simp
 |n+1,x,y,h,hc=>by
  rw[hc y (by omega) (U1j _)]
  exact Qd n (by omega) fun e h1 h2=>hc e h1 (by omega)
theorem Kw{f:Int->Int}{x y:Int}(hxy:x<=y)(h:∀e,x<e->e<=y->f e=f (e-1)):f y=f x:=Qd (y-x).toNat (by omega) h
structure Chg(f:Int->Int)(E:List Int)(A B:Int):Prop where
 rise:E.Pairwise (·<·)
 all:∀x,f x≠f (x-1)->x∈E
 low:∀x,x<=A->f x=0
 high:∀x,B<=x->f x=0
 inn:∀x∈E,A<x/\x<=B
theorem Yi{f:Int->Int}:∀(E:List Int)(q:Int),E.Pairwise (·<·)->(∀x∈E,q<x)->(∀e,q<e->f e≠f (e-1)->e∈E)->Link f (f q) E
 |[],q,_,_,_=>trivial
 |x::E,q,hr,hq,hc=>by
  obtain⟨r1,r2⟩:=U11.mp hr
  have hx:=hq x U0i
  refine⟨Kw (by omega) fun e h1 h2=>?_,Yi E x r2 r1 fun e h1 h2=>?_⟩
  .by_cases z:f e=f (e-1)
   .exact z
   .rcases U0h.mp (hc e h1 z) with k|k
    .omega
    .have:=r1 e k;omega
  .rcases U0h.mp (hc e (by omega) h2) with k|k
   .omega
   .exact k
theorem Chg.link{f:Int->Int}{E:List Int}{A B:Int}(h:Chg f E A B):Link f 0 E:=by
 have:=Yi E A h.rise (fun x hx=>(h.inn x hx).1) fun e _ z=>h.all e z
 rw[h.low A (U1j _)] at this
 exact this
def chg(f:Int->Int)(E:List Int):List St2:=((E.map fun x=>(x,f x)).foldl Fi ([],0)).1
def pts(f:Int->Int)(E:List Int):List Int:=E.filter fun x=>decide (f x≠f (x-1))
theorem Qz{f:Int->Int}{E:List Int}{A B:Int}(h:Chg f E A B):chg f E=(pts f E).map fun x=>(x,f x):=by
 unfold chg
 rw[Wm f E [] 0 h.link,U1v];rfl
theorem jW{f:Int->Int}{E F:List Int}{A B C G:Int}(h:Chg f E A B)(k:Chg f F C G):pts f E=pts f F :=
 HJ (h.rise.sublist U6f) (k.rise.sublist U6f) fun x=>by
  unfold pts
  rw[U1u,U1u]
  exact⟨fun z=>⟨k.all x (of_decide_eq_true z.2),z.2⟩,fun z=>⟨h.all x (of_decide_eq_true z.2),z.2⟩⟩
theorem Yq{f:Int->Int}{E F:List Int}{A B C G:Int}(h:Chg f E A B)(k:Chg f F C G):chg f E=chg f F:=by
 rw[Qz h,Qz k,jW h k]
theorem Chg.pts{f:Int->Int}{E:List Int}{A B:Int}(h:Chg f E A B):Chg f (pts f E) A B :=
 ⟨h.rise.sublist U6f,fun x z=>U1u.mpr ⟨h.all x z,decide_eq_true z⟩,h.low,h.high,fun x hx=>h.inn x (U1u.mp hx).1⟩
def stand(l:List St2):List T3:=((l.zip l.tail).map fun q=>(q.1.1,q.2.1,q.1.2)).filter fun t=>decide (0<t.2.2)
theorem T7(f:Int->Int):∀a b:List Int,(a.map fun x=>(x,f x)).zip (b.map fun x=>(x,f x))=(a.zip b).map fun p=>((p.1,f p.1),(p.2,f p.2))
 |[],_=>by simp
 |_::_,[]=>by simp
 |p::a,q::b=>by simp[T7 f a b]
theorem YF(f:Int->Int)(C:List Int):stand (C.map fun x=>(x,f x))=((steps C).map fun p=>(p.1,p.2,f p.1)).filter fun t=>decide (0<t.2.2):=by
 unfold stand steps
 rw[←U87,T7,U0t];rfl
theorem O5{f:Int->Int}{C:List Int}{t:T3}:t∈stand (C.map fun x=>(x,f x))↔∃p∈steps C,t=(p.1,p.2,f p.1)/\0<f p.1:=by
 rw[YF,U1u,U0x]
 constructor
 .rintro⟨⟨p,hp,rfl⟩,h⟩
  exact⟨p,hp,rfl,of_decide_eq_true h⟩
 .rintro⟨p,hp,rfl,h⟩
  exact⟨⟨p,hp,rfl⟩,decide_eq_true h⟩
theorem HS{f:Int->Int}{E:List Int}{A B:Int}(h:Chg f E A B){p:St2}(hp:p∈steps E){x:Int}(h1:p.1<=x)(h2:x<p.2):f x=f p.1:=by
 obtain⟨g1,g2,g3,g4⟩:=R7 h.rise p hp
 refine Kw h1 fun e k1 k2=>?_
 by_cases z:f e=f (e-1)
 .exact z
 .have:=g4 e (h.all e z)
  omega
theorem gR{f:Int->Int}{E:List Int}{A B:Int}(h:Chg f E A B)(hf:∀x,0<=f x)(hH:Hs (stand (chg f E)))(x:Int):hgt (stand (chg f E)) x=f x:=by
 symm
 have hp:=h.pts
 rw[Qz h] at hH ⊢
 refine eX hH ?_ (hf x) fun n hn=>?_
 .by_cases z:f x=0
  .exact .inl z
  .have hz:=hf x
   have a:∃c∈pts f E,c<=x:=by
    by_cases w:∃c∈pts f E,c<=x
    .exact w
    .refine absurd ?_ z
     by_cases ax:x<=A
     .exact h.low x ax
     .rw[Kw (x:=A) (y:=x) (f:=f) (by omega) fun e k1 k2=>?_]
      .exact h.low A (U1j _)
      .by_cases v:f e=f (e-1)
       .exact v
       .exact absurd ⟨e,hp.all e v,k2⟩ w
   have b:∃c∈pts f E,x<c:=by
    by_cases w:∃c∈pts f E,x<c
    .exact w
    .refine absurd ?_ z
     by_cases ax:B<=x
     .exact h.high x ax
     .rw[←Kw (x:=x) (y:=B) (f:=f) (by omega) fun e k1 k2=>?_]
      .exact h.high B (U1j _)
      .by_cases v:f e=f (e-1)
       .exact v
       .exact absurd ⟨e,hp.all e v,k1⟩ w
   obtain⟨p,hps,k1,k2⟩:=Oi hp.rise a b
   have e:=HS hp hps k1 k2
   refine .inr (U0x.mpr ⟨(p.1,p.2,f p.1),U1u.mpr ⟨O5.mpr ⟨p,hps,rfl,by omega⟩,?_⟩,e.symm⟩)
   unfold inH
   rw[U0v,decide_eq_true_eq,decide_eq_true_eq]
   exact⟨k1,k2⟩
 .obtain⟨t,ht,rfl⟩:=U0x.mp hn
  obtain⟨t1,t2⟩:=U1u.mp ht
  obtain⟨p,hps,rfl,_⟩:=O5.mp t1
  unfold inH at t2
  rw[U0v,decide_eq_true_eq,decide_eq_true_eq] at t2
  rw[HS hp hps t2.1 t2.2]
  exact U1j _
end W29
end
section
namespace W29
open PySem L2 VS
structure Xe(l:List St2):Prop where
 few:l.length<=300
 hts:∀p∈l,0<=p.2
 head:∀p,l.head?=some p->p.2≠0
 last:∀p,l.getLast?=some p->p.2=0
 adj:∀q∈l.zip l.tail,q.1.1<q.2.1/\q.1.2≠q.2.2
theorem mz(p:St2):FN [Ah p,.int 2]=some (.bl true):=by
 have c:M9 [some (Ah p),some (.int 2)] []=some ([D.bl true,.bl true],[]):=by
  have e:DP (Ab 0) [some (Ah p),some (.int 2)] []=some (([p.1,p.2].map D.int,[]),[]):=rfl
  unfold M9 Cv
  rw[e]
  simp only[U0a]
  rw[Iu (by simp) D.int (fun _=>.bl true) [p.1,p.2] (by simp)]
  .rfl
  .intro i _
   exact⟨_,Dc _ _ _,Dj (ds:=[.int i]) (es:=[.int i]) rfl (by simp[Bm,Br]) (by simp[Cu,age]) (Z7 i)⟩
 unfold FN
 rw[Eh]
 simp only[U0f,U1m,U0r,U2a,U2p,U2q,U1x,U1o,if_true]
 unfold Ra
 have i1:eCB JB (Aa (Ab 0) (Aa (eC (.ty "tuple")) Af)) [some (Ah p),some (.int 2)] []=some (.bl true,[]):=by
  have a:Aa (Ab 0) (Aa (eC (.ty "tuple")) Af) [some (Ah p),some (.int 2)] []=some ([Ah p,.ty "tuple"],[]):=rfl
  rw[GC,a,U0a]
  simp only[dD,fW];rfl
 have i2:eOp (oEq false) (eCB G6 `bj) (Ab 1) [some (Ah p),some (.int 2)] []=some (.bl true,[]):=rfl
 rw[Dk,Mz,i1]
 simp[Mz,i2,Ck,GC,BX,Ei,c]
 rfl
theorem qQ(xs:List D):cut xs (some 1) none=xs.tail:=by
 cases xs with
 |nil=>rfl
 |cons x r =>
  rw[lA (by decide) (by simp;omega)]
  rfl
theorem lN:∀a b:List St2,Fz (a.map Ah) (b.map Ah)=(a.zip b).map fun q=>D.tup [Ah q.1,Ah q.2]
 |[],_=>by simp[Fz]
 |_::_,[]=>by simp[Fz]
 |p::a,q::b=>by simp[Fz,lN a b]
theorem Y4{m:Bool}(k:List St2)(r:VS.Env)(S:Store)(j:Nat)(h:r[j]?=some (some (.lst m (k.map Ah)))):UW (Aa (Ab j) (Aa (eSl oSl (Ab j) (LQ `af) LR) Af)) r S=some (((k.zip k.tail).map fun q=>D.tup [Ah q.1,Ah q.2],[]),S):=by
 have v:Ab j r S=some (.lst m (k.map Ah),S):=by rw[EY,h];rfl
 have s:eSl oSl (Ab j) (LQ `af) LR r S=some (.lst true (k.tail.map Ah),S):=by
  rw[vC,v]
  show(some (D.lst true (cut (k.map Ah) (some 1) none),S):Option (D×Store))=_
  rw[qQ,U87]
 rw[kI,BX,v,U0a,BX,s,←lN]
 rfl
theorem all_true{Zs:Type}(l:List Zs)(S:Store):Jo S [.lst true (l.map fun _=>D.bl true)]=some (.bl true):=by
 show(Jo.boolsOf (l.map fun _=>D.bl true)).map _=_
 rw[dB]
 simp
theorem cG{l:List St2}(h:Xe l):FJ [.lst false `bm]=some (.bl true):=by
 have few:=h.few
 have c1:Hf [some `ah] []=some (l.map fun _=>D.bl true,[]):=by
  have e:DP (Ab 0) [some `ah] []=some ((l.map Ah,[]),[]):=rfl
  unfold Hf Cv
  rw[e]
  simp only[U0a]
  rw[Iu (by simp) Ah (fun _=>.bl true) l (by omega)]
  intro p hp
  have c:Bd FN (Aa (Ab 0) (Aa (eC (.int 2)) Af)) [some (Ah p)] []=some (.bl true,[]) :=
   Dj (ds:=[Ah p,.int 2]) (es:=[Ah p,.int 2]) rfl (by simp[Bm,Br,Ah]) (by simp[Cu,age,Ah]) (mz p)
  have a1:eOp oGe (eOp oIx (Ab 0) `af) `ag [some (Ah p)] []=some (.bl (decide (0<=p.2)),[]):=rfl
  rw[decide_eq_true (h.hts p hp)] at a1
  refine⟨_,Dc _ _ _,?_⟩
  show Py _ _ [some (Ah p)] []=_
  rw[Mz,c]
  simp only[U0a,a1]
 have c2:Ji [some `ah] []=some ((l.zip l.tail).map fun _=>D.bl true,[]):=by
  have e:=Y4 (m:=false) l [some `ah] [] 0 rfl
  unfold Ji Cv
  rw[e]
  simp only[U0a]
  have hz:(l.zip l.tail).length<=l.length:=by rw[U7p];omega
  rw[Iu (by simp) (fun q:St2×St2=>D.tup [Ah q.1,Ah q.2]) (fun _=>.bl true) (l.zip l.tail) (by omega)]
  intro q hq
  obtain⟨k1,k2⟩:=h.adj q hq
  have a1:eOp oLt (eOp oIx (Ab 0) `ag) (eOp oIx (Ab 1) `ag) [some (Ah q.1),some (Ah q.2)] []=some (.bl (decide (q.1.1<q.2.1)),[]):=rfl
  have a2:eOp (oEq true) (eOp oIx (Ab 0) `af) (eOp oIx (Ab 1) `af) [some (Ah q.1),some (Ah q.2)] []=some (.bl (true ^^ decide (q.1.2=q.2.2)),[]):=rfl
  rw[decide_eq_true k1] at a1
  rw[decide_eq_false k2] at a2
  refine⟨[some (Ah q.1),some (Ah q.2)],by simp[M4,Dc,Ul,Q9,O6,U03,-U0t,-U1d],?_⟩
  rw[Mz,a1]
  simp only[U0a,a2]
  rfl
 have i1:eCB JB (Aa (Ab 0) (Aa (eC (.ty "list")) Af)) [some `ah] []=some (.bl true,[]):=by
  show U2w _ (JB [] [.lst false `bm,.ty "list"])=_
  rw[iG,Xl];rfl
 have i2:eCB Jo (Aa (Az Hf) Af) [some `ah] []=some (.bl true,[]):=by
  rw[GC,BX,Ck,c1]
  simp only[U0a,Ei,all_true,U7q]
 have i3:eCB Jo (Aa (Az Ji) Af) [some `ah] []=some (.bl true,[]):=by
  rw[GC,BX,Ck,c2]
  simp only[U0a,Ei,all_true,U7q]
 have s1:(sIf (VS.tOr (VS.Hy (BR (eCB JB (Aa (Ab 0) (Aa (eC (.ty "list")) Af))))) (VS.Hy (BR (eCB Jo (Aa (Az Hf) Af))))) (Di (eC (.bl false))) Ez) [some `ah] []=some (.nx,[some `ah],[]):=by
  rw[FP (by rw[KH,Kh,Cd,i1];simp only[U0a,U36,U0s,if_false];show VS.Hy _ _ _=_;rw[Kh,Cd,i2];rfl)]
  rfl
 have t2:BR (eOp (oEq false) (eCB G6 `bj) `ag) [some `ah] []=some (decide ((l.length:Int)=0),[]):=by
  show some ((false ^^ decide ((((`bm).length:Nat):Int)=0)),_)=_
  rw[U7x,U0d]
 unfold FJ
 rw[Eh]
 simp only[U0f,U1m,U0r,U2a,U2p,U2q,U1x,U1o,if_true]
 unfold RZ
 rw[BJ s1,Fx]
 cases l with
 |nil =>
  rw[IV (by rw[t2];rfl)]
  rfl
 |cons a r =>
  have s2:(sIf (BR (eOp (oEq false) (eCB G6 `bj) `ag)) (Di (eC (.bl true))) Ez) [some (.lst false ((a::r).map Ah))] []=some (.nx,[some (.lst false ((a::r).map Ah))],[]):=by
   rw[FP (by rw[t2,decide_eq_false (by simp;omega)])];rfl
  rw[←Fx,BJ s2]
  obtain⟨b,z,hz⟩:∃(b:List St2)(z:St2),a::r=b++[z]:=by
   rcases U43 (a::r) with k|⟨b,z,k⟩
   .simp at k
   .exact⟨b,z,by rw[k,U44]⟩
  have h0:a.2≠0:=h.head a rfl
  have h9:z.2=0:=h.last z (by rw[hz];simp)
  have t3:BR (eOp (oEq false) (eOp oIx (eOp oIx (Ab 0) `ag) `af) `ag) [some (.lst false ((a::r).map Ah))] []=some (decide (a.2=0),[]):=by
   have a3:eOp oIx (Ab 0) `ag [some (.lst false ((a::r).map Ah))] []=some (Ah a,[]):=by
    show U2w _ (atI ((a::r).map Ah) ((0:Nat):Int))=_
    rw[Vy (v:=Ah a) rfl];rfl
   have a5:eOp oIx (eOp oIx (Ab 0) `ag) `af [some (.lst false ((a::r).map Ah))] []=some (.int a.2,[]):=by rw[Ba,a3];rfl
   rw[Cd,Ba,a5]
   show some ((false ^^ decide (a.2=0)),_)=_
   rw[U7x]
  have a4:eOp oIx (Ab 0) (eUn El `af) [some (.lst false ((a::r).map Ah))] []=some (Ah z,[]):=by
   show U2w _ (atI ((a::r).map Ah) (-1))=_
   rw[hz,U18]
   show U2w _ (atI (b.map Ah++[Ah z]) (-1))=_
   rw[Tt];rfl
  have t4:BR (eOp (oEq true) (eOp oIx (eOp oIx (Ab 0) (eUn El `af)) `af) `ag) [some (.lst false ((a::r).map Ah))] []=some (!decide (z.2=0),[]):=by
   have a5:eOp oIx (eOp oIx (Ab 0) (eUn El `af)) `af [some (.lst false ((a::r).map Ah))] []=some (.int z.2,[]):=by rw[Ba,a4];rfl
   rw[Cd,Ba,a5]
   show some ((true ^^ decide (z.2=0)),_)=_
   rw[U66]
  rw[decide_eq_false h0] at t3
  rw[decide_eq_true h9] at t4
  have s3:(sIf (VS.tOr (BR (eOp (oEq false) (eOp oIx (eOp oIx (Ab 0) `ag) `af) `ag)) (BR (eOp (oEq true) (eOp oIx (eOp oIx (Ab 0) (eUn El `af)) `af) `ag))) (Di (eC (.bl false))) Ez) [some (.lst false ((a::r).map Ah))] []=some (.nx,[some (.lst false ((a::r).map Ah))],[]):=by
   rw[FP (by
    rw[KH,t3]
    simp only[U0a,U0s,if_false]
    exact t4)]
   rfl
  rw[BJ s3,Dk,i3]
  rfl
end W29
end
section
namespace W29
open PySem L2 VS
theorem Ju(m:Bool)(l:List St2):Bm [.lst m `bm]=true:=by rw[Bm,Br,Bg (Ir l),Bm];rfl
theorem Lr(m:Bool)(l:List St2):Cu [.lst m `bm]=[.lst false `bm]:=by rw[Cu,age,Dw (Ir l),Cu]
theorem Yc{l:List St2}(h:Xe l):CW [.lst false `bm]=some .non:=by
 have c:Bd FJ `bj [some `ah] []=some (.bl true,[]) :=
  Dj (ds:=[.lst false `bm]) (es:=[.lst false `bm]) rfl (Ju ..) (Lr ..) (cG h)
 unfold CW
 rw[Eh]
 simp only[U0f,U1m,U0r,U2a,U2p,U2q,U1x,U1o,if_true]
 unfold Pq
 rw[FP (by rw[Kh,Cd,c];rfl)]
 rfl
theorem nP(l:List St2)(hl:l.length<=1000){r:VS.Env}{S:Store}{m:Bool}(h:r[0]?=some (some (.lst m `bm))):Gn r S=some (((l.zip l.tail).map fun q=>(q.1.1,q.2.1,q.1.2)).map Ac,S):=by
 have e:=Y4 l r S 0 h
 unfold Gn Cv
 rw[e]
 simp only[U0a]
 have hz:(l.zip l.tail).length<=l.length:=by rw[U7p];omega
 rw[Iu (by simp) (fun q:St2×St2=>D.tup [Ah q.1,Ah q.2]) (fun q=>Ac (q.1.1,q.2.1,q.1.2)) (l.zip l.tail) (by omega),U0t]
 .rfl
 .intro q hq
  exact⟨[some (Ah q.1),some (Ah q.2)],by simp[M4,Dc,Ul,Q9,O6,U03,-U0t,-U1d],by simp[EY,Jf,Ba,Ei,BX,Kv,oIx,VS.listOf,En,-U0t,-U1d,Ah,Ac]⟩
theorem jF(l:List St2)(hl:l.length<=1000):Dr [.lst false `bm]=some (.lst true ((stand l).map Ac)):=by
 have hz:(l.zip l.tail).length<=l.length:=by rw[U7p];omega
 have s1:(BZ 1 (Az Gn)) [some `ah,none] []=some (.nx,[some `ah,some (.lst true (((l.zip l.tail).map fun q=>(q.1.1,q.2.1,q.1.2)).map Ac))],[]):=by
  rw[CP,Ck,nP l hl (m:=false) rfl];rfl
 have c2:JD [some `ah,some (.lst true (((l.zip l.tail).map fun q=>(q.1.1,q.2.1,q.1.2)).map Ac))] []=some ((stand l).map Ac,[]):=by
  unfold stand
  have hk:((l.zip l.tail).map fun q=>(q.1.1,q.2.1,q.1.2)).length<=1000:=by rw[U0d];omega
  generalize ((l.zip l.tail).map fun q=>(q.1.1,q.2.1,q.1.2))=k at *
  have e:DP (Ab 1) [some `ah,some (.lst true (k.map Ac))] []=some ((k.map Ac,[]),[]):=rfl
  unfold JD Cv
  rw[e]
  simp only[U0a]
  rw[Iv (by simp) Ac (fun t=>decide (0<t.2.2)) Ac k [] (by simp;omega)]
  .rfl
  .intro t ht
   exact⟨_,Dc _ _ _,rfl,fun _=>rfl⟩
 unfold Dr
 rw[Eh]
 simp only[U0f,U1m,U0r,U2a,U2p,U2q,U03,U1x,U2c,U1v,if_true]
 unfold Nu
 rw[BJ s1,Dk,Ck,c2]
 show den 0 _ (.lst true _)=_
 rw[den,DQ 0 _ (Bg (CZ _))];rfl
theorem Z9{l:List St2}(h:Xe l):Du [.lst false `bm]=some (.lst true ((stand l).map Ac)):=by
 have few:=h.few
 have c1:Bd CW `bj [some `ah] []=some (.non,[]) :=
  Dj (ds:=[.lst false `bm]) (es:=[.lst false `bm]) rfl (Ju ..) (Lr ..) (Yc h)
 have s1:(Gv (Bd CW `bj)) [some `ah] []=some (.nx,[some `ah],[]):=by rw[Ko,c1];rfl
 have c2:Bd Dr `bj [some `ah] []=some (.lst true ((stand l).map Ac),[]) :=
  Dj (ds:=[.lst false `bm]) (es:=[.lst false `bm]) rfl (Ju ..) (Lr ..) (jF l (by omega))
 unfold Du
 rw[Eh]
 simp only[U0f,U1m,U0r,U2a,U2p,U2q,U1x,U1o,if_true]
 unfold Sq
 rw[BJ s1,Dk,c2]
 show den 0 _ (.lst true _)=_
 rw[den,DQ 0 _ (Bg (CZ _))];rfl
end W29
end
section
namespace W29
open PySem L2 VS
structure SkB(l:List St2):Prop where
 ok:Xe l
 inn:∀p∈l,-1000000000<=p.1/\p.1<=1000000000/\p.2<=1000000000
theorem jG{l:List St2}{t:T3}(h:t∈stand l):∃q∈l.zip l.tail,t=(q.1.1,q.2.1,q.1.2)/\0<t.2.2:=by
 unfold stand at h
 obtain⟨h1,h2⟩:=U1u.mp h
 obtain⟨q,hq,rfl⟩:=U0x.mp h1
 exact⟨q,hq,rfl,of_decide_eq_true h2⟩
theorem W9(l:List St2):(stand l).length<=l.length:=by
 unfold stand
 refine U1b (U3l ..) ?_
 rw[U0d,U7p]
 omega
theorem Q8{l:List St2}(h:SkB l):Hs (stand l):=⟨by have:=W9 l;have:=h.ok.few;omega,fun t ht=>by
 obtain⟨q,hq,rfl,h2⟩:=jG ht
 have b1:=h.inn q.1 (U40 hq).1
 have b2:=h.inn q.2 (List.mem_of_mem_tail (U40 hq).2)
 have:=(h.ok.adj q hq).1
 show q.1.1<q.2.1/\1<=q.1.2/\q.1.2<=1000000000/\-1000000000<=q.1.1/\q.2.1<=1000000000
 simp only at h2
 omega⟩
theorem vI{f:Int->Int}{E:List Int}{A B:Int}(h:Chg f E A B)(hf:∀x,0<=f x/\f x<=1000000000)(hl:E.length<=300)(hA:-1000000000<=A+1)(hB:B<=1000000000):SkB (chg f E):=by
 have hp:=h.pts
 have pl:(pts f E).length<=E.length:=U3l ..
 have lk:=hp.link
 rw[Qz h]
 have ch:∀x∈pts f E,f x≠f (x-1):=fun x hx=>of_decide_eq_true (U1u.mp hx).2
 refine⟨⟨by rw[U0d];omega,fun p hpm=>?_,fun p hh=>?_,fun p hh=>?_,fun q hq=>?_⟩,fun p hpm=>?_⟩
 .obtain⟨x,_,rfl⟩:=U0x.mp hpm
  exact(hf x).1
 .cases e:pts f E with
  |nil=>rw[e] at hh;simp at hh
  |cons x r =>
   rw[e] at hh lk
   simp at hh
   subst hh
   have:=ch x (by rw[e];exact U0i)
   show f x≠0
   rw[←lk.1]
   exact this
 .rcases U43 (pts f E) with k|⟨r,x,k⟩
  .rw[k] at hh;simp at hh
  .rw[U44] at k
   rw[k] at hh
   simp at hh
   subst hh
   show f x=0
   have hx:x<=B:=(hp.inn x (by rw[k];simp)).2
   rw[←Kw (f:=f) hx fun e k1 k2=>?_]
   .exact h.high B (U1j _)
   .by_cases v:f e=f (e-1)
    .exact v
    .have he:=hp.all e v
     have hr:=hp.rise
     rw[k] at he hr
     rcases U0z.mp he with w|w
     .have:=(U06.mp hr).2.2 e w x U0i
      omega
     .rw[U0q.mp w] at k1
      omega
 .rw[←U87,T7] at hq
  obtain⟨p,hps,rfl⟩:=U0x.mp hq
  have hps:p∈steps (pts f E):=hps
  obtain⟨g1,g2,g3,g4⟩:=R7 hp.rise p hps
  refine⟨g1,fun z=>?_⟩
  have c1:=ch p.2 g3
  have c2:=HS hp hps (x:=p.2-1) (by omega) (by omega)
  have z:f p.1=f p.2:=z
  omega
 .obtain⟨x,hx,rfl⟩:=U0x.mp hpm
  have:=hp.inn x hx
  have:=hf x
  show -1000000000<=x/\x<=1000000000/\f x<=1000000000
  omega
theorem Hh{hs:List T3}(h:Hs hs):Chg (hgt hs) (ends hs) (-1000000001) 1000000000:=by
 refine⟨Wh hs,fun x z=>?_,fun x hx=>Ku fun t ht w=>?_,fun x hx=>Ku fun t ht w=>?_,fun x hx=>?_⟩
 .by_cases k:x∈ends hs
  .exact k
  .refine absurd (kO (hs:=hs) (x:=x-1) (y:=x) (by omega) fun e he w=>k ?_) z
   rw[show x=e by omega];exact he
 .have:=h.all t ht;omega
 .have:=h.all t ht;omega
 .obtain⟨t,ht,k⟩:=QH.mp hx
  have:=h.all t ht
  omega
theorem Ug(hs:List T3):sky hs=chg (hgt hs) (ends hs):=rfl
theorem Ow{hs:List T3}(h:Hs hs)(hl:hs.length<=150):SkB `bg:=by
 refine vI (Hh h) (Vt h) ?_ (by decide) (by decide)
 have q:=(SetP.Ie (hs.map (·.1)++hs.map (·.2.1))).2.1
 unfold ends Cz
 rw[(U3x _ _).length_eq]
 simp at q
 omega
theorem Vr{hs:List T3}(h:Hs hs)(hl:hs.length<=150)(x:Int):hgt (stand `bg) x=hgt hs x :=
 gR (Hh h) (fun x=>(Vt h x).1) (Q8 (Ow h hl)) x
end W29
end
section
namespace W29
open PySem L2 VS
structure Rec(f:Int->Int)(t:T3):Prop where
 pos:0<t.2.2
 all:∀y,t.1<=y->y<t.2.1->t.2.2<=f y
 lo:f (t.1-1)<t.2.2
 hi:f t.2.1<t.2.2
 here:∃x,t.1<=x/\x<t.2.1/\f x=t.2.2
theorem Rec.uniq{f:Int->Int}{t u:T3}(h:Rec f t)(k:Rec f u)(e:t.2.2=u.2.2){x:Int}(h1:t.1<=x)(h2:x<t.2.1)(k1:u.1<=x)(k2:x<u.2.1):t=u:=by
 have a:t.1=u.1:=by
  rcases Int.lt_trichotomy t.1 u.1 with z|z|z
  .have:=h.all (u.1-1) (by omega) (by omega);have:=k.lo;omega
  .exact z
  .have:=k.all (t.1-1) (by omega) (by omega);have:=h.lo;omega
 have b:t.2.1=u.2.1:=by
  rcases Int.lt_trichotomy t.2.1 u.2.1 with z|z|z
  .have:=k.all t.2.1 (by omega) (by omega);have:=h.hi;omega
  .exact z
  .have:=h.all u.2.1 (by omega) (by omega);have:=k.hi;omega
 exact U8l a (U8l b e)
theorem Rec.congr{F P:Int->Int}{base:Int}(h:∀y v,base<v->(v<=F y↔v<=P y)){t:T3}(ht:base<t.2.2)(r:Rec F t):Rec P t:=by
 obtain⟨x,h1,h2,h3⟩:=r.here
 refine⟨r.pos,fun y k1 k2=>(h y _ ht).mp (r.all y k1 k2),?_,?_,x,h1,h2,?_⟩
 .have:=r.lo;have:=(h (t.1-1) _ ht);omega
 .have:=r.hi;have:=(h t.2.1 _ ht);omega
 .have:=h x _ ht;have:=h x (t.2.2+1) (by omega);omega
theorem Rec.flush{F P G:Int->Int}{base A B least:Int}(hb:0<=base)(hl:base<least)(hAB:A<B)(f1:∀x,x<A->F x=P x)(f2:∀x,A<=x->F x=G x)(p0:P (A-1)<=base)(p1:∀x,A<=x->P x=0)(g0:∀x,x<A∨B<=x->G x=0)(g1:∀x,A<=x->x<B->least<=G x)(g2:∃x,A<=x/\x<B/\G x=least){t:T3}(ht:base<t.2.2) :
  Rec F t↔Rec P t∨t=(A,B,least)∨(Rec G t/\least<t.2.2):=by
 have rAB:Rec G (A,B,least):=by
  obtain⟨x,h1,h2,h3⟩:=g2
  exact⟨show 0<least by omega,g1,by show G (A-1)<least;rw[g0 _ (.inl (by omega))];omega,by show G B<least;rw[g0 _ (.inr (U1j _))];omega,x,h1,h2,h3⟩
 constructor
 .intro r
  obtain⟨x,h1,h2,h3⟩:=r.here
  have hA:t.1<=A-1->A-1<t.2.1->False:=fun k1 k2=>by
   have:=r.all (A-1) k1 k2
   rw[f1 _ (by omega)] at this
   omega
  rcases U2k x A with z|z
  .have hbA:t.2.1<=A-1:=by
    rcases U2k (A-1) t.2.1 with w|w
    .exact(hA (by omega) w).elim
    .exact w
   refine .inl ⟨r.pos,fun y k1 k2=>by rw[←f1 y (by omega)];exact r.all y k1 k2,?_,?_,x,h1,h2,by rw[←f1 x z];exact h3⟩
   .rw[←f1 _ (by omega)];exact r.lo
   .rw[←f1 _ (by omega)];exact r.hi
  .have haA:A<=t.1:=by
    rcases U2k t.1 A with w|w
    .exact(hA (by omega) (by omega)).elim
    .exact w
   have rG:Rec G t:=by
    refine⟨r.pos,fun y k1 k2=>by rw[←f2 y (by omega)];exact r.all y k1 k2,?_,?_,x,h1,h2,by rw[←f2 x z];exact h3⟩
    .rcases U2k (t.1-1) A with w|w
     .rw[g0 _ (.inl w)];exact r.pos
     .rw[←f2 _ w];exact r.lo
    .rw[←f2 _ (by omega)];exact r.hi
   rw[f2 x z] at h3
   have hxB:x<B:=by
    rcases U2k x B with w|w
    .exact w
    .rw[g0 x (.inr w)] at h3;omega
   have:=g1 x z hxB
   rcases U2k least t.2.2 with w|w
   .exact .inr (.inr ⟨rG,w⟩)
   .exact .inr (.inl (rG.uniq rAB (show t.2.2=least by omega) h1 h2 z hxB))
 .have up:∀{u:T3},base<u.2.2->Rec G u->Rec F u:=fun {u} hu r=>by
   obtain⟨x,h1,h2,h3⟩:=r.here
   have pos:=r.pos
   have haA:A<=u.1:=by
    rcases U2k u.1 A with w|w
    .have:=r.all u.1 (U1j _) (by omega)
     rw[g0 _ (.inl w)] at this
     omega
    .exact w
   refine⟨pos,fun y k1 k2=>by rw[f2 y (by omega)];exact r.all y k1 k2,?_,?_,x,h1,h2,by rw[f2 x (by omega)];exact h3⟩
   .rcases U2k (u.1-1) A with w|w
    .rw[f1 _ w,show u.1-1=A-1 by omega];omega
    .rw[f2 _ w];exact r.lo
   .rw[f2 _ (by omega)];exact r.hi
  rintro(r|r|r)
  .obtain⟨x,h1,h2,h3⟩:=r.here
   have pos:=r.pos
   have hxA:x<A:=by
    rcases U2k x A with w|w
    .exact w
    .rw[p1 x w] at h3;omega
   have hbA:t.2.1<=A-1:=by
    rcases U2k (A-1) t.2.1 with w|w
    .have:=r.all (A-1) (by omega) w;omega
    .exact w
   refine⟨pos,fun y k1 k2=>by rw[f1 y (by omega)];exact r.all y k1 k2,?_,?_,x,h1,h2,by rw[f1 x hxA];exact h3⟩
   .rw[f1 _ (by omega)];exact r.lo
   .rw[f1 _ (by omega)];exact r.hi
  .subst r
   exact up ht rAB
  .exact up ht r.1
theorem YQ{f:Int->Int}{h A:Int}(hA:∀y,y<=A->f y<h):∀(n:Nat)(x:Int),x-A<=n->h<=f x->∃a,a<=x/\(∀y,a<=y->y<=x->h<=f y)/\f (a-1)<h
 |0,x,hn,hx=>by have:=hA x (by omega);omega
 |n+1,x,hn,hx=>by
  by_cases z:f (x-1)<h
  .exact⟨x,U1j _,fun y h1 h2=>by rw[show y=x by omega];exact hx,z⟩
  .obtain⟨a,h1,h2,h3⟩:=YQ hA n (x-1) (by omega) (by omega)
   refine⟨a,by omega,fun y k1 k2=>?_,h3⟩
   rcases U2k y x with w|w
   .exact h2 y k1 (by omega)
   .rw[show y=x by omega];exact hx
theorem WK{f:Int->Int}{h B:Int}(hB:∀y,B<=y->f y<h):∀(n:Nat)(x:Int),B-x<=n->h<=f x->∃b,x<b/\(∀y,x<=y->y<b->h<=f y)/\f b<h
 |0,x,hn,hx=>by have:=hB x (by omega);omega
 |n+1,x,hn,hx=>by
  by_cases z:f (x+1)<h
  .exact⟨x+1,by omega,fun y h1 h2=>by rw[show y=x by omega];exact hx,z⟩
  .obtain⟨b,h1,h2,h3⟩:=WK hB n (x+1) (by omega) (by omega)
   refine⟨b,by omega,fun y k1 k2=>?_,h3⟩
   rcases U2k x y with w|w
   .exact h2 y (by omega) k2
   .rw[show y=x by omega];exact hx
theorem tM{f:Int->Int}{A B x:Int}(hA:∀y,y<=A->f y=0)(hB:∀y,B<=y->f y=0)(hx:0<f x):∃t,Rec f t/\t.1<=x/\x<t.2.1/\t.2.2=f x:=by
 obtain⟨a,a1,a2,a3⟩:=YQ (f:=f) (h:=f x) (A:=A) (fun y hy=>by rw[hA y hy];exact hx) (x-A).toNat x (by omega) (U1j _)
 obtain⟨b,b1,b2,b3⟩:=WK (f:=f) (h:=f x) (B:=B) (fun y hy=>by rw[hB y hy];exact hx) (B-x).toNat x (by omega) (U1j _)
 refine⟨(a,b,f x),⟨hx,fun y k1 k2=>?_,a3,b3,x,a1,b1,rfl⟩,a1,b1,rfl⟩
 rcases U2k y x with w|w
 .exact a2 y k1 (by omega)
 .exact b2 y w k2
def Up(hs:List T3):Prop:=∀t∈hs,t.1<t.2.1/\0<t.2.2
theorem Hs.up{hs:List T3}(h:Hs hs):Up hs:=fun t ht=>by have:=h.all t ht;omega
theorem Eo{hs:List T3}{x v:Int}(hv:0<v):v<=hgt hs x↔∃t∈hs,t.1<=x/\x<t.2.1/\v<=t.2.2:=by
 have mem:∀n,n∈Ey hs x↔∃t∈hs,t.1<=x/\x<t.2.1/\t.2.2=n:=fun n=>by
  unfold Ey inH
  rw[U0x]
  constructor
  .rintro⟨t,ht,e⟩
   obtain⟨h1,h2⟩:=U1u.mp ht
   rw[U0v,decide_eq_true_eq,decide_eq_true_eq] at h2
   exact⟨t,h1,h2.1,h2.2,e⟩
  .rintro⟨t,h1,h2,h3,e⟩
   exact⟨t,U1u.mpr ⟨h1,by rw[U0v,decide_eq_true_eq,decide_eq_true_eq];exact⟨h2,h3⟩⟩,e⟩
 unfold hgt
 cases e:Qh (Ey hs x) with
 |none =>
  have:Ey hs x=[]:=by
   cases q:Ey hs x with
   |nil=>rfl
   |cons a r=>rw[q] at e;simp[Qh] at e
  constructor
  .intro z
   have z:v<=0:=z
   omega
  .rintro⟨t,h1,h2,h3,h4⟩
   have:=(mem t.2.2).mpr ⟨t,h1,h2,h3,rfl⟩
   simp_all
 |some m =>
  obtain⟨g1,g2⟩:=Rn e
  constructor
  .intro z
   obtain⟨t,h1,h2,h3,h4⟩:=(mem m).mp g1
   exact⟨t,h1,h2,h3,by rw[h4];exact z⟩
  .rintro⟨t,h1,h2,h3,h4⟩
   have:=g2 _ ((mem t.2.2).mpr ⟨t,h1,h2,h3,rfl⟩)
   show v<=m
   omega
theorem Vs{hs:List T3}(h:Up hs)(x:Int):0<=hgt hs x:=by
 unfold hgt
 cases e:Qh (Ey hs x) with
 |none=>exact U1j _
 |some m =>
  obtain⟨t,ht,rfl⟩:=U0x.mp (Rn e).1
  have:=(h t (U1u.mp ht).1).2
  show 0<=t.2.2
  omega
theorem Xu{a b:List T3}(ha:Up a)(hb:Up b){x:Int}(h:∀v,0<v->(v<=hgt a x↔v<=hgt b x)):hgt a x=hgt b x:=by
 have h1:=Vs ha x
 have h2:=Vs hb x
 have h3:=h (hgt a x)
 have h4:=h (hgt b x)
 omega
theorem Mq{hs ts:List T3}(nd:ts.Nodup)(hr:∀t∈ts,Rec (hgt hs) t):ts.length<=hs.length:=by
 have ex:∀t,∃u:T3,t∈ts->u∈hs/\u.2.2=t.2.2/\t.1<=u.1/\u.1<t.2.1:=fun t=>by
  by_cases ht:t∈ts
  .have r:=hr t ht
   have pos:=r.pos
   obtain⟨x,h1,h2,h3⟩:=r.here
   obtain⟨u,k1,k2,k3,k4⟩:=(Eo (hs:=hs) (x:=x) pos).mp (by omega)
   have k5:=(Eo (hs:=hs) (x:=x) (v:=u.2.2) (by omega)).mpr ⟨u,k1,k2,k3,U1j _⟩
   refine⟨u,fun _=>⟨k1,by omega,?_,by omega⟩⟩
   rcases U2k u.1 t.1 with w|w
   .have:=(Eo (hs:=hs) (x:=t.1-1) (v:=t.2.2) pos).mpr ⟨u,k1,by omega,by omega,by omega⟩
    have:=r.lo
    omega
   .exact w
  .exact⟨(0,0,0),fun z=>absurd z ht⟩
 obtain⟨g,hg⟩:∃g:T3->T3,∀t,t∈ts->g t∈hs/\(g t).2.2=t.2.2/\t.1<=(g t).1/\(g t).1<t.2.1:=⟨fun t=>Classical.choose (ex t),fun t=>Classical.choose_spec (ex t)⟩
 have nd2:(ts.map g).Nodup:=U61.mpr (nd.imp_of_mem fun {a b} ha hb hab e=>by
  obtain⟨_,a1,a2,a3⟩:=hg a ha
  obtain⟨_,b1,b2,b3⟩:=hg b hb
  rw[←e] at b1 b2 b3
  exact hab ((hr a ha).uniq (hr b hb) (by omega) a2 a3 b2 b3))
 have:=SetP.len_sub nd2 fun u hu=>by
  obtain⟨t,ht,rfl⟩:=U0x.mp hu
  exact(hg t ht).1
 rwa [U0d] at this
end W29
end
section
namespace W29
open PySem L2 VS
def Seg(cs:List T3):Prop:=cs.Pairwise fun c d=>c.2.1<=d.1
theorem tH{cs:List T3}(hs:Seg cs)(hu:Up cs){c d:T3}(hc:c∈cs)(hd:d∈cs){x:Int}(c1:c.1<=x)(c2:x<c.2.1)(d1:d.1<=x)(d2:x<d.2.1):c=d:=by
 obtain⟨i,hi⟩:=U7r.mp hc
 obtain⟨j,hj⟩:=U7r.mp hd
 obtain⟨hi,rfl⟩:=hi
 obtain⟨hj,rfl⟩:=hj
 rcases U5w i j with z|z|z
 .have:=U1w.mp hs i j hi hj z;omega
 .subst z;rfl
 .have:=U1w.mp hs j i hj hi z;omega
structure Run(cs:List T3)(A B:Int):Prop where
 first:∃c r,cs=c::r/\c.1=A
 last:∃r c,cs=r++[c]/\c.2.1=B
 cov:∀y,A<=y->y<B->∃c∈cs,c.1<=y/\y<c.2.1
 inn:∀c∈cs,A<=c.1/\c.2.1<=B
theorem Run.one(c:T3):Run [c] c.1 c.2.1:=⟨⟨c,[],rfl,rfl⟩,⟨[],c,rfl,rfl⟩,fun y h1 h2=>⟨c,U0i,h1,h2⟩,fun d hd=>by rw[U0q.mp hd];exact⟨U1j _,U1j _⟩⟩
theorem Run.snoc{cs:List T3}{A:Int}{c:T3}(h:Run cs A c.1)(hc:c.1<c.2.1)(hA:A<c.1):Run (cs++[c]) A c.2.1:=by
 obtain⟨d,r,e,eA⟩:=h.first
 refine⟨⟨d,r++[c],by rw[e];rfl,eA⟩,⟨cs,c,rfl,rfl⟩,fun y h1 h2=>?_,fun d hd=>?_⟩
 .rcases U2k y c.1 with w|w
  .obtain⟨d,hd,k⟩:=h.cov y h1 w
   exact⟨d,U14 _ hd,k⟩
  .exact⟨c,U0y _ U0i,w,h2⟩
 .rcases U0z.mp hd with w|w
  .have:=h.inn d w;omega
  .rw[U0q.mp w];omega
structure Fo(base:Int)(pre found:List T3):Prop where
 nd:found.Nodup
 mem:∀t,t∈found↔Rec (hgt pre) t/\base<t.2.2
structure Ov(base:Int)(pre part found:List T3):Prop where
 fl:Fo base pre found
 run:part≠[]->∃A B,Run part A B/\hgt pre (A-1)<=base
 hi:∀c∈part,base<c.2.2
 low:part=[]->∀c r,pre=r++[c]->c.2.2<=base
theorem Ov.start(base:Int):Ov base [] [] []:=by
 refine⟨⟨U6r,fun t=>⟨fun h=>(by cases h),fun⟨r,_⟩=>?_⟩⟩,fun h=>absurd rfl h,fun c h=>(by cases h),fun _ c r h=>by simp at h⟩
 obtain⟨x,_,_,h3⟩:=r.here
 have:=r.pos
 rw[Ku (by simp)] at h3
 omega
section
variable{base:Int}{pre part found:List T3}{c:T3}
theorem Fo.few(h:Fo base pre found):found.length<=pre.length:=Mq h.nd fun t ht=>((h.mem t).mp ht).1
theorem ZC{x:Int}(hu:Up (pre++part))(h:∀d∈part,¬(d.1<=x/\x<d.2.1)):hgt (pre++part) x=hgt pre x :=
 Xu hu (fun t ht=>hu t (U14 _ ht)) fun v hv=>by
  rw[Eo hv,Eo hv]
  constructor
  .rintro⟨t,h1,h2,h3,h4⟩
   rcases U0z.mp h1 with w|w
   .exact⟨t,w,h2,h3,h4⟩
   .exact absurd ⟨h2,h3⟩ (h t w)
  .rintro⟨t,h1,h2⟩
   exact⟨t,U14 _ h1,h2⟩
theorem X8{x:Int}(hu:Up (pre++part))(h:∀d∈pre,¬(d.1<=x/\x<d.2.1)):hgt (pre++part) x=hgt part x :=
 Xu hu (fun t ht=>hu t (U0y _ ht)) fun v hv=>by
  rw[Eo hv,Eo hv]
  constructor
  .rintro⟨t,h1,h2,h3,h4⟩
   rcases U0z.mp h1 with w|w
   .exact absurd ⟨h2,h3⟩ (h t w)
   .exact⟨t,w,h2,h3,h4⟩
  .rintro⟨t,h1,h2⟩
   exact⟨t,U0y _ h1,h2⟩
theorem Ov.flush(hb:0<=base)(h:Ov base pre part found)(hs:Seg (pre++part))(hu:Up (pre++part)){A B least:Int}{rs:List T3}(hr:Run part A B)(hA:hgt pre (A-1)<=base)(hm:Od (part.map (·.2.2))=some least)(hrs:Fo least part rs) :
  Fo base (pre++part) (found++[(A,B,least)]++rs):=by
 obtain⟨m1,m2⟩:=Vn hm
 have up2:Up part:=fun t ht=>hu t (U0y _ ht)
 have sp:Seg part:=(U06.mp hs).2.1
 have sx:=(U06.mp hs).2.2
 obtain⟨c0,r0,e0,eA⟩:=hr.first
 have preA:∀d∈pre,d.2.1<=A:=fun d hd=>by rw[←eA];exact sx d hd c0 (by rw[e0];exact U0i)
 obtain⟨cm,hcm,em⟩:=U0x.mp m1
 have hl:base<least:=by rw[←em];exact h.hi cm hcm
 have hcm2:=up2 cm hcm
 have hcm3:=hr.inn cm hcm
 have g1:∀x,A<=x->x<B->least<=hgt part x:=fun x k1 k2=>by
  obtain⟨c,hc,k3,k4⟩:=hr.cov x k1 k2
  exact(Eo (by omega)).mpr ⟨c,hc,k3,k4,m2 _ (U4r hc)⟩
 have key:=fun {t:T3} (ht:base<t.2.2)=>Rec.flush (F:=hgt (pre++part)) (P:=hgt pre) (G:=hgt part) (A:=A) (B:=B) (t:=t) hb hl (by omega)
  (fun x hx=>ZC hu fun d hd w=>by have:=hr.inn d hd;omega)
  (fun x hx=>X8 hu fun d hd w=>by have:=preA d hd;omega)
  hA (fun x hx=>Ku fun d hd w=>by have:=preA d hd;omega)
  (fun x hx=>Ku fun d hd w=>by have:=hr.inn d hd;omega) g1
  ⟨cm.1,by omega,by omega,by
   have a1:=g1 cm.1 (by omega) (by omega)
   have a2:=Vs up2 cm.1
   by_cases z:least<hgt part cm.1
   .obtain⟨d,hd,k1,k2,k3⟩:=(Eo (hs:=part) (x:=cm.1) (v:=least+1) (by omega)).mp (by omega)
    have:=tH sp up2 hcm hd (x:=cm.1) (by omega) (by omega) k1 k2
    rw[←this] at k3
    omega
   .omega⟩ ht
 refine⟨?_,fun t=>?_⟩
 .rw[U04]
  have lowf:∀t∈found,t.1<A:=fun t ht=>by
   obtain⟨r,q⟩:=(h.fl.mem t).mp ht
   obtain⟨x,k1,k2,k3⟩:=r.here
   have pos:=r.pos
   obtain⟨d,hd,d1,d2,_⟩:=(Eo (hs:=pre) (x:=x) pos).mp (by omega)
   have:=preA d hd
   omega
  have highr:∀t∈rs,A<=t.1/\least<t.2.2:=fun t ht=>by
   obtain⟨r,q⟩:=(hrs.mem t).mp ht
   obtain⟨x,k1,k2,k3⟩:=r.here
   have:=r.all t.1 (U1j _) (by omega)
   obtain⟨d,hd,d1,d2,_⟩:=(Eo (hs:=part) (x:=t.1) r.pos).mp this
   have:=hr.inn d hd
   omega
  refine U6x.mpr ⟨h.fl.nd,U3y.mpr ⟨fun w=>?_,hrs.nd⟩,fun a ha b hb e=>?_⟩
  .have:=(highr _ w).2
   exact absurd this (Int.lt_irrefl _)
  .have h1:=lowf a ha
   rcases U0h.mp hb with w|w
   .rw[e,w] at h1
    exact absurd h1 (Int.lt_irrefl _)
   .have:=(highr b w).1
    rw[←e] at this
    omega
 .rw[U04,U0z,List.singleton_append,U0h]
  constructor
  .rintro(w|w|w)
   .obtain⟨r,q⟩:=(h.fl.mem t).mp w
    exact⟨(key q).mpr (.inl r),q⟩
   .have q:base<t.2.2:=by rw[w];exact hl
    exact⟨(key q).mpr (.inr (.inl w)),q⟩
   .obtain⟨r,q⟩:=(hrs.mem t).mp w
    exact⟨(key (by omega)).mpr (.inr (.inr ⟨r,q⟩)),by omega⟩
  .rintro⟨r,q⟩
   rcases(key q).mp r with w|w|w
   .exact .inl ((h.fl.mem t).mpr ⟨w,q⟩)
   .exact .inr (.inl w)
   .exact .inr (.inr ((hrs.mem t).mpr w))
theorem Fo.under(hb:0<=base)(h:Fo base pre found)(hu:Up (pre++[c]))(hc:c.2.2<=base):Ov base (pre++[c]) [] found:=by
 have cg:∀y v,base<v->(v<=hgt (pre++[c]) y↔v<=hgt pre y):=fun y v hv=>by
  rw[Eo (by omega),Eo (by omega)]
  constructor
  .rintro⟨t,h1,h2,h3,h4⟩
   rcases U0z.mp h1 with w|w
   .exact⟨t,w,h2,h3,h4⟩
   .rw[U0q.mp w] at h4;omega
  .rintro⟨t,h1,h2⟩
   exact⟨t,U14 _ h1,h2⟩
 refine⟨⟨h.nd,fun t=>(h.mem t).trans ⟨fun⟨r,q⟩=>⟨r.congr (fun y v hv=>(cg y v hv).symm) q,q⟩,fun⟨r,q⟩=>⟨r.congr cg q,q⟩⟩⟩,fun h=>absurd rfl h,fun c h=>(by cases h),fun _ d r e=>?_⟩
 have:=(List.append_inj' e rfl).2
 simp at this
 rw[←this];exact hc
theorem Ov.first(hb:0<=base)(h:Ov base pre [] found)(hs:Seg (pre++[c]))(hu:Up (pre++[c]))(hc:base<c.2.2):Ov base pre [c] found:=by
 refine⟨h.fl,fun _=>⟨c.1,c.2.1,Run.one c,?_⟩,fun d hd=>by rw[U0q.mp hd];exact hc,fun e=>by simp at e⟩
 rcases U43 pre with e|⟨r,d,e⟩
 .rw[e,Ku (by simp)];exact hb
 .rw[U44] at e
  have hd:=h.low rfl d r e
  by_cases z:hgt pre (c.1-1)<=base
  .exact z
  .obtain⟨t,h1,h2,h3,h4⟩:=(Eo (hs:=pre) (x:=c.1-1) (v:=base+1) (by omega)).mp (by omega)
   have k:=(U06.mp hs).2.2 d (by rw[e];simp) c U0i
   have ud:=hu d (by rw[e];simp)
   rw[e] at h1
   rcases U0z.mp h1 with w|w
   .have:t.2.1<=d.1:=by
     have q:=(U06.mp hs).1
     rw[e] at q
     exact(U06.mp q).2.2 t w d U0i
    omega
   .rw[U0q.mp w] at h4;omega
theorem Ov.on(h:Ov base pre part found)(hu:Up (pre++part++[c])){A:Int}(hr:Run part A c.1)(hA:hgt pre (A-1)<=base)(hc:base<c.2.2):Ov base pre (part++[c]) found:=by
 have uc:=(hu c (by simp)).1
 have hAc:A<c.1:=by
  obtain⟨d,r,e,eA⟩:=hr.first
  have:=hr.inn d (by rw[e];exact U0i)
  have:=hu d (by rw[e];simp)
  omega
 refine⟨h.fl,fun _=>⟨A,c.2.1,hr.snoc uc hAc,hA⟩,fun d hd=>?_,fun e=>by simp at e⟩
 rcases U0z.mp hd with w|w
 .exact h.hi d w
 .rw[U0q.mp w];exact hc
theorem Fo.gap(hb:0<=base)(h:Fo base pre found)(hl:∀d∈pre,d.2.1<c.1)(hc:base<c.2.2):Ov base pre [c] found:=by
 refine⟨h,fun _=>⟨c.1,c.2.1,Run.one c,?_⟩,fun d hd=>by rw[U0q.mp hd];exact hc,fun e=>by simp at e⟩
 rw[Ku fun d hd w=>by have:=hl d hd;omega]
 exact hb
end
end W29
end
section
namespace W29
open PySem L2 VS
theorem nu{S:Store}{i:Nat}{l:List T3}(h:S[i]?=some (some (l.map Ac))):DN S (.ref i)=some (.list (l.map pT3)):=by
 have hp:Bm (l.map Ac)=true:=Bg (CZ l)
 have:=PN S true l
 rw[DN,den,DQ 0 S hp] at this
 rw[DN,den,if_neg (by omega),h]
 show(if Bm (l.map Ac)=true then some (D.lst true (l.map Ac)) else none).bind toP=_
 rw[if_pos hp]
 exact this
theorem aN(l:List T3):lev 2 (.list (l.map pT3))=true:=by
 show(l.map pT3).all (lev 1)=true
 rw[U32]
 intro x hx
 obtain⟨t,_,rfl⟩:=U0x.mp hx
 simp[pT3,lev]
abbrev CG(cs:List T3)(base:Int)(found:List T3)(i:Nat)(d z:Option D):VS.Env:=[some (.lst false (cs.map Ac)),some (.int base),some (.lst true (found.map Ac)),some (.ref i),d,z]
section
variable{cs found part:List T3}{base:Int}{S:Store}{i:Nat}{d z:Option D}
theorem XH(hi:S[i]?=some (some `ba)):BR (eOp (oEq true) (Ab 3) (Az Af)) (CG cs base found i d z) S=some (!part.isEmpty,S):=by
 have v:Ab 3 (CG cs base found i d z) S=some (.ref i,S):=rfl
 have f:Az Af (CG cs base found i d z) S=some (.lst true [],S):=rfl
 have q:=aZ (neg:=true) (m:=true) 2 (nu hi) (aN part) (by decide)
 rw[List.isEmpty_map,U66] at q
 have q':oEq true S (.ref i) (.lst true [])=some (.bl (!part.isEmpty)):=q
 rw[Cd,Ba,v,U0a,f,U0a,q']
 rfl
theorem bR(hi:S[i]?=some (some `ba)){k:Int}{t:T3}(h:atI `ba k=some (Ac t)){e:BL}(he:e (CG cs base found i d z) S=some (.int k,S)):eOp oIx (Ab 3) e (CG cs base found i d z) S=some (Ac t,S):=by
 have v:Ab 3 (CG cs base found i d z) S=some (.ref i,S):=rfl
 have s:En S (.ref i)=some `ba:=by show(S[i]?).join=_;rw[hi];rfl
 have o:oIx S (.ref i) (.int k)=some (Ac t):=by show(En S (.ref i)).bind _=_;rw[s];exact h
 rw[Ba,v,U0a,he,U0a,o]
 rfl
theorem Vx{r:List T3}{pl:T3}(e:part=r++[pl]):atI `ba (-1)=some (Ac pl):=by
 rw[e,U18];exact Tt _ _
theorem lM{r:List T3}{p0:T3}(e:part=p0::r):atI `ba 0=some (Ac p0):=by rw[e];exact xq _ _
theorem jg(rec:DX)(hi:S[i]?=some (some `ba))(hp:part.length<=1000):Jb rec (CG cs base found i d z) S=some ((part.map (·.2.2)).map .int,S):=by
 have v:Ab 3 (CG cs base found i d z) S=some (.ref i,S):=rfl
 have s:En S (.ref i)=some `ba:=by show(S[i]?).join=_;rw[hi];rfl
 have e:DP (Ab 3) (CG cs base found i d z) S=some ((part.map Ac,[(i,part.map Ac)]),S):=by rw[Mw,v,U0a,s];rfl
 unfold Jb Cv
 rw[e]
 simp only[U0a]
 rw[Iu (fun p hp=>by rw[U0q.mp hp];exact hi) Ac (fun t=>.int t.2.2) part (by omega),U0t]
 .rfl
 .intro t ht
  exact⟨_,Dc _ _ _,rfl⟩
theorem YW{rec:DX}(hi:S[i]?=some (some `ba)){p0 pl:T3}{r r' rs:List T3}{least:Int}(e1:part=p0::r)(e2:part=r'++[pl])(hm:Od (part.map (·.2.2))=some least)
  (hr:rec [.lst false `ba,.int least]=some (.lst true (rs.map Ac))) (hl:found.length+rs.length<=1000) (hp:part.length<=1000) :
  (Bk (BZ 5 (eCB Q6 (Aa (Az (Jb rec)) Af))) (Bk `aI (BZ 3 (Jm Af)))) (CG cs base found i d z) S=some (.nx,CG cs base (found++[(p0.1,pl.2.1,least)]++rs) S.length d (some (.int least)),S++[some []]):=by
 have s5:(BZ 5 (eCB Q6 (Aa (Az (Jb rec)) Af))) (CG cs base found i d z) S=some (.nx,CG cs base found i d (some (.int least)),S):=by
  have b:Q6 S [.lst true ((part.map (·.2.2)).map .int)]=some (.int least):=by
   unfold Q6
   simp only[VS.listOf,U0a,Mg,hm,U7q]
  rw[CP,GC,BX,Ck,jg rec hi hp]
  simp only[U0a,Ei,b,U7q]
  rfl
 have x0:eOp oIx (eOp oIx (Ab 3) `ag) `ag (CG cs base found i d (some (.int least))) S=some (.int p0.1,S):=by
  rw[Ba,bR hi (lM e1) rfl];rfl
 have x1:eOp oIx (eOp oIx (Ab 3) (eUn El `af)) `af (CG cs base found i d (some (.int least))) S=some (.int pl.2.1,S):=by
  rw[Ba,bR hi (Vx e2) rfl];rfl
 have v5:Ab 5 (CG cs base found i d (some (.int least))) S=some (.int least,S):=rfl
 have v2:Ab 2 (CG cs base found i d (some (.int least))) S=some (.lst true (found.map Ac),S):=rfl
 have f1:Az (Aa (Bo (Aa (eOp oIx (eOp oIx (Ab 3) `ag) `ag) (Aa (eOp oIx (eOp oIx (Ab 3) (eUn El `af)) `af) (Aa (Ab 5) Af)))) Af) (CG cs base found i d (some (.int least))) S=some (.lst true ([(p0.1,pl.2.1,least)].map Ac),S):=by
  rw[Ck,BX,Kv,BX,x0,U0a,BX,x1,U0a,BX,v5];rfl
 have pp:=Bg (CZ part)
 have cl:Bd rec (Aa (Ab 3) (Aa (Ab 5) Af)) (CG cs base found i d (some (.int least))) S=some (.lst true (rs.map Ac),S) :=
  iC (ds:=[.ref i,.int least]) (es:=[.lst true `ba,.int least]) (fs:=[.lst false `ba,.int least]) rfl
   (by rw[DW,den,if_neg (by omega),hi];simp[DW,den,pp]) (by simp[Cu,age,Dw (CZ part)]) hr (by
    have:=Lx (CZ rs)
    simp[newD,this])
 have s2:`aI (CG cs base found i d (some (.int least))) S=some (.nx,CG cs base (found++[(p0.1,pl.2.1,least)]++rs) i d (some (.int least)),S):=by
  rw[CP,add_lists (xs:=(found++[(p0.1,pl.2.1,least)]).map Ac) (ys:=rs.map Ac) (by
   rw[add_lists v2 f1 (by simp;omega),←U18]) cl (by simp;omega),←U18]
  rfl
 rw[BJ s5,BJ s2]
 rfl
theorem lg(x y:D)(v:Int):BR (eOp oLe (eOp oIx (Ab 4) (eC (.int 2))) (Ab 1)) (CG cs base found i (some (.tup [x,y,.int v])) z) S=some (decide (v<=base),S):=rfl
theorem bT(x y:D)(v:Int):BR (eOp oGt (eOp oIx (Ab 4) (eC (.int 2))) (Ab 1)) (CG cs base found i (some (.tup [x,y,.int v])) z) S=some (decide (base<v),S):=rfl
theorem aL{rec:DX}{x y:D}{v:Int}(hi:S[i]?=some (some (([]:List T3).map Ac)))(hv:v<=base) :
  Ds rec (CG cs base found i (some (.tup [x,y,.int v])) z) S=some (.nx,CG cs base found i (some (.tup [x,y,.int v])) z,S):=by
 have g:BR (eOp oGt (eOp oIx (Ab 4) (eC (.int 2))) (Ab 1)) (CG cs base found i (some (.tup [x,y,.int v])) z) S=some (false,S):=by rw[bT,decide_eq_false (by omega)]
 unfold Ds
 refine(BJ (env1:=CG cs base found i (some (.tup [x,y,.int v])) z) (S1:=S) (by rw[FP (by rw[Im,XH hi];rfl)];rfl)).trans ?_
 rw[FP g]
 rfl
theorem YT{rec:DX}{x y:D}{v:Int}(hi:S[i]?=some (some `ba))(hv:v<=base){p0 pl:T3}{r r' rs:List T3}{least:Int}(e1:part=p0::r)(e2:part=r'++[pl])(hm:Od (part.map (·.2.2))=some least)
  (hr:rec [.lst false `ba,.int least]=some (.lst true (rs.map Ac))) (hl:found.length+rs.length<=1000) (hp:part.length<=1000) :
  Ds rec (CG cs base found i (some (.tup [x,y,.int v])) z) S=some (.nx,CG cs base (found++[(p0.1,pl.2.1,least)]++rs) S.length (some (.tup [x,y,.int v])) (some (.int least)),S++[some []]):=by
 have ne:part.isEmpty=false:=by rw[e1];rfl
 unfold Ds
 refine(BJ (env1:=CG cs base (found++[(p0.1,pl.2.1,least)]++rs) S.length (some (.tup [x,y,.int v])) (some (.int least))) (S1:=S++[some []]) (by
  rw[IV (by rw[Im,XH hi,ne];simp only[U0a,U7v,if_true];show VS.tOr _ _ _ _=_;rw[KH,lg,decide_eq_true hv];rfl)]
  exact YW hi e1 e2 hm hr hl hp)).trans ?_
 rw[FP (by rw[bT,decide_eq_false (by omega)])]
 rfl
theorem Xo{S':Store}{c:T3}(hc:base<c.2.2)(hl:part.length<=1000):(sIf (BR (eOp oGt (eOp oIx (Ab 4) (eC (.int 2))) (Ab 1))) (Gv (Fv Fb (Ab 3) (Aa (Ab 4) Af))) Ez) `bp (S'++[some `ba])=some (.nx,CG cs base found S'.length (some (Ac c)) z,S'++[some ((part++[c]).map Ac)]):=by
 rw[IV (by show BR _ (CG cs base found S'.length (some (.tup [.int c.1,.int c.2.1,.int c.2.2])) z) _=_;rw[bT,decide_eq_true hc])]
 exact Pn (i:=S'.length) (l:=part.map Ac) (d:=Ac c) rfl (J8 S' _ []) rfl (by rw[U0d];omega) (by rw[XS,U18];rfl)
theorem jh{rec:DX}{S':Store}{c:T3}(hc:base<c.2.2):Ds rec `bp (S'++[some (([]:List T3).map Ac)])=some (.nx,CG cs base found S'.length (some (Ac c)) z,S'++[some ([c].map Ac)]):=by
 unfold Ds
 refine(BJ (env1:=CG cs base found S'.length (some (Ac c)) z) (S1:=S'++[some (([]:List T3).map Ac)]) (by rw[FP (by rw[Im,XH (part:=[]) (J8 S' _ [])];rfl)];rfl)).trans ?_
 exact Xo (part:=[]) hc (by simp)
theorem dZ{S':Store}{c pl:T3}{r:List T3}(e2:part=r++[pl])(hc:base<c.2.2):VS.K3 (BR (eOp (oEq true) (Ab 3) (Az Af))) (VS.tOr (BR (eOp oLe (eOp oIx (Ab 4) (eC (.int 2))) (Ab 1))) (BR (eOp (oEq true) (eOp oIx (eOp oIx (Ab 3) (eUn El `af)) `af) (eOp oIx (Ab 4) `ag)))) `bp (S'++[some `ba])=some (!decide (pl.2.1=c.1),S'++[some `ba]):=by
 have ne:part.isEmpty=false:=by rw[e2];cases r<;>rfl
 have hi:(S'++[some `ba])[S'.length]?=some (some `ba):=J8 S' _ []
 have x1:eOp oIx (eOp oIx (Ab 3) (eUn El `af)) `af `bp (S'++[some `ba])=some (.int pl.2.1,S'++[some `ba]):=by
  rw[Ba,bR hi (Vx e2) rfl];rfl
 have x2:eOp oIx (Ab 4) `ag `bp (S'++[some `ba])=some (.int c.1,S'++[some `ba]):=rfl
 have le:BR (eOp oLe (eOp oIx (Ab 4) (eC (.int 2))) (Ab 1)) `bp (S'++[some `ba])=some (false,S'++[some `ba]):=by
  show BR _ (CG cs base found S'.length (some (.tup [.int c.1,.int c.2.1,.int c.2.2])) z) _=_
  rw[lg,decide_eq_false (by omega)]
 rw[Im,XH hi,ne]
 simp only[U0a,U7v,if_true]
 show VS.tOr _ _ _ _=_
 rw[KH,le]
 simp only[U0a,U0s,if_false]
 show BR _ _ _=_
 rw[Cd,Ba,x1,U0a,x2]
 show some ((true ^^ decide (pl.2.1=c.1)),_)=_
 rw[U66]
theorem wZ{rec:DX}{S':Store}{c pl:T3}{r:List T3}(e2:part=r++[pl])(hc:base<c.2.2)(he:pl.2.1=c.1)(hl:part.length<=1000):Ds rec `bp (S'++[some `ba])=some (.nx,CG cs base found S'.length (some (Ac c)) z,S'++[some ((part++[c]).map Ac)]):=by
 unfold Ds
 refine(BJ (env1:=CG cs base found S'.length (some (Ac c)) z) (S1:=S'++[some `ba]) (by rw[FP (by rw[dZ e2 hc,decide_eq_true he];rfl)];rfl)).trans ?_
 exact Xo hc hl
theorem uH{rec:DX}{S':Store}{c:T3}{p0 pl:T3}{r r' rs:List T3}{least:Int}(e1:part=p0::r)(e2:part=r'++[pl])(hc:base<c.2.2)(he:pl.2.1≠c.1)(hm:Od (part.map (·.2.2))=some least)
  (hr:rec [.lst false `ba,.int least]=some (.lst true (rs.map Ac))) (hl:found.length+rs.length<=1000) (hp:part.length<=1000) :
  Ds rec `bp (S'++[some `ba])=some (.nx,CG cs base (found++[(p0.1,pl.2.1,least)]++rs) (S'++[some `ba]).length (some (Ac c)) (some (.int least)),S'++[some `ba]++[some ([c].map Ac)]):=by
 unfold Ds
 refine(BJ (env1:=CG cs base (found++[(p0.1,pl.2.1,least)]++rs) (S'++[some `ba]).length (some (Ac c)) (some (.int least))) (S1:=S'++[some `ba]++[some (([]:List T3).map Ac)]) (by
  rw[IV (by rw[dZ e2 hc,decide_eq_false he];rfl)]
  exact YW (J8 S' _ []) e1 e2 hm hr hl hp)).trans ?_
 exact Xo (part:=[]) hc (by simp)
end
end W29
end
section
namespace W29
open PySem L2 VS
theorem fH{base least:Int}(hb:base<least):∀H:List Int,(H.filter fun v=>decide (least<v)).length<=(H.filter fun v=>decide (base<v)).length
 |[]=>U0l _
 |a::r=>by
  have:=fH hb r
  rw[U21,U21]
  by_cases z:least<a
  .rw[if_pos (decide_eq_true z),if_pos (decide_eq_true (show base<a by omega))]
   simpa using this
  .rw[if_neg (by simpa using z)]
   split
   .rw[U0f];omega
   .exact this
theorem fG{base least:Int}(hb:base<least):∀{H:List Int},least∈H->(H.filter fun v=>decide (least<v)).length<(H.filter fun v=>decide (base<v)).length
 |[],h=>by cases h
 |a::r,h=>by
  have le:=fH hb r
  rw[U21,U21]
  by_cases z:a=least
  .subst z
   rw[if_neg (by simp),if_pos (decide_eq_true hb),U0f]
   omega
  .have:=fG hb (H:=r) ((U0h.mp h).resolve_left fun e=>z e.symm)
   by_cases w:least<a
   .rw[if_pos (decide_eq_true w),if_pos (decide_eq_true (show base<a by omega))]
    simpa using this
   .rw[if_neg (by simpa using w)]
    split
    .rw[U0f];omega
    .exact this
theorem uT:∀{l:List Int},l≠[]->∃m,Od l=some m:=by
 intro l h
 cases e:Od l with
 |some m=>exact⟨m,rfl⟩
 |none =>
  exfalso
  cases l with
  |nil=>exact h rfl
  |cons a r=>simp[Od] at e
theorem aK(H:List Int):∀(n:Nat)(cs:List T3)(base:Int),Seg cs->Up cs->(∀c∈cs,c.2.2∈H)->cs.length<=400->0<=base->(H.filter fun v=>decide (base<v)).length<n->∃ts,Al n [.lst false (cs.map Ac),.int base]=some (.lst true (ts.map Ac))/\Fo base cs ts
 |0,_,_,_,_,_,_,_,h=>absurd h (U3a _)
 |n+1,cs,base,hs,hu,hH,hl,hb,hm=>by
  have fl:∀{pre part found:List T3},Ov base pre part found->part≠[]->Seg (pre++part)->Up (pre++part)->(∀c∈part,c∈cs)->(pre++part).length<=cs.length->∃(p0 pl:T3)(r r' rs:List T3)(least:Int),part=p0::r/\part=r'++[pl]/\Od (part.map (·.2.2))=some least /\
    Al n [.lst false `ba,.int least]=some (.lst true (rs.map Ac))/\found.length+rs.length<=1000/\part.length<=1000/\Fo base (pre++part) (found++[(p0.1,pl.2.1,least)]++rs)/\∃A,Run part A pl.2.1/\hgt pre (A-1)<=base:=fun {pre part found} h hne s u sub len=>by
   obtain⟨A,B,hr,hA⟩:=h.run hne
   obtain⟨p0,r,e1,eA⟩:=hr.first
   obtain⟨r',pl,e2,eB⟩:=hr.last
   obtain⟨least,hmin⟩:=uT (l:=part.map (·.2.2)) (by rw[e1];simp)
   obtain⟨cm,hcm,em⟩:=U0x.mp (Vn hmin).1
   have hbl:base<least:=by rw[←em];exact h.hi cm hcm
   rw[U0p] at len
   obtain⟨rs,h1,h2⟩:=aK H n part least (U06.mp s).2.1 (fun t ht=>u t (U0y _ ht)) (fun c hc=>hH c (sub c hc)) (by omega) (by omega) (by
    have:=fG hbl (H:=H) (by rw[←em];exact hH cm (sub cm hcm))
    omega)
   subst eA eB
   have f1:=h.fl.few
   have f2:=h2.few
   exact⟨p0,pl,r,r',rs,least,e1,e2,hmin,h1,by omega,by omega,h.flush hb s u hr hA hmin h2,_,hr,hA⟩
  have s1:(BZ 2 (Az Af)) [some (.lst false (cs.map Ac)),some (.int base),none,none,none,none] []=some (.nx,[some (.lst false (cs.map Ac)),some (.int base),some (.lst true []),none,none,none],[]):=rfl
  have s2:(BZ 3 (Jm Af)) [some (.lst false (cs.map Ac)),some (.int base),some (.lst true []),none,none,none] []=some (.nx,CG cs base [] 0 none none,[some []]):=rfl
  have e:DP (eOp Bv (Ab 0) (Az (Aa (Bo (Aa (eC .non) (Aa (eC .non) (Aa (Ab 1) Af)))) Af))) (CG cs base [] 0 none none) [some []]=some ((cs.map Ac++[.tup [.non,.non,.int base]],[]),[some []]):=by
   have v:Ab 0 (CG cs base [] 0 none none) [some []]=some (.lst false (cs.map Ac),[some []]):=rfl
   have f:Az (Aa (Bo (Aa (eC .non) (Aa (eC .non) (Aa (Ab 1) Af)))) Af) (CG cs base [] 0 none none) [some []]=some (.lst true [.tup [.non,.non,.int base]],[some []]):=rfl
   rw[Mw,Ba,v,U0a,f,U0a]
   show(U2w _ (if (cs.map Ac).length+1<=1000000 then some (D.lst true (cs.map Ac++[.tup [.non,.non,.int base]])) else none)).bind _=_
   rw[if_pos (by rw[U0d];omega)]
   rfl
  obtain⟨env',S',e3,q⟩:=Gi (w:=[]) (g:=Pat.sem (.nm 4)) (b:=Ds (Al n)) (ds:=cs.map Ac++[.tup [.non,.non,.int base]]) (env:=CG cs base [] 0 none none) (S:=[some []])
   (fun i env S=>(i<=cs.length/\∃(pre part found:List T3)(z4 z5:Option D)(S':Store),env=CG cs base found S'.length z4 z5/\S=S'++[some `ba]/\cs.take i=pre++part/\Ov base pre part found)∨(i=cs.length+1/\∃(found:List T3)(j:Nat)(z4 z5:Option D),env=CG cs base found j z4 z5/\Fo base cs found))
   (.inl ⟨U25 _,[],[],[],none,none,[],rfl,rfl,by simp,Ov.start base⟩) (fun i env S _=>by simp) (fun i d env S hd q=>by
    rcases q with ⟨hi,pre,part,found,z4,z5,S',he,hS,ht,ov⟩|⟨hi,_⟩
    .subst he hS
     have stk:Seg (pre++part):=by rw[←ht];exact U7b (U48 _ _) hs
     have utk:Up (pre++part):=fun t h=>hu t (U4b (ht ▸ h))
     have lpp:(pre++part).length<=cs.length:=by rw[←ht,U1q];omega
     have sub:∀c∈part,c∈cs:=fun c h=>U4b (i:=i) (by rw[ht];exact U0y _ h)
     have hpl:part.length<=1000:=by rw[U0p] at lpp;omega
     refine⟨_,Dc _ _ _,?_⟩
     rcases U4f i cs.length with z|z
     .rw[U01 (by rw[U0d];exact z),U07] at hd
      obtain⟨c,hc,rfl⟩:=U2r.mp hd
      have ht1:cs.take (i+1)=pre++part++[c]:=by rw[U7w,hc,ht];rfl
      have s1:Seg (pre++part++[c]):=by rw[←ht1];exact U7b (U48 _ _) hs
      have u1:Up (pre++part++[c]):=fun t h=>hu t (U4b (ht1 ▸ h))
      rcases U2k base c.2.2 with hv|hv
      .by_cases hp:part=[]
       .subst hp
        rw[U1o] at s1 u1 ht ht1
        exact⟨_,_,jh hv,.inl ⟨z,pre,[c],found,_,_,S',rfl,rfl,ht1,ov.first hb s1 u1 hv⟩⟩
       .obtain⟨p0,pl,r,r',rs,least,e1,e2,hmin,hrec,l1,l2,fo,A,hr,hA⟩:=fl ov hp stk utk sub lpp
        by_cases hg:pl.2.1=c.1
        .rw[hg] at hr
         exact⟨_,_,wZ e2 hv hg l2,.inl ⟨z,pre,part++[c],found,_,_,S',rfl,rfl,by rw[ht1,U04],ov.on u1 hr hA hv⟩⟩
        .refine⟨_,_,uH e1 e2 hv hg hmin hrec l1 l2,.inl ⟨z,pre++part,[c],_,_,_,_,rfl,rfl,ht1,fo.gap hb (fun d hd=>?_) hv⟩⟩
         have k1:=(U06.mp s1).2.2
         have k2:=k1 pl (by rw[e2];simp) c U0i
         have k3:d.2.1<=pl.2.1:=by
          rw[e2,←U04] at hd stk
          rcases U0z.mp hd with w|w
          .have:=(U06.mp stk).2.2 d w pl U0i
           have:=(utk pl (by rw[e2];simp)).1
           omega
          .rw[U0q.mp w];exact U1j _
         omega
      .by_cases hp:part=[]
       .subst hp
        rw[U1o] at s1 u1 ht ht1
        exact⟨_,_,aL (J8 S' _ []) hv,.inl ⟨z,pre++[c],[],found,_,_,S',rfl,rfl,by rw[ht1,U1o],ov.fl.under hb u1 hv⟩⟩
       .obtain⟨p0,pl,r,r',rs,least,e1,e2,hmin,hrec,l1,l2,fo,A,hr,hA⟩:=fl ov hp stk utk sub lpp
        exact⟨_,_,YT (J8 S' _ []) hv e1 e2 hmin hrec l1 l2,.inl ⟨z,pre++part++[c],[],_,_,_,_,rfl,rfl,by rw[ht1,U1o],fo.under hb u1 hv⟩⟩
     .obtain rfl:i=cs.length:=by omega
      rw[U1h (by rw[U0d];exact U0l _),U0d,U9a] at hd
      obtain rfl:D.tup [.non,.non,.int base]=d:=by simpa using hd
      rw[U69] at ht
      by_cases hp:part=[]
      .subst hp
       rw[U1o] at ht
       exact⟨_,_,aL (J8 S' _ []) (U1j _),.inr ⟨rfl,found,_,_,_,rfl,by rw[ht];exact ov.fl⟩⟩
      .obtain⟨p0,pl,r,r',rs,least,e1,e2,hmin,hrec,l1,l2,fo,A,hr,hA⟩:=fl ov hp stk utk sub lpp
       exact⟨_,_,YT (J8 S' _ []) (U1j _) e1 e2 hmin hrec l1 l2,.inr ⟨rfl,_,_,_,_,rfl,by rw[ht];exact fo⟩⟩
    .rw[U53 (by simp;omega)] at hd
     cases hd)
  rcases q with ⟨hi,_⟩|⟨_,found,j,z4,z5,he,fo⟩
  .simp at hi
   omega
  .subst he
   have l1:Oj (Al n) (CG cs base [] 0 none none) [some []]=some (.nx,CG cs base found j z4 z5,S'):=by
    unfold Oj
    rw[GP,e]
    exact e3
   refine⟨found,?_,fo⟩
   rw[Al,Eh]
   simp only[U0f,U1m,U0r,U2a,U2p,U2q,U03,U1x,U2c,U1v,if_true]
   unfold V6
   rw[BJ s1,BJ s2,BJ l1]
   show den 0 _ (.lst true _)=_
   rw[den,DQ 0 _ (Bg (CZ _))];rfl
end W29
end
section
namespace W29
open PySem L2 VS
abbrev G4(l:List St2)(p:Nat)(h:Int)(a z:Option D):VS.Env:=[some `ah,some (.int p),some (.int h),a,z]
theorem Q0{l:List St2}{k:Nat}(hk:k<l.length){e:BL}{env:VS.Env}{S:Store}(v0:Ab 0 env S=some (.lst false `bm,S))(he:e env S=some (.int k,S)):eOp oIx (eOp oIx (Ab 0) e) `af env S=some (.int l[k].2,S)/\eOp oIx (eOp oIx (Ab 0) e) `ag env S=some (.int l[k].1,S):=by
 have x1:eOp oIx (Ab 0) e env S=some (Ah l[k],S):=by
  rw[Ba,v0,U0a,he,U0a]
  show U2w _ (atI `bm (k:Int))=_
  rw[Vy (v:=Ah l[k]) (by rw[U07,U0w hk];rfl)];rfl
 constructor<;>(rw[Ba,x1];rfl)
theorem aO{l:List St2}{p:Nat}{h:Int}{z:Option D}:∀(f a:Nat),a<f->a<l.length->∃b:Nat,b<=a/\G9 (VS.K3 (BR (eOp oGt (Ab 3) `ag)) (BR (eOp oGe (eOp oIx (eOp oIx (Ab 0) (eOp K4 (Ab 3) `af)) `af) (Ab 2)))) Kc f (G4 l p h (some (.int a)) z) []=some (.nx,G4 l p h (some (.int b)) z,[]) /\
  (∀k (hk:k<l.length),b<=k->k<a->h<=l[k].2)/\(b=0∨∃hb:b-1<l.length,l[b-1].2<h)
 |0,a,hf,_=>absurd hf (U3a _)
 |f+1,0,hf,hl=>by
  refine⟨0,U0l _,?_,fun k hk h1 h2=>absurd h2 (U3a _),.inl rfl⟩
  unfold G9
  rfl
 |f+1,a+1,hf,hl=>by
  have t1:BR (eOp oGt (Ab 3) `ag) (G4 l p h (some (.int ((a+1:Nat):Int))) z) []=some (true,[]):=by
   show(some (decide (0<((a+1:Nat):Int)),([]:Store)):Option (Bool×Store))=_
   rw[decide_eq_true (by omega)]
  have o1:eOp K4 (Ab 3) `af (G4 l p h (some (.int ((a+1:Nat):Int))) z) []=some (.int a,[]):=by
   show(some (D.int (((a+1:Nat):Int)-1),_):Option (D×Store))=_
   rw[show((a+1:Nat):Int)-1=a by omega]
  have v2:Ab 2 (G4 l p h (some (.int ((a+1:Nat):Int))) z) []=some (.int h,[]):=rfl
  have t2:BR (eOp oGe (eOp oIx (eOp oIx (Ab 0) (eOp K4 (Ab 3) `af)) `af) (Ab 2)) (G4 l p h (some (.int ((a+1:Nat):Int))) z) []=some (decide (h<=l[a].2),[]):=by
   rw[Cd,Ba,(Q0 (l:=l) (k:=a) (by omega) rfl o1).1,U0a,v2]
   rfl
  by_cases hv:h<=l[a].2
  .obtain⟨b,h1,h2,h3,h4⟩:=aO (l:=l) (p:=p) (h:=h) (z:=z) f a (by omega) (by omega)
   refine⟨b,by omega,?_,fun k hk k1 k2=>?_,h4⟩
   .have b1:Kc (G4 l p h (some (.int ((a+1:Nat):Int))) z) []=some (.nx,G4 l p h (some (.int a)) z,[]):=by
     unfold Kc
     rw[CP,o1];rfl
    unfold G9
    rw[Im,t1]
    simp only[U0a,if_true]
    rw[t2,decide_eq_true hv]
    simp only[U0a,if_true,b1]
    exact h2
   .rcases U4f k a with w|w
    .exact h3 k hk k1 w
    .obtain rfl:k=a:=by omega
     exact hv
  .refine⟨a+1,U0l _,?_,fun k hk k1 k2=>by omega,.inr ⟨by simp;omega,by simp;omega⟩⟩
   unfold G9
   rw[Im,t1]
   simp only[U0a,if_true]
   rw[t2,decide_eq_false hv]
   rfl
theorem YM{l:List St2}{p:Nat}{h:Int}{a:Option D}(hlast:∀k (hk:k<l.length),k+1=l.length->l[k].2<h):∀(f b:Nat),l.length-b<f->b<l.length->∃c:Nat,b<=c/\∃hc:c<l.length,G9 (BR (eOp oGe (eOp oIx (eOp oIx (Ab 0) (Ab 4)) `af) (Ab 2))) Ni f (G4 l p h a (some (.int b))) []=some (.nx,G4 l p h a (some (.int c)),[]) /\
  (∀k (hk:k<l.length),b<=k->k<c->h<=l[k].2)/\l[c].2<h
 |0,b,hf,_=>absurd hf (U3a _)
 |f+1,b,hf,hl=>by
  have v4:Ab 4 (G4 l p h a (some (.int b))) []=some (.int b,[]):=rfl
  have v2:Ab 2 (G4 l p h a (some (.int b))) []=some (.int h,[]):=rfl
  have t2:BR (eOp oGe (eOp oIx (eOp oIx (Ab 0) (Ab 4)) `af) (Ab 2)) (G4 l p h a (some (.int b))) []=some (decide (h<=l[b].2),[]):=by
   rw[Cd,Ba,(Q0 (l:=l) (k:=b) hl rfl v4).1,U0a,v2]
   rfl
  by_cases hv:h<=l[b].2
  .have hb:b+1<l.length:=by
    by_cases z:b+1=l.length
    .have:=hlast b hl z;omega
    .omega
   obtain⟨c,h1,hc,h2,h3,h4⟩:=YM hlast f (b+1) (by omega) hb
   refine⟨c,by omega,hc,?_,fun k hk k1 k2=>?_,h4⟩
   .have b1:Ni (G4 l p h a (some (.int b))) []=some (.nx,G4 l p h a (some (.int ((b+1:Nat):Int))),[]):=by
     show some (Fl.nx,G4 l p h a (some (.int ((b:Int)+1))),[])=_
     rw[show((b+1:Nat):Int)=(b:Int)+1 by omega]
    unfold G9
    rw[t2,decide_eq_true hv]
    simp only[U0a,if_true,b1]
    exact h2
   .rcases U4f b k with w|w
    .exact h3 k hk w k2
    .obtain rfl:k=b:=by omega
     exact hv
  .refine⟨b,U0l _,hl,?_,fun k hk k1 k2=>by omega,by omega⟩
   unfold G9
   rw[t2,decide_eq_false hv]
   rfl
theorem fJ{l:List St2}(hl:l.length<=1000)(h0:∀k (hk:k<l.length),k+1=l.length->l[k].2=0){p:Nat}(hp:p<l.length)(hpos:0<l[p].2):∃(a b:Nat)(ha:a<=p)(hb:b<l.length),p<b/\Et [.lst false `bm,.int p]=some (Ac (l[a].1,l[b].1,l[p].2)) /\
  (∀k (hk:k<l.length),a<=k->k<b->l[p].2<=l[k].2)/\(a=0∨∃ha:a-1<l.length,l[a-1].2<l[p].2)/\l[b].2<l[p].2:=by
 obtain⟨a,a1,a2,a3,a4⟩:=aO (l:=l) (p:=p) (h:=l[p].2) (z:=none) 100000 p (by omega) hp
 obtain⟨b,b1,hb,b2,b3,b4⟩:=YM (l:=l) (p:=p) (h:=l[p].2) (a:=some (.int a)) (fun k hk e=>by rw[h0 k hk e];exact hpos) 100000 p (by omega) hp
 have hpb:p<b:=by
  rcases U4f p b with w|w
  .exact w
  .obtain rfl:b=p:=by omega
   omega
 refine⟨a,b,a1,hb,hpb,?_,fun k hk k1 k2=>?_,a4,b4⟩
 .have v1:Ab 1 [some `ah,some (.int p),none,none,none] []=some (.int p,[]):=rfl
  have s1:(BZ 2 (eOp oIx (eOp oIx (Ab 0) (Ab 1)) `af)) [some `ah,some (.int p),none,none,none] []=some (.nx,G4 l p l[p].2 none none,[]):=by
   rw[CP,(Q0 (l:=l) (k:=p) hp rfl v1).1];rfl
  have s2:(BZ 3 (Ab 1)) (G4 l p l[p].2 none none) []=some (.nx,G4 l p l[p].2 (some (.int p)) none,[]):=rfl
  have s3:(BZ 4 (Ab 1)) (G4 l p l[p].2 (some (.int a)) none) []=some (.nx,G4 l p l[p].2 (some (.int a)) (some (.int p)),[]):=rfl
  have v3:Ab 3 (G4 l p l[p].2 (some (.int a)) (some (.int b))) []=some (.int a,[]):=rfl
  have v4:Ab 4 (G4 l p l[p].2 (some (.int a)) (some (.int b))) []=some (.int b,[]):=rfl
  unfold Et
  rw[Eh]
  simp only[U0f,U1m,U0r,U2a,U2p,U2q,U03,U1x,U2c,U1v,if_true]
  unfold SN RQ RP
  rw[BJ s1,BJ s2,BJ a2,BJ s3,BJ b2,Dk,Kv,BX,(Q0 (l:=l) (k:=a) (by omega) rfl v3).2,U0a,BX,(Q0 (l:=l) (k:=b) hb rfl v4).2]
  simp[EY,Ei,BX,den,DW,-U0t,-U1d,Ac]
 .rcases U4f k p with w|w
  .exact a3 k hk k1 w
  .exact b3 k hk w k2
theorem YD{E:List Int}{p:St2}(h:p∈steps E):∃(k:Nat)(hk:k+1<E.length),p=(E[k],E[k+1]):=by
 obtain⟨k,hk⟩:=U1l.mp h
 unfold steps at hk
 rw[U5f,List.getElem?_tail] at hk
 obtain⟨h1,h2⟩:=hk
 obtain⟨k1,e1⟩:=U0j.mp h1
 obtain⟨k2,e2⟩:=U0j.mp h2
 exact⟨k,k2,U8l e1.symm e2.symm⟩
theorem lJ{E:List Int}{k:Nat}(hk:k+1<E.length):(E[k],E[k+1])∈steps E:=by
 unfold steps
 refine U1l.mpr ⟨k,?_⟩
 rw[U5f,List.getElem?_tail]
 exact⟨U0w _,U0w _⟩
theorem Vk{E:List Int}(h:E.Pairwise (·<·)){i j:Nat}(hi:i<E.length)(hj:j<E.length)(e:E[i]<E[j]):i<j:=by
 rcases U5w i j with z|z|z
 .exact z
 .subst z;omega
 .have:=U1w.mp h j i hj hi z;omega
theorem j5{f:Int->Int}{C:List Int}{A B:Int}(h:Chg f C A B){a b p:Nat}(hb:b<C.length)(hap:a<=p)(hpb:p<b)(hpos:0<f C[p])(hall:∀k (hk:k<C.length),a<=k->k<b->f C[p]<=f C[k])(hlo:a=0∨∃ha:a-1<C.length,f C[a-1]<f C[p])(hhi:f C[b]<f C[p]) :
  Rec f (C[a],C[b],f C[p])/\C[a]<=C[p]/\C[p]<C[b]:=by
 have lt:∀i j (hi:i<C.length) (hj:j<C.length),i<j->C[i]<C[j]:=fun i j hi hj z=>U1w.mp h.rise i j hi hj z
 have ap:C[a]<=C[p]:=by
  rcases U73 hap with w|w
  .exact U4e (lt a p (by omega) (by omega) w)
  .subst w;exact U1j _
 have pb:=lt p b (by omega) hb hpb
 refine⟨⟨hpos,fun y k1 k2=>?_,?_,hhi,C[p],ap,pb,rfl⟩,ap,pb⟩
 .have k1:C[a]<=y:=k1
  have k2:y<C[b]:=k2
  obtain⟨q,hq,q1,q2⟩:=Oi h.rise ⟨C[a],U3c _,k1⟩ ⟨C[b],U3c _,k2⟩
  obtain⟨k,hk,rfl⟩:=YD hq
  have q1:C[k]<=y:=q1
  have q2:y<C[k+1]:=q2
  rw[HS h hq q1 q2]
  have z1:=Vk h.rise (i:=a) (j:=k+1) (by omega) hk (by omega)
  have z2:=Vk h.rise (i:=k) (j:=b) (by omega) hb (by omega)
  exact hall k (by omega) (by omega) z2
 .show f (C[a]-1)<f C[p]
  rcases hlo with z|⟨ha,z⟩
  .subst z
   have:f (C[0]-1)=0:=by
    have hA:=(h.inn C[0] (U3c _)).1
    rw[Kw (x:=A) (y:=C[0]-1) (f:=f) (by omega) fun e k1 k2=>?_]
    .exact h.low A (U1j _)
    .by_cases v:f e=f (e-1)
     .exact v
     .obtain⟨i,hi,e'⟩:=U7r.mp (h.all e v)
      have:=Vk h.rise (i:=i) (j:=0) hi (by omega) (by omega)
      omega
   omega
  .by_cases w:a=0
   .subst w
    have z':f C[0]<f C[p]:=z
    have:=hall 0 (by omega) (by omega) (by omega)
    omega
   .obtain⟨a',rfl⟩:∃a',a=a'+1:=⟨a-1,by omega⟩
    have st:=lJ (E:=C) (k:=a') (by omega)
    have l1:=lt a' (a'+1) (by omega) (by omega) (by omega)
    rw[HS h st (x:=C[a'+1]-1) (show C[a']<=_ by omega) (show _<C[a'+1] by omega)]
    exact z
end W29
end
section
namespace W29
open PySem L2 VS
def toL(t:T3):List Int:=[t.1,t.2.1,t.2.2]
def Rb:List Int->T3
 |[a,b,c]=>(a,b,c)
 |_=>(0,0,0)
theorem aX(t:T3):Rb (toL t)=t:=rfl
theorem nH{t u:T3}(h:toL t=toL u):t=u:=by rw[←aX t,h,aX]
theorem Vg:∀ws:List T3,N5 (ws.map Ac)=some (ws.map toL)
 |[]=>rfl
 |t::r=>by
  rw[U0r,N5,Vg r]
  rfl
def K(ts:List T3):List T3:=(Tup.GJ (ts.map toL)).map Rb
theorem yC(ts:List T3):(K ts).map toL=Tup.GJ (ts.map toL):=by
 unfold K
 rw[U0t]
 conv=>rhs;rw[←U9c (Tup.GJ (ts.map toL))]
 refine U4s fun u hu=>?_
 obtain⟨t,_,rfl⟩:=U0x.mp ((Tup.Fw _).mem_iff.mp hu)
 rfl
theorem Y0(ts:List T3):(K ts).Perm ts:=by
 have:=(Tup.Fw (ts.map toL)).map Rb
 rw[U0t] at this
 refine this.trans (U17.of_eq ?_)
 conv=>rhs;rw[←U9c ts]
 rfl
theorem RK{ts:List T3}(h:ts.Nodup):(ts.map toL).Nodup:=U61.mpr (h.imp fun {a b} hab e=>hab (nH e))
theorem vL{ts us:List T3}(h1:ts.Nodup)(h2:us.Nodup)(h:∀t,t∈ts↔t∈us):K ts=K us:=by
 have p:ts.Perm us:=SetP.TV h2 (fun t ht=>(h t).mpr ht) (SetP.len_sub h1 fun t ht=>(h t).mp ht)
 unfold K
 rw[Tup.HJ ((Tup.Fw _).trans ((p.map toL).trans (Tup.Fw _).symm)) (Tup.Iz (RK h1)) (Tup.Iz (RK h2))]
theorem mH(ts:List T3):(Tup.GJ (ts.map toL)).map Rc=(K ts).map Ac:=by
 rw[←yC,U0t];rfl
theorem dI{ts:List T3}:∀u∈ts.map toL,u≠[]:=fun u hu=>by
 obtain⟨t,_,rfl⟩:=U0x.mp hu
 simp[toL]
theorem jK{a:BL}{env:VS.Env}{S:Store}{m:Bool}{ts:List T3}(ha:a env S=some (.lst m (ts.map Ac),S))(nd:ts.Nodup)(hl:ts.length<64):Qy a env S=some (.lst true ((K ts).map Ac),S):=by
 rw[gW,ha]
 show(N5 (ts.map Ac)).bind _=_
 rw[Vg,U0a,if_pos ⟨dI,RK nd,by rw[U0d];exact hl⟩,mH]
theorem pH(ws:List T3):∃us:List T3,us.Nodup/\(∀t,t∈us↔t∈ws)/\SetP.Fq (ws.map toL)=us.map toL:=by
 obtain⟨h1,h2⟩:=SetP.WM (ws.map toL)
 have e:((SetP.Fq (ws.map toL)).map Rb).map toL=SetP.Fq (ws.map toL):=by
  rw[U0t]
  conv=>rhs;rw[←U9c (SetP.Fq (ws.map toL))]
  refine U4s fun u hu=>?_
  obtain⟨t,_,rfl⟩:=U0x.mp ((h2 u).mp hu)
  rfl
 have mem:∀t,t∈(SetP.Fq (ws.map toL)).map Rb↔t∈ws:=fun t=>by
  constructor
  .intro h
   obtain⟨u,hu,rfl⟩:=U0x.mp h
   obtain⟨t,ht,rfl⟩:=U0x.mp ((h2 u).mp hu)
   exact ht
  .intro h
   exact U0x.mpr ⟨toL t,(h2 _).mpr (U4r h),rfl⟩
 refine⟨(SetP.Fq (ws.map toL)).map Rb,?_,mem,e.symm⟩
 have:=e ▸ h1
 exact(U61.mp this).imp fun {a b} hab e=>hab (by rw[e])
theorem ZV{a:BL}{env:VS.Env}{S:Store}{m:Bool}{ws ts:List T3}(ha:a env S=some (.lst m (ws.map Ac),S))(nd:ts.Nodup)(hm:∀t,t∈ws↔t∈ts)(hl:ts.length<64):O8 a env S=some (.lst true ((K ts).map Ac),S):=by
 obtain⟨us,u1,u2,u3⟩:=pH ws
 have hlen:us.length<64:=U4l (SetP.len_sub u1 fun t ht=>(hm t).mp ((u2 t).mp ht)) hl
 rw[ZF,ha]
 show(N5 (ws.map Ac)).bind _=_
 rw[Vg,U0a,u3,if_pos ⟨dI,by rw[U0d];exact hlen⟩,mH,vL u1 nd fun t=>(u2 t).trans (hm t)]
theorem fC:∀(l:List St2)(k:Nat),Je k `bm=(l.zipIdx k).map fun q=>.tup [.int q.2,Ah q.1]
 |[],k=>rfl
 |p::r,k=>by rw[U0r,Je,fC r (k+1),U7];rfl
def Hw(l:List St2):List Nat:=(l.zipIdx.filter fun q=>decide (0<q.1.2)).map (·.2)
theorem aH{l:List St2}{p:Nat}:p∈Hw l↔∃hp:p<l.length,0<l[p].2:=by
 unfold Hw
 rw[U0x]
 constructor
 .rintro⟨q,hq,rfl⟩
  obtain⟨h1,h2⟩:=U1u.mp hq
  have h3:=List.mem_zipIdx_iff_getElem?.mp h1
  obtain⟨hp,e⟩:=U0j.mp h3
  exact⟨hp,by rw[e];exact of_decide_eq_true h2⟩
 .rintro⟨hp,h⟩
  exact⟨(l[p],p),U1u.mpr ⟨List.mem_zipIdx_iff_getElem?.mpr (U0w hp),decide_eq_true h⟩,rfl⟩
theorem v9{l:List St2}(hl:l.length<=1000){e1:Option D}:HY [some `ah,e1] []=some ((Hw l).map fun(p:Nat)=>D.int p,[]):=by
 have v:Aa (Ab 0) Af [some `ah,e1] []=some ([.lst false `bm],[]):=rfl
 have e:Ut `bj [some `ah,e1] []=some ((l.zipIdx.map fun q=>.tup [.int q.2,Ah q.1],[]),[]):=by
  rw[gM,v,U0a]
  show some ((Je 0 `bm,_),_)=_
  rw[fC];rfl
 unfold HY Cv
 rw[e]
 simp only[U0a]
 rw[Iv (by simp) (fun q:St2×Nat=>D.tup [.int q.2,Ah q.1]) (fun q=>decide (0<q.1.2)) (fun q=>.int q.2) l.zipIdx [] (by simp;omega)]
 .unfold Hw
  rw[U1v,U0t];rfl
 .intro q hq
  exact⟨[some (.int q.2),some (Ah q.1)],by simp[M4,Dc,Ul,Q9,O6,U03,-U0t,-U1d],rfl,fun _=>rfl⟩
theorem Xj{hs:List T3}(h:Hs hs):∃C:List Int,Chg (hgt hs) C (-1000000001) 1000000000/\sky hs=C.map fun x=>(x,hgt hs x):=⟨pts (hgt hs) (ends hs),(Hh h).pts,by rw[Ug,Qz (Hh h)]⟩
theorem fB{hs:List T3}(h:Hs hs)(hl:hs.length<=63){ts:List T3}(nd:ts.Nodup)(hm:∀t,t∈ts↔Rec (hgt hs) t):Bt [.lst false ((`bg).map Ah)]=some (.lst true ((K ts).map Ac)):=by
 have sk:=Ow h (by omega)
 have few:=sk.ok.few
 have hts:=Mq nd fun t ht=>(hm t).mp ht
 obtain⟨C,hC,eC⟩:=Xj h
 have wex:∀p,∃t:T3,p∈Hw `bg->Et [.lst false ((`bg).map Ah),.int p]=some (Ac t)/\Rec (hgt hs) t/\∃hp:p<C.length,t.1<=C[p]/\C[p]<t.2.1/\t.2.2=hgt hs C[p]:=fun p=>by
  by_cases hp:p∈Hw `bg
  .obtain⟨hp1,hp2⟩:=aH.mp hp
   have h0:∀k (hk:k<(`bg).length),k+1=(`bg).length->`bg[k].2=0:=fun k hk e=>sk.ok.last _ (by
    rw[List.getLast?_eq_getElem?,show(`bg).length-1=k by omega];exact U0w hk)
   obtain⟨a,b,ha,hb,hpb,e,w1,w2,w3⟩:=fJ (by omega) h0 hp1 hp2
   rw[eC] at hb
   simp only[eC,U0d] at hp1 hb
   simp only[eC,U4t] at hp2 e w1 w2 w3
   obtain⟨r,r1,r2⟩:=j5 hC hb ha hpb hp2 (fun k hk k1 k2=>w1 k (by simpa using hk) k1 k2) (w2.imp id fun⟨x,y⟩=>⟨by simpa using x,y⟩) w3
   exact⟨_,fun _=>⟨by rw[eC];exact e,r,hp1,r1,r2,rfl⟩⟩
  .exact⟨(0,0,0),fun z=>absurd z hp⟩
 obtain⟨w,hw⟩:∃w:Nat->T3,∀p,p∈Hw (sky hs)->Et [.lst false ((sky hs).map Ah),.int p]=some (Ac (w p))/\Rec (hgt hs) (w p)/\∃hp:p<C.length,(w p).1<=C[p]/\C[p]<(w p).2.1/\(w p).2.2=hgt hs C[p]:=⟨fun p=>Classical.choose (wex p),fun p=>Classical.choose_spec (wex p)⟩
 have mem:∀t,t∈(Hw `bg).map w↔t∈ts:=fun t=>by
  rw[hm]
  constructor
  .intro ht
   obtain⟨p,hp,rfl⟩:=U0x.mp ht
   exact(hw p hp).2.1
  .intro r
   have pos:=r.pos
   obtain⟨x,x1,x2,x3⟩:=r.here
   have e:=Vr h (by omega) x
   obtain⟨u,hu,u1,u2,u3⟩:=(Eo (hs:=stand `bg) (x:=x) (v:=t.2.2) pos).mp (by omega)
   rw[eC] at hu
   obtain⟨q,hq,rfl,_⟩:=O5.mp hu
   have u1:q.1<=x:=u1
   have u2:x<q.2:=u2
   have c1:=HS hC hq u1 u2
   obtain⟨k,hk,rfl⟩:=YD hq
   have u1:C[k]<=x:=u1
   have u2:x<C[k+1]:=u2
   have c1:hgt hs x=hgt hs C[k]:=c1
   have kp:k∈Hw `bg:=aH.mpr ⟨by rw[eC,U0d];omega,by simp only[eC,U4t];omega⟩
   obtain⟨_,r2,hk2,r3,r4,r5⟩:=hw k kp
   refine U0x.mpr ⟨k,kp,r2.uniq r (by omega) r3 r4 ?_ (by omega)⟩
   rcases U2k C[k] t.1 with z|z
   .have c2:hgt hs (t.1-1)=hgt hs C[k]:=HS hC hq (show C[k]<=_ by omega) (show _<C[k+1] by omega)
    have:=r.lo
    omega
   .exact z
 have c1:Bd CW `bj [some (.lst false ((`bg).map Ah)),none] []=some (.non,[]) :=
  Dj (ds:=[.lst false ((`bg).map Ah)]) (es:=[.lst false ((`bg).map Ah)]) rfl (Ju ..) (Lr ..) (Yc sk.ok)
 have s1:(Gv (Bd CW `bj)) [some (.lst false ((`bg).map Ah)),none] []=some (.nx,[some (.lst false ((`bg).map Ah)),none],[]):=by rw[Ko,c1];rfl
 have s2:(BZ 1 (Az HY)) [some (.lst false ((`bg).map Ah)),none] []=some (.nx,[some (.lst false ((`bg).map Ah)),some (.lst true ((Hw `bg).map fun(p:Nat)=>D.int p))],[]):=by
  rw[CP,Ck,v9 (by omega)];rfl
 have hpl:(Hw `bg).length<=1000:=by
  unfold Hw
  rw[U0d]
  refine U1b (U3l ..) ?_
  rw[List.length_zipIdx];omega
 have c2:Az Jr [some (.lst false ((`bg).map Ah)),some (.lst true ((Hw `bg).map fun(p:Nat)=>D.int p))] []=some (.lst true (((Hw `bg).map w).map Ac),[]):=by
  have e:DP (Ab 1) [some (.lst false ((`bg).map Ah)),some (.lst true ((Hw `bg).map fun(p:Nat)=>D.int p))] []=some (((Hw `bg).map fun(p:Nat)=>D.int p,[]),[]):=rfl
  have ec:M4 1 [0] [some (.lst false ((`bg).map Ah)),some (.lst true ((Hw `bg).map fun(p:Nat)=>D.int p))]=[none,some (.lst false ((`bg).map Ah))]:=rfl
  rw[Ck]
  unfold Jr Cv
  rw[e,ec]
  simp only[U0a]
  rw[Iu (by simp) (fun p:Nat=>D.int p) (fun p=>Ac (w p)) (Hw `bg) (by omega),U0t]
  .rfl
  .intro p hp
   exact⟨[some (.int p),some (.lst false ((`bg).map Ah))],by simp[Dc,-U0t,-U1d],Dj (ds:=[.lst false ((`bg).map Ah),.int p]) (es:=[.lst false ((`bg).map Ah),.int p]) rfl (by simp[Bm,Br,Bg (Ir `bg)]) (by simp[Cu,age,Dw (Ir `bg)]) (hw p hp).1⟩
 unfold Bt
 rw[Eh]
 simp only[U0f,U1m,U0r,U2a,U2p,U2q,U03,U1x,U2c,U1v,if_true]
 unfold Oa
 rw[BJ s1,BJ s2,Dk,ZV c2 nd mem (by omega)]
 show den 0 _ (.lst true _)=_
 rw[den,DQ 0 _ (Bg (CZ _))];rfl
theorem lC{l:List St2}(h:Xe l):Ew [.lst false `bm]=some (.lst true ((stand l).map Ac)):=by
 have few:=h.few
 obtain⟨E,hE⟩:∃E:Nat->List T3,∀i,E i=(((l.zip l.tail).take i).map fun q=>(q.1.1,q.2.1,q.1.2)).filter fun t=>decide (0<t.2.2):=⟨_,fun _=>rfl⟩
 have s1:(BZ 1 (Jm Af)) [some `ah,none,none] []=some (.nx,[some `ah,some `av,none],[some []]):=rfl
 have e:Gx (Aa (eOp K4 (eCB G6 `bj) `af) Af) [some `ah,some `av,none] [some []]=some ((upD 0 (l.length-1),[]),[some []]):=Uk (j:=(l.length:Int)-1) _ (by
  show(some ([D.int (((`bm).length:Nat)-1)],[some []]):Option (List D×Store))=_
  rw[U0d]) (by omega) (by omega) (by omega)
 obtain⟨env',S',e2,y2,he,hS⟩:=Gi (w:=[]) (g:=Pat.sem (.nm 2)) (b:=Ke) (ds:=upD 0 (l.length-1)) (env:=[some `ah,some `av,none]) (S:=[some []])
  (fun i env S=>∃y2:Option D,env=[some `ah,some `av,y2]/\S=[some ((E i).map Ac)])
  ⟨none,rfl,by rw[hE];rfl⟩ (fun i env S _=>by simp) (fun i d env S hd q=>by
   obtain⟨y2,he,hS⟩:=q
   obtain⟨hi,rfl⟩:=Vf hd
   subst he hS
   have i0:i<l.length:=by omega
   have i1:i+1<l.length:=by omega
   have hz:(l.zip l.tail)[i]?=some (l[i],l[i+1]):=by
    rw[U0w (by simp;omega),List.getElem_zip,List.getElem_tail]
   have hE1:E (i+1)=E i++if 0<l[i].2 then [(l[i].1,l[i+1].1,l[i].2)] else []:=by
    rw[hE,hE,U7w,hz,U76,U18,List.filter_append]
    congr 1
    by_cases z:0<l[i].2
    .rw[if_pos z];simp[z]
    .rw[if_neg z];simp[z]
   have v2:Ab 2 [some `ah,some `av,some (.int (0+(i:Int)))] [some ((E i).map Ac)]=some (.int i,[some ((E i).map Ac)]):=by
    show(some (D.int (0+(i:Int)),_):Option (D×Store))=_
    rw[Int.zero_add]
   have o1:eOp Bv (Ab 2) `af [some `ah,some `av,some (.int (0+(i:Int)))] [some ((E i).map Ac)]=some (.int ((i+1:Nat):Int),[some ((E i).map Ac)]):=by
    rw[Ba,v2]
    show(some (D.int ((i:Int)+1),_):Option (D×Store))=_
    rw[show((i+1:Nat):Int)=(i:Int)+1 by omega]
   obtain⟨x1,x0⟩:=Q0 (l:=l) (k:=i) i0 (env:=[some `ah,some `av,some (.int (0+(i:Int)))]) (S:=[some ((E i).map Ac)]) rfl v2
   obtain⟨_,x2⟩:=Q0 (l:=l) (k:=i+1) i1 (env:=[some `ah,some `av,some (.int (0+(i:Int)))]) (S:=[some ((E i).map Ac)]) rfl o1
   have t1:BR (eOp (oEq true) (eOp oIx (eOp oIx (Ab 0) (Ab 2)) `af) `ag) [some `ah,some `av,some (.int (0+(i:Int)))] [some ((E i).map Ac)]=some (!decide (l[i].2=0),[some ((E i).map Ac)]):=by
    rw[Cd,Ba,x1]
    show some ((true ^^ decide (l[i].2=0)),_)=_
    rw[U66]
   have hn:=h.hts l[i] (U3c i0)
   have lE:(E i).length<=1000:=by
    rw[hE]
    refine U1b (U3l ..) ?_
    rw[U0d,U1q]
    omega
   refine⟨_,Dc _ _ _,?_⟩
   by_cases z:0<l[i].2
   .refine⟨_,_,?_,some (.int (0+(i:Int))),rfl,rfl⟩
    unfold Ke
    show sIf _ _ _ [some `ah,some `av,some (.int (0+(i:Int)))] [some ((E i).map Ac)]=_
    rw[IV (by rw[t1,decide_eq_false (by omega)];rfl),hE1,if_pos z,U18]
    exact Pn (i:=0) (l:=(E i).map Ac) (d:=Ac (l[i].1,l[i+1].1,l[i].2)) rfl rfl (by
     rw[Kv,BX,x0,U0a,BX,x2,U0a,BX,x1];rfl) (by rw[U0d];omega) rfl
   .refine⟨_,_,?_,some (.int (0+(i:Int))),rfl,rfl⟩
    unfold Ke
    show sIf _ _ _ [some `ah,some `av,some (.int (0+(i:Int)))] [some ((E i).map Ac)]=_
    rw[FP (by rw[t1,decide_eq_true (by omega)];rfl),hE1,if_neg z,U1o]
    rfl)
 subst he hS
 have eE:E (upD 0 (l.length-1)).length=stand l:=by
  rw[hE,Ve,U12 (by simp)];rfl
 rw[eE] at e2
 have l1:Nq [some `ah,some `av,none] [some []]=some (.nx,[some `ah,some `av,y2],[some ((stand l).map Ac)]):=by
  unfold Nq
  rw[GP,e]
  exact e2
 unfold Ew
 rw[Eh]
 simp only[U0f,U1m,U0r,U2a,U2p,U2q,U03,U1x,U2c,U1v,if_true]
 unfold Sh
 rw[BJ s1,BJ l1]
 show den 0 [some ((stand l).map Ac)] `av=_
 rw[den,if_neg (by omega)]
 show(if Bm ((stand l).map Ac)=true then _ else _)=_
 rw[if_pos (Bg (CZ _))]
end W29
end
section
namespace W29
open PySem L2 VS
theorem Uz:∀{C:List Int},C.Pairwise (·<·)->(steps C).Pairwise fun p q=>p.2<=q.1
 |[],_=>.nil
 |[a],_=>.nil
 |a::b::r,h=>by
  obtain⟨h1,h2⟩:=U11.mp h
  refine U11.mpr ⟨fun q hq=>?_,Uz h2⟩
  have:q.1∈b::r:=(U40 hq).1
  rcases U0h.mp this with z|z
  .show b<=q.1
   omega
  .exact U4e ((U11.mp h2).1 _ z)
theorem fO{hs:List T3}(h:Hs hs):Seg (stand `bg):=by
 obtain⟨C,hC,eC⟩:=Xj h
 rw[eC,YF]
 unfold Seg
 refine U7b U6f (U61.mpr (Uz hC.rise))
theorem Pk{hs:List T3}(h:Hs hs)(hl:hs.length<=150):hgt (stand `bg)=hgt hs:=funext fun x=>Vr h hl x
theorem jf{hs:List T3}(h:Hs hs)(hl:hs.length<=40):∃ts:List T3,Al 42 [.lst false ((stand `bg).map Ac),.int 0]=some (.lst true (ts.map Ac))/\ts.Nodup/\∀t,t∈ts↔Rec (hgt hs) t:=by
 have sk:=Ow h (by omega)
 have st:=Q8 sk
 obtain⟨ts,e,fo⟩:=aK (hs.map (·.2.2)) 42 (stand `bg) 0 (fO h) st.up (fun c hc=>by
  obtain⟨h1,h2⟩:=st.up c hc
  have e:=Vr h (by omega) c.1
  obtain⟨C,hC,eC⟩:=Xj h
  have hc':=hc
  rw[eC] at hc'
  obtain⟨p,hp,rfl,hpos⟩:=O5.mp hc'
  have hpos:0<hgt hs p.1:=hpos
  obtain⟨u,hu,u1,u2,u3⟩:=(Eo (hs:=hs) (x:=p.1) hpos).mp (U1j _)
  have u4:=(Eo (hs:=hs) (x:=p.1) (v:=u.2.2) (by omega)).mpr ⟨u,hu,u1,u2,U1j _⟩
  exact U0x.mpr ⟨u,hu,show u.2.2=hgt hs p.1 by omega⟩) st.few (U1j _) (by
   have:=U3l (fun v=>decide ((0:Int)<v)) (hs.map (·.2.2))
   rw[U0d] at this
   omega)
 refine⟨ts,e,fo.nd,fun t=>(fo.mem t).trans ?_⟩
 rw[Pk h (by omega)]
 exact⟨fun r=>r.1,fun r=>⟨r,r.pos⟩⟩
section
variable{hs ts:List T3}(h:Hs hs)(hl:hs.length<=150)(nd:ts.Nodup)(hm:∀t,t∈ts↔Rec (hgt hs) t)
include h hm
theorem Xm(hf:ts.length<=400):Hs ts:=⟨hf,fun t ht=>by
 have r:=(hm t).mp ht
 obtain⟨x,x1,x2,x3⟩:=r.here
 have pos:=r.pos
 have a1:=r.all t.1 (U1j _) (by omega)
 have a2:=r.all (t.2.1-1) (by omega) (by omega)
 have b1:=Vt h x
 have c:=Hh h
 have d1:-1000000001<t.1:=by
  rcases U2k (-1000000001) t.1 with w|w
  .exact w
  .rw[c.low _ w] at a1;omega
 have d2:t.2.1-1<1000000000:=by
  rcases U2k (t.2.1-1) 1000000000 with w|w
  .exact w
  .rw[c.high _ w] at a2;omega
 omega⟩
theorem aU(hf:ts.length<=400):hgt ts=hgt hs:=funext fun x=>by
 have c:=Hh h
 refine Xu (Xm h hm hf).up h.up fun v hv=>?_
 rw[Eo hv]
 constructor
 .rintro⟨t,ht,h1,h2,h3⟩
  have:=((hm t).mp ht).all x h1 h2
  omega
 .intro z
  obtain⟨t,r,h1,h2,h3⟩:=tM (f:=hgt hs) (x:=x) c.low c.high (by omega)
  exact⟨t,(hm t).mpr r,h1,h2,by omega⟩
theorem nT(hf:ts.length<=400):sky ts=sky hs:=by
 have k:=Xm h hm hf
 have c:=Hh k
 rw[aU h hm hf] at c
 rw[Ug,Ug,aU h hm hf]
 exact Yq c (Hh h)
end
theorem fU{hs:List T3}(h:Hs hs)(hl:hs.length<=150):sky (stand `bg)=sky hs:=by
 have k:=Q8 (Ow h hl)
 have c:=Hh k
 rw[Pk h hl] at c
 rw[Ug (stand `bg),Pk h hl]
 exact Yq c (Hh h)
theorem gD{hs L ts:List T3}(h:Hs hs)(hl:hs.length<=150)(k:Hs L)(kl:L.length<=150)(e:sky L=sky hs)(nd:ts.Nodup)(hm:∀t,t∈ts↔Rec (hgt hs) t):ts.length<=L.length:=by
 have e2:hgt L=hgt hs:=by rw[←Pk k kl,←Pk h hl,e]
 exact Mq nd fun t ht=>by rw[e2];exact(hm t).mp ht
end W29
end
section
namespace W29
open PySem L2 VS
theorem Wc{Zs:Type}[DecidableEq Zs](f:Zs->PyData)(hf:∀x y,U6s (f x) (f y)=decide (x=y)):∀a b:List Zs,U8b (a.map f) (b.map f)=decide (a=b)
 |[],[]=>rfl
 |[],_::_=>rfl
 |_::_,[]=>rfl
 |x::a,y::b=>by
  rw[U0r,U0r,U8b,Wc f hf a b,hf]
  by_cases h:x=y
  .subst h
   simp
  .simp[h]
theorem xg(p q:St2):U6s (pS p) (pS q)=decide (p=q):=by
 obtain⟨a,b⟩:=p
 obtain⟨c,d⟩:=q
 rw[U4z]
 simp[pS,U6s,U8b]
theorem Ua(neg:Bool)(S:Store)(m1 m2:Bool)(a b:List St2):oEq neg S (.lst m1 (a.map Ah)) (.lst m2 (b.map Ah))=some (.bl (neg ^^ decide (a=b))):=by
 show eqP neg S (.lst m1 (a.map Ah)) (.lst m2 (b.map Ah))=_
 unfold eqP
 rw[Xl,Xl]
 simp only[U0a]
 rw[Mf (eF a) (by decide),Mf (eF b) (by decide)]
 show some (D.bl (neg ^^ U8b (a.map pS) (b.map pS)))=_
 rw[Wc pS xg]
theorem WD(hs:List T3):(`bg).length<=2*hs.length:=by
 have:=Xv ((ends hs).map fun x=>(x,hgt hs x)) ([],0)
 have q:=(SetP.Ie (hs.map (·.1)++hs.map (·.2.1))).2.1
 have e:(ends hs).length<=2*hs.length:=by
  unfold ends Cz
  rw[(U3x _ _).length_eq]
  simp at q
  omega
 unfold sky
 simp at this ⊢
 omega
def Ev(t:T3):Prop:=t.1<t.2.1/\1<=t.2.2/\t.2.2<=1000000000/\-1000000000<=t.1/\t.2.1<=1000000000
def encL(L:List T3):D:=.lst true (L.map Ac)
structure Lk(k:Nat)(Ls:List (List T3)):Prop where
 len:∀L∈Ls,L.length=k
 ev:∀L∈Ls,∀t∈L,Ev t
def LAt(S:Store)(d:D)(Ls:List (List T3)):Prop:=d=.lst true (Ls.map encL)∨∃i,d=.ref i/\S[i]?=some (some (Ls.map encL))
theorem LAt.seq{S:Store}{d:D}{Ls:List (List T3)}(h:LAt S d Ls):∃w,En S d=some (Ls.map encL)/\idOf (Ls.map encL) d=w/\∀S':Store,(∀(j:Nat) l,S[j]?=some l->S'[j]?=some l)->calm w S':=by
 rcases h with rfl|⟨i,rfl,h⟩
 .exact⟨[],rfl,rfl,fun S' _=>by simp⟩
 .exact⟨[(i,Ls.map encL)],by show(S[i]?).join=_;rw[h];rfl,rfl,fun S' k p hp=>by rw[U0q.mp hp];exact k _ _ h⟩
theorem LAt.more{S S':Store}{d:D}{Ls:List (List T3)}(h:LAt S d Ls)(k:∀(j:Nat) l,S[j]?=some l->S'[j]?=some l):LAt S' d Ls:=h.imp id fun⟨i,e,q⟩=>⟨i,e,k _ _ q⟩
theorem aV{S:Store}{x:Option (List D)}:∀(j:Nat)(l:Option (List D)),S[j]?=some l->(S++[x])[j]?=some l:=fun j l h=>by
 rw[U01 (U0j.mp h).1];exact h
section
variable{l:List St2}{ks:List T3}{ns hts:List Int}{ev:List T3}{z5 z6 z7 z8 z9 z10:Option D}{S:Store}
abbrev CQ(l:List St2)(ks:List T3)(ns hts:List Int)(ev:List T3)(z5 z6 z7 z8 z9 z10:Option D):VS.Env:=[some `ah,some (.lst false (ks.map Ac)),some (.lst true (ns.map .int)),some (.lst true (hts.map .int)),some (.lst true (ev.map Ac)),z5,z6,z7,z8,z9,z10]
theorem xM(hh:∀v∈hts,1<=v/\v<=1000000000)(lh:hts.length<=10)(le:ev.length<=100000){lo hi:Int}(h1:-1000000000<=lo)(h2:hi<=1000000000):∃ad:List T3,(∀t∈ad,Ev t)/\ad.length<=10/\Gu (CQ l ks ns hts ev (some (.int lo)) (some (.int hi)) z7 z8 z9 z10) S=some (.nx,CQ l ks ns hts (ev++ad) (some (.int lo)) (some (.int hi)) z7 z8 z9 z10,S):=by
 have e:DP (Ab 3) (CQ l ks ns hts ev (some (.int lo)) (some (.int hi)) z7 z8 z9 z10) S=some ((hts.map .int,[]),S):=rfl
 have ec:M4 1 [5,6] (CQ l ks ns hts ev (some (.int lo)) (some (.int hi)) z7 z8 z9 z10)=[none,some (.int lo),some (.int hi)]:=rfl
 have c:JM (CQ l ks ns hts ev (some (.int lo)) (some (.int hi)) z7 z8 z9 z10) S=some (((hts.filter fun _=>decide (lo<hi)).map fun v=>(lo,hi,v)).map Ac,S):=by
  unfold JM Cv
  rw[e,ec]
  simp only[U0a]
  rw[Iv (by simp) D.int (fun _=>decide (lo<hi)) (fun v=>Ac (lo,hi,v)) hts [] (by simp;omega)]
  .rw[U1v,U0t];rfl
  .intro v hv
   exact⟨[some (.int v),some (.int lo),some (.int hi)],by simp[Dc,-U0t,-U1d],rfl,fun _=>rfl⟩
 have lf:(hts.filter fun _=>decide (lo<hi)).length<=10:=U1b (U3l ..) lh
 refine⟨(hts.filter fun _=>decide (lo<hi)).map fun v=>(lo,hi,v),fun t ht=>?_,by rw[U0d];exact lf,?_⟩
 .obtain⟨v,hv,rfl⟩:=U0x.mp ht
  obtain⟨k1,k2⟩:=U1u.mp hv
  have:=hh v k1
  exact⟨of_decide_eq_true k2,this.1,this.2,h1,h2⟩
 .have v4:Ab 4 (CQ l ks ns hts ev (some (.int lo)) (some (.int hi)) z7 z8 z9 z10) S=some (.lst true (ev.map Ac),S):=rfl
  unfold Gu
  rw[CP,add_lists v4 (by rw[Ck,c];rfl) (by rw[U0d,U0d,U0d];omega),←U18]
  rfl
theorem xG(hn:∀v∈ns,-1000000000<=v/\v<=1000000000)(hh:∀v∈hts,1<=v/\v<=1000000000)(lh:hts.length<=10)(ln:ns.length<=10)(he:∀t∈ev,Ev t)(le:ev.length<=10000){lo:Int}(h1:-1000000000<=lo):∃(ev':List T3)(y6:Option D),(∀t∈ev',Ev t)/\ev'.length<=ev.length+100 /\
  JK (CQ l ks ns hts ev (some (.int lo)) z6 z7 z8 z9 z10) S=some (.nx,CQ l ks ns hts ev' (some (.int lo)) y6 z7 z8 z9 z10,S):=by
 have e:DP (Ab 2) (CQ l ks ns hts ev (some (.int lo)) z6 z7 z8 z9 z10) S=some ((ns.map .int,[]),S):=rfl
 obtain⟨env',S',e3,ev',y6,q,hS,h3,h4⟩:=Gi (w:=[]) (g:=Pat.sem (.nm 6)) (b:=Gu) (ds:=ns.map .int) (env:=CQ l ks ns hts ev (some (.int lo)) z6 z7 z8 z9 z10) (S:=S)
  (fun i env S'=>∃(ev':List T3)(y6:Option D),env=CQ l ks ns hts ev' (some (.int lo)) y6 z7 z8 z9 z10/\S'=S/\(∀t∈ev',Ev t)/\ev'.length<=ev.length+10*min i ns.length)
  ⟨ev,z6,rfl,rfl,he,by omega⟩ (fun i env S _=>by simp) (fun i d env S' hd q=>by
   obtain⟨ev1,y6,q,hS,h3,h4⟩:=q
   subst q hS
   rw[U07] at hd
   obtain⟨v,hv,rfl⟩:=U2r.mp hd
   have hi:i<ns.length:=(U0j.mp hv).1
   obtain⟨ad,a1,a2,a3⟩:=xM (l:=l) (ks:=ks) (ns:=ns) (ev:=ev1) (z7:=z7) (z8:=z8) (z9:=z9) (z10:=z10) (S:=S') hh lh (by omega) h1 (hn v (U1p hv)).2
   refine⟨_,Dc _ _ _,_,_,a3,ev1++ad,_,rfl,rfl,fun t ht=>?_,?_⟩
   .rcases U0z.mp ht with w|w
    .exact h3 t w
    .exact a1 t w
   .rw[U0p,show min (i+1) ns.length=i+1 by omega]
    rw[show min i ns.length=i by omega] at h4
    omega)
 subst q hS
 rw[U0d,U8r] at h4
 refine⟨ev',y6,h3,by omega,?_⟩
 unfold JK
 rw[GP,e]
 exact e3
theorem wz(hn:∀v∈ns,-1000000000<=v/\v<=1000000000)(hh:∀v∈hts,1<=v/\v<=1000000000)(lh:hts.length<=10)(ln:ns.length<=10):∃(ev':List T3)(y5 y6:Option D),(∀t∈ev',Ev t)/\ev'.length<=1000 /\
  JH (CQ l ks ns hts [] z5 z6 z7 z8 z9 z10) S=some (.nx,CQ l ks ns hts ev' y5 y6 z7 z8 z9 z10,S):=by
 have e:DP (Ab 2) (CQ l ks ns hts [] z5 z6 z7 z8 z9 z10) S=some ((ns.map .int,[]),S):=rfl
 obtain⟨env',S',e3,ev',y5,y6,q,hS,h3,h4⟩:=Gi (w:=[]) (g:=Pat.sem (.nm 5)) (b:=MJ) (ds:=ns.map .int) (env:=CQ l ks ns hts [] z5 z6 z7 z8 z9 z10) (S:=S)
  (fun i env S'=>∃(ev':List T3)(y5 y6:Option D),env=CQ l ks ns hts ev' y5 y6 z7 z8 z9 z10/\S'=S/\(∀t∈ev',Ev t)/\ev'.length<=100*min i ns.length)
  ⟨[],z5,z6,rfl,rfl,(fun t ht=>by cases ht),by simp⟩ (fun i env S _=>by simp) (fun i d env S' hd q=>by
   obtain⟨ev1,y5,y6,q,hS,h3,h4⟩:=q
   subst q hS
   rw[U07] at hd
   obtain⟨v,hv,rfl⟩:=U2r.mp hd
   have hi:i<ns.length:=(U0j.mp hv).1
   rw[show min i ns.length=i by omega] at h4
   obtain⟨ev2,w6,a1,a2,a3⟩:=xG (l:=l) (ks:=ks) (ns:=ns) (ev:=ev1) (z6:=y6) (z7:=z7) (z8:=z8) (z9:=z9) (z10:=z10) (S:=S') hn hh lh ln h3 (by omega) (hn v (U1p hv)).1
   refine⟨_,Dc _ _ _,_,_,a3,ev2,_,_,rfl,rfl,a1,?_⟩
   rw[show min (i+1) ns.length=i+1 by omega]
   omega)
 subst q hS
 rw[U0d,U8r] at h4
 refine⟨ev',y5,y6,h3,by omega,?_⟩
 unfold JH
 rw[GP,e]
 exact e3
theorem xJ(he:∀t∈ev,Ev t)(le:ev.length<=1000){k:Nat}{L:List T3}(hL:L.length=k)(hk:k<=100)(hE:∀t∈L,Ev t):∃Ms:List (List T3),Lk (k+1) Ms/\Ms.length<=ev.length /\
  JL (CQ l ks ns hts ev z5 z6 z7 z8 z9 (some (encL L))) S=some (Ms.map encL,S):=by
 have e:DP (Ab 4) (CQ l ks ns hts ev z5 z6 z7 z8 z9 (some (encL L))) S=some ((ev.map Ac,[]),S):=rfl
 have ec:M4 1 [10] (CQ l ks ns hts ev z5 z6 z7 z8 z9 (some (encL L)))=[none,some (encL L)]:=rfl
 obtain⟨p,hp⟩:∃p:T3->Bool,∀t,VS.tOr (BR (eOp (oEq false) (Ab 1) (Az Af))) (BR (eOp bJ (eOp oIx (Ab 1) (eUn El (eC (.int 1)))) (Ab 0))) [some (Ac t),some (encL L)] S=some (p t,S):=by
  have t1:∀t,BR (eOp (oEq false) (Ab 1) (Az Af)) [some (Ac t),some (encL L)] S=some (L.isEmpty,S):=fun t=>by
   have v:Ab 1 [some (Ac t),some (encL L)] S=some (.lst true (L.map Ac),S):=rfl
   have f:Az Af [some (Ac t),some (encL L)] S=some (.lst true [],S):=rfl
   rw[Cd,Ba,v,U0a,f,U0a,dg]
   rfl
  rcases U43 L with z|⟨r,pl,z⟩
  .exact⟨fun _=>true,fun t=>by rw[KH,t1,z];rfl⟩
  .rw[U44] at z
   have ne:L.isEmpty=false:=by rw[z];cases r<;>rfl
   refine⟨fun t=>HT.lexLt (toL pl) (toL t),fun t=>?_⟩
   have x:eOp oIx (Ab 1) (eUn El `af) [some (Ac t),some (encL L)] S=some (Ac pl,S):=by
    show U2w _ (atI (L.map Ac) (-1))=_
    rw[Vx z];rfl
   have v0:Ab 0 [some (Ac t),some (encL L)] S=some (Ac t,S):=rfl
   rw[KH,t1,ne]
   simp only[U0a,U0s,if_false]
   rw[Cd,Ba,x,U0a,v0,U0a]
   rfl
 refine⟨(ev.filter p).map fun t=>L++[t],⟨fun M hM=>?_,fun M hM t ht=>?_⟩,?_,?_⟩
 .obtain⟨t,_,rfl⟩:=U0x.mp hM
  simp[hL]
 .obtain⟨u,hu,rfl⟩:=U0x.mp hM
  rcases U0z.mp ht with w|w
  .exact hE t w
  .rw[U0q.mp w];exact he u (U1u.mp hu).1
 .rw[U0d];exact U3l ..
 .unfold JL Cv
  rw[e,ec]
  simp only[U0a]
  rw[Iv (by simp) Ac p (fun t=>encL (L++[t])) ev [] (by simp;omega)]
  .rw[U1v,U0t];rfl
  .intro t ht
   refine⟨[some (Ac t),some (encL L)],by simp[Dc,-U0t,-U1d],hp t,fun _=>?_⟩
   have v:Ab 1 [some (Ac t),some (encL L)] S=some (.lst true (L.map Ac),S):=rfl
   have f:Az `bj [some (Ac t),some (encL L)] S=some (.lst true ([t].map Ac),S):=rfl
   rw[add_lists v f (by simp;omega),←U18]
   rfl
theorem wu(he:∀t∈ev,Ev t)(le:ev.length<=1000){k:Nat}(hk:k<=100){Ls:List (List T3)}(lk:Lk k Ls)(ll:Ls.length*ev.length<=3000){d7:D}(h7:LAt S d7 Ls):∃(Ms:List (List T3))(y10:Option D),Lk (k+1) Ms/\Ms.length<=Ls.length*ev.length /\
  JF (CQ l ks ns hts ev z5 z6 (some d7) z8 (some `ay) z10) (S++[some []])=some (.nx,CQ l ks ns hts ev z5 z6 (some d7) z8 (some `ay) y10,S++[some (Ms.map encL)]):=by
 obtain⟨w,w1,w2,w3⟩:=h7.seq
 obtain⟨w',w1',w2',w3'⟩:=(h7.more (S':=S++[some []]) aV).seq
 have v:Ab 7 (CQ l ks ns hts ev z5 z6 (some d7) z8 (some `ay) z10) (S++[some []])=some (d7,S++[some []]):=rfl
 have e:DP (Ab 7) (CQ l ks ns hts ev z5 z6 (some d7) z8 (some `ay) z10) (S++[some []])=some ((Ls.map encL,w),S++[some []]):=by
  rw[Mw,v,U0a,w1']
  show some ((Ls.map encL,idOf (Ls.map encL) d7),S++[some []])=_
  rw[w2]
 obtain⟨env',S',e3,Ms,y10,q,hS,h3,h4⟩:=Gi (w:=w) (g:=Pat.sem (.nm 10)) (b:=JN) (ds:=Ls.map encL) (env:=CQ l ks ns hts ev z5 z6 (some d7) z8 (some `ay) z10) (S:=S++[some []])
  (fun i env S'=>∃(Ms:List (List T3))(y10:Option D),env=CQ l ks ns hts ev z5 z6 (some d7) z8 (some `ay) y10/\S'=S++[some (Ms.map encL)]/\Lk (k+1) Ms/\Ms.length<=min i Ls.length*ev.length)
  ⟨[],z10,rfl,rfl,⟨(fun L hL=>by cases hL),(fun L hL=>by cases hL)⟩,by simp⟩ (fun i env S' q=>by
   obtain⟨Ms,y10,_,hS,_⟩:=q
   subst hS
   exact w3 _ aV) (fun i d env S' hd q=>by
   obtain⟨Ms,y10,q,hS,h3,h4⟩:=q
   subst q hS
   rw[U07] at hd
   obtain⟨L,hL,rfl⟩:=U2r.mp hd
   have hi:i<Ls.length:=(U0j.mp hL).1
   have hm:=U1p hL
   rw[show min i Ls.length=i by omega] at h4
   obtain⟨Ns,n1,n2,n3⟩:=xJ (l:=l) (ks:=ks) (ns:=ns) (hts:=hts) (z5:=z5) (z6:=z6) (z7:=some d7) (z8:=z8) (z9:=some `ay) (S:=S++[some (Ms.map encL)]) he le (lk.len L hm) hk (lk.ev L hm)
   have bd:i*ev.length<=3000:=U1b (U7k _ (U2g hi)) ll
   refine⟨_,Dc _ _ _,_,_,?_,Ms++Ns,some (encL L),rfl,rfl,⟨fun M hM=>?_,fun M hM=>?_⟩,?_⟩
   rotate_left
   .rcases U0z.mp hM with z|z
    .exact h3.len M z
    .exact n1.len M z
   .rcases U0z.mp hM with z|z
    .exact h3.ev M z
    .exact n1.ev M z
   .rw[U0p,show min (i+1) Ls.length=i+1 by omega,U88]
    omega
   .unfold JN
    show Gv _ (CQ l ks ns hts ev z5 z6 (some d7) z8 (some `ay) (some (encL L))) _=_
    rw[Ko,Rm (d:=.ref S.length) (cs:=Ms.map encL) (ds:=[.lst true (Ns.map encL)]) (r:=.non) (S1:=S++[some (Ms.map encL)]) (S2:=S++[some (Ms.map encL)]) (S3:=S++[some ((Ms++Ns).map encL)]) rfl (by rw[VS.listOf,J8];rfl) (by rw[BX,Ck,n3];rfl) (by
     unfold Ro
     simp only[J8,VS.listOf]
     rw[if_pos (by rw[U0d,U0d];omega),XS,←U18])]
    rfl)
 subst q hS
 rw[U0d,U8r] at h4
 refine⟨Ms,y10,h3,h4,?_⟩
 unfold JF
 rw[GP,e]
 exact e3
theorem xH{hs ts:List T3}(h:Hs hs)(hl:hs.length<=4)(nd:ts.Nodup)(hm:∀t,t∈ts↔Rec (hgt hs) t){k:Nat}(hk:k<ts.length)(hk2:k<=100){Ms:List (List T3)}(lk:Lk k Ms)(lm:Ms.length<=4000):Gp (CQ `bg ks ns hts ev z5 z6 (some `ay) z8 z9 z10) (S++[some (Ms.map encL)])=some ([],S++[some (Ms.map encL)]):=by
 have v:Ab 7 (CQ `bg ks ns hts ev z5 z6 (some `ay) z8 z9 z10) (S++[some (Ms.map encL)])=some (.ref S.length,S++[some (Ms.map encL)]):=rfl
 have s:En (S++[some (Ms.map encL)]) `ay=some (Ms.map encL):=by show((S++[some (Ms.map encL)])[S.length]?).join=_;rw[J8];rfl
 have e:DP (Ab 7) (CQ `bg ks ns hts ev z5 z6 (some `ay) z8 z9 z10) (S++[some (Ms.map encL)])=some ((Ms.map encL,[(S.length,Ms.map encL)]),S++[some (Ms.map encL)]):=by rw[Mw,v,U0a,s];rfl
 have ec:M4 1 [0] (CQ `bg ks ns hts ev z5 z6 (some `ay) z8 z9 z10)=[none,some (.lst false ((`bg).map Ah))]:=rfl
 unfold Gp Cv
 rw[e,ec]
 simp only[U0a]
 rw[Iv (fun p hp=>by rw[U0q.mp hp];exact J8 ..) encL (fun L=>decide (sky L=sky hs)) (fun _=>.int 1) Ms [] (by simp;omega)]
 .rw[U1v,List.filter_eq_nil_iff.mpr fun L hL z=>?_]
  .rfl
  .have:=gD h (by omega) (L:=L) ⟨by rw[lk.len L hL];omega,lk.ev L hL⟩ (by rw[lk.len L hL];omega) (of_decide_eq_true z) nd hm
   rw[lk.len L hL] at this
   omega
 .intro L hL
  have c:Bd CJ `bj [some (encL L),some (.lst false ((`bg).map Ah))] (S++[some (Ms.map encL)])=some (.lst true ((sky L).map Ah),S++[some (Ms.map encL)]) :=
   Dj (ds:=[.lst true (L.map Ac)]) (es:=[.lst false (L.map Ac)]) rfl (Rh ..) (Uv ..) (Rp ⟨by rw[lk.len L hL];omega,lk.ev L hL⟩)
  have v1:Ab 1 [some (encL L),some (.lst false ((`bg).map Ah))] (S++[some (Ms.map encL)])=some (.lst false ((`bg).map Ah),S++[some (Ms.map encL)]):=rfl
  refine⟨[some (encL L),some (.lst false ((`bg).map Ah))],by simp[Dc,-U0t,-U1d],?_,fun _=>rfl⟩
  rw[Cd,Ba,c,U0a,v1,U0a,Ua,U7x]
  rfl
theorem xK{hs ts:List T3}(h:Hs hs)(hl:hs.length<=4)(nd:ts.Nodup)(hm:∀t,t∈ts↔Rec (hgt hs) t)(he:∀t∈ev,Ev t)(le:ev.length<=1000){k:Nat}(hk:k+1<ts.length)(hk2:k+1<=100){Ls:List (List T3)}(lk:Lk k Ls)(l3:Ls.length<=3000){d7:D}(h7:LAt S d7 Ls) :
  (∃env' S',Fp `bz S=some (.nx,env',S')/\∃(Ms:List (List T3))(d7':D)(y9 y10:Option D),env'=CQ `bg ks ns hts ev z5 z6 (some d7') z8 y9 y10/\Lk (k+1) Ms/\Ms.length<=3000/\LAt S' d7' Ms) ∨
  ∃env' S',Fp `bz S=some (.ret (.bl true),env',S'):=by
 obtain⟨w,w1,w2,w3⟩:=h7.seq
 have n7:eCB G6 (Aa (Ab 7) Af) `bz S=some (.int Ls.length,S):=by
  have a:Aa (Ab 7) Af `bz S=some ([d7],S):=rfl
  rw[GC,a,U0a]
  show((En S d7).map fun ds=>D.int ds.length).map _=_
  rw[w1]
  simp
 have n4:eCB G6 (Aa (Ab 4) Af) `bz S=some (.int ev.length,S):=by
  show(some (D.int ((ev.map Ac).length:Nat),S):Option (D×Store))=_
  rw[U0d]
 have m:eOp Gg (eCB G6 (Aa (Ab 7) Af)) (eCB G6 (Aa (Ab 4) Af)) `bz S=some (.int ((Ls.length:Int)*ev.length),S):=by
  rw[Ba,n7,U0a,n4,U0a]
  show(if M5 (Ls.length:Int) ev.length=true then some (D.int ((Ls.length:Int)*ev.length)) else none).map _=_
  rw[if_pos (by unfold M5;simp;omega)]
  rfl
 have t:BR (eOp oGt (eOp Gg (eCB G6 (Aa (Ab 7) Af)) (eCB G6 (Aa (Ab 4) Af))) (eC (.int 3000))) `bz S=some (decide ((3000:Int)<(Ls.length:Int)*ev.length),S):=by
  rw[Cd,Ba,m];rfl
 unfold Fp
 by_cases z:(3000:Int)<(Ls.length:Int)*ev.length
 .refine .inr ⟨CQ `bg ks ns hts ev z5 z6 (some d7) z8 z9 z10,S,?_⟩
  rw[Fx,IV (by rw[t,decide_eq_true z])]
  rfl
 .have ll:Ls.length*ev.length<=3000:=by
   have e:((Ls.length*ev.length:Nat):Int)=(Ls.length:Int)*ev.length:=Int.natCast_mul ..
   omega
  obtain⟨Ms,y10,m1,m2,m3⟩:=wu (l:=sky hs) (ks:=ks) (ns:=ns) (hts:=hts) (z5:=z5) (z6:=z6) (z8:=z8) (z10:=z10) (S:=S) he le (by omega) lk ll h7
  have c5:=xH (ks:=ks) (ns:=ns) (hts:=hts) (ev:=ev) (z5:=z5) (z6:=z6) (z8:=z8) (z9:=some `ay) (z10:=y10) (S:=S) h hl nd hm hk hk2 m1 (by omega)
  refine .inl ⟨CQ `bg ks ns hts ev z5 z6 (some `ay) z8 (some `ay) y10,S++[some (Ms.map encL)],?_,Ms,.ref S.length,_,_,rfl,m1,by omega,.inr ⟨_,rfl,J8 ..⟩⟩
  refine(BJ (env1:=CQ `bg ks ns hts ev z5 z6 (some d7) z8 z9 z10) (S1:=S) (by rw[FP (by rw[t,decide_eq_false z])];rfl)).trans ?_
  refine(BJ (env1:=CQ `bg ks ns hts ev z5 z6 (some d7) z8 (some `ay) z10) (S1:=S++[some []]) rfl).trans ?_
  refine(BJ m3).trans ?_
  refine(BJ (env1:=CQ `bg ks ns hts ev z5 z6 (some `ay) z8 (some `ay) y10) (S1:=S++[some (Ms.map encL)]) rfl).trans ?_
  rw[FP (by
   have f:Az Gp (CQ `bg ks ns hts ev z5 z6 (some `ay) z8 (some `ay) y10) (S++[some (Ms.map encL)])=some (.lst true [],S++[some (Ms.map encL)]):=by rw[Ck,c5];rfl
   have g:Az Af (CQ `bg ks ns hts ev z5 z6 (some `ay) z8 (some `ay) y10) (S++[some (Ms.map encL)])=some (.lst true [],S++[some (Ms.map encL)]):=rfl
   rw[Cd,Ba,f,U0a,g,U0a,show oEq true (S++[some (Ms.map encL)]) (.lst true []) (.lst true [])=some (.bl (true ^^ decide (([]:List St2)=[]))) from Ua true _ true true [] []]
   rfl)]
  rfl
theorem pJ{hs ts:List T3}(h:Hs hs)(hl:hs.length<=4)(nd:ts.Nodup)(hm:∀t,t∈ts↔Rec (hgt hs) t):Cy [.lst false ((`bg).map Ah),.lst false ((K ts).map Ac)]=some (.bl true):=by
 have sk:=Ow h (by omega)
 have tl:=Mq nd fun t ht=>(hm t).mp ht
 have kl:(K ts).length=ts.length:=(Y0 ts).length_eq
 have sl:(`bg).length<=8:=by have:=WD hs;omega
 obtain⟨l,hlE⟩:∃l,l=sky hs:=⟨_,rfl⟩
 rw[←hlE] at sk sl ⊢
 have c1:Gs [some `ah,some (.lst false ((K ts).map Ac)),none,none,none,none,none,none,none,none,none] []=some ((l.map (·.1)).map .int,[]):=by
  have e:DP (Ab 0) [some `ah,some (.lst false ((K ts).map Ac)),none,none,none,none,none,none,none,none,none] []=some ((l.map Ah,[]),[]):=rfl
  unfold Gs Cv
  rw[e]
  simp only[U0a]
  rw[Iu (by simp) Ah (fun p=>.int p.1) l (by omega),U0t]
  .rfl
  .intro p hp
   exact⟨_,Dc _ _ _,rfl⟩
 have c2:Gq [some `ah,some (.lst false ((K ts).map Ac)),some (.lst true ((l.map (·.1)).map .int)),none,none,none,none,none,none,none,none] []=some (((l.filter fun p=>decide (0<p.2)).map (·.2)).map .int,[]):=by
  have e:DP (Ab 0) [some `ah,some (.lst false ((K ts).map Ac)),some (.lst true ((l.map (·.1)).map .int)),none,none,none,none,none,none,none,none] []=some ((l.map Ah,[]),[]):=rfl
  unfold Gq Cv
  rw[e]
  simp only[U0a]
  rw[Iv (by simp) Ah (fun p=>decide (0<p.2)) (fun p=>.int p.2) l [] (by simp;omega)]
  .rw[U1v,U0t];rfl
  .intro p hp
   exact⟨_,Dc _ _ _,rfl,fun _=>rfl⟩
 obtain⟨vs,hvs⟩:∃vs,vs=(l.filter fun p=>decide (0<p.2)).map (·.2):=⟨_,rfl⟩
 rw[←hvs] at c2
 have vl:vs.length<=8:=by rw[hvs,U0d];exact U1b (U3l ..) sl
 have ol:=(SetP.Ie vs).2.1
 have ul:(Cz vs).length<=10:=by
  unfold Cz
  rw[(U3x _ _).length_eq]
  omega
 have um:∀v∈Cz vs,1<=v/\v<=1000000000:=fun v hv=>by
  unfold Cz at hv
  rw[(U3x _ _).mem_iff,(SetP.Ie _).2.2,hvs] at hv
  obtain⟨p,hp,rfl⟩:=U0x.mp hv
  obtain⟨p1,p2⟩:=U1u.mp hp
  have:=of_decide_eq_true p2
  have:=(sk.inn p p1).2.2
  omega
 have s1:(BZ 2 (Az Gs)) [some `ah,some (.lst false ((K ts).map Ac)),none,none,none,none,none,none,none,none,none] []=some (.nx,[some `ah,some (.lst false ((K ts).map Ac)),some (.lst true ((l.map (·.1)).map .int)),none,none,none,none,none,none,none,none],[]):=by rw[CP,Ck,c1];rfl
 have s2:(BZ 3 (QJ (Az Gq))) [some `ah,some (.lst false ((K ts).map Ac)),some (.lst true ((l.map (·.1)).map .int)),none,none,none,none,none,none,none,none] []=some (.nx,[some `ah,some (.lst false ((K ts).map Ac)),some (.lst true ((l.map (·.1)).map .int)),some (.lst true ((Cz vs).map .int)),none,none,none,none,none,none,none],[]):=by
  rw[CP,Zk,Ck,c2]
  show((intsOf (vs.map D.int)).bind _).bind _=_
  rw[Mg,U0a,if_pos ⟨by omega,by omega⟩]
  rfl
 have s3:(BZ 4 (Az Af)) [some `ah,some (.lst false ((K ts).map Ac)),some (.lst true ((l.map (·.1)).map .int)),some (.lst true ((Cz vs).map .int)),none,none,none,none,none,none,none] []=some (.nx,CQ l (K ts) (l.map (·.1)) (Cz vs) [] none none none none none none,[]):=rfl
 obtain⟨ev,y5,y6,e1,e2,e3⟩:=wz (l:=l) (ks:=K ts) (ns:=l.map (·.1)) (hts:=Cz vs) (z5:=none) (z6:=none) (z7:=none) (z8:=none) (z9:=none) (z10:=none) (S:=[]) (fun v hv=>by
  obtain⟨p,hp,rfl⟩:=U0x.mp hv
  have:=sk.inn p hp
  omega) um ul (by rw[U0d];omega)
 have s4:(BZ 7 (Az (Aa (Az Af) Af))) (CQ l (K ts) (l.map (·.1)) (Cz vs) ev y5 y6 none none none none) []=some (.nx,CQ l (K ts) (l.map (·.1)) (Cz vs) ev y5 y6 (some (.lst true [.lst true []])) none none none,[]):=rfl
 have er:Gx (Aa (eOp K4 (eCB G6 (Aa (Ab 1) Af)) `af) Af) (CQ l (K ts) (l.map (·.1)) (Cz vs) ev y5 y6 (some (.lst true [.lst true []])) none none none) []=some ((upD 0 ((K ts).length-1),[]),[]):=Uk (j:=((K ts).length:Int)-1) _ (by
  show(some ([D.int ((((K ts).map Ac).length:Nat)-1)],[]):Option (List D×Store))=_
  rw[U0d]) (by omega) (by omega) (by omega)
 have lo:=aM (w:=[]) (g:=Pat.sem (.nm 8)) (b:=Fp) (ds:=upD 0 ((K ts).length-1)) (env:=CQ l (K ts) (l.map (·.1)) (Cz vs) ev y5 y6 (some (.lst true [.lst true []])) none none none) (S:=[])
  (fun i env S=>∃(Ls:List (List T3))(d7:D)(y8 y9 y10:Option D),env=CQ l (K ts) (l.map (·.1)) (Cz vs) ev y5 y6 (some d7) y8 y9 y10/\Lk i Ls/\Ls.length<=3000/\LAt S d7 Ls) (fun r _=>r=.bl true)
  ⟨[[]],.lst true [.lst true []],none,none,none,rfl,⟨fun L hL=>by rw[U0q.mp hL];rfl,fun L hL t ht=>by rw[U0q.mp hL] at ht;cases ht⟩,by decide,.inl rfl⟩ (fun i env S _=>by simp) (fun i d env S hd q=>by
   obtain⟨Ls,d7,y8,y9,y10,q,lk,ll,at7⟩:=q
   obtain⟨hi,rfl⟩:=Vf hd
   subst q
   refine⟨_,Dc _ _ _,?_⟩
   subst hlE
   rcases xK (ks:=K ts) (ns:=(`bg).map (·.1)) (hts:=Cz vs) (z5:=y5) (z6:=y6) (z8:=some (.int (0+(i:Int)))) (z9:=y9) (z10:=y10) h hl nd hm e1 e2 (k:=i) (by omega) (by omega) lk ll at7 with ⟨env',S',b,Ms,d7',w9,w10,q,m1,m2,m3⟩|⟨env',S',b⟩
   .exact .inl ⟨_,_,.inl b,Ms,d7',_,_,_,q,m1,m2,m3⟩
   .exact .inr ⟨_,_,_,b,rfl⟩)
 unfold Cy
 rw[Eh]
 simp only[U0f,U1m,U0r,U2a,U2p,U2q,U03,U1x,U2c,U1v,if_true]
 unfold Nv
 rw[BJ s1,BJ s2,BJ s3,BJ e3,BJ s4]
 rcases lo with ⟨env',S',lo,q⟩|⟨r,env',S',lo,q⟩
 .have l4:Fj (CQ l (K ts) (l.map (·.1)) (Cz vs) ev y5 y6 (some (.lst true [.lst true []])) none none none) []=some (.nx,env',S'):=by
   unfold Fj
   rw[GP,er]
   exact lo
  rw[BJ l4]
  rfl
 .subst q
  have l4:Fj (CQ l (K ts) (l.map (·.1)) (Cz vs) ev y5 y6 (some (.lst true [.lst true []])) none none none) []=some (.ret (.bl true),env',S'):=by
   unfold Fj
   rw[GP,er]
   exact lo
  rw[Fx,l4]
  rfl
end
end W29
end
section
namespace W29
open PySem L2 VS
theorem v7{t:T3}(h:Ev t):fit [3] (pT3 t)=true:=by
 obtain⟨h1,h2,h3,h4,h5⟩:=h
 refine(Vv [] 3 [.int t.1,.int t.2.1,.int t.2.2] (by simp) fun x hx=>?_).2
 have:∀v:Int,-1000000000<=v->v<=1000000000->fit [] (.int v)=true:=fun v a b=>decide_eq_true (by omega)
 simp only[U0h,U1z,or_false] at hx
 rcases hx with rfl|rfl|rfl
 .exact this _ (by omega) (by omega)
 .exact this _ (by omega) (by omega)
 .exact this _ (by omega) (by omega)
theorem uz{a b:List T3}(ha:Hs a)(hb:Hs b)(la:a.length<=100)(lb:b.length<=100):fit [2,100,3] (.list [.list (a.map pT3),.list (b.map pT3)])=true:=by
 have one:∀l:List T3,Hs l->l.length<=100->fit [100,3] (.list (l.map pT3))=true:=fun l h hl=>(Vv [3] 100 _ (by simpa using hl) fun x hx=>by
  obtain⟨t,ht,rfl⟩:=U0x.mp hx
  exact v7 (h.all t ht)).1
 refine(Vv [100,3] 2 _ (by simp) fun x hx=>?_).1
 rcases U0h.mp hx with z|z
 .rw[z];exact one a ha la
 .rw[U0q.mp z];exact one b hb lb
theorem dH(m:Bool)(a:List T3):toP (.lst m (a.map Ac))=some (.list (a.map pT3)):=by
 have:=PN [] m a
 rw[DN,den,DQ 0 _ (Bg (CZ a))] at this
 exact this
theorem aB{U:Store}{x y:D}{a b:List T3}(hx:den 0 U x=some (.lst true (a.map Ac)))(hy:den 0 U y=some (.lst true (b.map Ac))):DN U (.lst true [x,y])=some (.list [.list (a.map pT3),.list (b.map pT3)]):=by
 rw[DN,den,DW,hx,U0a,DW,hy,U0a,DW]
 show toP (.lst true [.lst true (a.map Ac),.lst true (b.map Ac)])=_
 rw[toP,Hv,dH,U0a,Hv,dH];rfl
theorem mL{U:Store}{i:Nat}{a:List T3}(h:U[i]?=some (some (a.map Ac))):den 0 U (.ref i)=some (.lst true (a.map Ac)):=by
 rw[den,if_neg (by omega),h];exact if_pos (Bg (CZ a))
theorem mO(U:Store)(a:List T3):den 0 U (.lst true (a.map Ac))=some (.lst true (a.map Ac)):=by
 rw[den,DQ 0 _ (Bg (CZ a))];rfl
abbrev Ea(l:List St2)(sm:Bool)(a b:List T3)(z5 z6:Option D):VS.Env:=[some `ah,some (.bl sm),some (.lst true `bm),some (.lst true (a.map Ac)),some (.lst true (b.map Ac)),z5,z6]
theorem jR{l:List St2}{sm:Bool}{a b:List T3}(ha:Hs a)(hb:Hs b)(la:a.length<=100)(lb:b.length<=100)(hH:Du [.lst false `bm]=some (.lst true (a.map Ac)))(hF:Bt [.lst false `bm]=some (.lst true (b.map Ac)))(z5 z6:Option D)(T:Store) :
  ∃(y6:Option D)(T':Store),Kd (Ea l sm a b z5 z6) T=some (.nx,Ea l sm a b z5 y6,T'):=by
 have c1:Bd Du (Aa (Ab 2) Af) (Ea l sm a b z5 z6) T=some (.lst true (a.map Ac),T):=Dj (ds:=[.lst true `bm]) (es:=[.lst false `bm]) rfl (Ju ..) (Lr ..) hH
 have c2:∀S,Bd Bt (Aa (Ab 2) Af) (Ea l sm a b z5 z6) S=some (.lst true (b.map Ac),S):=fun S=>Dj (ds:=[.lst true `bm]) (es:=[.lst false `bm]) rfl (Ju ..) (Lr ..) hF
 have t1:IW Du (Aa (Ab 2) Af) (Ea l sm a b z5 z6) T=some (.ref T.length,T++[some (a.map Ac)]):=TJ c1 (by rw[Pu,if_pos (CZ _)])
 have t2:IW Bt (Aa (Ab 2) Af) (Ea l sm a b z5 z6) (T++[some (a.map Ac)])=some (.ref (T.length+1),T++[some (a.map Ac)]++[some (b.map Ac)]):=by
  have:=TJ (d':=.ref (T++[some (a.map Ac)]).length) (cs:=b.map Ac) (c2 (T++[some (a.map Ac)])) (by rw[Pu,if_pos (CZ _)])
  rw[U0p] at this
  exact this
 have s1:(BZ 6 (Az (Aa (IW Du (Aa (Ab 2) Af)) (Aa (IW Bt (Aa (Ab 2) Af)) Af)))) (Ea l sm a b z5 z6) T=some (.nx,Ea l sm a b z5 (some (.lst true [.ref T.length,.ref (T.length+1)])),T++[some (a.map Ac),some (b.map Ac)]):=by
  rw[CP,Ck,BX,t1,U0a,BX,t2,U04];rfl
 have u0:(T++[some (a.map Ac),some (b.map Ac)])[T.length]?=some (some (a.map Ac)):=J8 ..
 have u1:(T++[some (a.map Ac),some (b.map Ac)])[T.length+1]?=some (some (b.map Ac)):=iV ..
 obtain⟨U,hU⟩:∃U:Store,U=T++[some (a.map Ac),some (b.map Ac)]:=⟨_,rfl⟩
 have ft:=uz ha hb la lb
 rw[←hU] at u0 u1 s1
 have r1:=aC (aB (mL u0) (mL u1)) ft (by decide) (by decide)
 have r2:=aC (aB (mO U a) (mO U b)) ft (by decide) (by decide)
 have k1:BR (eOp (Xb true) (eCB K9 (Aa (Ab 6) Af)) (eCB K9 (Aa (Az (Aa (Ab 3) (Aa (Ab 4) Af))) Af))) (Ea l sm a b z5 (some (.lst true [.ref T.length,.ref (T.length+1)]))) U=some (false,U):=by
  have d1:eCB K9 (Aa (Ab 6) Af) (Ea l sm a b z5 (some (.lst true [.ref T.length,.ref (T.length+1)]))) U=some (.str (U6m (.list [.list (a.map pT3),.list (b.map pT3)])),U):=by
   show U2w _ (K9 U [.lst true [.ref T.length,.ref (T.length+1)]])=_
   rw[r1];rfl
  have d2:eCB K9 (Aa (Az (Aa (Ab 3) (Aa (Ab 4) Af))) Af) (Ea l sm a b z5 (some (.lst true [.ref T.length,.ref (T.length+1)]))) U=some (.str (U6m (.list [.list (a.map pT3),.list (b.map pT3)])),U):=by
   show U2w _ (K9 U [.lst true [.lst true (a.map Ac),.lst true (b.map Ac)]])=_
   rw[r2];rfl
  rw[Cd,Ba,d1,U0a,d2,U0a]
  simp[Xb]
 have k2:BR (eOp (oEq true) (Ab 2) (Ab 0)) (Ea l sm a b z5 (some (.lst true [.ref T.length,.ref (T.length+1)]))) U=some (false,U):=by
  have v2:Ab 2 (Ea l sm a b z5 (some (.lst true [.ref T.length,.ref (T.length+1)]))) U=some (.lst true `bm,U):=rfl
  have v0:Ab 0 (Ea l sm a b z5 (some (.lst true [.ref T.length,.ref (T.length+1)]))) U=some (.lst false `bm,U):=rfl
  rw[Cd,Ba,v2,U0a,v0,U0a,Ua,decide_eq_true rfl];rfl
 have s3:(Gv (Fv Fb (eOp oIx (Ab 6) `ag) (Aa `ag Af))) (Ea l sm a b z5 (some (.lst true [.ref T.length,.ref (T.length+1)]))) U=some (.nx,Ea l sm a b z5 (some (.lst true [.ref T.length,.ref (T.length+1)])),T++[some (a.map Ac++[.int 0]),some (b.map Ac)]) :=
  Pn (i:=T.length) (l:=a.map Ac) (d:=.int 0) rfl u0 rfl (by rw[U0d];have:=ha.few;omega) (by rw[hU,XS])
 have s4:(Gv (Fv Qs (eOp oIx (Ab 6) `af) Af)) (Ea l sm a b z5 (some (.lst true [.ref T.length,.ref (T.length+1)]))) (T++[some (a.map Ac++[.int 0]),some (b.map Ac)])=some (.nx,Ea l sm a b z5 (some (.lst true [.ref T.length,.ref (T.length+1)])),T++[some (a.map Ac++[.int 0]),some []]):=by
  rw[Ko,Rm (d:=.ref (T.length+1)) (cs:=b.map Ac) (ds:=[]) (r:=.non) (S1:=T++[some (a.map Ac++[.int 0]),some (b.map Ac)]) (S2:=T++[some (a.map Ac++[.int 0]),some (b.map Ac)]) (S3:=T++[some (a.map Ac++[.int 0]),some []]) rfl (by rw[VS.listOf,iV];rfl) rfl (by
   unfold Qs
   simp only[iV]
   rw[yc])]
  rfl
 refine⟨some (.lst true [.ref T.length,.ref (T.length+1)]),T++[some (a.map Ac++[.int 0]),some []],?_⟩
 unfold Kd
 rw[BJ s1]
 refine(BJ (env1:=Ea l sm a b z5 (some (.lst true [.ref T.length,.ref (T.length+1)]))) (S1:=U) (by
  rw[FP (by
   rw[KH,k1]
   simp only[U0a,U0s,if_false]
   exact k2)]
  rfl)).trans ?_
 rw[BJ s3,s4]
theorem jQ{hs:List T3}(h:Hs hs)(hl:hs.length<=40){sm:Bool}(hsm:sm=true->hs.length<=4):Ed [.lst false ((`bg).map Ah),.bl sm]=some (.bl true):=by
 have sk:=Ow h (by omega)
 have st:=Q8 sk
 obtain⟨ts,eo,nd,hm⟩:=jf h hl
 have tl:=Mq nd fun t ht=>(hm t).mp ht
 have hmK:∀t,t∈K ts↔Rec (hgt hs) t:=fun t=>(Y0 ts).mem_iff.trans (hm t)
 have kl:(K ts).length=ts.length:=(Y0 ts).length_eq
 have hk:=Xm h hmK (by omega)
 have eK:=nT h hmK (by omega)
 have eS:=fU h (by omega)
 have hF:=fB h (by omega) nd hm
 have hH:=Z9 sk.ok
 have hC:=lC sk.ok
 have lK:=Rp hk
 have lS:=Rp st
 rw[eK] at lK
 rw[eS] at lS
 have hN:sm=true->Cy [.lst false ((`bg).map Ah),.lst false ((K ts).map Ac)]=some (.bl true):=fun z=>pJ h (hsm z) nd hm
 have sf:(stand `bg).length<=100:=by have:=W9 `bg;have:=WD hs;omega
 generalize sky hs=l at *
 have s1:(BZ 2 (Ub nList `bj)) [some `ah,some (.bl sm),none,none,none,none,none] []=some (.nx,[some `ah,some (.bl sm),some (.lst true `bm),none,none,none,none],[]):=by
  simp[CP,EY,Ei,BX,kj,nList,VS.listOf,En,-U0t,-U1d]
 have c2:Bd Ew `bj [some `ah,some (.bl sm),some (.lst true `bm),none,none,none,none] []=some (.lst true ((stand l).map Ac),[]):=Dj (ds:=[.lst false `bm]) (es:=[.lst false `bm]) rfl (Ju ..) (Lr ..) hC
 have s2:(BZ 3 (Bd Ew `bj)) [some `ah,some (.bl sm),some (.lst true `bm),none,none,none,none] []=some (.nx,[some `ah,some (.bl sm),some (.lst true `bm),some (.lst true ((stand l).map Ac)),none,none,none],[]):=by rw[CP,c2];rfl
 have c3:Bd (Al 42) (Aa (Ab 3) (Aa `ag Af)) [some `ah,some (.bl sm),some (.lst true `bm),some (.lst true ((stand l).map Ac)),none,none,none] []=some (.lst true (ts.map Ac),[]):=Dj (ds:=[.lst true ((stand l).map Ac),.int 0]) (es:=[.lst false ((stand l).map Ac),.int 0]) rfl (oF ..) (vK ..) eo
 have s3:(BZ 4 (Qy (Bd (Al 42) (Aa (Ab 3) (Aa `ag Af))))) [some `ah,some (.bl sm),some (.lst true `bm),some (.lst true ((stand l).map Ac)),none,none,none] []=some (.nx,Ea l sm (stand l) (K ts) none none,[]):=by
  rw[CP,jK c3 nd (by omega)];rfl
 have er:Gx (Aa (eC (.int 2)) Af) (Ea l sm (stand l) (K ts) none none) []=some ((upD 0 2,[]),[]):=Uk (j:=2) 2 rfl (by decide) (by decide) (by decide)
 obtain⟨env',S',e3,y5,y6,he⟩:=Gi (w:=[]) (g:=Pat.sem (.nm 5)) (b:=Kd) (ds:=upD 0 2) (env:=Ea l sm (stand l) (K ts) none none) (S:=[])
  (fun _ env S=>∃(y5 y6:Option D),env=Ea l sm (stand l) (K ts) y5 y6) ⟨none,none,rfl⟩ (fun i env S _=>by simp) (fun i d env S hd q=>by
   obtain⟨y5,y6,he⟩:=q
   subst he
   obtain⟨w6,T',bb⟩:=jR (sm:=sm) st hk sf (by omega) hH hF (some d) y6 S
   exact⟨_,Dc _ _ _,_,_,bb,_,_,rfl⟩)
 subst he
 have l1:Np (Ea l sm (stand l) (K ts) none none) []=some (.nx,Ea l sm (stand l) (K ts) y5 y6,S'):=by
  unfold Np
  rw[GP,er]
  exact e3
 have t4:VS.K3 (BR (Ab 1)) (VS.Hy (BR (Bd Cy (Aa (Ab 0) (Aa (Ab 4) Af))))) (Ea l sm (stand l) (K ts) y5 y6) S'=some (false,S'):=by
  have v1:BR (Ab 1) (Ea l sm (stand l) (K ts) y5 y6) S'=some (sm,S'):=rfl
  rw[Im,v1]
  cases sm with
  |false=>rfl
  |true =>
   have c:Bd Cy (Aa (Ab 0) (Aa (Ab 4) Af)) (Ea l true (stand l) (K ts) y5 y6) S'=some (.bl true,S'):=Dj (ds:=[.lst false `bm,.lst true ((K ts).map Ac)]) (es:=[.lst false `bm,.lst false ((K ts).map Ac)]) rfl (by simp[Bm,Br,Bg (Ir l),Bg (CZ (K ts))]) (by simp[Cu,age,Dw (Ir l),Dw (CZ (K ts))]) (hN rfl)
   simp only[U0a,if_true]
   show VS.Hy _ _ _=_
   rw[Kh,Cd,c];rfl
 have v0:Ab 0 (Ea l sm (stand l) (K ts) y5 y6) S'=some (.lst false `bm,S'):=rfl
 have o1:eOp (oEq false) (Bd CJ (Aa (Ab 4) Af)) (Ab 0) (Ea l sm (stand l) (K ts) y5 y6) S'=some (.bl true,S'):=by
  rw[Ba,Dj (ds:=[.lst true ((K ts).map Ac)]) (es:=[.lst false ((K ts).map Ac)]) (S':=S') rfl (Rh ..) (Uv ..) lK,U0a,v0,U0a,Ua,decide_eq_true rfl];rfl
 have o2:eOp (oEq false) (Bd CJ (Aa (Ab 3) Af)) (Ab 0) (Ea l sm (stand l) (K ts) y5 y6) S'=some (.bl true,S'):=by
  rw[Ba,Dj (ds:=[.lst true ((stand l).map Ac)]) (es:=[.lst false ((stand l).map Ac)]) (S':=S') rfl (Rh ..) (Uv ..) lS,U0a,v0,U0a,Ua,decide_eq_true rfl];rfl
 unfold Ed
 rw[Eh]
 simp only[U0f,U1m,U0r,U2a,U2p,U2q,U03,U1x,U2c,U1v,if_true]
 unfold SQ
 rw[BJ s1,BJ s2,BJ s3,BJ l1,Fx,FP t4]
 show((Di _ (Ea l sm (stand l) (K ts) y5 y6) S').bind _)=_
 rw[Dk,Mz,o1]
 simp only[U0a,o2]
 simp[den]
end W29
end
section
namespace W29
open PySem L2 VS
theorem xY{r0 r1:Int}{k:Nat}{hs:List T3}(q0:-1000000000<=r0)(hl:hs.length<=400)(hb:∀t∈hs,InT r0 r1 k t):Hs hs:=⟨hl,fun t ht=>by
 obtain⟨g1,g2,g3,g4,g5,g6⟩:=hb t ht
 omega⟩
theorem lB(hs:List T3):cut `aE none (some 4)=(hs.take 4).map Ac:=by
 rcases U4f hs.length 4 with z|z
 .unfold cut
  show(List.drop 0 `aE).take (min (4:Int).toNat (`aE).length-0)=_
  rw[U54,U12 (by simp;omega),U12 (by omega)]
 .rw[vG (by decide) (by rw[U0d];omega),←List.map_take]
  rfl
def N6(hs:List T3):List T3:=hs.map fun t=>(t.1,t.2.1,1+t.2.2%3)
theorem dz{hs:List T3}(h:Hs hs):Hs (N6 hs):=⟨by unfold N6;rw[U0d];exact h.few,fun t ht=>by
 obtain⟨u,hu,rfl⟩:=U0x.mp ht
 have:=h.all u hu
 show u.1<u.2.1/\1<=1+u.2.2%3/\1+u.2.2%3<=1000000000/\-1000000000<=u.1/\u.2.1<=1000000000
 omega⟩
theorem nM{hs:List T3}(h:Hs hs):Hs (hs.take 4):=⟨by have:=h.few;rw[U1q];omega,fun t ht=>h.all t (U4b ht)⟩
theorem TQ{hs:List T3}(h:Hs hs)(hl:hs.length<=40){sm:Bool}(hsm:sm=true->hs.length<=4){a:BL}{env:VS.Env}{S:Store}(ha:a env S=some (.lst true `aE,S)):BR (Bd Ed (Aa (Bd CJ (Aa a Af)) (Aa (eC (.bl sm)) Af))) env S=some (true,S):=by
 have c1:Bd CJ (Aa a Af) env S=some (.lst true ((`bg).map Ah),S):=Dj (ds:=[.lst true `aE]) (es:=[.lst false `aE]) (by rw[BX,ha];rfl) (Rh ..) (Uv ..) (Rp h)
 rw[Cd,Dj (ds:=[.lst true ((`bg).map Ah),.bl sm]) (es:=[.lst false ((`bg).map Ah),.bl sm]) (by rw[BX,c1];rfl) (by simp[Bm,Br,Bg (Ir `bg)]) (by simp[Cu,age,Dw (Ir `bg)]) (jQ h hl hsm)]
 rfl
theorem nF(ns:List Int)(c:Int)(z2 z3 z4:Option D)(S:Store):∃(S':Store)(y2 y3 y4:Option D),Ur [some (.scr ns),some (.int c),z2,z3,z4] S=some (.nx,[some (.scr ns),some (.int c),y2,y3,y4],S'):=by
 obtain⟨x0,p0⟩:=n6 c
 have s1:(BZ 2 (IW FW (Aa (Ab 1) Af))) [some (.scr ns),some (.int c),z2,z3,z4] S=some (.nx,[some (.scr ns),some (.int c),some `ay,z3,z4],S++[some [.int x0,.int c,.int 0]]):=by
  rw[CP,TJ (d':=.ref S.length) (cs:=[.int x0,.int c,.int 0]) (Dj (ds:=[.int c]) (es:=[.int c]) (S':=S) rfl (by simp[Bm,Br]) (by simp[Cu,age]) p0) (by simp[Pu,Dn,Bs])]
  rfl
 obtain⟨r0,r1,x1,z5,d1,⟨h1,h2,h3⟩,k1,k2⟩:=jT x0 c 0 (by decide) (by decide)
 obtain⟨hs,x2,z6,e1,bl,bb,k3,k4⟩:=gO x1 c z5 r0 r1 40 (by decide) (by decide) h1 h2 h3 (by omega) (by omega)
 have hH:=xY h1 (by omega) bb
 have c1:BK Dt (Aa (Ab 2) Af) [some (.scr ns),some (.int c),some `ay,z3,z4] (S++[some [.int x0,.int c,.int 0]])=some (.tup [.int r0,.int r1],S++[some [.int x1,.int c,.int z5]]):=by
  rw[QM (ns:=[x0,c,0]) (rest:=[]) (es:=[]) (i:=S.length) (S':=S++[some [.int x0,.int c,.int 0]]) rfl (J8 S _ []) (by simp[Bm]) (by simp[Cu]) d1,XS];rfl
 have a2:(Aa (Ab 2) (Aa (BK Dt (Aa (Ab 2) Af)) (Aa (eC (.int 40)) Af))) [some (.scr ns),some (.int c),some `ay,z3,z4] (S++[some [.int x0,.int c,.int 0]])=some ([.ref S.length,.tup [.int r0,.int r1],.int 40],S++[some [.int x1,.int c,.int z5]]):=by
  have v2:Ab 2 [some (.scr ns),some (.int c),some `ay,z3,z4] (S++[some [.int x0,.int c,.int 0]])=some (.ref S.length,S++[some [.int x0,.int c,.int 0]]):=rfl
  rw[BX,v2,U0a,BX,c1];rfl
 have c2:BK Ej (Aa (Ab 2) (Aa (BK Dt (Aa (Ab 2) Af)) (Aa (eC (.int 40)) Af))) [some (.scr ns),some (.int c),some `ay,z3,z4] (S++[some [.int x0,.int c,.int 0]])=some (.lst true `aE,S++[some [.int x2,.int c,.int z6]]):=by
  rw[QM (ns:=[x1,c,z5]) (rest:=[.tup [.int r0,.int r1],.int 40]) (es:=[.tup [.int r0,.int r1],.int 40]) (i:=S.length) (S':=S++[some [.int x1,.int c,.int z5]]) a2 (J8 S _ []) (by simp[Bm,Br]) (by simp[Cu,age]) e1,XS];rfl
 obtain⟨U,hU⟩:∃U,U=S++[some [D.int x2,.int c,.int z6]]:=⟨_,rfl⟩
 rw[←hU] at c2
 have s2:(BZ 3 (BK Ej (Aa (Ab 2) (Aa (BK Dt (Aa (Ab 2) Af)) (Aa (eC (.int 40)) Af))))) [some (.scr ns),some (.int c),some `ay,z3,z4] (S++[some [.int x0,.int c,.int 0]])=some (.nx,[some (.scr ns),some (.int c),some `ay,some (.lst true `aE),z4],U):=by rw[CP,c2];rfl
 have r1:=TQ hH bl (sm:=false) (by simp) (a:=Ab 3) (env:=[some (.scr ns),some (.int c),some `ay,some (.lst true `aE),z4]) (S:=U) rfl
 have c4:Uq [some (.scr ns),some (.int c),some `ay,some (.lst true `aE),z4] U=some ((N6 hs).map Ac,U):=by
  have e:DP (Ab 3) [some (.scr ns),some (.int c),some `ay,some (.lst true `aE),z4] U=some ((hs.map Ac,[]),U):=rfl
  unfold Uq Cv
  rw[e]
  simp only[U0a]
  rw[Iu (by simp) Ac (fun t=>Ac (t.1,t.2.1,1+t.2.2%3)) hs (by omega)]
  .unfold N6
   rw[U0t];rfl
  .intro t ht
   exact⟨_,Dc _ _ _,rfl⟩
 have s4:(BZ 4 (Az Uq)) [some (.scr ns),some (.int c),some `ay,some (.lst true `aE),z4] U=some (.nx,[some (.scr ns),some (.int c),some `ay,some (.lst true `aE),some (.lst true ((N6 hs).map Ac))],U):=by rw[CP,Ck,c4];rfl
 have ll:(N6 hs).length=hs.length:=by unfold N6;rw[U0d]
 have r2:=TQ (dz hH) (by omega) (sm:=false) (by simp) (a:=Ab 4) (env:=[some (.scr ns),some (.int c),some `ay,some (.lst true `aE),some (.lst true ((N6 hs).map Ac))]) (S:=U) rfl
 have r3:=TQ (nM (dz hH)) (by rw[U1q];omega) (sm:=true) (fun _=>by rw[U1q];omega) (a:=eSl oSl (Ab 4) LR (LQ (eC (.int 4)))) (env:=[some (.scr ns),some (.int c),some `ay,some (.lst true `aE),some (.lst true ((N6 hs).map Ac))]) (S:=U) (by
  show(some (D.lst true (cut ((N6 hs).map Ac) none (some 4)),U):Option (D×Store))=_
  rw[lB])
 refine⟨U,some `ay,some (.lst true `aE),some (.lst true ((N6 hs).map Ac)),?_⟩
 unfold Ur
 rw[BJ s1,BJ s2]
 refine(BJ (env1:=[some (.scr ns),some (.int c),some `ay,some (.lst true `aE),z4]) (S1:=U) (by rw[FP (by rw[Kh,r1];rfl)];rfl)).trans ?_
 rw[BJ s4,FP (by
  rw[KH,Kh,r2]
  simp only[U0a,U36,U0s,if_false]
  show VS.Hy _ _ _=_
  rw[Kh,r3];rfl)]
 rfl
theorem jo:∀ns:List Int,ns.length<=63->Vi [.scr ns]=some (.bl true):=by
 intro ns hns
 obtain⟨l,e⟩:∃l:List Int,DP (eOp Bv (Az (Aa (eC (.int 0)) Af)) (eSl oSl (Ab 0) LR (LQ (eC (.int 12))))) [some (.scr ns),none,none,none,none] []=some ((l.map .int,[]),[]):=by
  obtain⟨cs,hc,hl⟩:∃cs:List Int,cut (ns.map D.int) none (some 12)=cs.map D.int/\cs.length<=63:=by
   unfold cut
   rw[←List.map_drop,←List.map_take]
   exact⟨_,rfl,by rw[U1q,U2h];omega⟩
  refine⟨0::cs,?_⟩
  have a1:eSl oSl (Ab 0) LR (LQ (eC (.int 12))) [some (.scr ns),none,none,none,none] []=some (.lst true (cs.map .int),[]):=by
   show(some (D.lst true (cut (ns.map D.int) none (some 12)),([]:Store)):Option (D×Store))=_
   rw[hc]
  have a2:Az (Aa `ag Af) [some (.scr ns),none,none,none,none] []=some (.lst true [.int 0],[]):=rfl
  rw[Mw,add_lists a2 a1 (by rw[U0d];simp;omega)]
  rfl
 have l1:∃env' S',Xp [some (.scr ns),none,none,none,none] []=some (.nx,env',S')/\∃y1 y2 y3 y4,env'=[some (.scr ns),y1,y2,y3,y4]:=by
  unfold Xp
  rw[GP,e]
  exact Gi (w:=[]) (g:=Pat.sem (.nm 1)) (b:=Ur) (ds:=l.map .int) (env:=[some (.scr ns),none,none,none,none]) (S:=[])
   (fun _ env S=>∃y1 y2 y3 y4,env=[some (.scr ns),y1,y2,y3,y4]) ⟨_,_,_,_,rfl⟩ (fun i env S _=>by simp) (fun j d env S hd q=>by
    obtain⟨y1,y2,y3,y4,he⟩:=q
    rw[U07] at hd
    obtain⟨c,hc,rfl⟩:=U2r.mp hd
    subst he
    obtain⟨S',w2,w3,w4,e3⟩:=nF ns c y2 y3 y4 S
    exact⟨_,Dc _ _ _,_,_,e3,_,_,_,_,rfl⟩)
 obtain⟨env',S',l1,y1,y2,y3,y4,he⟩:=l1
 subst he
 have hA:Hs [((0:Int),(4:Int),(2:Int)),(1,2,5),(5,6,2)]:=⟨by decide,by decide⟩
 have eA:ends [((0:Int),(4:Int),(2:Int)),(1,2,5),(5,6,2)]=[0,1,2,4,5,6]:=HJ (Wh _) (by decide) fun x=>by
  rw[QH]
  constructor
  .rintro⟨t,ht,h⟩
   simp only[U0h,U1z,or_false] at ht
   rcases ht with rfl|rfl|rfl<;>rcases h with rfl|rfl<;>decide
  .intro h
   simp only[U0h,U1z,or_false] at h
   rcases h with rfl|rfl|rfl|rfl|rfl|rfl
   .exact⟨(0,4,2),by decide,.inl rfl⟩
   .exact⟨(1,2,5),by decide,.inl rfl⟩
   .exact⟨(1,2,5),by decide,.inr rfl⟩
   .exact⟨(0,4,2),by decide,.inr rfl⟩
   .exact⟨(5,6,2),by decide,.inl rfl⟩
   .exact⟨(5,6,2),by decide,.inr rfl⟩
 have vA:sky [((0:Int),(4:Int),(2:Int)),(1,2,5),(5,6,2)]=[(0,2),(1,5),(2,2),(4,0),(5,2),(6,0)]:=by
  unfold sky
  rw[eA]
  decide +kernel
 have rA:∀t∈[((0:Int),(4:Int),(2:Int)),(1,2,5),(5,6,2)],Rec (hgt [((0:Int),(4:Int),(2:Int)),(1,2,5),(5,6,2)]) t:=fun t ht=>by
  have al:∀y,t.1<=y->y<t.2.1->t.2.2<=hgt [((0:Int),(4:Int),(2:Int)),(1,2,5),(5,6,2)] y:=fun y k1 k2=>(Eo (by have:=hA.all t ht;omega)).mpr ⟨t,ht,k1,k2,U1j _⟩
  simp only[U0h,U1z,or_false] at ht
  rcases ht with rfl|rfl|rfl
  .exact⟨by decide,al,by decide,by decide,0,by decide⟩
  .exact⟨by decide,al,by decide,by decide,1,by decide⟩
  .exact⟨by decide,al,by decide,by decide,5,by decide⟩
 have mA:∀t,t∈[((0:Int),(4:Int),(2:Int)),(1,2,5),(5,6,2)]↔Rec (hgt [((0:Int),(4:Int),(2:Int)),(1,2,5),(5,6,2)]) t:=fun t=>⟨rA t,fun r=>by
  apply U4m
  intro z
  have:=Mq (hs:=[((0:Int),(4:Int),(2:Int)),(1,2,5),(5,6,2)]) (ts:=t::[((0:Int),(4:Int),(2:Int)),(1,2,5),(5,6,2)]) (U3y.mpr ⟨z,by decide⟩) fun u hu=>by
   rcases U0h.mp hu with w|w
   .rw[w];exact r
   .exact rA u w
  simp at this⟩
 have sA:=fB hA (by decide) (ts:=[((0:Int),(4:Int),(2:Int)),(1,2,5),(5,6,2)]) (by decide) mA
 have kA:K [((0:Int),(4:Int),(2:Int)),(1,2,5),(5,6,2)]=[((0:Int),(4:Int),(2:Int)),(1,2,5),(5,6,2)]:=by decide
 rw[vA,kA] at sA
 have cA:Bd Bt `ar [some (.scr ns),y1,y2,y3,y4] S'=some (.lst true ([((0:Int),(4:Int),(2:Int)),(1,2,5),(5,6,2)].map Ac),S') :=
  Dj (ds:=[.lst true ([((0:Int),(2:Int)),(1,5),(2,2),(4,0),(5,2),(6,0)].map Ah)]) (es:=[.lst false ([((0:Int),(2:Int)),(1,5),(2,2),(4,0),(5,2),(6,0)].map Ah)]) (S':=S') rfl (Ju ..) (Lr ..) sA
 have fA:`az [some (.scr ns),y1,y2,y3,y4] S'=some (.lst true ([((0:Int),(4:Int),(2:Int)),(1,2,5),(5,6,2)].map Ac),S'):=rfl
 have oA:eOp (oEq false) (Bd Bt `ar) `az [some (.scr ns),y1,y2,y3,y4] S'=some (.bl true,S'):=by
  rw[Ba,cA,U0a,fA,U0a,show oEq false S' (.lst true ([((0:Int),(4:Int),(2:Int)),(1,2,5),(5,6,2)].map Ac)) (.lst true ([((0:Int),(4:Int),(2:Int)),(1,2,5),(5,6,2)].map Ac))=some (.bl (false ^^ true)) from kY 2 (PN S' true _) (PN S' true _) (aN _) (by decide)];rfl
 unfold Vi
 rw[Eh]
 simp only[U0f,U1m,U0r,U2a,U2p,U2q,U03,U1x,U2c,U1v,if_true]
 unfold mG
 rw[BJ l1,Dk,oA]
 simp[den]
end W29
end
section
namespace W29
open PySem PySem.Spec L2 VS
theorem Oc:∀{us:List Value},us.length=1->∃a0,us=[a0]
 |[a0],_=>⟨a0,rfl⟩
theorem Qf:∀{us:List Value},us.length=2->∃a0 a1,us=[a0,a1]
 |[a0,a1],_=>⟨a0,a1,rfl⟩
theorem rF:∀{us:List Value},us.length=3->∃a0 a1 a2,us=[a0,a1,a2]
 |[a0,a1,a2],_=>⟨a0,a1,a2,rfl⟩
theorem tops{l:U7f}{w:World}{K:U0b}{h:Heap}{mg:Str->Option Value}{fa:Addr}{f1 f2 f3 f4 f5 f6 f7 f8 f9 f10 f11 f12 f13 f14 f15 f16 f17 f18 f19 f20 f21:Addr}(X:K.In h)(G:h.Ns mainGlobals mg)(hfa:mg "law"=some (.ref fa))
  {od1 an1 od2 an2 od3 an3 od4 an4 od5 an5 od6 an6 od7 an7 od8 an8 od9 an9 od10 an10 od11 an11 od12 an12 od13 an13 od14 an14 od15 an15 od16 an16 od17 an17 od18 an18 od19 an19 od20 an20 od21 an21:Option Addr} {sl1 sl2 sl3 sl4 sl5 sl6 sl7 sl8 sl9 sl10 sl11 sl12 sl13 sl14 sl15 sl16 sl17 sl18 sl19 sl20 sl21:Array (Option Value)} {oc1 kV1 dc1 pm1 cd1 ct1 oc2 kV2 dc2 pm2 cd2 ct2 oc3 kV3 dc3 pm3 cd3 ct3 oc4 kV4 dc4 pm4 cd4 ct4 oc5 kV5 dc5 pm5 cd5 ct5 oc6 kV6 dc6 pm6 cd6 ct6 oc7 kV7 dc7 pm7 cd7 ct7 oc8 kV8 dc8 pm8 cd8 ct8 oc9 kV9 dc9 pm9 cd9 ct9 oc10 kV10 dc10 pm10 cd10 ct10 oc11 kV11 dc11 pm11 cd11 ct11 oc12 kV12 dc12 pm12 cd12 ct12 oc13 kV13 dc13 pm13 cd13 ct13 oc14 kV14 dc14 pm14 cd14 ct14 oc15 kV15 dc15 pm15 cd15 ct15 oc16 kV16 dc16 pm16 cd16 ct16 oc17 kV17 dc17 pm17 cd17 ct17 oc18 kV18 dc18 pm18 cd18 ct18 oc19 kV19 dc19 pm19 cd19 ct19 oc20 kV20 dc20 pm20 cd20 ct20 oc21 kV21 dc21 pm21 cd21 ct21:Value}
  (a1:U09 K mainGlobals "is_whole"=some (some (.ref f1))) (l1:K.lookup f1=some ⟨oc1,od1,.func (U1r "is_whole" "is_whole" (Cm J5) (CV J5) (Am J5) .none kV1 dc1 pm1 an1 cd1 ct1),sl1⟩) (c1:U1s K cd1 "is_whole"=true) (k1:U1g K (.ref f1)=true)
  (a2:U09 K mainGlobals "are_wholes"=some (some (.ref f2))) (l2:K.lookup f2=some ⟨oc2,od2,.func (U1r "are_wholes" "are_wholes" (Cm GD) (CV GD) (Am GD) .none kV2 dc2 pm2 an2 cd2 ct2),sl2⟩) (c2:U1s K cd2 "are_wholes"=true) (k2:U1g K (.ref f2)=true)
  (a3:U09 K mainGlobals "is_skyline"=some (some (.ref f3))) (l3:K.lookup f3=some ⟨oc3,od3,.func (U1r "is_skyline" "is_skyline" (Cm FZ) (CV FZ) (Am FZ) .none kV3 dc3 pm3 an3 cd3 ct3),sl3⟩) (c3:U1s K cd3 "is_skyline"=true) (k3:U1g K (.ref f3)=true)
  (a4:U09 K mainGlobals "need_skyline"=some (some (.ref f4))) (l4:K.lookup f4=some ⟨oc4,od4,.func (U1r "need_skyline" "need_skyline" (Cm Fy) (CV Fy) (Am Fy) .none kV4 dc4 pm4 an4 cd4 ct4),sl4⟩) (c4:U1s K cd4 "need_skyline"=true) (k4:U1g K (.ref f4)=true)
  (a5:U09 K mainGlobals "standing_under"=some (some (.ref f5))) (l5:K.lookup f5=some ⟨oc5,od5,.func (U1r "standing_under" "standing_under" (Cm Dq) (CV Dq) (Am Dq) .none kV5 dc5 pm5 an5 cd5 ct5),sl5⟩) (c5:U1s K cd5 "standing_under"=true) (k5:U1g K (.ref f5)=true)
  (a6:U09 K mainGlobals "houses_of"=some (some (.ref f6))) (l6:K.lookup f6=some ⟨oc6,od6,.func (U1r "houses_of" "houses_of" (Cm Hu) (CV Hu) (Am Hu) .none kV6 dc6 pm6 an6 cd6 ct6),sl6⟩) (c6:U1s K cd6 "houses_of"=true) (k6:U1g K (.ref f6)=true)
  (a7:U09 K mainGlobals "widest_at"=some (some (.ref f7))) (l7:K.lookup f7=some ⟨oc7,od7,.func (U1r "widest_at" "widest_at" (Cm Hj) (CV Hj) (Am Hj) .none kV7 dc7 pm7 an7 cd7 ct7),sl7⟩) (c7:U1s K cd7 "widest_at"=true) (k7:U1g K (.ref f7)=true)
  (a8:U09 K mainGlobals "fewest_houses"=some (some (.ref f8))) (l8:K.lookup f8=some ⟨oc8,od8,.func (U1r "fewest_houses" "fewest_houses" (Cm Dz) (CV Dz) (Am Dz) .none kV8 dc8 pm8 an8 cd8 ct8),sl8⟩) (c8:U1s K cd8 "fewest_houses"=true) (k8:U1g K (.ref f8)=true)
  (a9:U09 K mainGlobals "_law_mixed"=some (some (.ref f9))) (l9:K.lookup f9=some ⟨oc9,od9,.func (U1r "_law_mixed" "_law_mixed" (Cm Hq) (CV Hq) (Am Hq) .none kV9 dc9 pm9 an9 cd9 ct9),sl9⟩) (c9:U1s K cd9 "_law_mixed"=true) (k9:U1g K (.ref f9)=true)
  (a10:U09 K mainGlobals "_law_well"=some (some (.ref f10))) (l10:K.lookup f10=some ⟨oc10,od10,.func (U1r "_law_well" "_law_well" (Cm J3) (CV J3) (Am J3) .none kV10 dc10 pm10 an10 cd10 ct10),sl10⟩) (c10:U1s K cd10 "_law_well"=true) (k10:U1g K (.ref f10)=true)
  (a11:U09 K mainGlobals "_law_draw"=some (some (.ref f11))) (l11:K.lookup f11=some ⟨oc11,od11,.func (U1r "_law_draw" "_law_draw" (Cm J4) (CV J4) (Am J4) .none kV11 dc11 pm11 an11 cd11 ct11),sl11⟩) (c11:U1s K cd11 "_law_draw"=true) (k11:U1g K (.ref f11)=true)
  (a12:U09 K mainGlobals "_law_reach"=some (some (.ref f12))) (l12:K.lookup f12=some ⟨oc12,od12,.func (U1r "_law_reach" "_law_reach" (Cm Ho) (CV Ho) (Am Ho) .none kV12 dc12 pm12 an12 cd12 ct12),sl12⟩) (c12:U1s K cd12 "_law_reach"=true) (k12:U1g K (.ref f12)=true)
  (a13:U09 K mainGlobals "_law_stretch"=some (some (.ref f13))) (l13:K.lookup f13=some ⟨oc13,od13,.func (U1r "_law_stretch" "_law_stretch" (Cm GR) (CV GR) (Am GR) .none kV13 dc13 pm13 an13 cd13 ct13),sl13⟩) (c13:U1s K cd13 "_law_stretch"=true) (k13:U1g K (.ref f13)=true)
  (a14:U09 K mainGlobals "_law_house"=some (some (.ref f14))) (l14:K.lookup f14=some ⟨oc14,od14,.func (U1r "_law_house" "_law_house" (Cm Hr) (CV Hr) (Am Hr) .none kV14 dc14 pm14 an14 cd14 ct14),sl14⟩) (c14:U1s K cd14 "_law_house"=true) (k14:U1g K (.ref f14)=true)
  (a15:U09 K mainGlobals "_law_houses"=some (some (.ref f15))) (l15:K.lookup f15=some ⟨oc15,od15,.func (U1r "_law_houses" "_law_houses" (Cm HF) (CV HF) (Am HF) .none kV15 dc15 pm15 an15 cd15 ct15),sl15⟩) (c15:U1s K cd15 "_law_houses"=true) (k15:U1g K (.ref f15)=true)
  (a16:U09 K mainGlobals "_law_line"=some (some (.ref f16))) (l16:K.lookup f16=some ⟨oc16,od16,.func (U1r "_law_line" "_law_line" (Cm Gb) (CV Gb) (Am Gb) .none kV16 dc16 pm16 an16 cd16 ct16),sl16⟩) (c16:U1s K cd16 "_law_line"=true) (k16:U1g K (.ref f16)=true)
  (a17:U09 K mainGlobals "_law_over"=some (some (.ref f17))) (l17:K.lookup f17=some ⟨oc17,od17,.func (U1r "_law_over" "_law_over" (Cm HW) (CV HW) (Am HW) .none kV17 dc17 pm17 an17 cd17 ct17),sl17⟩) (c17:U1s K cd17 "_law_over"=true) (k17:U1g K (.ref f17)=true)
  (a18:U09 K mainGlobals "_law_cells"=some (some (.ref f18))) (l18:K.lookup f18=some ⟨oc18,od18,.func (U1r "_law_cells" "_law_cells" (Cm Ht) (CV Ht) (Am Ht) .none kV18 dc18 pm18 an18 cd18 ct18),sl18⟩) (c18:U1s K cd18 "_law_cells"=true) (k18:U1g K (.ref f18)=true)
  (a19:U09 K mainGlobals "_law_none_fewer"=some (some (.ref f19))) (l19:K.lookup f19=some ⟨oc19,od19,.func (U1r "_law_none_fewer" "_law_none_fewer" (Cm Cj) (CV Cj) (Am Cj) .none kV19 dc19 pm19 an19 cd19 ct19),sl19⟩) (c19:U1s K cd19 "_law_none_fewer"=true) (k19:U1g K (.ref f19)=true)
  (a20:U09 K mainGlobals "_law_right"=some (some (.ref f20))) (l20:K.lookup f20=some ⟨oc20,od20,.func (U1r "_law_right" "_law_right" (Cm Hl) (CV Hl) (Am Hl) .none kV20 dc20 pm20 an20 cd20 ct20),sl20⟩) (c20:U1s K cd20 "_law_right"=true) (k20:U1g K (.ref f20)=true)
  (a21:U09 K mainGlobals "law"=some (some (.ref f21))) (l21:K.lookup f21=some ⟨oc21,od21,.func (U1r "law" "law" (Cm LC) (CV LC) (Am LC) .none kV21 dc21 pm21 an21 cd21 ct21),sl21⟩) (c21:U1s K cd21 "law"=true) (k21:U1g K (.ref f21)=true)
  (z1:U09 K mainGlobals "len"=some none)
  (z2:U09 K mainGlobals "isinstance"=some none)
  (z3:U09 K mainGlobals "all"=some none)
  (z4:U09 K mainGlobals "sorted"=some none)
  (z5:U09 K mainGlobals "min"=some none)
  (z6:U09 K mainGlobals "max"=some none)
  (z7:U09 K mainGlobals "abs"=some none)
  (z8:U09 K mainGlobals "repr"=some none)
  (z9:U09 K mainGlobals "set"=some none)
  (z10:U09 K mainGlobals "list"=some none)
  (z11:U09 K mainGlobals "tuple"=some none)
  (z12:U09 K mainGlobals "range"=some none)
  (z13:U09 K mainGlobals "int"=some none)
  (z14:U09 K mainGlobals "bool"=some none)
  (z15:U09 K mainGlobals "str"=some none)
  (zBz:U09 K mainGlobals "zip"=some none)
  (zBe:U09 K mainGlobals "enumerate"=some none)
  : ∃fd:FuncData,(∀(s:Shared)(v:Value),BindsTo s fd ⟨[v],[]⟩ [("script",v)])/\∀base:Heap,K.In base->base.Ns mainGlobals mg->DY l.prog w K mg base CX0 44 fa fd ["script"] (Ud K):=by
 have e:=hfa.symm.trans (U0m X G a21)
 cases e
 have F1:=Ec (st:=J5) l1 c1 k1
 have b1:=F1.binds (ps:=["thing"]) fun _ _ _ _ _ _ us hl=>by obtain⟨_,rfl⟩:=Oc hl;rfl
 have F2:=Ec (st:=GD) l2 c2 k2
 have b2:=F2.binds (ps:=["thing","many"]) fun _ _ _ _ _ _ us hl=>by obtain⟨_,_,rfl⟩:=Qf hl;rfl
 have F3:=Ec (st:=FZ) l3 c3 k3
 have b3:=F3.binds (ps:=["thing"]) fun _ _ _ _ _ _ us hl=>by obtain⟨_,rfl⟩:=Oc hl;rfl
 have F4:=Ec (st:=Fy) l4 c4 k4
 have b4:=F4.binds (ps:=["skyline"]) fun _ _ _ _ _ _ us hl=>by obtain⟨_,rfl⟩:=Oc hl;rfl
 have F5:=Ec (st:=Dq) l5 c5 k5
 have b5:=F5.binds (ps:=["skyline"]) fun _ _ _ _ _ _ us hl=>by obtain⟨_,rfl⟩:=Oc hl;rfl
 have F6:=Ec (st:=Hu) l6 c6 k6
 have b6:=F6.binds (ps:=["skyline"]) fun _ _ _ _ _ _ us hl=>by obtain⟨_,rfl⟩:=Oc hl;rfl
 have F7:=Ec (st:=Hj) l7 c7 k7
 have b7:=F7.binds (ps:=["skyline","place"]) fun _ _ _ _ _ _ us hl=>by obtain⟨_,_,rfl⟩:=Qf hl;rfl
 have F8:=Ec (st:=Dz) l8 c8 k8
 have b8:=F8.binds (ps:=["skyline"]) fun _ _ _ _ _ _ us hl=>by obtain⟨_,rfl⟩:=Oc hl;rfl
 have F9:=Ec (st:=Hq) l9 c9 k9
 have b9:=F9.binds (ps:=["cell","k"]) fun _ _ _ _ _ _ us hl=>by obtain⟨_,_,rfl⟩:=Qf hl;rfl
 have F10:=Ec (st:=J3) l10 c10 k10
 have b10:=F10.binds (ps:=["cell"]) fun _ _ _ _ _ _ us hl=>by obtain⟨_,rfl⟩:=Oc hl;rfl
 have F11:=Ec (st:=J4) l11 c11 k11
 have b11:=F11.binds (ps:=["well","many"]) fun _ _ _ _ _ _ us hl=>by obtain⟨_,_,rfl⟩:=Qf hl;rfl
 have F12:=Ec (st:=Ho) l12 c12 k12
 have b12:=F12.binds (ps:=["well"]) fun _ _ _ _ _ _ us hl=>by obtain⟨_,rfl⟩:=Oc hl;rfl
 have F13:=Ec (st:=GR) l13 c13 k13
 have b13:=F13.binds (ps:=["well","reach"]) fun _ _ _ _ _ _ us hl=>by obtain⟨_,_,rfl⟩:=Qf hl;rfl
 have F14:=Ec (st:=Hr) l14 c14 k14
 have b14:=F14.binds (ps:=["well","reach","houses"]) fun _ _ _ _ _ _ us hl=>by obtain⟨_,_,_,rfl⟩:=rF hl;rfl
 have F15:=Ec (st:=HF) l15 c15 k15
 have b15:=F15.binds (ps:=["well","reach","most"]) fun _ _ _ _ _ _ us hl=>by obtain⟨_,_,_,rfl⟩:=rF hl;rfl
 have F16:=Ec (st:=Gb) l16 c16 k16
 have b16:=F16.binds (ps:=["houses"]) fun _ _ _ _ _ _ us hl=>by obtain⟨_,rfl⟩:=Oc hl;rfl
 have F17:=Ec (st:=HW) l17 c17 k17
 have b17:=F17.binds (ps:=["cells","base"]) fun _ _ _ _ _ _ us hl=>by obtain⟨_,_,rfl⟩:=Qf hl;rfl
 have F18:=Ec (st:=Ht) l18 c18 k18
 have b18:=F18.binds (ps:=["skyline"]) fun _ _ _ _ _ _ us hl=>by obtain⟨_,rfl⟩:=Oc hl;rfl
 have F19:=Ec (st:=Cj) l19 c19 k19
 have b19:=F19.binds (ps:=["skyline","houses"]) fun _ _ _ _ _ _ us hl=>by obtain⟨_,_,rfl⟩:=Qf hl;rfl
 have F20:=Ec (st:=Hl) l20 c20 k20
 have b20:=F20.binds (ps:=["skyline","small"]) fun _ _ _ _ _ _ us hl=>by obtain⟨_,_,rfl⟩:=Qf hl;rfl
 have F21:=Ec (st:=LC) l21 c21 k21
 have B:Blt mg:=fun x hx=>by
  simp only[Tq,U0h,U1z,or_false] at hx
  rcases hx with rfl|rfl|rfl|rfl|rfl|rfl|rfl|rfl|rfl|rfl|rfl|rfl|rfl|rfl|rfl
  .exact U10 X G z1
  .exact U10 X G z2
  .exact U10 X G z3
  .exact U10 X G z4
  .exact U10 X G z5
  .exact U10 X G z6
  .exact U10 X G z7
  .exact U10 X G z8
  .exact U10 X G z9
  .exact U10 X G z10
  .exact U10 X G z11
  .exact U10 X G z12
  .exact U10 X G z13
  .exact U10 X G z14
  .exact U10 X G z15
 have Bz:mg "zip"=none:=U10 X G zBz
 have Be:mg "enumerate"=none:=U10 X G zBe
 refine⟨U1r "law" "law" (Cm LC) (CV LC) (Am LC) .none kV21 dc21 pm21 an21 cd21 ct21,fun s v=>.of_eq rfl,fun base _ _=>?_⟩
 have C_is_whole:Bf l.prog w K mg base "is_whole" 1 Gy:=⟨⟨["thing"],⟨_,_,Zf F1 B,b1,k1,U0m X G a1⟩,fun ds r h=>BP h⟩⟩
 have C_are_wholes:Bf l.prog w K mg base "are_wholes" 2 FN:=⟨⟨["thing","many"],⟨_,_,X6 F2 B C_is_whole,b2,k2,U0m X G a2⟩,fun ds r h=>BP h⟩⟩
 have C_is_skyline:Bf l.prog w K mg base "is_skyline" 3 FJ:=⟨⟨["thing"],⟨_,_,X5 F3 B Bz C_are_wholes,b3,k3,U0m X G a3⟩,fun ds r h=>BP h⟩⟩
 have C_need_skyline:Bf l.prog w K mg base "need_skyline" 4 CW:=⟨⟨["skyline"],⟨_,_,VJ F4 B C_is_skyline,b4,k4,U0m X G a4⟩,fun ds r h=>BP h⟩⟩
 have C_standing_under:Bf l.prog w K mg base "standing_under" 1 Dr:=⟨⟨["skyline"],⟨_,_,Ry F5 B Bz,b5,k5,U0m X G a5⟩,fun ds r h=>BP h⟩⟩
 have C_houses_of:Bf l.prog w K mg base "houses_of" 5 Du:=⟨⟨["skyline"],⟨_,_,Z6 F6 B C_need_skyline C_standing_under,b6,k6,U0m X G a6⟩,fun ds r h=>BP h⟩⟩
 have C_widest_at:Bf l.prog w K mg base "widest_at" 1 Et:=⟨⟨["skyline","place"],⟨_,_,Yz F7 B,b7,k7,U0m X G a7⟩,fun ds r h=>BP h⟩⟩
 have C_fewest_houses:Bf l.prog w K mg base "fewest_houses" 5 Bt:=⟨⟨["skyline"],⟨_,_,Tw F8 B Be C_need_skyline C_widest_at,b8,k8,U0m X G a8⟩,fun ds r h=>BP h⟩⟩
 have C_law_mixed:Bf l.prog w K mg base "_law_mixed" 1 GQ:=⟨⟨["cell","k"],⟨_,_,Z2 F9 B,b9,k9,U0m X G a9⟩,fun ds r h=>BP h⟩⟩
 have C_law_well:Bf l.prog w K mg base "_law_well" 1 FW:=⟨⟨["cell"],⟨_,_,Zc F10 B,b10,k10,U0m X G a10⟩,fun ds r h=>BP h⟩⟩
 have C_law_draw:K7 l.prog w K mg base "_law_draw" 2 Ak:=⟨⟨["well","many"],⟨_,_,Ze F11 B C_law_mixed,b11,k11,U0m X G a11⟩,fun ns ds r h=>Pa h⟩⟩
 have C_law_reach:K7 l.prog w K mg base "_law_reach" 3 Dt:=⟨⟨["well"],⟨_,_,Z1 F12 B C_law_draw,b12,k12,U0m X G a12⟩,fun ns ds r h=>Pa h⟩⟩
 have C_law_stretch:K7 l.prog w K mg base "_law_stretch" 3 Dy:=⟨⟨["well","reach"],⟨_,_,W0 F13 B C_law_draw,b13,k13,U0m X G a13⟩,fun ns ds r h=>Pa h⟩⟩
 have C_law_house:K7 l.prog w K mg base "_law_house" 4 Eu:=⟨⟨["well","reach","houses"],⟨_,_,Z4 F14 B C_law_stretch C_law_draw,b14,k14,U0m X G a14⟩,fun ns ds r h=>Pa h⟩⟩
 have C_law_houses:K7 l.prog w K mg base "_law_houses" 5 Ej:=⟨⟨["well","reach","most"],⟨_,_,X4 F15 B C_law_draw C_law_house,b15,k15,U0m X G a15⟩,fun ns ds r h=>Pa h⟩⟩
 have C_law_line:Bf l.prog w K mg base "_law_line" 1 CJ:=⟨⟨["houses"],⟨_,_,Zd F16 B,b16,k16,U0m X G a16⟩,fun ds r h=>BP h⟩⟩
 have C_law_over0:Bf l.prog w K mg base "_law_over" 0 (Al 0):=⟨⟨["cells","base"],⟨_,_,qL (f:=f17) rfl,b17,k17,U0m X G a17⟩,fun ds r h=>by cases h⟩⟩
 have C_law_over1:Bf l.prog w K mg base "_law_over" 1 (Al 1):=⟨⟨["cells","base"],⟨_,_,Aw F17 B (by decide) C_law_over0,b17,k17,U0m X G a17⟩,fun ds r h=>BP h⟩⟩
 have C_law_over2:Bf l.prog w K mg base "_law_over" 2 (Al 2):=⟨⟨["cells","base"],⟨_,_,Aw F17 B (by decide) C_law_over1,b17,k17,U0m X G a17⟩,fun ds r h=>BP h⟩⟩
 have C_law_over3:Bf l.prog w K mg base "_law_over" 3 (Al 3):=⟨⟨["cells","base"],⟨_,_,Aw F17 B (by decide) C_law_over2,b17,k17,U0m X G a17⟩,fun ds r h=>BP h⟩⟩
 have C_law_over4:Bf l.prog w K mg base "_law_over" 4 (Al 4):=⟨⟨["cells","base"],⟨_,_,Aw F17 B (by decide) C_law_over3,b17,k17,U0m X G a17⟩,fun ds r h=>BP h⟩⟩
 have C_law_over5:Bf l.prog w K mg base "_law_over" 5 (Al 5):=⟨⟨["cells","base"],⟨_,_,Aw F17 B (by decide) C_law_over4,b17,k17,U0m X G a17⟩,fun ds r h=>BP h⟩⟩
 have C_law_over6:Bf l.prog w K mg base "_law_over" 6 (Al 6):=⟨⟨["cells","base"],⟨_,_,Aw F17 B (by decide) C_law_over5,b17,k17,U0m X G a17⟩,fun ds r h=>BP h⟩⟩
 have C_law_over7:Bf l.prog w K mg base "_law_over" 7 (Al 7):=⟨⟨["cells","base"],⟨_,_,Aw F17 B (by decide) C_law_over6,b17,k17,U0m X G a17⟩,fun ds r h=>BP h⟩⟩
 have C_law_over8:Bf l.prog w K mg base "_law_over" 8 (Al 8):=⟨⟨["cells","base"],⟨_,_,Aw F17 B (by decide) C_law_over7,b17,k17,U0m X G a17⟩,fun ds r h=>BP h⟩⟩
 have C_law_over9:Bf l.prog w K mg base "_law_over" 9 (Al 9):=⟨⟨["cells","base"],⟨_,_,Aw F17 B (by decide) C_law_over8,b17,k17,U0m X G a17⟩,fun ds r h=>BP h⟩⟩
 have C_law_over10:Bf l.prog w K mg base "_law_over" 10 (Al 10):=⟨⟨["cells","base"],⟨_,_,Aw F17 B (by decide) C_law_over9,b17,k17,U0m X G a17⟩,fun ds r h=>BP h⟩⟩
 have C_law_over11:Bf l.prog w K mg base "_law_over" 11 (Al 11):=⟨⟨["cells","base"],⟨_,_,Aw F17 B (by decide) C_law_over10,b17,k17,U0m X G a17⟩,fun ds r h=>BP h⟩⟩
 have C_law_over12:Bf l.prog w K mg base "_law_over" 12 (Al 12):=⟨⟨["cells","base"],⟨_,_,Aw F17 B (by decide) C_law_over11,b17,k17,U0m X G a17⟩,fun ds r h=>BP h⟩⟩
 have C_law_over13:Bf l.prog w K mg base "_law_over" 13 (Al 13):=⟨⟨["cells","base"],⟨_,_,Aw F17 B (by decide) C_law_over12,b17,k17,U0m X G a17⟩,fun ds r h=>BP h⟩⟩
 have C_law_over14:Bf l.prog w K mg base "_law_over" 14 (Al 14):=⟨⟨["cells","base"],⟨_,_,Aw F17 B (by decide) C_law_over13,b17,k17,U0m X G a17⟩,fun ds r h=>BP h⟩⟩
 have C_law_over15:Bf l.prog w K mg base "_law_over" 15 (Al 15):=⟨⟨["cells","base"],⟨_,_,Aw F17 B (by decide) C_law_over14,b17,k17,U0m X G a17⟩,fun ds r h=>BP h⟩⟩
 have C_law_over16:Bf l.prog w K mg base "_law_over" 16 (Al 16):=⟨⟨["cells","base"],⟨_,_,Aw F17 B (by decide) C_law_over15,b17,k17,U0m X G a17⟩,fun ds r h=>BP h⟩⟩
 have C_law_over17:Bf l.prog w K mg base "_law_over" 17 (Al 17):=⟨⟨["cells","base"],⟨_,_,Aw F17 B (by decide) C_law_over16,b17,k17,U0m X G a17⟩,fun ds r h=>BP h⟩⟩
 have C_law_over18:Bf l.prog w K mg base "_law_over" 18 (Al 18):=⟨⟨["cells","base"],⟨_,_,Aw F17 B (by decide) C_law_over17,b17,k17,U0m X G a17⟩,fun ds r h=>BP h⟩⟩
 have C_law_over19:Bf l.prog w K mg base "_law_over" 19 (Al 19):=⟨⟨["cells","base"],⟨_,_,Aw F17 B (by decide) C_law_over18,b17,k17,U0m X G a17⟩,fun ds r h=>BP h⟩⟩
 have C_law_over20:Bf l.prog w K mg base "_law_over" 20 (Al 20):=⟨⟨["cells","base"],⟨_,_,Aw F17 B (by decide) C_law_over19,b17,k17,U0m X G a17⟩,fun ds r h=>BP h⟩⟩
 have C_law_over21:Bf l.prog w K mg base "_law_over" 21 (Al 21):=⟨⟨["cells","base"],⟨_,_,Aw F17 B (by decide) C_law_over20,b17,k17,U0m X G a17⟩,fun ds r h=>BP h⟩⟩
 have C_law_over22:Bf l.prog w K mg base "_law_over" 22 (Al 22):=⟨⟨["cells","base"],⟨_,_,Aw F17 B (by decide) C_law_over21,b17,k17,U0m X G a17⟩,fun ds r h=>BP h⟩⟩
 have C_law_over23:Bf l.prog w K mg base "_law_over" 23 (Al 23):=⟨⟨["cells","base"],⟨_,_,Aw F17 B (by decide) C_law_over22,b17,k17,U0m X G a17⟩,fun ds r h=>BP h⟩⟩
 have C_law_over24:Bf l.prog w K mg base "_law_over" 24 (Al 24):=⟨⟨["cells","base"],⟨_,_,Aw F17 B (by decide) C_law_over23,b17,k17,U0m X G a17⟩,fun ds r h=>BP h⟩⟩
 have C_law_over25:Bf l.prog w K mg base "_law_over" 25 (Al 25):=⟨⟨["cells","base"],⟨_,_,Aw F17 B (by decide) C_law_over24,b17,k17,U0m X G a17⟩,fun ds r h=>BP h⟩⟩
 have C_law_over26:Bf l.prog w K mg base "_law_over" 26 (Al 26):=⟨⟨["cells","base"],⟨_,_,Aw F17 B (by decide) C_law_over25,b17,k17,U0m X G a17⟩,fun ds r h=>BP h⟩⟩
 have C_law_over27:Bf l.prog w K mg base "_law_over" 27 (Al 27):=⟨⟨["cells","base"],⟨_,_,Aw F17 B (by decide) C_law_over26,b17,k17,U0m X G a17⟩,fun ds r h=>BP h⟩⟩
 have C_law_over28:Bf l.prog w K mg base "_law_over" 28 (Al 28):=⟨⟨["cells","base"],⟨_,_,Aw F17 B (by decide) C_law_over27,b17,k17,U0m X G a17⟩,fun ds r h=>BP h⟩⟩
 have C_law_over29:Bf l.prog w K mg base "_law_over" 29 (Al 29):=⟨⟨["cells","base"],⟨_,_,Aw F17 B (by decide) C_law_over28,b17,k17,U0m X G a17⟩,fun ds r h=>BP h⟩⟩
 have C_law_over30:Bf l.prog w K mg base "_law_over" 30 (Al 30):=⟨⟨["cells","base"],⟨_,_,Aw F17 B (by decide) C_law_over29,b17,k17,U0m X G a17⟩,fun ds r h=>BP h⟩⟩
 have C_law_over31:Bf l.prog w K mg base "_law_over" 31 (Al 31):=⟨⟨["cells","base"],⟨_,_,Aw F17 B (by decide) C_law_over30,b17,k17,U0m X G a17⟩,fun ds r h=>BP h⟩⟩
 have C_law_over32:Bf l.prog w K mg base "_law_over" 32 (Al 32):=⟨⟨["cells","base"],⟨_,_,Aw F17 B (by decide) C_law_over31,b17,k17,U0m X G a17⟩,fun ds r h=>BP h⟩⟩
 have C_law_over33:Bf l.prog w K mg base "_law_over" 33 (Al 33):=⟨⟨["cells","base"],⟨_,_,Aw F17 B (by decide) C_law_over32,b17,k17,U0m X G a17⟩,fun ds r h=>BP h⟩⟩
 have C_law_over34:Bf l.prog w K mg base "_law_over" 34 (Al 34):=⟨⟨["cells","base"],⟨_,_,Aw F17 B (by decide) C_law_over33,b17,k17,U0m X G a17⟩,fun ds r h=>BP h⟩⟩
 have C_law_over35:Bf l.prog w K mg base "_law_over" 35 (Al 35):=⟨⟨["cells","base"],⟨_,_,Aw F17 B (by decide) C_law_over34,b17,k17,U0m X G a17⟩,fun ds r h=>BP h⟩⟩
 have C_law_over36:Bf l.prog w K mg base "_law_over" 36 (Al 36):=⟨⟨["cells","base"],⟨_,_,Aw F17 B (by decide) C_law_over35,b17,k17,U0m X G a17⟩,fun ds r h=>BP h⟩⟩
 have C_law_over37:Bf l.prog w K mg base "_law_over" 37 (Al 37):=⟨⟨["cells","base"],⟨_,_,Aw F17 B (by decide) C_law_over36,b17,k17,U0m X G a17⟩,fun ds r h=>BP h⟩⟩
 have C_law_over38:Bf l.prog w K mg base "_law_over" 38 (Al 38):=⟨⟨["cells","base"],⟨_,_,Aw F17 B (by decide) C_law_over37,b17,k17,U0m X G a17⟩,fun ds r h=>BP h⟩⟩
 have C_law_over39:Bf l.prog w K mg base "_law_over" 39 (Al 39):=⟨⟨["cells","base"],⟨_,_,Aw F17 B (by decide) C_law_over38,b17,k17,U0m X G a17⟩,fun ds r h=>BP h⟩⟩
 have C_law_over40:Bf l.prog w K mg base "_law_over" 40 (Al 40):=⟨⟨["cells","base"],⟨_,_,Aw F17 B (by decide) C_law_over39,b17,k17,U0m X G a17⟩,fun ds r h=>BP h⟩⟩
 have C_law_over41:Bf l.prog w K mg base "_law_over" 41 (Al 41):=⟨⟨["cells","base"],⟨_,_,Aw F17 B (by decide) C_law_over40,b17,k17,U0m X G a17⟩,fun ds r h=>BP h⟩⟩
 have C_law_over42:Bf l.prog w K mg base "_law_over" 42 (Al 42):=⟨⟨["cells","base"],⟨_,_,Aw F17 B (by decide) C_law_over41,b17,k17,U0m X G a17⟩,fun ds r h=>BP h⟩⟩
 have C_law_over:=C_law_over42
 have C_law_cells:Bf l.prog w K mg base "_law_cells" 1 Ew:=⟨⟨["skyline"],⟨_,_,Z5 F18 B,b18,k18,U0m X G a18⟩,fun ds r h=>BP h⟩⟩
 have C_law_none_fewer:Bf l.prog w K mg base "_law_none_fewer" 2 Cy:=⟨⟨["skyline","houses"],⟨_,_,Rz F19 B C_law_line,b19,k19,U0m X G a19⟩,fun ds r h=>BP h⟩⟩
 have C_law_right:Bf l.prog w K mg base "_law_right" 43 Ed:=⟨⟨["skyline","small"],⟨_,_,Z0 F20 B C_law_cells C_law_over C_fewest_houses C_houses_of C_law_none_fewer C_law_line,b20,k20,U0m X G a20⟩,fun ds r h=>BP h⟩⟩
 exact(uP F21 B C_law_well C_law_houses C_law_reach C_law_right C_law_line C_fewest_houses).imp (uX jo)
theorem walk{l:U7f}{q:Program}{loose:List Str}{XP:(Str->Option Value)->Heap->Prop}{YP:World->Heap->Prop}{d:DefRec}{K:Params->U0b}(hn:l.most=some 63)(hdf:d.params.defaults=[])
  (hY:∀(w:World)(h:Heap),YP w h->(K w.params).In h)
  (F:∀(w:World)(mg:Str->Option Value)(fa:Addr)(h:Heap),(K w.params).In h->h.Ns mainGlobals mg->mg d.name=some (.ref fa) ->
   ∃fd:FuncData,(∀(s:Shared)(u:Value),BindsTo s fd ⟨[u],[]⟩ [("script",u)])/\∀base:Heap,(K w.params).In base->base.Ns mainGlobals mg->DY l.prog w (K w.params) mg base CX0 44 fa fd ["script"] (Ud (K w.params))) :
  U85 q loose XP YP l.row.toRowW d [] (fun f vs=>U84 f vs) :=
 L2.j6 (n:=63) (k:=44) (x:="script") (CX:=CX0) (sp:=Ud) hn (by decide) hdf ⟨rfl,by decide,by decide,rfl⟩ hY F (fun _ _ a ns hl hO hS=>⟨a,ns,rfl,hO,hl,hS,fun _=>rfl⟩) fun _ _ _ _ z=>z
end W29
open PySem PySem.W PyProof.Rows
set_option maxRecDepth 100000 in
set_option maxHeartbeats 0 in
theorem PySem.Challenge.cw_boxcover_k29_houses_under_skylines_holds : PySem.Challenge.rw_boxcover_k29_houses_under_skylines.Holds := by
 w_on;o_law;k_head;(case hw=>w_witness2)
 k_fill
 refine W29.walk (l := PySem.Challenge.rw_boxcover_k29_houses_under_skylines) rfl rfl (fun w h Y => PySem.W.kIn_of Y) ?F
 case F =>
  intro w mg fa h KX G hmg
  refine' W29.tops KX G hmg ?a1 ?l1 ?c1 ?k1 ?a2 ?l2 ?c2 ?k2 ?a3 ?l3 ?c3 ?k3 ?a4 ?l4 ?c4 ?k4 ?a5 ?l5 ?c5 ?k5 ?a6 ?l6 ?c6 ?k6 ?a7 ?l7 ?c7 ?k7 ?a8 ?l8 ?c8 ?k8 ?a9 ?l9 ?c9 ?k9 ?a10 ?l10 ?c10 ?k10 ?a11 ?l11 ?c11 ?k11 ?a12 ?l12 ?c12 ?k12 ?a13 ?l13 ?c13 ?k13 ?a14 ?l14 ?c14 ?k14 ?a15 ?l15 ?c15 ?k15 ?a16 ?l16 ?c16 ?k16 ?a17 ?l17 ?c17 ?k17 ?a18 ?l18 ?c18 ?k18 ?a19 ?l19 ?c19 ?k19 ?a20 ?l20 ?c20 ?k20 ?a21 ?l21 ?c21 ?k21 ?z1 ?z2 ?z3 ?z4 ?z5 ?z6 ?z7 ?z8 ?z9 ?z10 ?z11 ?z12 ?z13 ?z14 ?z15 ?zBz ?zBe
  (case a1=>k_is);(case l1=>k_is);(case c1=>k_is);(case k1=>k_is)
  (case a2=>k_is);(case l2=>k_is);(case c2=>k_is);(case k2=>k_is)
  (case a3=>k_is);(case l3=>k_is);(case c3=>k_is);(case k3=>k_is)
  (case a4=>k_is);(case l4=>k_is);(case c4=>k_is);(case k4=>k_is)
  (case a5=>k_is);(case l5=>k_is);(case c5=>k_is);(case k5=>k_is)
  (case a6=>k_is);(case l6=>k_is);(case c6=>k_is);(case k6=>k_is)
  (case a7=>k_is);(case l7=>k_is);(case c7=>k_is);(case k7=>k_is)
  (case a8=>k_is);(case l8=>k_is);(case c8=>k_is);(case k8=>k_is)
  (case a9=>k_is);(case l9=>k_is);(case c9=>k_is);(case k9=>k_is)
  (case a10=>k_is);(case l10=>k_is);(case c10=>k_is);(case k10=>k_is)
  (case a11=>k_is);(case l11=>k_is);(case c11=>k_is);(case k11=>k_is)
  (case a12=>k_is);(case l12=>k_is);(case c12=>k_is);(case k12=>k_is)
  (case a13=>k_is);(case l13=>k_is);(case c13=>k_is);(case k13=>k_is)
  (case a14=>k_is);(case l14=>k_is);(case c14=>k_is);(case k14=>k_is)
  (case a15=>k_is);(case l15=>k_is);(case c15=>k_is);(case k15=>k_is)
  (case a16=>k_is);(case l16=>k_is);(case c16=>k_is);(case k16=>k_is)
  (case a17=>k_is);(case l17=>k_is);(case c17=>k_is);(case k17=>k_is)
  (case a18=>k_is);(case l18=>k_is);(case c18=>k_is);(case k18=>k_is)
  (case a19=>k_is);(case l19=>k_is);(case c19=>k_is);(case k19=>k_is)
  (case a20=>k_is);(case l20=>k_is);(case c20=>k_is);(case k20=>k_is)
  (case a21=>k_is);(case l21=>k_is);(case c21=>k_is);(case k21=>k_is)
  (case z1=>k_is);(case z2=>k_is);(case z3=>k_is);(case z4=>k_is);(case z5=>k_is);(case z6=>k_is);(case z7=>k_is);(case z8=>k_is);(case z9=>k_is);(case z10=>k_is);(case z11=>k_is);(case z12=>k_is);(case z13=>k_is);(case z14=>k_is);(case z15=>k_is)
  (case zBz=>k_is)
  (case zBe=>k_is)
end
