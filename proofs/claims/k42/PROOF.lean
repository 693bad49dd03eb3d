import PyProof.Rows.All
import Wide.All
import OpenK.AllK
import Wide.FinOn
import Lean
import PyProof.EqAt
import PyProof.EqKinds
import PyProof.TupleCall
import PyProof.SetKind
import PyProof.SetNew
import PyProof.SetRoads
import PyProof.Walks
import PyProof.Rows.SetListFold
import PyProof.Seq
import PyProof.Rows.SortShell
import PyProof.TupleIter
import PyProof.CollectWalk
import PyProof.ReprRoads
import PyProof.EqLayable
import PyProof.ReprLen
import PyProof.WalkInts
import PyProof.SeqI3
import PyProof.ListMulRoad
import PyProof.ZipIter
import PyProof.EnumFor
import PyProof.EnumMake
import PyProof.Draws
import PyProof.Rows.ZipGen
import PyProof.LayNew
import PyProof.WalksMore
import PyProof.IsiTupleAll
import PyProof.Rows.Range3
import PyProof.Rows.SumAny
import PyProof.Rows.CallKwBuiltin
import PyProof.MinMaxWalk
import KE.KSortTup
import KE.KDictOf
import PyProof.AttrMissHeap
import PyProof.DictItems
import KE.KPairComp
import PySem.Challenge.RW_boxcover_k42_whole_parts
set_option compiler.extract_closed false
set_option bootstrap.genMatcherCode false
set_option autoImplicit true
set_option relaxedAutoImplicit true
set_option hygiene false
local macro_rules|`(tactic|exact `zb)=>`(tactic|obtain⟨Γ,μ,env,S,d,S',hK,R,e,q⟩:=h)
local macro_rules|`(tactic|exact `zd)=>`(tactic|obtain⟨⟨x,S1⟩,e1,e⟩:=bind_some e)
local macro_rules|`(tactic|exact `ze)=>`(tactic|refine⟨Γ,μ,env,S,x,S1,hK,R,e1,λv1 μ1 H1 x1 R1 r1=>?_⟩)
local macro_rules|`(tactic|exact `zg)=>`(tactic|simp only[U0f,U0y,U0j,U09,U13,U14,U0p,U1d,U16,U1i,if_true])
local macro_rules|`(tactic|exact `zh)=>`(tactic|intro pins s Z3 H x y v u Q I rx ry h)
local macro_rules|`(tactic|exact `zi)=>`(tactic|have i1:(sIf (tOr (BX (eOp (oEq false) (Ab 3) (Bk Af))) (BX (eOp (oEq false) (Bq Ar (Aa (Ab 0) (Aa (eC (.int 5)) Af))) (eC (.int 0))))) (CN (eCB Lf (Aa (Bk Io) Af))) Dp) [some (.ref 0),some (Ai false n bs),some (.int n),some (.lst false (bs.map Ae)),none,none,none,none] [some [.int x,.int y]]=some (.ret (Ce s),[some (.ref 0),some (Ai false n bs),some (.int n),some (.lst false (bs.map Ae)),none,none,none,none],[some [.int x',.int y']]):=by rw[T3 t,e])
local macro_rules|`(tactic|exact `zk)=>`(tactic|intro X hP hw hK hc i pins s Z3 H E I hf st hg)
local macro_rules|`(tactic|exact `zl)=>`(tactic|intro Γ μ Z3 H env S x y dx dy d hK R rx ry e Q q)
local macro_rules|`(tactic|exact `zn)=>`(tactic|intro Γ μ Z3 H env S xs ds d hK R rs e Q q)
local macro_rules|`(tactic|exact `zo)=>`(tactic|intro pins s Z3 H xs us Q I r h)
local macro_rules|`(tactic|exact `zr)=>`(tactic|obtain⟨Γ,μ,env,S,fl,env',S',hK,R,e,q⟩:=h)
local macro_rules|`(tactic|exact `zt)=>`(tactic|intro pins s Z3 H Q I h)
local macro_rules|`(tactic|exact `zv)=>`(tactic|refine(show wpAny _ _ (field (.ref z) 3 >>= _) _ _ _ from U0 (U1v hZ rfl (x:=.ref TI) rfl (U0 (U2q hI rfl ?_)))))
local macro_rules|`(tactic|exact `zw)=>`(tactic|refine⟨Γ,μ1,env,S1,y,S2,hK,R1,e2,λv2 μ2 H2 x2 R2 r2=>?_⟩)
local macro_rules|`(tactic|exact `zC)=>`(tactic|refine(show wpAny _ _ (field (.ref z) 2 >>= _) _ _ _ from U0 (U1v hZ rfl (x:=.bool false) rfl ?_)))
local macro_rules|`(tactic|exact `zD)=>`(tactic|simp only[U0f,U0y,U0j,U09,U13,U14,U1d,U17,if_true])
local macro_rules|`(tactic|exact `zI)=>`(tactic|refine⟨λi d μ' H' ZZ env' S' hi x R c=>?_,fun μ' H' ZZ env' S' x R c=>?_⟩)
local macro_rules|`(tactic|exact `zS)=>`(tactic|have u1:S2 k g1:=D2.frame _ _ _ s2 λc hc o e=>m1.extBut _ _ (D.b2 c hc).1 e)
local macro_rules|`(tactic|exact `qa)=>`(tactic|have t1:S1 k g1:=D1.frame _ _ _ s1 λc hc o e=>m1.extBut _ _ (D.b1 c hc).1 e)
local macro_rules|`(tactic|exact `qc)=>`(tactic|dsimp only at e)
local macro_rules(kind:=Lean.Parser.Command.declaration)|x=>if x[1].isOfKind `Lean.Parser.Command.definition&&x[0][4].isNone then pure (x.setArg 0 (x[0].setArg 4 (Lean.mkNullNode #[.node .none `Lean.Parser.Command.noncomputable #[Lean.mkAtom "noncomputable"]])))else Lean.Macro.throwUnsupported
open PySem renaming wpAny_bind->U0,wpAny_pure->U0c,wpAny_newObj_type->U1l,wpAny_call_entry->U1o,wpAny_holding->U1u,wpAny_field->U1v,wpAny_setField_rec->U2k,wpAny_seqItems->U2q,mem_of_lookup->U22,wpAny_setField->U27,wpAny_truthy_bool->U3g,wpAny_attempt->U3t,wpAny_typeNameOfWhole_itemiter->U32,wpAny_dictEntries->U37,wpAny_isInstance->U4c,wpAny_typeOf->U4f,wpAny_setState_of->U4n,wpAny_pyIter_list->U4o,wpAny_rule->U4r,wpAny_askSetting->U4y,wpAny_Call_Name_kw->U46,wpAny_updateSeq->U49,wpAny_mono->U5o,wpAny_passesOwn->U5x,wpAny_dictEpoch->U5y,wpAny_pyIter_tuple->U54,wpAny_pyIter_slot->U6c,wpAny_pyNext_list_item->U6h,wpAny_isOneOf_itemiter->U6m,wpAny_onRaise->U6p,wpAny_pyNext_list_end->U6s,wpAny_notOrdered_dict->U6v,wpAny_updateSeq_pair->U63,wpAny_setEntries_of->U69,wpAny_fieldsOf->U7l,wpAny_newTuple->U7n,wpAny_letGo->U7p,wpAny_sequenceKey->U73,wpAny_execs_nil->U8e,wpAny_specialOf->U8h,wpAny_ite_false->U8i,call->U8s
open PySem.Heap renaming get?_push_of_some->U0a,lt_size->U0m,get?_push_size->U0s,SameBut->U02,get?_update_other->U1f,size_push->U2c,get?_update_self->U2g,ExtBut->U4u,IsTuple->U53,IsSliceOf->U8n
open Option renaming map_bind->U0b,bind_some->U0g,some->U1g,map_eq_some_iff->U19,toList_some->U3z,isSome_iff_exists->U31,map_some->U5c,map->U5d
open List renaming map_map->U0d,length_cons->U0f,mem_cons_self->U0h,length_map->U0i,map_cons->U0j,mem_cons_of_mem->U0k,getElem?_eq_some_iff->U0l,length_append->U0n,replicate_succ->U0p,mem_cons->U0q,mem_singleton->U0r,size_toArray->U0t,getElem?_eq_getElem->U0v,mem_append->U0x,length_nil->U0y,getElem?_map->U0z,mem_of_getElem?->U00,mem_map->U03,mem_append_right->U04,replicate->U06,range->U07,map_nil->U09,getD_eq_getElem?_getD->U1b,replicate_zero->U1d,getElem?_append_left->U1e,nil_append->U1i,pairwise_cons->U1k,Nodup->U1q,not_mem_nil->U1s,mem_filter->U1t,length_eq_zero_iff->U1z,mem_append_left->U10,lookup_cons->U15,cons_append->U16,append_nil->U17,map_append->U2a,length_replicate->U2b,length_take->U2e,getElem?_append_right->U2f,getElem?_set_ne->U2i,foldl_cons->U2l,getElem?_set_self->U2p,take_length->U2y,filter_cons->U2z,drop_eq_getElem_cons->U21,flatMap_cons->U24,mem_iff_getElem?->U26,pairwise_append->U3c,getElem_mem->U3d,take_of_length_le->U3f,nodup_cons->U3h,all_eq_true->U3k,mem_range->U3l,append_assoc->U3o,length_set->U3p,length_singleton->U3w,length_filter_le->U3x,take_succ->U3y,flatten_cons->U35,foldl_append->U36,pairwise_singleton->U39,length_pos_iff->U4,length_drop->U4b,mem_flatMap->U4d,forIn_cons->U4i,any_cons->U4m,length->U4t,mergeSort_perm->U41,getElem?_replicate->U42,getElem?_cons_succ->U44,sum_cons->U45,zip_cons_cons->U47,Perm->U48,lookup_append->U5,find?_cons->U5b,length_range->U5i,getElem?_toArray->U5k,getElem?_eq_none->U5l,any_eq_true->U5q,mem_of_mem_take->U5r,filterMap_cons->U5w,map->U52,forIn_nil->U58,pairwise_mergeSort->U6,reverse_cons->U6a,filter_congr->U6e,pairwise_map->U6g,pairwise_lt_range->U6l,length_pos_of_mem->U6o,range'_succ->U6r,eq_nil_or_concat->U6w,concat_eq_append->U6x,foldl->U6y,dropLast_subset->U66,getLast?_append->U67,dropLast_concat->U68,filter_eq_self->U7b,map_congr_left->U7c,length_reverse->U7d,mem_map_of_mem->U7f,flatMap_append->U7g,drop_zero->U7m,range'->U7o,Pairwise->U7u,all_cons->U7w,map_take->U7x,map_drop->U7y,isEmpty_nil->U78,zipIdx_cons->U8,drop_length->U8a,of_mem_zip->U8f,length_zip->U8j,lookup->U8l,nodup_nil->U8o,cons->U8y,all_map->U8z
open PySem.W renaming Frag->U0e,kia_one->U29,kitOne->U3m,keepIn->U4a,fnOf->U4e,findIn->U57,cellsFrom_some->U6i,mg_of->U6q,OpenLaw->U60,codeIn->U7i,methodObj->U71,nsIn->U8b,instObj->U8d,lookIn->U8m,WalkO->U8t
open Nat renaming le_refl->U0o,ne_of_lt->U0u,lt_of_lt_of_le->U0w,le_trans->U01,le_add_right->U1p,ne_of_gt->U1r,reduceAdd->U13,reduceSub->U14,lt_trans->U2j,le_of_lt->U2o,lt_succ_of_lt->U2u,zero_le->U3,pow_le_pow_right->U3e,lt_irrefl->U3s,lt_of_le_of_lt->U4g,le_succ->U5e,lt_succ_self->U5p,zero_add->U51,mul_comm->U6z,add_lt_add_left->U7e,le_of_not_lt->U77,sub_zero->U79,not_lt_zero->U8g,le_of_eq->U8w,pow_succ->U82,add_mul->U84,one_mul->U85
open Bool renaming false_ne_true->U05,and_eq_true->U1a,false_eq_true->U18,eq_iff_iff->U28,false_xor->U5m,not_true->U5u,true_and->U5v,false_and->U56,true_or->U80
open Option.some renaming inj->U08
open PySem.Value renaming ref->U1c,none->U2d,int->U2v,type->U23,bool->U3r,isInt_shape->U70,str->U8c,isInt->U8k
open PySem.Builtin.SmallTypes renaming nextOf->U1h,ownedTupleIsFree->U11
open Array renaming length_toList->U1j,getElem?_eq_getElem->U1y,getElem?_toList->U2m,getD_eq_getD_getElem?->U3b
open PySem.Obj renaming mapSeq->U1m,mapFields->U38
open Ne renaming symm->U1n
open PySem.SetTable renaming below->U1w,grown->U4v,probe->U7j
open PySem.Heap.SameBut renaming update->U1x,refl->U76
open PyProof.Rows renaming slot_tuple_getitem->U12,callWith_type1->U3a,envOfC->U7,IntTab->U7a
open PySem.NameKind renaming free->U2h,cell->U3u
open PySem.PassesOwn renaming never->U2n
open PySem.SeqAt renaming shaped->U2r,EqAt->U8r
open PySem.F renaming slot_zip_next->U2s,slot_dict_itemiterator_next->U3j,plainAttrs_list->U3n,slot_tuple_iterator_next->U3v,slot_list_append->U33,type_list_append->U34,plain_extend_loop->U4s,called_set->U4z,args_zip_next_1->U43,slot_tuple_mul->U5f,entry_zip_next->U5g,args_tuple_add_2->U50,slot_list_getattribute->U55,entry_tuple_add->U59,slot_tuple_add->U6j,slot_dict_get->U6t
open Int renaming toNat_natCast->U2t,le_refl->U30,one_mul->U6n,le_antisymm->U64,mul_assoc->U8u,ediv_one->U8v,le_of_lt->U8x,zero_add->U81,mul_one->U83
open PySem.Str renaming ofString->U2w
open PySem.Around renaming under_plainId->U2x
open PySem.Builtin.Slice renaming slicePlaces->U20,sliceAdjust->U3i,sliceApplied->U5s
open PySem.Builtin.Tuple renaming tupleExact->U25,tupleItemsOf->U5t
open PySem.Builtin.List renaming listExtendWith->U3q,listTooLong->U4x,listSameRef->U40,listLengthHint->U5n
open PySem.Manifest renaming ParamKind->U4h,Receiver->U6b
open PySem.Paired renaming length->U4j
open PySem.Manifest.ParamKind renaming posOnly->U4k
open PySem.Shared renaming TypeIs->U4l,heap->U7q
open False renaming elim->U4p
open True renaming intro->U4q
open PySem.PyData renaming canLay0->U4w,eqv->U5a,canLayAll0->U6d,depthAll->U62,depth->U65,eqvAll->U7z
open PySem.SetTable.below renaming go->U5h
open Sum renaming inl->U5j,inr->U7h
open PySem.Calls renaming spliced_cons->U5z,callWith_builtin->U6k,spliced_nil->U72
open Function renaming comp_def->U6f
open PySem.Builtin.Dict renaming showsAll->U6u
open ForInStep renaming yield->U61
open List.Perm renaming refl->U7k,cons->U8p
open PySem.Heap.IsSliceOf renaming new->U7r
open PyProof.Rows.IsTup renaming new->U7s
open Or renaming inr->U7t,inl->U8q
open List.cons renaming inj->U7v
open List.Pairwise renaming nil->U74
open PySem.SetTable.probe renaming go->U75
open Prod renaming ext->U86
noncomputable section
set_option Elab.async false
set_option maxRecDepth 10000
set_option linter.all false
set_option maxHeartbeats 4000000
namespace PySem.W.Fast
def tw1344849202456609088:=0
def tw9786207446335566182:=0
def tw10288316526920254603:=0
def tw18001578655165015762:=0
def tw5406995349996101099:=0
def tw7676486175658829382:=0
def tw5849110282867191789:=0
def tw14621002279688349119:=0
def tw878796404252264229:=0
def tw16655340968457386648:=0
def tw4166383058610850010:=0
def tw18439296119493958399:=0
def tw6276190156924937551:=0
def tw12724210642998318101:=0
def tw8141643923493651814:=0
def tw2364002839365857184:=0
def tw16442011732545713331:=0
def tw4725659271703487011:=0
def tw11379901858724815514:=0
def tw12111433864246608052:=0
def tw18275211635581885640:=0
def tw17875497874636512637:=0
def tw3890715381375234283:=0
def tw5685376901116267057:=0
def tw12477392469238395539:=0
def tw14535623953371422311:=0
def tw17037411120971492094:=0
def tw16047252270316702089:=0
def tw13678232016981614834:=0
def tw9908760233949354595:=0
def tw3073406851490983566:=0
def tw17575860055418769387:=0
def tw9847425499195978793:=0
def tw6440968044820747974:=0
def tw15180598913149732995:=0
def tw8319674785364403816:=0
def tw12909172413468419327:=0
def tw17687768757110760763:=0
def tw8312816573683872059:=0
def tw10381092265384418285:=0
def tw14308888757184360273:=0
def tw13354236864965890156:=0
def tw11956257793079521277:=0
def tw8485293316693642105:=0
def tw9767780903088997116:=0
def tw6026344706977095000:=0
def tw15448217857383921770:=0
def tw12984799084699156729:=0
def tw12088322695656916754:=0
def tw8539950360296102491:=0
def tw3066958931509152912:=0
def tw3309853457068998279:=0
def tw2287819437438750138:=0
def tw7597388634600064378:=0
def tw14107145140756595213:=0
def tw8814996046428996656:=0
def tw320734609401751943:=0
def tw13068568478432410281:=0
def tw10354459715142733777:=0
def tw4231359502600421597:=0
def tw3840687453309761895:=0
def tw5648756701609169314:=0
def tw17721491492567462355:=0
def tw14538477264702584818:=0
def tw9388474021152156426:=0
def tw17332081587845444557:=0
def tw133981116257428805:=0
def tw6327319160818241487:=0
def tw11461526284106089357:=0
def tw2365389721006759711:=0
def tw13854396321925915606:=0
def tw6311909338261101188:=0
def tw13405980974567103757:=0
def tw6004796239596096439:=0
def tw8158139007652922599:=0
def tw1516172884930310874:=0
def tw9524862601504657794:=0
def tw10390773691345406892:=0
def tw12134765729047202935:=0
def tw7798485258325290849:=0
def tw8563081675742571533:=0
def tw6678692043217485794:=0
def tw6976295504784365947:=0
def tw16193397463803927158:=0
def tw16128439486051758337:=0
def tw7803956434922836847:=0
def tw4441930681381784974:=0
def tw3008811922822413714:=0
def tw14725789174255903608:=0
def tw16054710656767170139:=0
def tw11434627873035079421:=0
def tw662072192151759939:=0
def tw9696535612706172461:=0
def tw8395044469585181256:=0
def tw15416453322925856858:=0
def tw5093219714349284233:=0
def tw9651328841635158255:=0
def tw16475704707046626113:=0
def tw1970681341146567906:=0
def tw3560020800275413932:=0
def tw10062871059558257707:=0
def tw14385955007173177061:=0
def tw17393840360305564420:=0
def tw4270463024487765453:=0
def tw9954172037948861713:=0
def tw6263192369383029399:=0
def tw16041549074515592488:=0
def tw764506458297767015:=0
def tw9703970270325008333:=0
def tw9405610906486409736:=0
end PySem.W.Fast
section
def ar0:(1:Nat)<=1:=by lia
def ar1:(7:Nat)<=8:=by lia
def ar2{a:Int}(h0:0<=a)(h1:a<6):a=0∨a=1∨a=2∨a=3∨a=4∨a=5:=by lia
def ar3{a b c:Int}(h0:a<b)(h1:b<=c):(c-a).toNat=(b-a).toNat+(c-b).toNat:=by lia
def ar4{a:Nat}:a-0=a:=by lia
def ar5{a:Nat}:min a 3<=1000000:=by lia
def ar6{a b:Nat}:a+1+(b-(a+1))=a+(b-1-a)+1:=by lia
def ar7{a b:Nat}:a+1+b-(a+1)=b:=by lia
def ar8{a b:Nat}:a-(b+1)=a-1-b:=by lia
def ar9{a b:Nat}:a<=a+b:=by lia
def iB{a b:Nat}(h0:a<b):b-(a+1)<b-a:=by omega
def Jaf{a b:Nat}(h0:a<b):b-a=b-(a+1)+1:=by lia
def Jae{a b:Nat}(h0:a<b+1)(h1:¬(a=b)):a<b:=by lia
def qH{a b:Nat}(h0:a=b+1):a-1=b:=by lia
def qG{a b:Nat}(h0:min a b=a):a<=b:=by lia
def Ny{a b:Nat}(h0:¬(a<b)):b<=a:=by lia
def Jad{a b c:Nat}(h0:a-b=c+1):a-(b+1)=c:=by lia
def gq{a b c:Nat}(h0:a-b=c+1):b<a:=by omega
def Jac{a b c:Nat}(h0:a=min b c)(h1:b<c):a+1=min (b+1) c:=by lia
def Jab{a b c:Nat}(h0:a<=3)(h1:b=min c 3)(h2:c<a):b+1=min (c+1) 3:=by lia
def Jaa{b:Nat}{a:Int}:max 0 (min a (b:Int))=((min (a.toNat) b:Nat):Int):=by lia
def zy{b:Nat}{a:Int}(h0:a<0):max 0 (min (a+(b:Int)) (b:Int))=(((a+(b:Int)).toNat:Nat):Int):=by lia
end
section
set_option maxRecDepth 100000
namespace L2
open PySem PySem.Spec PyProof.Rows
abbrev Key:=Sum Int Str
def UL:Key->Value->Bool
 |.inl k,v=>U8k k v
 |.inr x,v=>Value.isStrOf x v
def Jfh(w:World):Key->Int
 |.inl k=>hashInt k
 |.inr x=>hashStr w x
def Gp:∀{k:Key} {v:Value},UL k v=true->(∃i t,k=U5j i/\v=U2v i t)∨(∃x t,k=U7h x/\v=U8c x t)
 |.inl i,v,h=>by obtain⟨t,e⟩:=U70 (k:=i) (v:=v) h;exact .inl ⟨i,t,rfl,e⟩
 |.inr x,v,h=>by obtain⟨t,e⟩:=Value.isStrOf_shape (x:=x) (v:=v) h;exact .inr ⟨x,t,rfl,e⟩
def o8(i:Int)(t:Tok):UL (.inl i) (.int i t)=true:=by simp[UL,U8k]
def o7(x:Str)(t:Tok):UL (.inr x) (.str x t)=true:=by simp[UL,Value.isStrOf]
def Jb4(a b:Int):decide ((U5j a:Key)=U5j b)=(a==b):=by
 by_cases e:a=b
 .subst e;simp
 .have h:¬(U5j a:Key)=U5j b:=λq=>e (U5j.inj q);rw[decide_eq_false h];exact(beq_eq_false_iff_ne.mpr e).symm
def Jb1(a b:Str):decide ((U7h a:Key)=U7h b)=decide (a=b):=by
 by_cases e:a=b
 .subst e;simp
 .have h:¬(U7h a:Key)=U7h b:=λq=>e (U7h.inj q);rw[decide_eq_false h,decide_eq_false e]
def Jb3(a:Int)(b:Str):decide ((U5j a:Key)=U7h b)=false:=decide_eq_false (λq=>nomatch q)
def Jb2(a:Str)(b:Int):decide ((U7h a:Key)=U5j b)=false:=decide_eq_false (λq=>nomatch q)
def Es(prog:Program)(w:World):PySem.KeyKind prog w Key where
 is:=UL
 hash:=Jfh w
 inj:=λv a b ha hb=>by
  rcases Gp ha with ⟨i,t,rfl,rfl⟩|⟨x,t,rfl,rfl⟩
  .rcases Gp hb with ⟨j,u,rfl,e⟩|⟨y,u,rfl,e⟩
   .injection e with e1 _;rw[e1]
   .exact nomatch e
  .rcases Gp hb with ⟨j,u,rfl,e⟩|⟨y,u,rfl,e⟩
   .exact nomatch e
   .injection e with e1 _;rw[e1]
 byValue:=λk v h=>by rcases Gp h with ⟨i,t,rfl,rfl⟩|⟨x,t,rfl,rfl⟩<;>rfl
 pyHash:=λhv h=>by
  rcases Gp hv with ⟨i,t,rfl,rfl⟩|⟨x,t,rfl,rfl⟩
  .exact wpAny_pyHash_int h
  .exact wpAny_pyHash_str h
 eqBool:=λhu hv h=>by
  rcases Gp hu with ⟨i,t,rfl,rfl⟩|⟨x,t,rfl,rfl⟩
  .rcases Gp hv with ⟨j,u,rfl,rfl⟩|⟨y,u,rfl,rfl⟩
   .rw[Jb4]at h;exact wpAny_eqBool_int h
   .rw[Jb3]at h;exact U8r.int_str i t y u _ _ _ _ h
  .rcases Gp hv with ⟨j,u,rfl,rfl⟩|⟨y,u,rfl,rfl⟩
   .rw[Jb2]at h;exact U8r.str_int x t j u _ _ _ _ h
   .rw[Jb1]at h;exact wpAny_eqBool_str h
 «strs»:=λk x t v h=>by
  rcases Gp h with ⟨i,u,rfl,e⟩|⟨y,u,rfl,e⟩
  .exact nomatch e
  .injection e with e1 _
   subst e1;cases v<;>rfl
def dD(prog:Program)(w:World)(i:Int)(t:Tok):(Es prog w).is (.inl i) (.int i t)=true:=o8 i t
def dB(prog:Program)(w:World)(x:Str)(t:Tok):(Es prog w).is (.inr x) (.str x t)=true:=o7 x t
inductive V where
 |non|bl (b:Bool)|int (i:Int)|str (x:Str)|byt (b:Array UInt8)|flt (b:UInt64)|ref (a:Addr)|ty (n:String)
 deriving DecidableEq
def RelV:V->Value->Prop
 |.non,u=>u=U2d
 |.bl b,u=>u=U3r b
 |.int i,u=>∃t,u=U2v i t
 |.str x,u=>∃t,u=U8c x t
 |.byt b,u=>∃t,u=Value.bytes b t
 |.flt b,u=>∃t,u=Value.float b t
 |.ref a,u=>u=U1c a
 |.ty n,u=>u=U23 n
abbrev Vals:List V->List Value->Prop:=Paired RelV
theorem Vals.length{xs:List V}{us:List Value}(r:Vals xs us):xs.length=us.length:=U4j r
theorem Vals.get:∀{xs:List V} {us:List Value} {i:Nat} {x:V},Vals xs us->xs[i]?=some x->∃u,us[i]?=some u/\RelV x u
 |_,_,_,_,.nil,e=>by simp at e
 |_,_,0,_,.cons r _,e=>by simp at e;subst e;exact⟨_,rfl,r⟩
 |_,_,i+1,x,.cons _ t,e=>by obtain⟨u,h1,h2⟩:=Vals.get (i:=i) (x:=x) t (by simpa using e);exact⟨u,by simpa using h1,h2⟩
theorem Vals.set(r:RelV x u):∀{xs:List V} {us:List Value} (i:Nat),Vals xs us->Vals (xs.set i x) (us.set i u)
 |_,_,_,.nil=>.nil
 |_,_,0,.cons _ t=>.cons r t
 |_,_,i+1,.cons q t=>.cons q (Vals.set r i t)
theorem Vals.append:∀{xs ys:List V} {us ws:List Value},Vals xs us->Vals ys ws->Vals (xs++ys) (us++ws)
 |_,_,_,_,.nil,s=>s
 |_,_,_,_,.cons r t,s=>.cons r (Vals.append t s)
theorem Vals.take:∀{xs:List V} {us:List Value} (n:Nat),Vals xs us->Vals (xs.take n) (us.take n)
 |_,_,0,_=>.nil
 |_,_,_+1,.nil=>.nil
 |_,_,n+1,.cons r t=>.cons r (Vals.take n t)
theorem Vals.drop:∀{xs:List V} {us:List Value} (n:Nat),Vals xs us->Vals (xs.drop n) (us.drop n)
 |_,_,0,r=>r
 |_,_,_+1,.nil=>.nil
 |_,_,n+1,.cons _ t=>Vals.drop n t
def RP:Option V->Option Value->Prop
 |some v,some u=>RelV v u
 |none,none=>True
 |_,_=>False
def KV{κ:Type}:List (κ×V)->List (κ×Value)->Prop:=Paired λ(p:κ×V) (q:κ×Value)=>p.1=q.1/\RelV p.2 q.2
def kV:Key->V
 |.inl i=>.int i
 |.inr x=>.str x
inductive HO where
 |lst (xs:List V)
 |tup (xs:List V)
 |dK (kvs:List (Key×V))|dT (kvs:List (List Key×V))
 |set (S:Int->Bool) (n:Nat)
 |ins (C dx:Addr) (fs:List (Str×V))
 |own (x:Addr)
 |xd (fs:List (Str×V))
 |met (f x:Addr)
 |rng (lo hi:Int)
 |frz (o:Obj) (u:HO)
 |tbl (ps:Array Value)
 |ext (φ:Heap->Prop)
abbrev Hp:=Addr->Option HO
def upd(H:Hp)(a:Addr)(o:HO):Hp:=λb=>if b=a then some o else H b
def CT:upd H a o a=some o:=by unfold upd;rw[if_pos rfl]
def Bt(h:b≠a):upd H a o b=H b:=by unfold upd;rw[if_neg h]
def uZ{H:Hp}{a b:Addr}{o u:HO}(h:H a=some o)(h':H b=some u)(d:o≠u):a≠b:=by intro e;subst e;rw[h]at h';exact d (U08 h')
def Ec{H:Hp}{a b:Addr}{o:HO}(h:H a=some o)(h':H b=none):a≠b:=by intro e;subst e;rw[h]at h';cases h'
section
variable(P:Program)(w:World)
def Df(H:Hp)(h:Heap)(a:Addr):HO->Prop
 |.lst xs=>xs.length<=sizeLine/\∃(its:List Value)(n:Nat),Vals xs its/\h.get? a=some { cls:=.type "list",data:=.seq its.toArray n }
 |.tup xs=>xs.length<=sizeLine/\∃its:List Value,Vals xs its/\IsTup h a its.toArray
 |.dK kvs=>kvs.length<=sizeLine/\(a==sysModules)=false/\∃vs,KV kvs vs/\h.DictOf (Es P w) a vs
 |.dT kvs=>kvs.length<=sizeLine/\(a==sysModules)=false/\∃xs:List (List Key×Addr×Value),
   Paired (λ(p:List Key×V) (q:List Key×Addr×Value)=>p.1=q.1/\H q.2.1=some (.tup (p.1.map kV))/\RelV p.2 q.2.2) kvs xs /\
   ∃o es ep,h.get? a=some o/\o.ExactDict/\o.data=.dict es ep/\es.toList=xs.map (entryOfKey (tupleKind (Es P w)))/\(xs.map (·.1)).Nodup
 |.set S n=>h.SetOf (intKind P w) a S n
 |.ins C dx fs=>H dx=some (.own a)/\fs.length<=1000/\dx≠a/\h.get? a=some (U8d C dx) /\
   ∃mA,h.Ns1 dx mA/\(∀f,RP (fs.lookup f) (mA f))/\PySem.Within mA (fs.map (·.1))
 |.own _=>∃o,h.get? a=some o
 |.xd fs=>∃mA,h.Ns1 a mA/\∀f,RP (fs.lookup f) (mA f)
 |.rng lo hi=>∃t u v,h.get? a=some { cls:=.type "range",data:=.fields #[.int lo t,.int hi u,.int 1 v] }
 |.frz o u=>h.get? a=some o/\Df H h a u
 |.tbl ps=>h.get? a=some { cls:=.none,data:=.fields ps }
 |.met f x=>h.get? a=some (U71 (.ref f) (.ref x))
 |.ext φ=>φ h/\(∃o,h.get? a=some o)/\∀h1 h2:Heap,φ h1->(∀o,h1.get? a=some o->h2.get? a=some o)->φ h2
def HOk(H:Hp)(h:Heap):Prop:=∀a o,H a=some o->Df P w H h a o
end
section
variable{P:Program}{w:World}{H H':Hp}{h h':Heap}{a:Addr}{o:HO}
theorem Df.lt(x:Df P w H h a o):a<h.objs.size:=by
 cases o with
 |lst xs=>obtain⟨_,_,_,_,e⟩:=x;exact U0m e
 |tup xs=>obtain⟨_,_,_,p⟩:=x;exact p.lt
 |dK kvs=>obtain⟨_,_,_,_,o,_,_,e,_⟩:=x;exact U0m e
 |dT kvs=>obtain⟨_,_,_,_,o,_,_,e,_⟩:=x;exact U0m e
 |set S n=>obtain⟨o,_,_,_,e,_⟩:=x;exact U0m e
 |ins C dx fs=>obtain⟨_,_,_,e,_⟩:=x;exact U0m e
 |own y=>obtain⟨_,e⟩:=x;exact U0m e
 |xd fs=>obtain⟨_,⟨_,_,_,e,_⟩,_⟩:=x;exact U0m e
 |rng lo hi=>obtain⟨_,_,_,e⟩:=x;exact U0m e
 |frz ob u=>obtain⟨e,_⟩:=x;exact U0m e
 |tbl ps=>exact U0m (show h.get? a=some _ from x)
 |met f y=>exact U0m (show h.get? a=some _ from x)
 |ext φ=>obtain⟨_,⟨_,e⟩,_⟩:=x;exact U0m e
theorem Paired.pX{Zp Zl:Type}{F G:Zp->Zl->Prop}:∀{l₁:List Zp} {l₂:List Zl},Paired F l₁ l₂->(∀a b,F a b->G a b)->Paired G l₁ l₂
 |_,_,.nil,_=>.nil
 |_,_,.cons r t,f=>.cons (f _ _ r) (Paired.pX t f)
def Df.stay(x:Df P w H h a o)(k:∀b u,(b=a∨H b=some (.own a))->h.get? b=some u->h'.get? b=some u)
  (ho:∀b,H b=some (.own a)->H' b=some (.own a)) (ht:∀b xs,H b=some (.tup xs)->H' b=some (.tup xs)):Df P w H' h' a o:=by
 induction o with
 |lst xs=>obtain⟨z,its,n,r,e⟩:=x;exact⟨z,its,n,r,k _ _ (.inl rfl) e⟩
 |tup xs=>obtain⟨z,its,r,ob,e,c⟩:=x;exact⟨z,its,r,ob,k _ _ (.inl rfl) e,c⟩
 |dK kvs=>obtain⟨z,y,vs,r,ob,es,ep,e,c⟩:=x;exact⟨z,y,vs,r,ob,es,ep,k _ _ (.inl rfl) e,c⟩
 |dT kvs=>
  obtain⟨z,y,xs,r,ob,es,ep,e,c⟩:=x;exact⟨z,y,xs,Paired.pX r λp q z=>⟨z.1,ht _ _ z.2.1,z.2.2⟩,ob,es,ep,k _ _ (.inl rfl) e,c⟩
 |set S n=>obtain⟨ob,es,ep,t,e,c⟩:=x;exact⟨ob,es,ep,t,k _ _ (.inl rfl) e,c⟩
 |ins C dx fs=>
  obtain⟨d,z,ne,e,mA,⟨od,es,ep,e2,c⟩,r⟩:=x;exact⟨ho _ d,z,ne,k _ _ (.inl rfl) e,mA,⟨od,es,ep,k _ _ (.inr d) e2,c⟩,r⟩
 |own y=>obtain⟨ob,e⟩:=x;exact⟨ob,k _ _ (.inl rfl) e⟩
 |xd fs=>obtain⟨mA,⟨od,es,ep,e,c⟩,r⟩:=x;exact⟨mA,⟨od,es,ep,k _ _ (.inl rfl) e,c⟩,r⟩
 |rng lo hi=>obtain⟨t,u,v,e⟩:=x;exact⟨t,u,v,k _ _ (.inl rfl) e⟩
 |frz ob u ih=>obtain⟨e,q⟩:=x;exact⟨k _ _ (.inl rfl) e,ih q⟩
 |tbl ps=>
  have e:h.get? a=some { cls:=.none,data:=.fields ps }:=x;show h'.get? a=some { cls:=.none,data:=.fields ps };exact k a _ (.inl rfl) e
 |met f y=>
  have e:h.get? a=some (U71 (.ref f) (.ref y)):=x;show h'.get? a=some (U71 (.ref f) (.ref y));exact k a _ (.inl rfl) e
 |ext φ=>obtain⟨p,⟨o,e⟩,st⟩:=x;exact⟨st _ _ p λo q=>k _ _ (.inl rfl) q,⟨o,k _ _ (.inl rfl) e⟩,st⟩
theorem HOk.lt(x:HOk P w H h)(e:H a=some o):a<h.objs.size:=(x a o e).lt
def HOk.fresh(x:HOk P w H h)(e:h.objs.size<=a):H a=none:=by
 cases q:H a with
 |none=>rfl
 |some u=>exact absurd (U0w (x.lt q) e) (U3s _)
def HOk.kept(x:HOk P w H h)(k:∀b u,h.get? b=some u->h'.get? b=some u):HOk P w H h':=λa o e=>
 (x a o e).stay (λb u _ q=>k b u q) (λ_ q=>q) λ_ _ q=>q
def HOk.laid(x:HOk P w H h)(k:∀b u,h.get? b=some u->h'.get? b=some u)(hp:h.objs.size<=a)(new:Df P w (upd H a o) h' a o):HOk P w (upd H a o) h':=λb u e=>by
 have hn:=x.fresh hp;by_cases hb:b=a
 .subst hb;rw[CT]at e;cases e;exact new
 .rw[Bt hb]at e;exact(x b u e).stay (λc v _ q=>k c v q) (λc q=>by rw[Bt (Ec q hn)];exact q) λc xs q=>by rw[Bt (Ec q hn)];exact q
end
def Rd(H:Hp)(a:Addr)(u:HO):Prop:=H a=some u∨∃o,H a=some (.frz o u)
def Rd.ok(r:Rd H a u)(x:HOk P w H h):Df P w H h a u:=by
 rcases r with r|⟨o,r⟩
 .exact x a u r
 .obtain⟨_,q⟩:=x a _ r;exact q
def Mut:Option HO->Prop
 |some (.lst _)=>True
 |some (.dK _)=>True
 |some (.dT _)=>True
 |some (.set _ _)=>True
 |some (.ins _ _ _)=>True
 |some (.ext _)=>True
 |_=>False
section
variable{P:Program}{w:World}{H:Hp}{h h':Heap}{x e:Addr}{o':HO}
def HOk.write(ok:HOk P w H h)(mu:Mut (H x))(he:e=x∨H e=some (.own x))(k:∀b u,b≠e->h.get? b=some u->h'.get? b=some u)(heo:∃u,h'.get? e=some u)
  (new:Df P w (upd H x o') h' x o'):HOk P w (upd H x o') h':=λb u q=>by
 have nown:∀c y,H c=some (.own y)->c≠x:=λc y r z=>by subst z;rw[r]at mu;exact mu
 have ntup:∀c xs,H c=some (.tup xs)->c≠x:=λc xs r z=>by subst z;rw[r]at mu;exact mu
 by_cases hb:b=x
 .subst hb;rw[CT]at q;cases q;exact new
 .rw[Bt hb]at q;by_cases hbe:b=e
  .have q':H b=some (.own x):=by
    rcases he with z|z
    .exact absurd (hbe.trans z) hb
    .rw[hbe];exact z
   rw[q]at q';cases q';obtain⟨v,hv⟩:=heo;exact⟨v,by rw[hbe];exact hv⟩
  .refine(ok b u q).stay (λc v hc r=>k c v ?_ r) (λc r=>by rw[Bt (nown c b r)];exact r) λc xs r=>by rw[Bt (ntup c xs r)];exact r
   rcases hc with rfl|hc
   .exact hbe
   .rintro rfl;rcases he with z|z
    .exact nown c b hc z
    .rw[hc]at z;cases z;exact hb rfl
end
def Oz(H:Hp):Prop:=∀u,H sysModules=some u->∃o x,u=.frz o (.own x)
def Oz.write(n:Oz H)(mu:Mut (H x))(q:upd H x o sysModules=some u):∃o x,u=.frz o (.own x):=by
 by_cases z:sysModules=x
 .subst z;cases e:H sysModules with
  |none=>rw[e]at mu;exact mu.elim
  |some v=>
   obtain⟨a,b,rfl⟩:=n v e;rw[e]at mu;exact mu.elim
 .exact n u (by rw[Bt z]at q;exact q)
structure Un(fs ex:List Addr)(H H':Hp)(h h':Heap):Prop where
 keep:∀b o,h.get? b=some o->H b=none->b ∉ fs->b ∉ ex->h'.get? b=some o
 slot:∀b o,h.get? b=some o->H b=none->b∈fs->b ∉ ex->∃sl,h'.get? b=some { o with slots:=sl }
 free:∀b o,h.get? b=some o->H b=none->b ∉ ex->H' b=none
 there:∀b o,h.get? b=some o->b ∉ ex->∃o',h'.get? b=some o'
 tups:∀b xs,H b=some (.tup xs)->H' b=some (.tup xs)
 frzs:∀b o u,H b=some (.frz o u)->H' b=some (.frz o u)
 tbls:∀b ps,H b=some (.tbl ps)->∃more,H' b=some (.tbl (ps++more))
 sy:Oz H->Oz H'
section
variable{fs fs' ex ex':List Addr}{H H1 H2:Hp}{h h1 h2 h':Heap}{a x e:Addr}{o:HO}
def Un.any(u:Un fs ex H H1 h h1){b:Addr}{ob:Obj}(q:h.get? b=some ob)(n:H b=none)(hx:b ∉ ex):∃sl,h1.get? b=some { ob with slots:=sl }:=by
 by_cases hb:b∈fs
 .exact u.slot b ob q n hb hx
 .exact⟨ob.slots,u.keep b ob q n hb hx⟩
def Un.kept(k:∀b u,h.get? b=some u->h'.get? b=some u):Un fs ex H H h h':=
 ⟨λb ob q _ _ _=>k b ob q,λb ob q _ _ _=>⟨ob.slots,k b ob q⟩,λ_ _ _ n _=>n,λb ob q _=>⟨ob,k b ob q⟩,λ_ _ q=>q,λ_ _ _ q=>q,λ_ ps q=>⟨#[],by rw[q];simp⟩,id⟩
def Un.refl:Un fs ex H H h h:=Un.kept λ_ _ q=>q
def Un.laid(k:∀b u,h.get? b=some u->h'.get? b=some u)(hp:h.objs.size<=a)(hn:H a=none)(hsy:sysModules≠a):Un fs ex H (upd H a o) h h' where
 sy:=λn u q=>n u (by rw[Bt hsy]at q;exact q)
 keep:=λb u q _ _ _=>k b u q
 slot:=λb u q _ _ _=>⟨u.slots,k b u q⟩
 free:=λb u q n _=>by rw[Bt (U0u (U0w (U0m q) hp))];exact n
 there:=λb u q _=>⟨u,k b u q⟩
 tups:=λb xs q=>by rw[Bt (Ec q hn)];exact q
 frzs:=λb u xs q=>by rw[Bt (Ec q hn)];exact q
 tbls:=λb ps q=>⟨#[],by rw[Bt (Ec q hn),q];simp⟩
theorem Un.write(mu:Mut (H x))(he:e=x∨H e=some (.own x))(k:∀b u,b≠e->h.get? b=some u->h'.get? b=some u)(heo:∃u,h'.get? e=some u):Un fs ex H (upd H x o) h h':=by
 have hx:∀b,H b=none->b≠x:=λb n z=>by subst z;rw[n]at mu;exact mu
 have hb:∀b,H b=none->b≠e:=λb n z=>by
  subst z;rcases he with r|r
  .exact hx b n r
  .rw[n]at r;cases r
 have hm:∀b u,H b=some u->¬Mut (some u)->b≠x:=λb u q nm z=>by subst z;rw[q]at mu;exact nm mu
 refine⟨λb u q n _ _=>k b u (hb b n) q,λb u q n _ _=>⟨u.slots,k b u (hb b n) q⟩,λb u q n _=>by rw[Bt (hx b n)];exact n,λb u q _=>?_,
  λb xs q=>by rw[Bt (hm b _ q λz=>z)];exact q,λb u xs q=>by rw[Bt (hm b _ q λz=>z)];exact q,λb ps q=>⟨#[],by rw[Bt (hm b _ q λz=>z),q];simp⟩,λn u q=>n.write mu q⟩
 by_cases hbe:b=e
 .subst hbe;exact heo
 .exact⟨u,k b u hbe q⟩
end
def trk(h:Heap)(H:Hp):List Addr:=(U07 h.objs.size).filter λa=>(H a).isSome
def RL(h:Heap)(H:Hp):Heap:=PySem.W.hideAll h (trk h H)
def oN(h:Heap)(H:Hp):(RL h H).objs.size=h.objs.size:=PySem.W.hideAll_size _ _
def tR(e:h.get? b=some o)(n:H b=none):(RL h H).get? b=some o:=
 PySem.W.hideAll_get _ e λhm=>by have q:(H b).isSome=true:=(U1t.mp hm).2;rw[n]at q;simp at q
def wz(e:(RL h H).get? b=some o):h.get? b=some o/\H b=none:=by
 have e':h.get? b=some o:=PySem.W.of_hideAll (trk h H) e;refine⟨e',?_⟩;cases q:H b with
 |none=>rfl
 |some x=>
  have hm:b∈trk h H:=U1t.mpr ⟨U3l.mpr (U0m e'),by simp[q]⟩;have z:(RL h H).get? b=none:=PySem.W.hideAll_none (trk h H) hm;rw[z]at e;cases e
def yZ(g h:Heap)(L:Addr):List (Addr×Obj):=(U07 h.objs.size).filterMap λa=>if a=L∨(g.get? a).isSome=true then none else (h.get? a).map λo=>(a,o)
def rest(g h:Heap)(L d:Addr):List (Addr×Obj):=(yZ g h L).filter λp=>decide (p.1≠d)
structure Mod(K:U0e)(mg:Str->Option Value)(base:Heap):Prop where
 kin:K.In base
 glob:base.Ns mainGlobals mg
 blt:∃mb,base.Ns builtinsNs mb/\∀x:Str,x≠"__name__"->mb x=bootBuiltins x
 nolimit:base.NoLimit
structure Cx where
 prog:Program
 w:World
 K:U0e
 mg:Str->Option Value
 base:Heap
 A:Around
 N:List Str
 s₀:Shared
 H₀:Hp
 env:Env
 outer:List Env
 stack:List Env
 ex:List Addr
 fn:Str->Bool
 calm:Bool
 pn:List (Addr×Obj)
 xe:Value->Shared->Prop
def frs(l:List Env):List Addr:=l.filterMap (·.frame)
abbrev Cx.fs(X:Cx):List Addr:=frs X.outer
def Vis(sc:Scope)(x:Str):Prop:=sc.names.lookup x=some .local∨sc.names.lookup x=some .cell∨sc.names.lookup x=some .free
def Loc(sc:Scope)(x:Str):Prop:=sc.names.lookup x=some .local∨sc.names.lookup x=some .cell
def Look(env:Env)(h:Heap)(m:Str->Option Value)(x:Str)(u:Value):Prop:=
 (env.kindOf x=some .local/\m x=some u)∨((env.kindOf x=some .cell∨env.kindOf x=some .free)/\∃c,env.cells.lookup x=some c/\h.IsCell c (some u))
structure Cx.Ok(X:Cx):Prop where
 mod:Mod X.K X.mg X.base
 kind:X.env.scope.kind=.function
 glob:X.env.globals=mainGlobals
 blt:X.env.builtins=builtinsNs
 above:X.s₀.heap.objs.size<=X.env.locals
 inj:∀x y c,X.env.cells.lookup x=some c->X.env.cells.lookup y=some c->x=y
 has:∀x,(X.env.kindOf x=some .cell∨X.env.kindOf x=some .free)->∃c,X.env.cells.lookup x=some c
 cab:∀x c,X.fn x=true->X.env.cells.lookup x=some c->X.s₀.heap.objs.size<=c
 hd:X.calm=true->X.A.handled=none
 frames:X.A.frames=some X.stack
 stk:X.stack=X.outer∨(X.stack=X.env::X.outer/\X.env.frame=some X.env.locals)
 exf:∀b∈X.ex,b≠X.env.locals/\∀x c,X.env.cells.lookup x=some c->c≠b
 bs:∀b o,X.base.get? b=some o->X.s₀.heap.get? b=some o/\X.H₀ b=none
 bsz:X.base.objs.size<=X.s₀.heap.objs.size
 noex:∀b o,X.base.get? b=some o->b ∉ X.ex
 exfs:∀b∈X.ex,b ∉ X.fs
 Ow:X.s₀.heap.FunFrames X.base X.outer
 frf:∀b∈X.fs,X.H₀ b=none
 sy:Oz X.H₀
structure Inv(X:Cx)(pins:List (Addr×Obj))(Z3:List (Option V))(H:Hp)(s:Shared):Prop where
 ok:X.Ok
 os:s.os=X.s₀.os
 bare:AllBare s.gens
 base:Un X.fs X.ex X.H₀ H X.s₀.heap s.heap
 loc:∃m,s.heap.Ns X.env.locals m/\∀(i:Nat)(x:Str)(v:V),X.N[i]?=some x->Z3[i]?=some (some v)->Vis X.env.scope x->∃u,RelV v u/\Look X.env s.heap m x u
 cell:∀x c,X.env.cells.lookup x=some c->∃v,s.heap.IsCell c v
 free:H X.env.locals=none
 freeC:∀x c,X.env.cells.lookup x=some c->H c=none
 pin:∀p∈X.pn++pins,s.heap.get? p.1=some p.2/\H p.1=none/\p.1≠X.env.locals/\p.1 ∉ X.fs/\∀v,p.2.data≠.cell v
 hok:HOk X.prog X.w H s.heap
 len:Z3.length=X.N.length
section
variable{X:Cx}{pins:List (Addr×Obj)}{Z3:List (Option V)}{H H':Hp}{s:Shared}{h':Heap}
def Cx.Ok.Jfe(ok:X.Ok)(e:X.base.get? b=some o):b ∉ X.fs:=λhb=>by have:=(ok.Ow.mem hb).1;rw[e]at this;cases this
theorem Inv.bs(I:Inv X pins Z3 H s):∀b o,X.base.get? b=some o->s.heap.get? b=some o/\H b=none:=λb o e=>
 ⟨I.base.keep b o (I.ok.bs b o e).1 (I.ok.bs b o e).2 (I.ok.Jfe e) (I.ok.noex b o e),I.base.free b o (I.ok.bs b o e).1 (I.ok.bs b o e).2 (I.ok.noex b o e)⟩
def Inv.bk(I:Inv X pins Z3 H s):∀b o,X.base.get? b=some o->s.heap.get? b=some o:=λb o e=>(I.bs b o e).1
theorem Inv.mod(I:Inv X pins Z3 H s):Mod X.K X.mg X.base:=I.ok.mod
def Inv.kIn(I:Inv X pins Z3 H s):X.K.In s.heap:=I.ok.mod.kin.keeps I.bk
def Inv.fr(I:Inv X pins Z3 H s):∃m,Fr X.base X.env.locals s.heap m:=
 let ⟨m,hn,_⟩:=I.loc
 ⟨m,hn,I.bk,U01 I.ok.bsz I.ok.above⟩
theorem Inv.lt(I:Inv X pins Z3 H s):X.env.locals<s.heap.objs.size:=let ⟨_,hn,_⟩:=I.loc;hn.lt
def Inv.sz(I:Inv X pins Z3 H s):X.s₀.heap.objs.size<=s.heap.objs.size:=U01 I.ok.above (U2o I.lt)
def Inv.pR(I:Inv X pins Z3 H s)(h:s.heap.objs.size<=a):a ∉ X.fs:=λhb=>by obtain⟨_,o,ho,_⟩:=I.ok.Ow.mem hb;exact absurd (U0w (U0m ho) (U01 I.sz h)) (U3s _)
def Inv.cne(I:Inv X pins Z3 H s):∀x c,X.env.cells.lookup x=some c->c≠X.env.locals:=λx c e z=>by obtain⟨v,o,ho,hd⟩:=I.cell x c e;obtain⟨m,⟨o',es,ep,ho',hd',_⟩,_⟩:=I.loc;rw[z,ho']at ho;cases ho;rw[hd']at hd;cases hd
theorem Inv.Ow(I:Inv X pins Z3 H s):s.heap.FunFrames X.base X.outer:=by
 have all:∀(l:List Env),(∀b∈frs l,b∈X.fs)->X.s₀.heap.FunFrames X.base l->s.heap.FunFrames X.base l:=by
  intro l;induction l with
  |nil=>intro _ _;trivial
  |cons env r ih=>
   intro hs hl;obtain⟨hk,⟨L,o,hf,hn,ho,hd⟩,hr⟩:=hl;have hL:L∈X.fs:=hs L (by unfold frs;rw[U5w,hf];exact U0h);obtain⟨sl,e⟩:=I.base.slot L o ho (I.ok.frf L hL) hL λz=>I.ok.exfs L z hL;exact⟨hk,⟨L,_,hf,hn,e,hd⟩,ih (λb hb=>hs b (by unfold frs;rw[U5w,hf];exact U0k _ hb)) hr⟩
 exact all X.outer (λ_ hb=>hb) I.ok.Ow
theorem Inv.stack(I:Inv X pins Z3 H s):s.heap.FunFrames X.base X.stack:=by
 rcases I.ok.stk with e|⟨e,hf⟩
 .rw[e];exact I.Ow
 .rw[e];obtain⟨m,hn,_⟩:=I.loc;refine .cons (by rw[I.ok.kind];decide) hf hn ?_ I.Ow;exact Heap.get?_none_of_le (U01 I.ok.bsz I.ok.above)
def Inv.Sv(I:Inv X pins Z3 H s):∀b∈frs X.stack,b∈X.env.locals::X.fs:=λb hb=>by
 rcases I.ok.stk with e|⟨e,hf⟩
 .rw[e]at hb;exact U0k _ hb
 .rw[e]at hb;unfold frs at hb;rw[U5w,hf]at hb;exact hb
def Inv.eO(I:Inv X pins Z3 H s):∀b∈frs X.stack,H b=none:=λb hb=>by
 rcases U0q.mp (I.Sv b hb) with e|hb
 .rw[e];exact I.free
 .obtain⟨_,o,ho,_⟩:=I.ok.Ow.mem hb;exact I.base.free b o ho (I.ok.frf b hb) λz=>I.ok.exfs b z hb
def Inv.gn(I:Inv X pins Z3 H s):sysModules<s.heap.objs.size:=by obtain⟨o,_,_,e,_⟩:=I.ok.mod.glob;exact U2j (by decide:(1:Nat)<3) (U0m (I.bk _ _ e))
def Inv.XJ(I:Inv X pins Z3 H s):Oz H:=I.base.sy I.ok.sy
def Inv.step{g':Array GenState}{t':Nat}{d':Drawn}{ch:List Addr}(I:Inv X pins Z3 H s)
  (hch:∀b∈ch,(b∈X.ex∨X.s₀.heap.objs.size<=b)/\b≠X.env.locals/\(∀x c,X.env.cells.lookup x=some c->c≠b)/\∀p∈X.pn++pins,p.1≠b)
  (keep:∀b o,b≠X.env.locals->b ∉ X.fs->b ∉ ch->s.heap.get? b=some o->H b=none->h'.get? b=some o)
  (slot:∀b o,b≠X.env.locals->b∈X.fs->b ∉ ch->s.heap.get? b=some o->H b=none->∃sl,h'.get? b=some { o with slots:=sl }) (free:∀b o,b ∉ ch->s.heap.get? b=some o->H b=none->H' b=none)
  (there:∀b o,b ∉ ch->s.heap.get? b=some o->∃o',h'.get? b=some o')
  (tups:∀b xs,H b=some (.tup xs)->H' b=some (.tup xs)) (frzs:∀b o u,H b=some (.frz o u)->H' b=some (.frz o u)) (tbls:∀b ps,H b=some (.tbl ps)->∃more,H' b=some (.tbl (ps++more)))
  (ns:∀m,s.heap.Ns X.env.locals m->h'.Ns X.env.locals m) (hok:HOk X.prog X.w H' h') (hg:AllBare g') (sy:Oz H->Oz H') :
  Inv X pins Z3 H' { s with heap:=h',gens:=g',drawn:=d',toks:=t' }:=by
 have neL:∀b o,X.s₀.heap.get? b=some o->b≠X.env.locals:=λb o e=>U0u (U0w (U0m e) I.ok.above);have neC:∀b o,X.s₀.heap.get? b=some o->b ∉ X.ex->b ∉ ch:=λb o e hx hb=>by
  rcases(hch b hb).1 with z|z
  .exact hx z
  .exact absurd (U0w (U0m e) z) (U3s _)
 have cellK:∀x c,X.env.cells.lookup x=some c->∀v,s.heap.IsCell c v->h'.IsCell c v:=λx c e v ⟨o,ho,hd⟩=>by
  have nch:c ∉ ch:=λz=>(hch c z).2.2.1 x c e rfl;by_cases hc:c∈X.fs
  .obtain⟨sl,q⟩:=slot c o (I.cne x c e) hc nch ho (I.freeC x c e);exact⟨_,q,hd⟩
  .exact⟨o,keep c o (I.cne x c e) hc nch ho (I.freeC x c e),hd⟩
 refine⟨I.ok,I.os,hg,⟨λb o e n hb hx=>?_,λb o e n hb hx=>?_,λb o e n hx=>?_,λb o e hx=>?_,λb xs e=>tups b xs (I.base.tups b xs e),λb o xs e=>frzs b o xs (I.base.frzs b o xs e),λb ps e=>?_,λn=>sy (I.base.sy n)⟩,?_,λx c e=>?_,?_,λx c e=>?_,λp hp=>?_,hok,I.len⟩
 .exact keep b o (neL b o e) hb (neC b o e hx) (I.base.keep b o e n hb hx) (I.base.free b o e n hx)
 .obtain⟨sl,e1⟩:=I.base.slot b o e n hb hx;obtain⟨sl',e2⟩:=slot b _ (neL b o e) hb (neC b o e hx) e1 (I.base.free b o e n hx);exact⟨sl',e2⟩
 .obtain⟨o',e1⟩:=I.base.there b o e hx;exact free b o' (neC b o e hx) e1 (I.base.free b o e n hx)
 .obtain⟨o',e1⟩:=I.base.there b o e hx;exact there b o' (neC b o e hx) e1
 .obtain⟨m1,e1⟩:=I.base.tbls b ps e;obtain⟨m2,e2⟩:=tbls b _ e1;exact⟨m1++m2,by rw[e2,Array.append_assoc]⟩
 .obtain⟨m,hn,hl⟩:=I.loc;refine⟨m,ns m hn,λi x v e1 e2 e3=>?_⟩;obtain⟨u,r,l⟩:=hl i x v e1 e2 e3;refine⟨u,r,?_⟩;rcases l with l|⟨k,c,e,z⟩
  .exact .inl l
  .exact .inr ⟨k,c,e,cellK x c e _ z⟩
 .obtain⟨v,z⟩:=I.cell x c e;exact⟨v,cellK x c e v z⟩
 .obtain⟨m,⟨o,_,_,ho,_⟩,_⟩:=I.loc;exact free _ o (λz=>(hch _ z).2.1 rfl) ho I.free
 .obtain⟨v,o,ho,hd⟩:=I.cell x c e;exact free c o (λz=>(hch c z).2.2.1 x c e rfl) ho (I.freeC x c e)
 .obtain⟨e,n,ne,nf,d⟩:=I.pin p hp;have nch:p.1 ∉ ch:=λz=>(hch p.1 z).2.2.2 p hp rfl;exact⟨keep p.1 p.2 ne nf nch e n,free p.1 p.2 nch e n,ne,nf,d⟩
def Inv.un{t':Nat}(I:Inv X pins Z3 H s)(u:Un X.fs [] H H' s.heap h')(hok:HOk X.prog X.w H' h'):Inv X pins Z3 H' { s with heap:=h',toks:=t' }:=by
 obtain⟨m,⟨o,es,ep,ho,r⟩,_⟩:=id I.loc;obtain⟨sl,hL⟩:=u.any ho I.free (by simp);exact I.step (g':=s.gens) (d':=s.drawn) (ch:=[]) (λ_ z=>nomatch z) (λb o _ hb _ e n=>u.keep b o e n hb (by simp)) (λb o _ hb _ e n=>u.slot b o e n hb (by simp)) (λb o _ e n=>u.free b o e n (by simp)) (λb o _ e=>u.there b o e (by simp)) u.tups u.frzs u.tbls (λm' hm=>by
  obtain⟨o',es',ep',ho',r'⟩:=hm;rw[ho]at ho';cases ho';exact⟨_,es',ep',hL,r'⟩) hok I.bare u.sy
def Inv.call{g':Array GenState}{t':Nat}{d':Drawn}{ch:List Addr}(I:Inv X pins Z3 H s)(u:Un (frs X.stack) ch H H' s.heap h')(hok:HOk X.prog X.w H' h')(hg:AllBare g')
  (hch:∀b∈ch,(b∈X.ex∨X.s₀.heap.objs.size<=b)/\b≠X.env.locals/\(∀x c,X.env.cells.lookup x=some c->c≠b)/\∀p∈X.pn++pins,p.1≠b) :
  Inv X pins Z3 H' { s with heap:=h',gens:=g',drawn:=d',toks:=t' }:=by
 obtain⟨m,⟨o,es,ep,ho,r⟩,_⟩:=id I.loc;obtain⟨sl,hL⟩:=u.any ho I.free λz=>(hch _ z).2.1 rfl;exact I.step (ch:=ch) hch (λb o hL hb hc e n=>u.keep b o e n (λz=>(U0q.mp (I.Sv b z)).elim hL hb) hc) (λb o _ _ hc e n=>u.any e n hc) (λb o hc e n=>u.free b o e n hc) (λb o hc e=>u.there b o e hc) u.tups u.frzs u.tbls (λm' hm=>by
  obtain⟨o',es',ep',ho',r'⟩:=hm;rw[ho]at ho';cases ho';exact⟨_,es',ep',hL,r'⟩) hok hg u.sy
def Inv.turned{t':Nat}{it:Addr}(I:Inv X pins Z3 H s)(k:∀b o,b≠it->s.heap.get? b=some o->h'.get? b=some o)(hn:H it=none)(hL:it≠X.env.locals)
  (h1:it∈X.ex∨X.s₀.heap.objs.size<=it) (h2:∀x c,X.env.cells.lookup x=some c->c≠it) (h3:∀p∈X.pn++pins,p.1≠it):Inv X pins Z3 H { s with heap:=h',toks:=t' }:=by
 have nit:∀b u,H b=some u->b≠it:=λb u e z=>by rw[z,hn]at e;cases e
 refine I.step (g':=s.gens) (d':=s.drawn) (ch:=[it]) (λb hb=>?_) (λb o _ _ hc e _=>k b o (λz=>hc (by simp[z])) e) (λb o _ _ hc e _=>⟨o.slots,k b o (λz=>hc (by simp[z])) e⟩) (λ_ _ _ _ n=>n)
  (λb o hc e=>⟨o,k b o (λz=>hc (by simp[z])) e⟩) (λ_ _ e=>e) (λ_ _ _ e=>e) (λb ps e=>⟨#[],by rw[e];simp⟩) (λm hm=>?_) (λb u e=>?_) I.bare id
 .have e:b=it:=by simpa using hb
  subst e;exact⟨h1,hL,h2,h3⟩
 .obtain⟨o,es,ep,ho,r⟩:=hm;exact⟨o,es,ep,k _ o (U1n hL) ho,r⟩
 .refine(I.hok b u e).stay (λc v hc q=>k c v ?_ q) (λ_ q=>q) λ_ _ q=>q;rcases hc with z|z
  .rw[z];exact nit b u e
  .exact nit c _ z
def Inv.tok(I:Inv X pins Z3 H s)(t:Nat):Inv X pins Z3 H { s with toks:=t }:=I.un (h':=s.heap) (t':=t) Un.refl I.hok
theorem Inv.kept(I:Inv X pins Z3 H s)(k:∀b u,s.heap.get? b=some u->h'.get? b=some u):Inv X pins Z3 H { s with heap:=h',toks:=t' }:=I.un (Un.kept k) (I.hok.kept k)
theorem Inv.laid(I:Inv X pins Z3 H s)(k:∀b u,s.heap.get? b=some u->h'.get? b=some u)(hp:s.heap.objs.size<=a)(new:Df X.prog X.w (upd H a o) h' a o) :
  Inv X pins Z3 (upd H a o) { s with heap:=h',toks:=t' }:=I.un (Un.laid k hp (I.hok.fresh hp) (U0u (U0w I.gn hp))) (I.hok.laid k hp new)
theorem Inv.write(I:Inv X pins Z3 H s)(mu:Mut (H x))(he:e=x∨H e=some (.own x))(k:∀b u,b≠e->s.heap.get? b=some u->h'.get? b=some u)(heo:∃u,h'.get? e=some u)
  (new:Df X.prog X.w (upd H x o) h' x o):Inv X pins Z3 (upd H x o) { s with heap:=h',toks:=t' }:=I.un (Un.write mu he k heo) (I.hok.write mu he k heo new)
def Inv.weak(I:Inv X pins Z3 H s)(hl:ZZ.length=Z3.length)(w:∀(i:Nat) v,ZZ[i]?=some (some v)->Z3[i]?=some (some v)):Inv X pins ZZ H s:=
 ⟨I.ok,I.os,I.bare,I.base,let ⟨m,hn,hl'⟩:=I.loc;⟨m,hn,λi x v e1 e2 e3=>hl' i x v e1 (w i v e2) e3⟩,I.cell,I.free,I.freeC,I.pin,I.hok,hl.trans I.len⟩
def Inv.Ud(I:Inv X pins Z3 H s)(h:∀p∈pins',s.heap.get? p.1=some p.2/\H p.1=none/\p.1≠X.env.locals/\p.1 ∉ X.fs/\∀v,p.2.data≠.cell v):Inv X pins' Z3 H s:=
 ⟨I.ok,I.os,I.bare,I.base,I.loc,I.cell,I.free,I.freeC,λp hp=>(U0x.mp hp).elim (λz=>I.pin p (U10 _ z)) (h p),I.hok,I.len⟩
def bB{N:List Str}(hN:N.Nodup){i j:Nat}{x:Str}(a:N[i]?=some x)(b:N[j]?=some x):i=j:=by obtain⟨h1,e1⟩:=U0l.mp a;obtain⟨h2,e2⟩:=U0l.mp b;exact(List.getElem_inj hN).mp (e1.trans e2.symm)
theorem YC{M:Model}{A:Around}{E:Value->Shared->Prop}{i:Nat}{x:Str}{v:V}{u:Value}{Q:Unit->Shared->Prop}(I:Inv X pins Z3 H s)(hN:X.N.Nodup)(hi:X.N[i]?=some x)(hx:Loc X.env.scope x)(r:RelV v u)
  (h:∀s',Inv X pins (Z3.set i (some v)) H s'->(∃a,U02 a s.heap s'.heap/\(a=X.env.locals∨X.env.cells.lookup x=some a))->Q () s') (hf:X.fn x=true∨X.env.scope.names.lookup x=some .local:=by first|exact .inl rfl|exact .inr rfl|assumption):wpAny M A (storeName X.env x u) Q E s:=by
 obtain⟨m,hn,hl⟩:=id I.loc;have hcls:(X.env.scope.kind==.class||(X.env.scope.kind==.module&&X.env.locals != X.env.globals))=false:=by rw[I.ok.kind];rfl
 have ZB:i<Z3.length:=by rw[I.len];exact(U0l.mp hi).1
 have cne:=I.cne;have tracked:∀{a:Addr} {h':Heap},(∃o,s.heap.get? a=some o/\H a=none)->U02 a s.heap h'->HOk X.prog X.w H h':=fun {a h'} ha hs b ob e=>by
  obtain⟨_,_,hfree⟩:=ha;refine(I.hok b ob e).stay (λc w' hc q=>(hs.2 c ?_).trans q) (λ_ q=>q) λ_ _ q=>q;rintro rfl;rcases hc with rfl|hc
  .rw[hfree]at e;cases e
  .rw[hfree]at hc;cases hc
 rcases hx with hk|hk
 .refine wpAny_storeName_local hk hn (λh' hn' hs=>?_) hcls;obtain⟨oL,_,_,hoL,_⟩:=id hn;refine h _ ⟨I.ok,I.os,I.bare,⟨λb o e n hb hx=>?_,λb o e n hb hx=>?_,I.base.free,λb o e hx=>?_,I.base.tups,I.base.frzs,I.base.tbls,I.base.sy⟩,⟨_,hn',λj y v' e1 e2 e3=>?_⟩,λy c e=>?_,I.free,I.freeC,λp hp=>?_,tracked ⟨oL,hoL,I.free⟩ hs,by simpa using I.len⟩ ⟨_,hs,.inl rfl⟩
  .exact(hs.2 b (U0u (U0w (U0m e) I.ok.above))).trans (I.base.keep b o e n hb hx)
  .obtain⟨sl,e1⟩:=I.base.slot b o e n hb hx;exact⟨sl,(hs.2 b (U0u (U0w (U0m e) I.ok.above))).trans e1⟩
  .obtain⟨o',e1⟩:=I.base.there b o e hx;exact⟨o',(hs.2 b (U0u (U0w (U0m e) I.ok.above))).trans e1⟩
  .by_cases hj:j=i
   .subst hj;rw[hi]at e1;cases e1;rw[U2p ZB]at e2;cases e2;exact⟨u,r,.inl ⟨hk,by simp⟩⟩
   .rw[U2i (U1n hj)]at e2;obtain⟨u',r',q⟩:=hl j y v' e1 e2 e3;refine⟨u',r',?_⟩;rcases q with ⟨k,e⟩|⟨k,c,e,z⟩
    .refine .inl ⟨k,?_⟩;have:y≠x:=λe=>hj (bB hN e1 (e ▸ hi));simp[this,e]
    .exact .inr ⟨k,c,e,z.sameBut hs (cne y c e)⟩
  .obtain⟨w',z⟩:=I.cell y c e;exact⟨w',z.sameBut hs (cne y c e)⟩
  .obtain⟨e,n,ne,nf,d⟩:=I.pin p hp;exact⟨(hs.2 p.1 ne).trans e,n,ne,nf,d⟩
 .have hfn:X.fn x=true:=by
   rcases hf with z|z
   .exact z
   .rw[z]at hk;cases hk
  obtain⟨c,hc⟩:=I.ok.has x (.inl hk);obtain⟨w',z⟩:=I.cell x c hc;refine wpAny_storeName_cell I.ok.kind hk hc z (λh' hc' hs=>?_);obtain⟨oc,hoc,hocd⟩:=id z;refine h { s with heap:=h' } ⟨I.ok,I.os,I.bare,⟨λb o e n hb hx=>?_,λb o e n hb hx=>?_,I.base.free,λb o e hx=>?_,I.base.tups,I.base.frzs,I.base.tbls,I.base.sy⟩,⟨m,hn.sameBut hs (U1n (cne x c hc)),λj y v' e1 e2 e3=>?_⟩,λy c' e=>?_,I.free,I.freeC,λp hp=>?_,tracked ⟨oc,hoc,I.freeC x c hc⟩ hs,by simpa using I.len⟩ ⟨c,hs,.inr hc⟩
  .exact(hs.2 b (U0u (U0w (U0m e) (I.ok.cab x c hfn hc)))).trans (I.base.keep b o e n hb hx)
  .obtain⟨sl,e1⟩:=I.base.slot b o e n hb hx;exact⟨sl,(hs.2 b (U0u (U0w (U0m e) (I.ok.cab x c hfn hc)))).trans e1⟩
  .obtain⟨o',e1⟩:=I.base.there b o e hx;exact⟨o',(hs.2 b (U0u (U0w (U0m e) (I.ok.cab x c hfn hc)))).trans e1⟩
  .by_cases hj:j=i
   .subst hj;rw[hi]at e1;cases e1;rw[U2p ZB]at e2;cases e2;exact⟨u,r,.inr ⟨.inl hk,c,hc,hc'⟩⟩
   .rw[U2i (U1n hj)]at e2;obtain⟨u',r',q⟩:=hl j y v' e1 e2 e3;refine⟨u',r',?_⟩;rcases q with q|⟨k,c',e,z'⟩
    .exact .inl q
    .refine .inr ⟨k,c',e,z'.sameBut hs ?_⟩;rintro rfl;exact hj (bB hN e1 (I.ok.inj _ _ _ e hc ▸ hi))
  .by_cases hcc:c'=c
   .subst hcc;exact⟨_,hc'⟩
   .obtain⟨w2,z2⟩:=I.cell y c' e;exact⟨w2,z2.sameBut hs hcc⟩
  .obtain⟨e,n,ne,nf,d⟩:=I.pin p hp;refine⟨(hs.2 p.1 ?_).trans e,n,ne,nf,d⟩;intro q;rw[q,hoc]at e;have q':oc=p.2:=U08 e;exact d w' (by rw[←q'];exact hocd)
theorem aQ{E:Value->Shared->Prop}{Q:Unit->Shared->Prop}(I:Inv X pins Z3 H s)(hN:X.N.Nodup)(hi:X.N[i]?=some x)(hx:Loc X.env.scope x)(r:RelV v u)
  (h:∀s',Inv X pins (Z3.set i (some v)) H s'->Q () s') (hf:X.fn x=true∨X.env.scope.names.lookup x=some .local:=by first|exact .inl rfl|exact .inr rfl|assumption):wpAny M A (storeName X.env x u) Q E s:=
 YC I hN hi hx r (λs' I' _=>h s' I') hf
def Inv.call'(I:Inv X pins Z3 H s)(ho:s'.os=s.os)(u:Un (frs X.stack) ch H H' s.heap s'.heap)(hok:HOk X.prog X.w H' s'.heap)(hg:AllBare s'.gens)
  (hch:∀b∈ch,(b∈X.ex∨X.s₀.heap.objs.size<=b)/\b≠X.env.locals/\(∀x c,X.env.cells.lookup x=some c->c≠b)/\∀p∈X.pn++pins,p.1≠b):Inv X pins Z3 H' s':=by
 obtain⟨h',g',d',t',o'⟩:=s';have e:o'=s.os:=ho;subst e;exact I.call (g':=g') (t':=t') (d':=d') u hok hg hch
end
abbrev XK:=Value->Option Addr->Hp->Prop
abbrev St:=List (Option V)
abbrev VK:=V->Hp->Prop
abbrev TE:=St->Hp->VK->Prop
abbrev TT:=St->Hp->(Bool->Hp->Prop)->Prop
abbrev TA:=St->Hp->(List V->Hp->Prop)->Prop
structure Ends where
 nx:St->Hp->Prop
 rt:VK
 bk:St->Hp->Prop:=λ_ _=>False
 ct:St->Hp->Prop:=λ_ _=>False
abbrev TS:=Ends->St->Hp->Prop
def EP(X:Cx)(pins:List (Addr×Obj))(Z3:St)(Q:VK)(u:Value)(s':Shared):Prop:=∃v H',Inv X pins Z3 H' s'/\RelV v u/\Q v H'
def TP(X:Cx)(pins:List (Addr×Obj))(Z3:St)(Q:Bool->Hp->Prop)(b:Bool)(s':Shared):Prop:=∃H',Inv X pins Z3 H' s'/\Q b H'
def AP(X:Cx)(pins:List (Addr×Obj))(Z3:St)(Q:List V->Hp->Prop)(us:List Value)(s':Shared):Prop:=∃vs H',Inv X pins Z3 H' s'/\Vals vs us/\Q vs H'
def SP(X:Cx)(pins:List (Addr×Obj))(D:Ends)(f:Flow)(s':Shared):Prop:=
 match f with
 |.next=>∃ZZ H',Inv X pins ZZ H' s'/\D.nx ZZ H'
 |.brk=>∃ZZ H',Inv X pins ZZ H' s'/\D.bk ZZ H'
 |.cont=>∃ZZ H',Inv X pins ZZ H' s'/\D.ct ZZ H'
 |.ret u=>∃v ZZ H',Inv X pins ZZ H' s'/\RelV v u/\D.rt v H'
def PE(X:Cx)(e:Expr)(t:TE):Prop:=
 ∀(pins:List (Addr×Obj))(s:Shared)(Z3:St)(H:Hp)(Q:VK),Inv X pins Z3 H s->t Z3 H Q->wpAny (model X.prog X.w) X.A (eval e X.env) (EP X pins Z3 Q) X.xe s
def PT(X:Cx)(e:Expr)(t:TT):Prop:=
 ∀(pins:List (Addr×Obj))(s:Shared)(Z3:St)(H:Hp)(Q:Bool->Hp->Prop),Inv X pins Z3 H s->t Z3 H Q->wpAny (model X.prog X.w) X.A (isTrue e X.env (eval e X.env)) (TP X pins Z3 Q) X.xe s
def PW(X:Cx)(e:Expr)(t:TT):Prop:=
 ∀(whole:Sem Value)(pins:List (Addr×Obj))(s:Shared)(Z3:St)(H:Hp)(Q:Bool->Hp->Prop),Inv X pins Z3 H s->t Z3 H Q->wpAny (model X.prog X.w) X.A (isTrue e X.env whole) (TP X pins Z3 Q) X.xe s
def PW.pt(h:PW X e t):PT X e t:=h _
def PA(X:Cx)(es:List Expr)(t:TA):Prop:=
 ∀(pos:Pos)(pins:List (Addr×Obj))(s:Shared)(Z3:St)(H:Hp)(Q:List V->Hp->Prop),Inv X pins Z3 H s->t Z3 H Q->wpAny (model X.prog X.w) X.A (spliced (backTo pos (starEach es X.env))) (AP X pins Z3 Q) X.xe s
def PS(X:Cx)(st:Stmt)(t:TS):Prop:=
 ∀(pins:List (Addr×Obj))(s:Shared)(Z3:St)(H:Hp)(D:Ends),Inv X pins Z3 H s->t D Z3 H->wpAny (model X.prog X.w) X.A (exec st X.env) (SP X pins D) X.xe s
def PSs(X:Cx)(st:List Stmt)(t:TS):Prop:=
 ∀(pins:List (Addr×Obj))(s:Shared)(Z3:St)(H:Hp)(D:Ends),Inv X pins Z3 H s->t D Z3 H->wpAny (model X.prog X.w) X.A (execs st X.env) (SP X pins D) X.xe s
def thn{Zp:Type}{t:Sem Zp}{Q Q':Zp->Shared->Prop}{M:Model}{A:Around}{E:Value->Shared->Prop}{s:Shared}(h:wpAny M A t Q E s)(hQ:∀a s,Q a s->Q' a s):wpAny M A t Q' E s:=U5o h hQ λ_ _ x=>x
section
variable{X:Cx}
def bin{a b:Expr}{ta tb:TE}(ha:PE X a ta)(hb:PE X b tb){pins:List (Addr×Obj)}{s:Shared}{Z3:St}{H:Hp}{R:V->V->Hp->Prop}(I:Inv X pins Z3 H s)(h:ta Z3 H λx H1=>tb Z3 H1 λy H2=>R x y H2)
  {Zp:Type} {Q:Zp->Shared->Prop} {f:Value->Value->Sem Zp}
  (hf:∀v u s2 x y H2,Inv X pins Z3 H2 s2->RelV x v->RelV y u->R x y H2->wpAny (model X.prog X.w) X.A (f v u) Q X.xe s2) :
  wpAny (model X.prog X.w) X.A (eval a X.env) (λv s₁=>wpAny (model X.prog X.w) X.A (eval b X.env) (λu s₂=>wpAny (model X.prog X.w) X.A (f v u) Q X.xe s₂) X.xe s₁) X.xe s:=by
 refine thn (ha pins s Z3 H _ I h) λv s1 ⟨x,H1,I1,r1,q1⟩=>?_;refine thn (hb pins s1 Z3 H1 _ I1 q1) λu s2 ⟨y,H2,I2,r2,q2⟩=>?_;exact hf v u s2 x y H2 I2 r1 r2 q2
def Je1(i:Nat):TE:=λZ3 H Q=>∃v,Z3[i]?=some (some v)/\Q v H
def tC(v:V):TE:=λ_ H Q=>Q v H
def kW(hN:X.N[i]?=some x)(hv:Vis X.env.scope x)(hd:(x==("__debug__":Str))=false:=by decide)(hcd:(x==("__classdict__":Str))=false:=by decide):PE X (.Name x pos) (Je1 i):=by
 exact`zt;obtain⟨v,e,h⟩:=h;obtain⟨m,hn,hl⟩:=I.loc;obtain⟨u,r,l⟩:=hl i x v hN e hv;have fin:EP X pins Z3 Q u s:=⟨v,H,I,r,h⟩;rcases l with ⟨hk,hm⟩|⟨hk,c,hc,hcell⟩
 .exact wpAny_Name (wpAny_loadName_local I.ok.kind hk hn hm fin) hd
 .rcases hk with hk|hk
  .exact wpAny_Name (wpAny_loadName_cell I.ok.kind hk hc hcell fin) hd
  .exact wpAny_Name (wpAny_loadName_free I.ok.kind hk hc hcell fin hcd) hd
def kZ{i j pos}:PE X (.Constant (.int i) j pos) (tC (.int i)):=λ_ _ _ H _ I h=>wpAny_Constant_int ⟨.int i,H,I.tok _,⟨_,rfl⟩,h⟩
def Jd1{b j pos}:PE X (.Constant (.bool b) j pos) (tC (.bl b)):=λ_ _ _ H _ I h=>Constant_bool ⟨.bl b,H,I,rfl,h⟩
def Gl(X:Cx)(x:Str):Prop:=X.env.kindOf x=some .globalImplicit
def Xm{E:Value->Shared->Prop}{Q:Value->Shared->Prop}(I:Inv X pins Z3 H s)(hg:Gl X x)(hm:X.mg x=some u)(h:Q u s)
  (hd:(x==("__debug__":Str))=false:=by decide):wpAny (model X.prog X.w) X.A (eval (.Name x pos) X.env) Q E s:=
 Calls.Name_function_global I.ok.kind hg (Calls.loadGlobal_global (by rw[I.ok.glob];exact I.mod.glob.keeps I.bk) hm h) hd
def Ni{E:Value->Shared->Prop}{Q:Value->Shared->Prop}(I:Inv X pins Z3 H s)(hg:Gl X x)(hm:X.mg x=none)(hv:bootBuiltins x=some u)(h:Q u s)
  (hn:x≠"__name__":=by decide) (hd:(x==("__debug__":Str))=false:=by decide):wpAny (model X.prog X.w) X.A (eval (.Name x pos) X.env) Q E s:=by
 obtain⟨mb,h1,h2⟩:=I.mod.blt;exact Calls.Name_function_global I.ok.kind hg (Calls.loadGlobal_builtin (by rw[I.ok.glob];exact I.mod.glob.keeps I.bk) hm (by rw[I.ok.blt];exact h1.keeps I.bk) ((h2 x hn).trans hv) h) hd
def fK(hg:Gl X x)(hm:X.mg x=some u)(r:RelV v u)(hd:(x==("__debug__":Str))=false:=by decide):PE X (.Name x pos) (tC v):=
 λ_ _ _ H _ I h=>Xm I hg hm ⟨v,H,I,r,h⟩ hd
def wY(hg:Gl X x)(hm:X.mg x=none)(hv:bootBuiltins x=some u)(r:RelV v u)(hn:x≠"__name__":=by decide)(hd:(x==("__debug__":Str))=false:=by decide):PE X (.Name x pos) (tC v):=
 λ_ _ _ H _ I h=>Ni I hg hm hv ⟨v,H,I,r,h⟩ hn hd
variable{a b:Expr}{ta tb:TE}{pos:Pos}
def PC(X:Cx)(op:CmpOp)(a b:Expr)(t:TE):Prop:=
 ∀(pins:List (Addr×Obj))(s:Shared)(Z3:St)(H:Hp)(Q:VK),Inv X pins Z3 H s->t Z3 H Q ->
  wpAny (model X.prog X.w) X.A (eval a X.env) (λv s₁=>wpAny (model X.prog X.w) X.A (eval b X.env) (λu s₂=>wpAny (model X.prog X.w) X.A (compareOp op v u) (EP X pins Z3 Q) X.xe s₂) X.xe s₁) X.xe s
def rJ(b:Expr)(h:op≠.In)(h2:op≠.NotIn):behindInMarks op b=false:=by
 have e1:(op==CmpOp.In)=false:=by cases op<;>first|rfl|exact absurd rfl h
 have e2:(op==CmpOp.NotIn)=false:=by cases op<;>first|rfl|exact absurd rfl h2
 cases b<;>simp[behindInMarks,e1,e2]
def tB(t:TE):TT:=λZ3 H Q=>t Z3 H λx H1=>∃c,x=.bl c/\Q c H1
def Jgg{op:CmpOp}{t:TE}(h:PC X op a b t)(h1:behindInMarks op b=false:=by first|exact rJ _ (by decide) (by decide)|rfl):PT X (.Compare a [op] [b] pos) (tB t):=by intro pins s Z3 H Q I hw;refine wpAny_isTrue_Compare1 (thn (h pins s Z3 H _ I hw) λv s1 h1=>thn h1 λu s2 h2=>thn h2 λc s3 ⟨x,H1,I1,r1,q1⟩=>?_) h1;obtain⟨d,rfl,q⟩:=q1;cases r1;exact U3g ⟨H1,I1,q⟩
def Ja4{e:Expr}{t:TE}(h:PE X e t)(he:∀whole,isTrue e X.env whole=(do let v ←whole;standAt e.pos;holding [v] (truthy v)):=by intro _;rfl):PT X e (tB t):=by intro pins s Z3 H Q I hw;refine isTrue_plain (thn (h pins s Z3 H _ I hw) λv s1 ⟨x,H1,I1,r1,q1⟩=>?_) (he _);obtain⟨d,rfl,q⟩:=q1;cases r1;exact U3g ⟨H1,I1,q⟩
variable{tA tB':TT}{rest:List Expr}
def Nu(t u:TT):TT:=λZ3 H Q=>t Z3 H λc H1=>if c=true then u Z3 H1 Q else Q false H1
def tOr(t u:TT):TT:=λZ3 H Q=>t Z3 H λc H1=>if c=true then Q true H1 else u Z3 H1 Q
def G7(t:TT):TT:=λZ3 H Q=>t Z3 H λc H1=>Q (!c) H1
def vp(ha:PT X a tA):PW X (.BoolOp .And [a] pos) tA:=by
 intro wh pins s Z3 H Q I h;refine isTrue_and (thn (ha pins s Z3 H Q I h) λc s1 e=>?_);cases c with
 |true=>exact isTrue_and_nil e
 |false=>exact e
def Ja2(ha:PT X a tA):PW X (.BoolOp .Or [a] pos) tA:=by
 intro wh pins s Z3 H Q I h;refine isTrue_or (thn (ha pins s Z3 H Q I h) λc s1 e=>?_);cases c with
 |false=>exact isTrue_or_nil e
 |true=>exact e
def Ja3(ha:PT X a tA)(hb:PW X (.BoolOp .And (b::rest) pos) tB'):PW X (.BoolOp .And (a::b::rest) pos) (Nu tA tB'):=by
 intro wh pins s Z3 H Q I h;refine isTrue_and (thn (ha pins s Z3 H _ I h) λc s1 ⟨H1,I1,q1⟩=>?_);cases c with
 |true=>exact hb wh pins s1 Z3 H1 Q I1 q1
 |false=>exact⟨H1,I1,q1⟩
def Jdw(ha:PT X a tA)(hb:PW X (.BoolOp .Or (b::rest) pos) tB'):PW X (.BoolOp .Or (a::b::rest) pos) (tOr tA tB'):=by
 intro wh pins s Z3 H Q I h;refine isTrue_or (thn (ha pins s Z3 H _ I h) λc s1 ⟨H1,I1,q1⟩=>?_);cases c with
 |true=>exact⟨H1,I1,q1⟩
 |false=>exact hb wh pins s1 Z3 H1 Q I1 q1
def Ja5(ha:PT X a tA):PT X (.UnaryOp .Not a pos) (G7 tA):=by exact`zt;exact isTrue_not (ha pins s Z3 H (λc H1=>Q (!c) H1) I h)
def Jdp(ta tb:TE):TE:=λZ3 H Q=>ta Z3 H λx H1=>∃c,x=.bl c/\if c=true then tb Z3 H1 Q else Q (.bl false) H1
def Jdm(ta:TE):TE:=λZ3 H Q=>ta Z3 H λx H1=>∃c,x=.bl c/\Q (.bl (!c)) H1
def Jbd{op}(h:PE X a t):PE X (.BoolOp op [a] pos) t:=λpins s Z3 H Q I hw=>BoolOp_one (h pins s Z3 H Q I hw)
def Jbf(ha:PE X a ta)(hb:PE X (.BoolOp .And (b::rest) pos) tb):PE X (.BoolOp .And (a::b::rest) pos) (Jdp ta tb):=by
 exact`zt;refine BoolOp_and (thn (ha pins s Z3 H _ I h) λv s1 ⟨x,H1,I1,r1,q1⟩=>?_);obtain⟨c,rfl,q1⟩:=q1;cases r1;refine U3g ?_;cases c with
 |true=>exact hb pins s1 Z3 H1 Q I1 q1
 |false=>exact⟨.bl false,H1,I1,rfl,q1⟩
def Jbe(ha:PE X a ta):PE X (.UnaryOp .Not a pos) (Jdm ta):=by exact`zt;refine UnaryOp_ (thn (ha pins s Z3 H _ I h) λv s1 ⟨x,H1,I1,r1,q1⟩=>?_);obtain⟨c,rfl,q1⟩:=q1;cases r1;exact not_of (U3g ⟨.bl (!c),H1,I1,rfl,q1⟩)
def tIf(t:TT)(ta tb:TE):TE:=λZ3 H Q=>t Z3 H λc H1=>if c=true then ta Z3 H1 Q else tb Z3 H1 Q
def rC{c:Expr}(hc:PT X c tA)(ha:PE X a ta)(hb:PE X b tb):PE X (.IfExp c a b pos) (tIf tA ta tb):=by
 exact`zt;refine wpAny_IfExp (thn (hc pins s Z3 H _ I h) λd s1 ⟨H1,I1,q1⟩=>?_);cases d with
 |true=>exact ha pins s1 Z3 H1 Q I1 q1
 |false=>exact hb pins s1 Z3 H1 Q I1 q1
end
def SqL(K:U0e)(H:Hp)(a:Addr)(xs:List V):Prop:=
 Rd H a (.lst xs) ∨
  ∃(o:Obj)(its:Array Value)(n:Nat),K.lookup a=some o/\o.cls=.type "list"/\o.dict=none/\o.data=.seq its n/\its.size<=sizeLine/\Vals xs its.toList
def SqT(K:U0e)(H:Hp)(a:Addr)(xs:List V):Prop:=
 Rd H a (.tup xs) ∨
  ∃(o:Obj)(its:Array Value)(n:Nat),K.lookup a=some o/\o.cls=.type "tuple"/\o.data=.seq its n/\its.size<=sizeLine/\Vals xs its.toList
def Jfu:Value->Option V
 |.none=>some .non
 |.bool b=>some (.bl b)
 |.int i _=>some (.int i)
 |.str x _=>some (.str x)
 |.bytes b _=>some (.byt b)
 |.float b _=>some (.flt b)
 |.ref a=>some (.ref a)
 |.type n=>some (.ty n)
 |_=>none
def RelV.abs(r:RelV x u):Jfu u=some x:=by
 cases x with
 |non=>cases r;rfl
 |bl _=>cases r;rfl
 |int _=>obtain⟨t,rfl⟩:=r;rfl
 |str _=>obtain⟨t,rfl⟩:=r;rfl
 |byt _=>obtain⟨t,rfl⟩:=r;rfl
 |flt _=>obtain⟨t,rfl⟩:=r;rfl
 |ref _=>cases r;rfl
 |ty _=>cases r;rfl
def RelV.inj{x y:V}{u:Value}(r:RelV x u)(q:RelV y u):x=y:=U08 (r.abs.symm.trans q.abs)
theorem Vals.inj:∀{xs ys:List V} {us:List Value},Vals xs us->Vals ys us->xs=ys
 |_,_,_,.nil,.nil=>rfl
 |_,_,_,.cons r t,.cons r' t'=>by rw[r.inj r',Vals.inj t t']
section
variable{X:Cx}{pins:List (Addr×Obj)}{Z3:St}{H:Hp}{s:Shared}{a:Addr}{xs ys:List V}
def SqL.of{K:U0e}(h:H a=some (.lst xs)):SqL K H a xs:=.inl (.inl h)
def SqT.of{K:U0e}(h:H a=some (.tup xs)):SqT K H a xs:=.inl (.inl h)
theorem Inv.list(I:Inv X pins Z3 H s)(h:SqL X.K H a xs):∃its:List Value,Vals xs its/\PlainL s.heap a its.toArray/\xs.length<=sizeLine:=by
 rcases h with h|⟨o,its,n,hk,hc,hd,hs,hz,r⟩
 .obtain⟨z,its,n,r,e⟩:=h.ok I.hok;exact⟨its,r,⟨_,n,e,rfl,rfl,rfl⟩,z⟩
 .refine⟨its.toList,r,⟨o,n,I.kIn a o hk,hc,hd,by simpa using hs⟩,?_⟩;have e:=r.length;simp only[U1j]at e;lia
theorem Inv.tuple(I:Inv X pins Z3 H s)(h:SqT X.K H a xs):∃its:List Value,Vals xs its/\IsTup s.heap a its.toArray/\xs.length<=sizeLine:=by
 rcases h with h|⟨o,its,n,hk,hc,hs,hz,r⟩
 .obtain⟨z,its,r,p⟩:=h.ok I.hok;exact⟨its,r,p,z⟩
 .refine⟨its.toList,r,⟨o,I.kIn a o hk,hc,n,by simpa using hs⟩,?_⟩;have e:=r.length;simp only[U1j]at e;lia
def Inv.bD(I:Inv X pins Z3 H s)(h:SqL X.K H a xs)(h':SqL X.K H a ys):xs=ys:=by
 obtain⟨its,r,⟨o,n,e,_,_,d⟩,_⟩:=I.list h;obtain⟨its',r',⟨o',n',e',_,_,d'⟩,_⟩:=I.list h';rw[e]at e';cases e';rw[d]at d';injection d' with d1 _
 have:its=its':=by simpa using congrArg Array.toList d1
 subst this;exact r.inj r'
def Inv.mK(I:Inv X pins Z3 H s)(h:SqT X.K H a xs)(h':SqT X.K H a ys):xs=ys:=by
 obtain⟨its,r,⟨o,e,_,n,d⟩,_⟩:=I.tuple h;obtain⟨its',r',⟨o',e',_,n',d'⟩,_⟩:=I.tuple h';rw[e]at e';cases e';rw[d]at d';injection d' with d1 _
 have:its=its':=by simpa using congrArg Array.toList d1
 subst this;exact r.inj r'
end
abbrev Cx.wish(X:Cx)(E:Value->Shared->Prop):Cx:={ X with xe:=E }
abbrev Cx.nox(X:Cx):Cx:=X.wish λ_ _=>False
theorem Cx.Ok.wish{X:Cx}(ok:X.Ok)(E:Value->Shared->Prop):(X.wish E).Ok:=
 ⟨ok.mod,ok.kind,ok.glob,ok.blt,ok.above,ok.inj,ok.has,ok.cab,ok.hd,ok.frames,ok.stk,ok.exf,ok.bs,ok.bsz,ok.noex,ok.exfs,ok.Ow,ok.frf,ok.sy⟩
def Cx.Ok.Nf{X:Cx}{E:Value->Shared->Prop}(ok:(X.wish E).Ok):X.Ok:=
 ⟨ok.mod,ok.kind,ok.glob,ok.blt,ok.above,ok.inj,ok.has,ok.cab,ok.hd,ok.frames,ok.stk,ok.exf,ok.bs,ok.bsz,ok.noex,ok.exfs,ok.Ow,ok.frf,ok.sy⟩
section
variable{X:Cx}{pins:List (Addr×Obj)}{Z3:St}{H:Hp}{s:Shared}{E:Value->Shared->Prop}
theorem Inv.wish(I:Inv X pins Z3 H s)(E:Value->Shared->Prop):Inv (X.wish E) pins Z3 H s:=⟨I.ok.wish E,I.os,I.bare,I.base,I.loc,I.cell,I.free,I.freeC,I.pin,I.hok,I.len⟩
theorem Inv.Nf(I:Inv (X.wish E) pins Z3 H s):Inv X pins Z3 H s:=⟨I.ok.Nf,I.os,I.bare,I.base,I.loc,I.cell,I.free,I.freeC,I.pin,I.hok,I.len⟩
theorem SP.Nf(h:SP (X.wish E) pins D f s'):SP X pins D f s':=by
 cases f with
 |next=>obtain⟨ZZ,H',I,q⟩:=h;exact⟨ZZ,H',I.Nf,q⟩
 |brk=>obtain⟨ZZ,H',I,q⟩:=h;exact⟨ZZ,H',I.Nf,q⟩
 |cont=>obtain⟨ZZ,H',I,q⟩:=h;exact⟨ZZ,H',I.Nf,q⟩
 |ret u=>obtain⟨v,ZZ,H',I,r,q⟩:=h;exact⟨v,ZZ,H',I.Nf,r,q⟩
theorem PSs.nox{st:List Stmt}{t:TS}(h:PSs X.nox st t):PSs X st t:=λpins s Z3 H D I hw=>
 U5o (h pins s Z3 H D (I.wish _) hw) (λ_ _ q=>q.Nf) λ_ _ z=>U4p z
end
section
variable{X:Cx}{st:Stmt}{rest:List Stmt}{t u:TS}{e:Expr}{te:TE}{pos:Pos}
def Jdn:TS:=λD Z3 H=>D.nx Z3 H
def Je2(t u:TS):TS:=λD Z3 H=>t { D with nx:=u D } Z3 H
def wH:PSs X [] Jdn:=λ_ _ Z3 H _ I h=>U8e ⟨Z3,H,I,h⟩
def qu(h1:PS X st t)(h2:PSs X rest u):PSs X (st::rest) (Je2 t u):=by
 intro pins s Z3 H D I h;refine wpAny_execs_cons (thn (h1 pins s Z3 H { D with nx:=u D } I h) λf s1 q=>?_);cases f with
 |next=>
  obtain⟨ZZ,H',I',q⟩:=q;exact h2 pins s1 ZZ H' D I' q
 |ret v=>exact q
 |brk=>exact q
 |cont=>exact q
def wG(h1:PS X st t):PSs X [st] t:=by
 intro pins s Z3 H D I h;refine wpAny_execs_cons (thn (h1 pins s Z3 H D I h) λf s1 q=>?_);cases f with
 |next=>exact U8e q
 |ret v=>exact q
 |brk=>exact q
 |cont=>exact q
def Inv.quiet(I:Inv X pins Z3 H s):interactive X.env=false:=by simp[interactive,I.ok.kind]
def Jdo(te:TE):TS:=λD Z3 H=>te Z3 H λ_ H1=>D.nx Z3 H1
def wJ(he:PE X e te)(hs:swapsWith e none pos.line X.env=pure false:=by rfl):PS X (.Expr e pos) (Jdo te):=by intro pins s Z3 H D I h;exact wpAny_Expr_any (thn (he pins s Z3 H _ I h) λv s1 ⟨x,H1,I1,r1,q1⟩=>⟨Z3,H1,I1,q1⟩) I.quiet hs
def Je3(te:TE):TS:=λD Z3 H=>te Z3 H D.rt
def Ja7(he:PE X e te):PS X (.Return (some e) pos) (Je3 te):=by intro pins s Z3 H D I h;exact wpAny_Return_some (thn (he pins s Z3 H _ I h) λv s1 ⟨x,H1,I1,r1,q1⟩=>⟨x,Z3,H1,I1,r1,q1⟩)
def Je5(c:TT)(t u:TS):TS:=λD Z3 H=>c Z3 H λb H1=>if b=true then t D Z3 H1 else u D Z3 H1
def Jdx{c:Expr}{a b:List Stmt}{tc:TT}(hc:PT X c tc)(ha:PSs X a t)(hb:PSs X b u):PS X (.If c a b pos) (Je5 tc t u):=by
 intro pins s Z3 H D I h;refine wpAny_If (thn (hc pins s Z3 H _ I h) λd s1 ⟨H1,I1,q1⟩=>?_);cases d with
 |true=>exact ha pins s1 Z3 H1 D I1 q1
 |false=>exact hb pins s1 Z3 H1 D I1 q1
def Jas:TS:=λ_ _ _=>False
def qw:PS X st Jas:=λ_ _ _ _ _ _ h=>h.elim
end
abbrev TG:=V->St->Hp->(St->Hp->Prop)->Prop
abbrev TGs:=List V->St->Hp->(St->Hp->Prop)->Prop
def PG(X:Cx)(target:Expr)(t:TG):Prop:=
 ∀(pins:List (Addr×Obj))(s:Shared)(Z3:St)(H:Hp)(v:V)(u:Value)(Q:St->Hp->Prop),Inv X pins Z3 H s->RelV v u->t v Z3 H Q ->
  wpAny (model X.prog X.w) X.A (assign target X.env u) (λ_ s'=>∃ZZ H',Inv X pins ZZ H' s'/\Q ZZ H') X.xe s
def PGs(X:Cx)(ts:List Expr)(t:TGs):Prop:=
 ∀(pins:List (Addr×Obj))(s:Shared)(Z3:St)(H:Hp)(vs:List V)(us:List Value)(Q:St->Hp->Prop),Inv X pins Z3 H s->Vals vs us->t vs Z3 H Q ->
  wpAny (model X.prog X.w) X.A (assignInOrder ((assignEach ts X.env).map (·.2)) us) (λ_ s'=>∃ZZ H',Inv X pins ZZ H' s'/\Q ZZ H') X.xe s
abbrev qI:=V->V->V->Hp->(Hp->Prop)->Prop
def Jah(X:Cx)(t:qI):Prop:=
 ∀(pins:List (Addr×Obj))(s:Shared)(Z3:St)(H:Hp)(o i v:V)(ov iv u:Value)(Q:Hp->Prop),Inv X pins Z3 H s->RelV o ov->RelV i iv->RelV v u->t o i v H Q ->
  wpAny (model X.prog X.w) X.A (setItem ov iv u) (λ_ s'=>∃H',Inv X pins Z3 H' s'/\Q H') X.xe s
section
variable{X:Cx}{pos:Pos}
def ZF(i:Nat):TG:=λv Z3 H Q=>Q (Z3.set i (some v)) H
theorem wU(hN:X.N.Nodup)(hi:X.N[i]?=some x)(hx:Loc X.env.scope x)(hf:X.fn x=true∨X.env.scope.names.lookup x=some .local:=by first|exact .inl rfl|exact .inr rfl|assumption):PG X (.Name x pos) (ZF i):=by intro pins s Z3 H v u Q I r h;exact wpAny_assign_Name (aQ I hN hi hx r (λs' I'=>⟨_,H,I',h⟩) hf)
def pZ:TGs:=λvs Z3 H Q=>vs=[]/\Q Z3 H
def iZ(t:TG)(u:TGs):TGs:=λvs Z3 H Q=>∃v r,vs=v::r/\t v Z3 H λZZ H'=>u r ZZ H' Q
def wR:PGs X [] pZ:=by intro pins s Z3 H vs us Q I r h;obtain⟨e,h⟩:=h;subst e;cases r;exact assignInOrder_nil ⟨Z3,H,I,h⟩
def qz{e:Expr}{es:List Expr}{t:TG}{u:TGs}(h1:PG X e t)(h2:PGs X es u)
  (hs:(assignEach (e::es) X.env).map (·.2)=assign e X.env::(assignEach es X.env).map (·.2):=by rfl):PGs X (e::es) (iZ t u):=by
 intro pins s Z3 H vs us Q I r h;obtain⟨v,vr,e1,h⟩:=h;subst e1;cases r with
 |cons r rr=>
  rw[hs];refine assignInOrder_cons (thn (h1 pins s Z3 H _ _ _ I r h) λ_ s1 ⟨ZT,H1,I1,q1⟩=>?_);exact h2 pins s1 ZT H1 _ _ Q I1 rr q1
def pY(K:U0e)(n:Nat)(t:TGs):TG:=λv Z3 H Q=>∃a xs,v=.ref a/\SqT K H a xs/\xs.length=n/\t xs Z3 H Q
def Jba(hc:X.calm=true)(h:PGs X es t)
  (hn:(assignEach es X.env).length=n:=by rfl) (hst:(assignEach es X.env).findIdx? (·.1)=none:=by rfl):PG X (.Tuple es k pos) (pY X.K n t):=by
 intro pins s Z3 H v u Q I r hw;obtain⟨a,xs,e1,hq,hl,hw⟩:=hw;subst e1;cases r;obtain⟨its,rv,ht,hz⟩:=I.tuple hq;refine assign_Tuple_tuple (I.ok.hd hc) ht (by simp[hn,←hl,rv.length]) hst λh' hx=>?_;have I1:Inv X pins Z3 H { s with heap:=h' }:=I.kept (t':=s.toks) λb o e=>hx b o (U0u (U0m e)) e;exact h pins _ Z3 H xs _ Q I1 (by simpa using rv) hw
def Jfj(to ti:TE)(t:qI):TG:=λv Z3 H Q=>to Z3 H λo H1=>ti Z3 H1 λi H2=>t o i v H2 λH3=>Q Z3 H3
def Jbb{o i:Expr}{to ti:TE}{t:qI}(ho:PE X o to)(hi:PE X i ti)(hs:Jah X t)
  (ha:∀v,assign (.Subscript o i pos) X.env v=(do
   let ov ←holding [v] (eval o X.env);let iv ←holding [v,ov] (eval i X.env)
   standAt pos
   holding [v,ov,iv] (setItem ov iv v)
   release [v,ov,iv] []):=by intro _;rfl):PG X (.Subscript o i pos) (Jfj to ti t):=by
 intro pins s Z3 H v u Q I r h;rw[ha];refine U0 (U1u (thn (ho pins s Z3 H _ I h) λov s1 ⟨x,H1,I1,r1,q1⟩=>?_));refine U0 (U1u (thn (hi pins s1 Z3 H1 _ I1 q1) λiv s2 ⟨y,H2,I2,r2,q2⟩=>?_));refine U0 (wpAny_standAt (U0 (U1u (thn (hs pins s2 Z3 H2 x y v ov iv u _ I2 r1 r2 r q2) λ_ s3 ⟨H3,I3,q3⟩=>?_))));exact wpAny_release ⟨Z3,H3,I3,q3⟩
def zM(te:TE)(g:TG):TS:=λD Z3 H=>te Z3 H λx H1=>g x Z3 H1 D.nx
def kJ{tg e:Expr}{te:TE}{g:TG}(he:PE X e te)(hg:PG X tg g)(hs:swapsWithSole [tg] e pos.line X.env=pure false:=by rfl)(hw:swappedStores [tg] e X.env=pure none:=by rfl)
  (h1:(assignEach [tg] X.env).map (·.2)=[assign tg X.env]:=by rfl):PS X (.Assign [tg] e pos) (zM te g):=by
 intro pins s Z3 H D I h;refine wpAny_Assign_stores (thn (he pins s Z3 H _ I h) λv s1 ⟨x,H1,I1,r1,q1⟩=>?_) hs hw;rw[h1];exact thn (hg pins s1 Z3 H1 x v _ I1 r1 q1) λ_ s2 q=>q
def Ja6{i:Nat}{x:Str}{e:Expr}{te:TE}{pos':Pos}(hN:X.N.Nodup)(hi:X.N[i]?=some x)(hx:Loc X.env.scope x)(he:PE X e te)(hs:swapsWith e (some (.Name x pos')) pos.line X.env=pure false:=by rfl)(hf:X.fn x=true∨X.env.scope.names.lookup x=some .local:=by first|exact .inl rfl|exact .inr rfl|assumption) :
  PS X (.Assign [.Name x pos'] e pos) (zM te (ZF i)):=by
 intro pins s Z3 H D I h;refine wpAny_Assign_Name (thn (he pins s Z3 H _ I h) λv s1 ⟨y,H1,I1,r1,q1⟩=>?_) hs;exact aQ I1 hN hi hx r1 (λs2 I2=>⟨_,H1,I2,q1⟩) hf
end
structure It where
 go:Nat->Hp->Prop
 yld:Nat->Hp->V->Hp->Prop
 stop:Nat->Hp->Prop
def Qg(X:Cx)(pins:List (Addr×Obj))(H:Hp)(b:Addr):Prop:=
 H b=none/\b≠X.env.locals/\b ∉ X.fs/\(b∈X.ex∨X.s₀.heap.objs.size<=b)/\(∀x c,X.env.cells.lookup x=some c->c≠b)/\∀p∈X.pn++pins,p.1≠b
def Inv.Xa(I:Inv X pins Z3 H s)(hb:s.heap.objs.size<=b)(hn:H' b=none):Qg X pins H' b:=by
 refine⟨hn,U1r (U0w I.lt hb),I.pR hb,.inr (U01 I.sz hb),λx c e z=>?_,λp hp z=>?_⟩
 .obtain⟨v,q⟩:=I.cell x c e;exact absurd (U0w q.lt (by rw[z];exact hb)) (U3s _)
 .exact absurd (U0w (U0m (I.pin p hp).1) (by rw[z];exact hb)) (U3s _)
structure Turn(P:Program)(w:World)(K:U0e)(tg:Expr)(J:It)(fp:List Addr)(it:Addr)(tn:Nat->Heap->Prop):Prop where
 mem:it∈fp
 obj:∀i h,tn i h->∀b∈fp,∃o,h.get? b=some o/\∀v,o.data≠.cell v
 keep:∀i h h',tn i h->(∀b∈fp,∀o,h.get? b=some o->h'.get? b=some o)->tn i h'
 item:∀(X:Cx),X.prog=P->X.w=w->X.K=K->X.calm=true->∀(i:Nat)(pins:List (Addr×Obj))(s:Shared)(Z3:St)(H:Hp)(E:Value->Shared->Prop),Inv X pins Z3 H s->(∀b∈fp,Qg X pins H b)->tn i s.heap->J.go i H ->
  wpAny (model P w) X.A (pyNext (.ref it)) (λr s1=>∃u,r=some u /\
   wpAny (model P w) X.A (letOwnedTupleGo tg (.ref it) u) (λ_ s2=>∃x H',Inv X pins Z3 H' s2/\RelV x u/\J.yld i H x H'/\tn (i+1) s2.heap/\∀b∈fp,H' b=none) E s1) E s
 done:∀(X:Cx),X.prog=P->X.w=w->X.K=K->X.calm=true->∀(i:Nat)(pins:List (Addr×Obj))(s:Shared)(Z3:St)(H:Hp)(E:Value->Shared->Prop),Inv X pins Z3 H s->(∀b∈fp,Qg X pins H b)->tn i s.heap->J.stop i H ->
  wpAny (model P w) X.A (pyNext (.ref it)) (λr s1=>r=none/\Inv X pins Z3 H s1) E s
 self:∀(A:Around)(i:Nat)(s:Shared)(Q:Value->Shared->Prop)(E:Value->Shared->Prop),tn i s.heap->Q (.ref it) s->wpAny (model P w) A (pyIter (.ref it)) Q E s
abbrev TI:=St->Hp->(It->Hp->Prop)->Prop
def PIE(X:Cx)(pins:List (Addr×Obj))(Z3:St)(tg:Expr)(R:It->Hp->Prop)(itv:Value)(s2:Shared):Prop:=
 ∃(it:Addr)(fp:List Addr)(tn:Nat->Heap->Prop)(J:It)(H':Hp),itv=.ref it/\Inv X pins Z3 H' s2/\Turn X.prog X.w X.K tg J fp it tn/\tn 0 s2.heap/\(∀b∈fp,Qg X pins H' b)/\R J H'
def PI(X:Cx)(tg iter:Expr)(wi:TI):Prop:=
 ∀(pins:List (Addr×Obj))(s:Shared)(Z3:St)(H:Hp)(R:It->Hp->Prop),Inv X pins Z3 H s->wi Z3 H R ->
  wpAny (model X.prog X.w) X.A (eval iter X.env) (λv s1=>wpAny (model X.prog X.w) X.A (pyIter v) (PIE X pins Z3 tg R) X.xe s1) X.xe s
def iY{E:Value->Shared->Prop}{Q:Unit->Shared->Prop}(ho:s.heap.get? it=some o)(hc:o.cls=.type n)(hd:o.data=.fields vs)
  (hn:["enumerate","zip","dict_itemiterator","dict_reverseitemiterator","odict_iterator","itertools.zip_longest","itertools.pairwise"].contains n=false) (hQ:Q () s):wpAny M A (letOwnedTupleGo tg (.ref it) u) Q E s:=by
 unfold letOwnedTupleGo;cases tg<;>first
  |exact U0c hQ
  |(cases u<;>first
    |exact U0c hQ
    |(refine U0 (wpAny_load ho ?_)
      rw[hc,hd];show wpAny M A (if (["enumerate","zip","dict_itemiterator","dict_reverseitemiterator","odict_iterator","itertools.zip_longest","itertools.pairwise"].contains n&&vs[0]?==some (rawInt _))=true then _ else _) Q E s;rw[if_neg (by intro h;rw[hn,U56]at h;cases h)];exact U0c hQ))
def Itl(K:U0e)(a:Addr):It:=
 ⟨λi H=>∃xs x,SqL K H a xs/\xs[i]?=some x,λi H x H'=>H'=H/\∀xs,SqL K H a xs->xs[i]?=some x,λi H=>∃xs,SqL K H a xs/\xs.length<=i⟩
def Itt(K:U0e)(a:Addr):It:=
 ⟨λi H=>∃xs x,SqT K H a xs/\xs[i]?=some x,λi H x H'=>H'=H/\∀xs,SqT K H a xs->xs[i]?=some x,λi H=>∃xs,SqT K H a xs/\xs.length<=i⟩
def Itr(lo:Int)(n:Nat):It:=⟨λi _=>i<n,λi H x H'=>H'=H/\x=.int (lo+i),λi _=>n<=i⟩
def mH{P:Program}{w:World}{K:U0e}{tg:Expr}(a it:Addr):Turn P w K tg (Itl K a) [it] it (λi h=>h.IsListIter it a i) where
 mem:=by simp
 obj:=λi h st b hb=>by
  have e:b=it:=by simpa using hb
  subst e;obtain⟨o,e,c,d⟩:=st;exact⟨o,e,λv z=>by rw[d]at z;cases z⟩
 keep:=λi h h' st k=>st.at λo e=>k it (by simp) o e
 item:=by exact`zk;subst hP hw hK;obtain⟨xs,x,hq,hx⟩:=hg;obtain⟨its,rv,p,hz⟩:=I.list hq;obtain⟨u,hu,ru⟩:=rv.get hx;obtain⟨f0,f1,f2,f3,f4,f5⟩:=hf it (by simp);refine U6h st p.isList (x:=u) (by simpa using hu) λh' st' sb=>?_;have I1:Inv X pins Z3 H { s with heap:=h' }:=I.turned (t':=s.toks) (λb o hb e=>(sb.2 b hb).trans e) f0 f1 f3 f4 f5;obtain⟨o,e,c,d⟩:=id st';exact⟨u,rfl,iY (s:={ s with heap:=h' }) e c d (by decide) ⟨x,H,I1,ru,⟨rfl,λys hy=>by rw[I.bD hy hq];exact hx⟩,st',λb hb=>(hf b hb).1⟩⟩
 done:=by exact`zk;subst hP hw hK;obtain⟨xs,hq,hx⟩:=hg;obtain⟨its,rv,p,hz⟩:=I.list hq;obtain⟨f0,f1,f2,f3,f4,f5⟩:=hf it (by simp);have hl:=rv.length;exact U6s (I.ok.hd hc) st p.isList (by simp;lia) λh' eb=>⟨rfl,I.turned (t':=s.toks) (λb o hb e=>eb b o hb e) f0 f1 f3 f4 f5⟩
 self:=λ_ _ _ _ _ st h=>wpAny_pyIter_listiter st h
def j7{P:Program}{w:World}{K:U0e}{tg:Expr}(a it:Addr):Turn P w K tg (Itt K a) [it] it (λi h=>h.IsTupleIter it a i) where
 mem:=by simp
 obj:=λi h st b hb=>by
  have e:b=it:=by simpa using hb
  subst e;obtain⟨o,e,c,d⟩:=st;exact⟨o,e,λv z=>by rw[d]at z;cases z⟩
 keep:=λi h h' st k=>st.at λo e=>k it (by simp) o e
 item:=by exact`zk;subst hP hw hK;obtain⟨xs,x,hq,hx⟩:=hg;obtain⟨its,rv,p,hz⟩:=I.tuple hq;obtain⟨u,hu,ru⟩:=rv.get hx;obtain⟨f0,f1,f2,f3,f4,f5⟩:=hf it (by simp);refine wpAny_pyNext_tuple_item st (show s.heap.IsTuple a its.toArray from p) (x:=u) (by simpa using hu) λh' st' sb=>?_;have I1:Inv X pins Z3 H { s with heap:=h' }:=I.turned (t':=s.toks) (λb o hb e=>(sb.2 b hb).trans e) f0 f1 f3 f4 f5;obtain⟨o,e,c,d⟩:=id st';exact⟨u,rfl,iY (s:={ s with heap:=h' }) e c d (by decide) ⟨x,H,I1,ru,⟨rfl,λys hy=>by rw[I.mK hy hq];exact hx⟩,st',λb hb=>(hf b hb).1⟩⟩
 done:=by exact`zk;subst hP hw hK;obtain⟨xs,hq,hx⟩:=hg;obtain⟨its,rv,p,hz⟩:=I.tuple hq;obtain⟨f0,f1,f2,f3,f4,f5⟩:=hf it (by simp);have hl:=rv.length;exact wpAny_pyNext_tuple_end (I.ok.hd hc) st (show s.heap.IsTuple a its.toArray from p) (by simp;lia) λh' eb=>⟨rfl,I.turned (t':=s.toks) (λb o hb e=>eb b o hb e) f0 f1 f3 f4 f5⟩
 self:=λ_ _ _ _ _ st h=>wpAny_pyIter_tupleiter st h
def j8{P:Program}{w:World}{K:U0e}{tg:Expr}(it:Addr)(lo:Int)(n:Nat):Turn P w K tg (Itr lo n) [it] it (λi h=>IsRangeIter h it (lo+(i:Nat)*1) ((n:Int)-(i:Nat)) 1) where
 mem:=by simp
 obj:=λi h st b hb=>by
  have e:b=it:=by simpa using hb
  subst e;exact⟨_,st,λv z=>by
   have z':Data.fields _=Data.cell v:=z;cases z'⟩
 keep:=λi h h' st k=>k it (by simp) _ st
 item:=by exact`zk;subst hP hw hK;obtain⟨f0,f1,f2,f3,f4,f5⟩:=hf it (by simp);have W:=Walks.range (prog:=X.prog) (w:=X.w) (I.ok.hd hc) it lo 1 n;refine W.item i s _ _ hg st λv h' tk hv st' kk=>?_;obtain⟨t,rfl⟩:=hv;have I1:Inv X pins Z3 H { s with heap:=h',toks:=tk }:=I.turned (λb o hb e=>kk b o (by simpa using hb) e) f0 f1 f3 f4 f5;refine⟨_,rfl,iY (s:={ s with heap:=h',toks:=tk }) (n:="range_iterator") st' rfl rfl (by decide) ⟨.int (lo+i),H,I1,⟨t,?_⟩,⟨rfl,rfl⟩,st',λb hb=>(hf b hb).1⟩⟩;rw[U83]
 done:=by exact`zk;subst hP hw hK;obtain⟨f0,f1,f2,f3,f4,f5⟩:=hf it (by simp);exact wpAny_pyNext_range_end (I.ok.hd hc) st (by have:n<=i:=hg;lia) λh' eb=>⟨rfl,I.turned (t':=s.toks) (λb o hb e=>eb b o hb e) f0 f1 f3 f4 f5⟩
 self:=λ_ _ _ _ _ st h=>wpAny_pyIter_rangeiter st h
section
variable{X:Cx}{tg:Expr}
def qj{pins:List (Addr×Obj)}{Z3:St}{H:Hp}{s:Shared}{R:It->Hp->Prop}{E:Value->Shared->Prop}{lo hi:Int}{t u v:Tok}{tk:Nat}(I:Inv X pins Z3 H s)(h1:-(2^62)<=lo)(h2:lo<2^62)(h3:-(2^62)<=hi)(h4:hi<2^62)
  (q:R (Itr lo (hi-lo).toNat) H):wpAny (model X.prog X.w) X.A (pyIter (.ref s.heap.objs.size)) (PIE X pins Z3 tg R) E { s with heap:=s.heap.push { cls:=.type "range",data:=.fields #[.int lo t,.int hi u,.int 1 v] },toks:=tk }:=by
 refine wpAny_pyIter_range (IsRange.new ..) (small_one h1 h2 h3 h4) ?_;have I1:Inv X pins Z3 H { s with heap:=s.heap.push { cls:=.type "range",data:=.fields #[.int lo t,.int hi u,.int 1 v] },toks:=tk }:=I.kept λb o e=>U0a _ e;refine⟨(s.heap.push { cls:=.type "range",data:=.fields #[.int lo t,.int hi u,.int 1 v] }).objs.size,[(s.heap.push { cls:=.type "range",data:=.fields #[.int lo t,.int hi u,.int 1 v] }).objs.size],_,_,H,rfl,
  I1.kept (t':=tk) λb o e=>U0a _ e,j8 _ lo (hi-lo).toNat,?_,λb hb=>?_,q⟩
 .have e1:lo+((0:Nat):Int)*1=lo:=by simp
  have e2:(((hi-lo).toNat:Nat):Int)-((0:Nat):Int)=Builtin.Range.rangeSize lo hi 1:=by rw[rangeSize_one];split<;>lia
  show IsRangeIter _ _ (lo+((0:Nat):Int)*1) ((((hi-lo).toNat:Nat):Int)-((0:Nat):Int)) 1;rw[e1,e2];exact U0s _ rfl
 .have e:b=(s.heap.push { cls:=.type "range",data:=.fields #[.int lo t,.int hi u,.int 1 v] }).objs.size:=by simpa using hb
  subst e;exact I1.Xa (U0o _) (I1.hok.fresh (U0o _))
def Jec(ta:TA):TI:=λZ3 H R=>ta Z3 H λvs H1=>∃j:Int,vs=[.int j]/\-(2^62)<=j/\j<2^62/\R (Itr 0 j.toNat) H1
theorem nO{a:Expr}{ta:TA}{p pos:Pos}(hg:Gl X "range")(hm:X.mg "range"=none)(ha:PA X [a] ta)(hs:starEach [a] X.env=[(false,eval a X.env)]:=by rfl):PI X tg (.Call (.Name "range" p) [a] [] pos) (Jec ta):=by
 intro pins s Z3 H R I h;refine Call_ (Ni I hg hm boot_range (U3a (thn (ha pos pins s Z3 H _ I h) λus s1 ⟨vs,H1,I1,r1,q1⟩=>?_) hs rfl));obtain⟨j,e,q1,q2,q⟩:=q1;subst e;cases r1 with
 |cons r rr=>
  cases rr;obtain⟨t,rfl⟩:=r;exact call_range_1 (qj I1 (by lia) (by lia) q1 q2 (by simpa using q))
def Je6(wi:TI)(g:TG)(tb:TS):TS:=λD Z3 H=>wi Z3 H λJ H1=>∃W:Nat->Nat->St->Hp->Prop,(∃m,W 0 m Z3 H1)/\∀i m Z3 H,W i m Z3 H ->
 (J.stop i H/\D.nx Z3 H)∨(J.go i H/\∃N:St->Hp->Prop,(∀ZZ H',N ZZ H'->∃m',m'<m/\W (i+1) m' ZZ H')/\∀x H',J.yld i H x H'->g x Z3 H' λZY H2=>tb { D with nx:=N,ct:=N,bk:=D.nx } ZY H2)
def Nh(fp:List Addr)(h:Heap):List (Addr×Obj):=fp.filterMap λb=>(h.get? b).map λo=>(b,o)
def Oe(hb:b∈fp)(e:h.get? b=some o):(b,o)∈Nh fp h:=List.mem_filterMap.mpr ⟨b,hb,by rw[e];rfl⟩
def YM(hp:p∈Nh fp h):p.1∈fp/\h.get? p.1=some p.2:=by
 obtain⟨b,hb,e⟩:=List.mem_filterMap.mp hp;cases q:h.get? b with
 |none=>rw[q]at e;cases e
 |some o=>
  rw[q]at e;have e':(b,o)=p:=U08 e;subst e';exact⟨hb,q⟩
def Inv.pinned(I:Inv X pins Z3 H s)(hf:∀b∈fp,Qg X pins H b)(ho:∀b∈fp,∃o,s.heap.get? b=some o/\∀v,o.data≠.cell v):Inv X (pins++Nh fp s.heap) Z3 H s:=
 I.Ud λp hp=>(U0x.mp hp).elim (λz=>I.pin p (U04 _ z)) λz=>by obtain⟨hb,e⟩:=YM z;obtain⟨f0,f1,f2,_⟩:=hf p.1 hb;obtain⟨o,e',d⟩:=ho p.1 hb;rw[e]at e';cases e';exact⟨e,f0,f1,f2,d⟩
def Inv.Ra(I:Inv X (pins++pl) Z3 H s):Inv X pins Z3 H s:=I.Ud λp hp=>I.pin p (U04 _ (U10 _ hp))
def Ja8(hp:PassesOwn (model X.prog X.w) X.A X.env X.xe)(hc:X.calm=true)(hi:PI X tg iter wi)(hg:PG X tg g)(hb:PSs X body tb)
  (hs:∀x,foldedSetIterable iter X.env x=pure x:=by intro _;rfl):PS X (.For tg iter body [] pos) (Je6 wi g tb):=by
 intro pins s Z3 H D I h;refine wpAny_For (thn (hi pins s Z3 H _ I h) λv s1 h1=>thn h1 λitv s2 h2=>?_) hs;obtain⟨it,fp,tn,J,H2,e,I2,T,st2,f2,W,⟨m0,w0⟩,turn⟩:=h2;subst e;have stat:∀{H':Hp},(∀b∈fp,H' b=none)->∀b∈fp,Qg X pins H' b:=λhn b hb=>⟨hn b hb,(f2 b hb).2⟩;refine codeAny_forLoop_any (λn s'=>∃i ZZ H',Inv X pins ZZ H' s'/\tn i s'.heap/\(∀b∈fp,H' b=none)/\W i n ZZ H') ?_ m0 ⟨0,Z3,H2,I2,st2,λb hb=>(f2 b hb).1,w0⟩;rintro n s3 ⟨i,ZO,H3,I3,st3,fr3,w3⟩;rcases turn i n ZO H3 w3 with ⟨stop,qn⟩|⟨go,N,hN,step⟩
 .refine U5x hp (thn (T.done X rfl rfl rfl hc i pins s3 ZO H3 X.xe I3 (stat fr3) st3 stop) λr s4 ⟨hr,I4⟩=>?_);subst hr;exact U8e ⟨ZO,H3,I4,qn⟩
 .refine U5x hp (thn (T.item X rfl rfl rfl hc i pins s3 ZO H3 X.xe I3 (stat fr3) st3 go) λr s4 ⟨u,hr,h4⟩=>?_);subst hr;refine U5x hp (thn h4 λ_ s5 ⟨x,H5,I5,r5,y5,st5,fr5⟩=>?_);have I5':=I5.pinned (stat fr5) (T.obj _ _ st5);refine U5x hp (thn (hg _ s5 ZO H5 x u _ I5' r5 (step x H5 y5)) λ_ s6 ⟨ZA,H6,I6,q6⟩=>?_);refine U5x hp (thn (hb _ s6 ZA H6 _ I6 q6) λf s7 q7=>?_);have again:∀{ZU:St} {H7:Hp},Inv X (pins++Nh fp s5.heap) ZU H7 s7->N ZU H7->∃m,m<n/\∃i ZZ H',Inv X pins ZZ H' s7/\tn i s7.heap/\(∀b∈fp,H' b=none)/\W i m ZZ H':=fun {ZU H7} I7 n7=>by obtain⟨m',hm,w7⟩:=hN ZU H7 n7;refine⟨m',hm,i+1,ZU,H7,I7.Ra,T.keep _ _ _ st5 λb hb o e=>(I7.pin (b,o) (U04 _ (U04 _ (Oe hb e)))).1,λb hb=>?_,w7⟩;obtain⟨o,e,d⟩:=T.obj _ _ st5 b hb;exact(I7.pin (b,o) (U04 _ (U04 _ (Oe hb e)))).2.1
  cases f with
  |next=>obtain⟨ZU,H7,I7,n7⟩:=q7;exact again I7 n7
  |cont=>obtain⟨ZU,H7,I7,n7⟩:=q7;exact again I7 n7
  |brk=>obtain⟨ZU,H7,I7,q7⟩:=q7;exact⟨ZU,H7,I7.Ra,q7⟩
  |ret v=>obtain⟨x7,ZU,H7,I7,r7,q7⟩:=q7;exact⟨x7,ZU,H7,I7.Ra,r7,q7⟩
end
abbrev R2:=V->V->Hp->VK->Prop
def OpR(X:Cx)(f:Value->Value->Sem Value)(r:R2):Prop:=
 ∀(pins:List (Addr×Obj))(s:Shared)(Z3:St)(H:Hp)(x y:V)(v u:Value)(Q:VK),Inv X pins Z3 H s->RelV x v->RelV y u->r x y H Q ->
  wpAny (model X.prog X.w) X.A (f v u) (EP X pins Z3 Q) X.xe s
def UnR(X:Cx)(f:Value->Sem Value)(r:V->Hp->VK->Prop):Prop:=
 ∀(pins:List (Addr×Obj))(s:Shared)(Z3:St)(H:Hp)(x:V)(v:Value)(Q:VK),Inv X pins Z3 H s->RelV x v->r x H Q ->
  wpAny (model X.prog X.w) X.A (f v) (EP X pins Z3 Q) X.xe s
def Eh(X:Cx)(f:Value)(r:List V->Hp->VK->Prop):Prop:=
 ∀(pins:List (Addr×Obj))(s:Shared)(Z3:St)(H:Hp)(xs:List V)(us:List Value)(Q:VK),Inv X pins Z3 H s->Vals xs us->r xs H Q ->
  wpAny (model X.prog X.w) X.A (call f us) (EP X pins Z3 Q) X.xe s
def tOp(r:R2)(ta tb:TE):TE:=λZ3 H Q=>ta Z3 H λx H1=>tb Z3 H1 λy H2=>r x y H2 Q
def tUn(r:V->Hp->VK->Prop)(ta:TE):TE:=λZ3 H Q=>ta Z3 H λx H1=>r x H1 Q
def rI(C:Int->Int->Prop)(g:Int->Int->V):R2:=λx y H Q=>∃i j,x=.int i/\y=.int j/\C i j/\Q (g i j) H
def rI0(g:Int->Int->V):R2:=λx y H Q=>∃i j,x=.int i/\y=.int j/\Q (g i j) H
def rU(g:Int->V):V->Hp->VK->Prop:=λx H Q=>∃i,x=.int i/\Q (g i) H
section
variable{X:Cx}{a b c:Expr}{ta tb tc:TE}{pos:Pos}
def gj(ha:PE X a ta)(hb:PE X b tb){R:V->V->Hp->Prop}(I:Inv X pins Z3 H s)
  (h:ta Z3 H λx H1=>tb Z3 H1 λy H2=>R x y H2) {Q:Value->Shared->Prop} {f:Value->Value->Sem Value}
  (hf:∀v u s2 x y H2,Inv X pins Z3 H2 s2->RelV x v->RelV y u->R x y H2->wpAny (model X.prog X.w) X.A (f v u) Q X.xe s2) :
  wpAny (model X.prog X.w) X.A (eval a X.env) (λv s₁=>wpAny (model X.prog X.w) X.A (eval b X.env) (λu s₂=>wpAny (model X.prog X.w) X.A (f v u) Q X.xe s₂) X.xe s₁) X.xe s:=by
 refine thn (ha pins s Z3 H _ I h) λv s1 ⟨x,H1,I1,r1,q1⟩=>?_;refine thn (hb pins s1 Z3 H1 _ I1 q1) λu s2 ⟨y,H2,I2,r2,q2⟩=>?_;exact hf v u s2 x y H2 I2 r1 r2 q2
def Jdy(ho:OpR X (binaryOp op) r)(ha:PE X a ta)(hb:PE X b tb):PE X (.BinOp a op b pos) (tOp r ta tb):=by exact`zt;exact wpAny_BinOp (gj ha hb I h λv u s2 x y H2 I2 rx ry q=>ho pins s2 Z3 H2 x y v u Q I2 rx ry q)
def uX{r:V->Hp->VK->Prop}(ho:UnR X (unaryOp op) r)(ha:PE X a ta):PE X (.UnaryOp op a pos) (tUn r ta):=by exact`zt;exact UnaryOp_ (thn (ha pins s Z3 H _ I h) λv s1 ⟨x,H1,I1,r1,q1⟩=>ho pins s1 Z3 H1 x v Q I1 r1 q1)
def opI{f:Value->Value->Sem Value}{C:Int->Int->Prop}{g:Int->Int->Int}
  (rule:∀(i j:Int)(t u:Tok)(s:Shared)(Q:Value->Shared->Prop)(E:Value->Shared->Prop),C i j->Q (.int (g i j) s.toks) { s with toks:=s.toks+1 }->wpAny (model X.prog X.w) X.A (f (.int i t) (.int j u)) Q E s) :
  OpR X f (rI C λi j=>.int (g i j)):=by
 exact`zh;obtain⟨i,j,rfl,rfl,hc,q⟩:=h;obtain⟨t,rfl⟩:=rx;obtain⟨t',rfl⟩:=ry;exact rule i j t t' s _ _ hc ⟨.int (g i j),H,I.tok _,⟨_,rfl⟩,q⟩
def zm{f:Value->Value->Sem Value}{g:Int->Int->Int}
  (rule:∀(i j:Int)(t u:Tok)(s:Shared)(Q:Value->Shared->Prop)(E:Value->Shared->Prop),Q (.int (g i j) s.toks) { s with toks:=s.toks+1 }->wpAny (model X.prog X.w) X.A (f (.int i t) (.int j u)) Q E s) :
  OpR X f (rI0 λi j=>.int (g i j)):=by
 exact`zh;obtain⟨i,j,rfl,rfl,q⟩:=h;obtain⟨t,rfl⟩:=rx;obtain⟨t',rfl⟩:=ry;exact rule i j t t' s _ _ ⟨.int (g i j),H,I.tok _,⟨_,rfl⟩,q⟩
def gR{f:Value->Value->Sem Value}{g:Int->Int->Bool}
  (rule:∀(i j:Int)(t u:Tok)(s:Shared)(Q:Value->Shared->Prop)(E:Value->Shared->Prop),Q (.bool (g i j)) s->wpAny (model X.prog X.w) X.A (f (.int i t) (.int j u)) Q E s) :
  OpR X f (rI0 λi j=>.bl (g i j)):=by
 exact`zh;obtain⟨i,j,rfl,rfl,q⟩:=h;obtain⟨t,rfl⟩:=rx;obtain⟨t',rfl⟩:=ry;exact rule i j t t' s _ _ ⟨.bl (g i j),H,I,rfl,q⟩
def qL(i j:Int):Prop:=0<=j/\j<=1000000/\i.natAbs<2^64
def Ze(i j:Int):Prop:=(-(2^64)<i/\i<2^64)∨(-(2^64)<j/\j<2^64)
def Ze.ok(h:Ze i j):IntMulOk i j:=by
 rcases h with ⟨h1,h2⟩|⟨h1,h2⟩
 .exact .of_left (intBits_le_64 h1 h2)
 .exact .of_right (intBits_le_64 h1 h2)
def Jbm:OpR X (binaryOp .Add) (rI0 λi j=>.int (i+j)):=zm λ_ _ _ _ _ _ _ q=>add_int q
def Ig:OpR X (binaryOp .Sub) (rI0 λi j=>.int (i-j)):=zm λ_ _ _ _ _ _ _ q=>sub_int q
def Jbi:OpR X (binaryOp .Mult) (rI Ze λi j=>.int (i*j)):=opI λ_ _ _ _ _ _ _ hc q=>mul_int q hc.ok
theorem PJ:OpR X (binaryOp .Mod) (rI (λ_ j=>0<j) λi j=>.int (i%j)):=opI λi j _ _ _ _ _ hc q=>by have h1:(0:Int)<j:=hc;exact mod_int' (by lia) (by rw[Int.fmod_eq_emod_of_nonneg i (by lia)];exact q)
def J3:OpR X (binaryOp .Pow) (rI qL λi j=>.int (i^j.toNat)):=opI λ_ _ _ _ _ _ _ hc q=>pow_int_small hc.1 hc.2.1 hc.2.2 q
def unI{f:Value->Sem Value}{g:Int->Int}
  (rule:∀(i:Int)(t:Tok)(s:Shared)(Q:Value->Shared->Prop)(E:Value->Shared->Prop),Q (.int (g i) s.toks) { s with toks:=s.toks+1 }->wpAny (model X.prog X.w) X.A (f (.int i t)) Q E s) :
  UnR X f (rU λi=>.int (g i)):=by
 intro pins s Z3 H x v Q I rx h;obtain⟨i,rfl,q⟩:=h;obtain⟨t,rfl⟩:=rx;exact rule i t s _ _ ⟨.int (g i),H,I.tok _,⟨_,rfl⟩,q⟩
def Lp:UnR X (unaryOp .USub) (rU λi=>.int (-i)):=unI λ_ _ _ _ _ q=>neg_int q
end
def zO:V->V->Bool
 |.non,.non=>true|.non,.int _=>true|.int _,.non=>true|.non,.bl _=>true|.bl _,.non=>true|.non,.str _=>true|.str _,.non=>true
 |.int _,.int _=>true|.bl _,.bl _=>true|.str _,.str _=>true|.byt _,.byt _=>true
 |.int _,.str _=>true|.str _,.int _=>true|.bl _,.str _=>true|.str _,.bl _=>true
 |_,_=>false
def rEq:R2:=λx y H Q=>zO x y=true/\Q (.bl (decide (x=y))) H
def rNe:R2:=λx y H Q=>zO x y=true/\Q (.bl (!decide (x=y))) H
def gF:decide (V.int i=V.int j)=(i==j):=by rw[U28];simp
def lR:decide (V.bl i=V.bl j)=(i==j):=by rw[U28];simp
def gD:decide (V.str i=V.str j)=(i==j):=by rw[U28];simp
def gG:decide (V.byt i=V.byt j)=(i.toList==j.toList):=by rw[U28];cases i;cases j;simp
section
variable{X:Cx}{a b c:Expr}{ta tb tc:TE}{pos:Pos}
def Dt(I:Inv X pins Z3 H s)(q:Q (.bl k) H)(e:k=k'):EP X pins Z3 Q (.bool k') s:=by subst e;exact⟨.bl k,H,I,rfl,q⟩
def Jd3:OpR X (compareOp .Eq) rEq:=by
 exact`zh;obtain⟨hs,q⟩:=h;cases x with
 |non=>
  cases rx;cases y with
  |non=>cases ry;exact PySem.EqNone.eq_none_none (Dt I q (by simp))
  |bl j=>cases ry;exact PySem.EqNone.eq_none_bool (Dt I q (by simp))
  |int j=>obtain⟨t',rfl⟩:=ry;exact PySem.EqNone.eq_none_int (Dt I q (by simp))
  |str j=>obtain⟨t',rfl⟩:=ry;exact PySem.EqNone.eq_none_str (Dt I q (by simp))
  |_=>exact absurd (show false=true from hs) U05
 |bl i=>
  cases rx;cases y with
  |non=>cases ry;exact PySem.EqNone.eq_bool_none (Dt I q (by simp))
  |bl j=>cases ry;exact eq_bool (Dt I q lR)
  |str j=>obtain⟨t',rfl⟩:=ry;exact PySem.EqMixed.eq_bool_str (Dt I q (by simp))
  |_=>exact absurd (show false=true from hs) U05
 |int i=>
  obtain⟨t,rfl⟩:=rx;cases y with
  |non=>cases ry;exact PySem.EqNone.eq_int_none (Dt I q (by simp))
  |int j=>obtain⟨t',rfl⟩:=ry;exact eq_int (Dt I q gF)
  |str j=>obtain⟨t',rfl⟩:=ry;exact PySem.EqMixed.eq_int_str (Dt I q (by simp))
  |_=>exact absurd (show false=true from hs) U05
 |str i=>
  obtain⟨t,rfl⟩:=rx;cases y with
  |non=>cases ry;exact PySem.EqNone.eq_str_none (Dt I q (by simp))
  |bl j=>cases ry;exact PySem.EqMixed.eq_str_bool (Dt I q (by simp))
  |int j=>obtain⟨t',rfl⟩:=ry;exact PySem.EqMixed.eq_str_int (Dt I q (by simp))
  |str j=>obtain⟨t',rfl⟩:=ry;exact eq_str (Dt I q gD)
  |_=>exact absurd (show false=true from hs) U05
 |byt i=>
  obtain⟨t,rfl⟩:=rx;cases y with
  |byt j=>obtain⟨t',rfl⟩:=ry;exact PySem.W.eq_bytes (Dt I q gG)
  |_=>exact absurd (show false=true from hs) U05
 |_=>cases y<;>exact absurd (show false=true from hs) U05
def Jd2:OpR X (compareOp .NotEq) rNe:=by
 exact`zh;obtain⟨hs,q⟩:=h;cases x with
 |non=>
  cases rx;cases y with
  |non=>cases ry;exact PySem.EqNone.ne_none_none (Dt I q (by simp))
  |bl j=>cases ry;exact PySem.EqNone.ne_none_bool (Dt I q (by simp))
  |int j=>obtain⟨t',rfl⟩:=ry;exact PySem.EqNone.ne_none_int (Dt I q (by simp))
  |str j=>obtain⟨t',rfl⟩:=ry;exact PySem.EqNone.ne_none_str (Dt I q (by simp))
  |_=>exact absurd (show false=true from hs) U05
 |bl i=>
  cases rx;cases y with
  |non=>cases ry;exact PySem.EqNone.ne_bool_none (Dt I q (by simp))
  |bl j=>cases ry;exact ne_bool (Dt I q (congrArg not lR))
  |str j=>obtain⟨t',rfl⟩:=ry;exact PySem.EqMixed.ne_bool_str (Dt I q (by simp))
  |_=>exact absurd (show false=true from hs) U05
 |int i=>
  obtain⟨t,rfl⟩:=rx;cases y with
  |non=>cases ry;exact PySem.EqNone.ne_int_none (Dt I q (by simp))
  |int j=>obtain⟨t',rfl⟩:=ry;exact ne_int (Dt I q (congrArg not gF))
  |str j=>obtain⟨t',rfl⟩:=ry;exact PySem.EqMixed.ne_int_str (Dt I q (by simp))
  |_=>exact absurd (show false=true from hs) U05
 |str i=>
  obtain⟨t,rfl⟩:=rx;cases y with
  |non=>cases ry;exact PySem.EqNone.ne_str_none (Dt I q (by simp))
  |bl j=>cases ry;exact PySem.EqMixed.ne_str_bool (Dt I q (by simp))
  |int j=>obtain⟨t',rfl⟩:=ry;exact PySem.EqMixed.ne_str_int (Dt I q (by simp))
  |str j=>obtain⟨t',rfl⟩:=ry;exact ne_str (Dt I q (congrArg not gD))
  |_=>exact absurd (show false=true from hs) U05
 |byt i=>
  obtain⟨t,rfl⟩:=rx;cases y with
  |byt j=>obtain⟨t',rfl⟩:=ry;exact PySem.W.ne_bytes (Dt I q (congrArg not gG))
  |_=>exact absurd (show false=true from hs) U05
 |_=>cases y<;>exact absurd (show false=true from hs) U05
def OJ:OpR X (compareOp .Lt) (rI0 λi j=>.bl (decide (i<j))):=gR λ_ _ _ _ _ _ _ q=>lt_int q
def ZC:OpR X (compareOp .LtE) (rI0 λi j=>.bl (decide (i<=j))):=gR λ_ _ _ _ _ _ _ q=>le_int q
def Q6:OpR X (compareOp .Gt) (rI0 λi j=>.bl (decide (j<i))):=gR λ_ _ _ _ _ _ _ q=>gt_int q
def iQ:OpR X (compareOp .GtE) (rI0 λi j=>.bl (decide (j<=i))):=gR λ_ _ _ _ _ _ _ q=>ge_int q
def wg:OpR X (compareOp .IsNot) (λx y H Q=>y=.non/\Q (.bl (!decide (x=.non))) H):=by
 exact`zh;obtain⟨rfl,q⟩:=h;cases ry;refine isnot_none_gen (Dt I q ?_);cases x<;>first
  |(cases rx;rfl)
  |(obtain⟨t,rfl⟩:=rx;rfl)
def OpR.or(h:OpR X f r)(h':OpR X f r'):OpR X f (λx y H Q=>r x y H Q∨r' x y H Q):=by
 intro pins s Z3 H x y v u Q I rx ry q;rcases q with q|q
 .exact h pins s Z3 H x y v u Q I rx ry q
 .exact h' pins s Z3 H x y v u Q I rx ry q
def CG(b:Expr)(h:op≠.In:=by decide)(h2:op≠.NotIn:=by decide):behindInMarks op b=false:=by
 have e1:(op==CmpOp.In)=false:=by cases op<;>first|rfl|exact absurd rfl h
 have e2:(op==CmpOp.NotIn)=false:=by cases op<;>first|rfl|exact absurd rfl h2
 cases b<;>simp[behindInMarks,e1,e2]
def fL(ho:OpR X (compareOp op) r)(ha:PE X a ta)(hb:PE X b tb)(hm:behindInMarks op b=false):PE X (.Compare a [op] [b] pos) (tOp r ta tb):=by exact`zt;exact wpAny_Compare1 (gj ha hb I h λv u s2 x y H2 I2 rx ry q=>ho pins s2 Z3 H2 x y v u Q I2 rx ry q) hm
def iH(t:TE):TT:=λZ3 H Q=>t Z3 H λx H'=>∃k,x=.bl k/\Q k H'
def wF(ho:OpR X (compareOp op) r)(ha:PE X a ta)(hb:PE X b tb)(hm:behindInMarks op b=false):PT X (.Compare a [op] [b] pos) (iH (tOp r ta tb)):=by
 exact`zt;refine wpAny_isTrue_Compare1 (thn (ha pins s Z3 H _ I h) λv s1 ⟨x,H1,I1,r1,q1⟩=>thn (hb pins s1 Z3 H1 _ I1 q1) λu s2 ⟨y,H2,I2,r2,q2⟩=>
  thn (ho pins s2 Z3 H2 x y v u _ I2 r1 r2 q2) λc s3 ⟨z,H3,I3,r3,k,e,q3⟩=>?_) hm
 subst e;cases r3;exact U3g ⟨H3,I3,q3⟩
def Zi(r r':R2)(ta tb tc:TE):TE:=λZ3 H Q=>ta Z3 H λx H1=>tb Z3 H1 λy H2=>r x y H2 λz H3=>∃k,z=.bl k /\
 (if k=true then tc Z3 H3 λw' H4=>r' y w' H4 Q else Q (.bl false) H3)
def rF(ho:OpR X (compareOp op) r)(ho':OpR X (compareOp op') r')(ha:PE X a ta)(hb:PE X b tb)(hc:PE X c tc)
  (hm:lastMarks [op,op'] [b,c]=false:=by with_unfolding_all rfl):PE X (.Compare a [op,op'] [b,c] pos) (Zi r r' ta tb tc):=by
 exact`zt;refine Compare_chain (thn (ha pins s Z3 H _ I h) λv s1 ⟨x,H1,I1,r1,q1⟩=>chain_link (thn (hb pins s1 Z3 H1 _ I1 q1) λu s2 ⟨y,H2,I2,r2,q2⟩=>
  thn (ho pins s2 Z3 H2 x y v u _ I2 r1 r2 q2) λd s3 ⟨z,H3,I3,r3,k,e,q3⟩=>?_)) hm
 subst e;cases r3;refine U3g ?_;cases k with
 |false=>exact ite_ff ⟨.bl false,H3,I3,rfl,q3⟩
 |true=>exact ite_tt (chain_last (thn (hc pins s3 Z3 H3 _ I3 q3) λw' s4 ⟨z',H4,I4,r4,q4⟩=>ho' pins s4 Z3 H4 y z' u w' Q I4 r2 r4 q4))
def qt(ho:OpR X (compareOp op) r)(ho':OpR X (compareOp op') r')(ha:PE X a ta)(hb:PE X b tb)(hc:PE X c tc)
  (hm:lastMarks [op,op'] [b,c]=false:=by with_unfolding_all rfl):PT X (.Compare a [op,op'] [b,c] pos) (iH (Zi r r' ta tb tc)):=by
 exact`zt;refine isTrue_chain (thn (ha pins s Z3 H _ I h) λv s1 ⟨x,H1,I1,r1,q1⟩=>test_link (thn (hb pins s1 Z3 H1 _ I1 q1) λu s2 ⟨y,H2,I2,r2,q2⟩=>
  thn (ho pins s2 Z3 H2 x y v u _ I2 r1 r2 q2) λd s3 ⟨z,H3,I3,r3,k,e,q3⟩=>?_)) hm
 subst e;cases r3;refine U3g ?_;cases k with
 |false=>
  obtain⟨k',e',q'⟩:=q3;cases e';exact ite_ff ⟨H3,I3,q'⟩
 |true=>
  refine ite_tt (test_last (thn (hc pins s3 Z3 H3 _ I3 q3) λw' s4 ⟨z',H4,I4,r4,q4⟩=>thn (ho' pins s4 Z3 H4 y z' u w' _ I4 r2 r4 q4) λd' s5 ⟨z2,H5,I5,r5,k2,e2,q5⟩=>?_));subst e2;cases r5;exact U3g ⟨H5,I5,q5⟩
def Sy:(sizeLine:Nat)<2^63:=by rw[sizeLine_eq];decide
def jG:OpR X (binaryOp .Add) (λx y H Q=>∃i j,x=.str i/\y=.str j/\i.length+j.length<=sizeLine/\Q (.str (i++j)) H):=by exact`zh;obtain⟨i,j,rfl,rfl,hz,q⟩:=h;obtain⟨t,rfl⟩:=rx;obtain⟨t',rfl⟩:=ry;exact add_str (λt' tk=>⟨.str (i++j),H,I.tok _,⟨_,rfl⟩,q⟩) hz
def vals1(r:Vals [x] us):∃u,us=[u]/\RelV x u:=by
 cases r with
 |cons r1 r2=>cases r2;exact⟨_,rfl,r1⟩
def vals2(r:Vals [x,y] us):∃u w',us=[u,w']/\RelV x u/\RelV y w':=by
 cases r with
 |cons r1 r2=>
  cases r2 with
  |cons r3 r4=>cases r4;exact⟨_,_,rfl,r1,r3⟩
def bY:Eh X (.builtin "abs") (λxs H Q=>∃i,xs=[.int i]/\Q (.int (if i<0 then -i else i)) H):=by exact`zo;obtain⟨i,rfl,q⟩:=h;obtain⟨u,rfl,t,rfl⟩:=vals1 r;exact call_abs_int λu tk=>⟨.int (if i<0 then -i else i),H,I.tok _,⟨_,rfl⟩,q⟩
def Yq(hc:X.calm=true):Eh X (.builtin "max") (λxs H Q=>∃i j,xs=[.int i,.int j]/\Q (.int (if j>i then j else i)) H):=by
 exact`zo;obtain⟨i,j,rfl,q⟩:=h;obtain⟨u,w',rfl,⟨t,rfl⟩,⟨t',rfl⟩⟩:=vals2 r;refine max_two_ints (I.ok.hd hc) λh' tk k=>⟨_,H,I.kept k,?_,q⟩;by_cases hj:j>i
 .rw[if_pos hj,if_pos hj];exact⟨_,rfl⟩
 .rw[if_neg hj,if_neg hj];exact⟨_,rfl⟩
def Yp(hc:X.calm=true):Eh X (.builtin "min") (λxs H Q=>∃i j,xs=[.int i,.int j]/\Q (.int (if j<i then j else i)) H):=by
 exact`zo;obtain⟨i,j,rfl,q⟩:=h;obtain⟨u,w',rfl,⟨t,rfl⟩,⟨t',rfl⟩⟩:=vals2 r;refine min_two_ints (I.ok.hd hc) λh' tk k=>⟨_,H,I.kept k,?_,q⟩;by_cases hj:j<i
 .rw[if_pos hj,if_pos hj];exact⟨_,rfl⟩
 .rw[if_neg hj,if_neg hj];exact⟨_,rfl⟩
def pG:Eh X (.type "int") (λxs H Q=>(∃i,xs=[.int i]/\Q (.int i) H)∨∃k,xs=[.bl k]/\Q (.int (if k then 1 else 0)) H):=by
 exact`zo;rcases h with ⟨i,rfl,q⟩|⟨k,rfl,q⟩
 .obtain⟨u,rfl,t,rfl⟩:=vals1 r;exact call_int_int ⟨.int i,H,I,⟨_,rfl⟩,q⟩
 .obtain⟨u,rfl,r1⟩:=vals1 r;cases r1;exact call_int_bool ⟨.int (if k then 1 else 0),H,I.tok _,⟨_,rfl⟩,q⟩
end
structure qJ(h:Heap)(x dx C:Addr)(mA:Str->Option Value):Prop where
 obj:h.get? x=some (U8d C dx)
 ns:h.Ns1 dx mA
 ne:dx≠x
def nq{h:Heap}{dx:Addr}{mA:Str->Option Value}(n:h.Ns1 dx mA):∃od,h.get? dx=some od/\∀name,U8m name od=some (mA name):=by
 obtain⟨o,es,ep,ho,hd,hk,_,hm⟩:=n;refine⟨o,ho,λname=>?_⟩;have e:=hm name;unfold nsFind findBy at e;rw[←Array.find?_toList]at e;unfold U8m;rw[hd];dsimp only
 split
 .rename_i y q;rw[q]at e;exact congrArg some e
 .rename_i q;rw[q]at e;have a:es.toList.any (·.refKey)=false:=by rw[List.any_eq_false];intro y hy;obtain⟨z,t,hkey⟩:=hk y (Array.mem_toList_iff.mp hy);simp[DictEntry.refKey,hkey]
  have a':¬es.toList.any (·.refKey)=true:=by rw[a];exact U05
  rw[if_neg a'];exact congrArg some e
def qJ.look(I:qJ h x dx C mA):∃od,PySem.W.InstAt h x (U8d C dx) C (some od)/\∀name,U8m name od=some (mA name):=
 let ⟨od,ho,hl⟩:=nq I.ns
 ⟨od,⟨I.obj,rfl,rfl,ho⟩,hl⟩
section
variable{P:Program}{w:World}{H H':Hp}{h h':Heap}{a C dx:Addr}{fs fs':List (Str×V)}
def xr(hok:HOk P w H h)(e:H a=some (.ins C dx fs)):∃mA,qJ h a dx C mA/\(∀f,RP (fs.lookup f) (mA f))/\PySem.Within mA (fs.map (·.1))/\fs.length<=1000/\H dx=some (.own a):=by obtain⟨d,z,ne,ob,mA,n,r,q⟩:=(show Df P w H h a (.ins C dx fs) from hok a _ e);exact⟨mA,⟨ob,n,ne⟩,r,q,z,d⟩
end
structure Cls(K:U0e)(C:Addr):Prop where
 pg:PySem.W.plainGet K C Str.empty=true
 hd:PySem.W.hasDictIn K C=true
 po:PySem.W.plainOver K C=true
 sa:U57 K (.ref C) "__setattr__"=some (some (.builtin "object.__setattr__"))
def Cls.get{K:U0e}{C:Addr}(c:Cls K C)(f:Str):PySem.W.plainGet K C f=true:=c.pg
structure Con(K:U0e)(C:Addr)(f:Str)(v:V)(u:Value):Prop where
 at_:U57 K (.ref C) f=some (some u)
 rel:RelV v u
 get:PySem.W.specialIn K u "__get__"=some none
 cp:PySem.W.copiedNames.contains f=false
structure Meth(K:U0e)(C:Addr)(m:Str)(f:Addr):Prop where
 at_:U57 K (.ref C) m=some (some (.ref f))
 fn:PySem.W.isFn K (.ref f)=true
 kp:U4a K (.ref f)=true
section
variable{X:Cx}{pins:List (Addr×Obj)}{Z3:St}{H:Hp}{s:Shared}{A:Around}{E:Value->Shared->Prop}{Q:Value->Shared->Prop}{c:Value}{b:Bool}
inductive Kl (K:U0e) (H:Hp):V->Value->Prop where
 |non:Kl K H .non (.type "NoneType")
 |bl (x:Bool):Kl K H (.bl x) (.type "bool")
 |int (i:Int):Kl K H (.int i) (.type "int")
 |str (x:Str):Kl K H (.str x) (.type "str")
 |flt (x:UInt64):Kl K H (.flt x) (.type "float")
 |lst {a:Addr} {xs:List V} (e:H a=some (.lst xs)):Kl K H (.ref a) (.type "list")
 |frz {a:Addr} {o:Obj} {xs:List V} (e:H a=some (.frz o (.lst xs))):Kl K H (.ref a) (.type "list")
 |tup {a:Addr} {xs:List V} (e:H a=some (.tup xs)):Kl K H (.ref a) (.type "tuple")
 |dK {a:Addr} {kvs:List (Key×V)} (e:H a=some (.dK kvs)):Kl K H (.ref a) (.type "dict")
 |dT {a:Addr} {kvs:List (List Key×V)} (e:H a=some (.dT kvs)):Kl K H (.ref a) (.type "dict")
 |ins {a C dx:Addr} {fs:List (Str×V)} (e:H a=some (.ins C dx fs)) (cl:Cls K C) (ha:U57 K (.ref C) "__class__"=some (some (.builtin "object.__class__")))
   (hn:PySem.W.specialIn K (.builtin "object.__class__") "__get__"=some (some (.builtin "getset_descriptor.__get__"))) (htk:PySem.W.takesIn K (.builtin "object.__class__")=some true)
   (hm:PySem.W.mroIn K C (.type "object")=some true):Kl K H (.ref a) (.ref C)
def oG(I:Inv X pins Z3 H s)(rx:RelV x u)(ty:Kl X.K H x t)(e:U3m X.K t c=some b)(h:∀tk,Q (.bool b) { s with toks:=tk }) :
  wpAny (model X.prog X.w) A (call (.builtin "isinstance") [u,c]) Q E s:=by
 cases ty with
 |non=>cases (show u=U2d from rx);exact U29 PySem.W.kitx_none I.kIn U4q e (λz=>nomatch z) h
 |bl y=>cases (show u=U3r y from rx);exact U29 PySem.W.kitx_bool I.kIn U4q e (λz=>nomatch z) h
 |int i=>obtain⟨t,q⟩:=(show ∃t,u=U2v i t from rx);cases q;exact U29 PySem.W.kitx_int I.kIn U4q e (λz=>nomatch z) h
 |str y=>obtain⟨t,q⟩:=(show ∃t,u=U8c y t from rx);cases q;exact U29 PySem.W.kitx_str I.kIn U4q e (λz=>nomatch z) h
 |flt y=>obtain⟨t,q⟩:=(show ∃t,u=Value.float y t from rx);cases q;exact U29 PySem.W.kitx_float I.kIn U4q e (λz=>nomatch z) h
 |@lst a xs ea=>
  cases (show u=U1c a from rx);obtain⟨_,_,n,_,h1⟩:=(show Df X.prog X.w H s.heap a (.lst xs) from I.hok a _ ea);exact U29 PySem.W.kitx_list I.kIn ⟨_,h1,rfl⟩ e (λz=>nomatch z) h
 |@frz a ob xs ea=>
  cases (show u=U1c a from rx);obtain⟨_,_,_,n,_,h1⟩:=(show Df X.prog X.w H s.heap a (.frz ob (.lst xs)) from I.hok a _ ea);exact U29 PySem.W.kitx_list I.kIn ⟨_,h1,rfl⟩ e (λz=>nomatch z) h
 |@tup a xs ea=>
  cases (show u=U1c a from rx);obtain⟨_,_,_,p⟩:=(show Df X.prog X.w H s.heap a (.tup xs) from I.hok a _ ea);obtain⟨o,h1,h2,_⟩:=p;exact U29 PySem.W.kitx_tuple I.kIn ⟨o,h1,h2⟩ e (λz=>nomatch z) h
 |@dK a kvs ea=>
  cases (show u=U1c a from rx);obtain⟨_,_,vs,_,p⟩:=(show Df X.prog X.w H s.heap a (.dK kvs) from I.hok a _ ea);obtain⟨o,es,ep,h1,h2,_⟩:=p;exact U29 PySem.W.kitx_dict I.kIn ⟨o,h1,h2.1⟩ e (λz=>nomatch z) h
 |@dT a kvs ea=>
  cases (show u=U1c a from rx);obtain⟨_,_,xs,_,o,es,ep,h1,h2,_⟩:=(show Df X.prog X.w H s.heap a (.dT kvs) from I.hok a _ ea);exact U29 PySem.W.kitx_dict I.kIn ⟨o,h1,h2.1⟩ e (λz=>nomatch z) h
 |@ins a C dx fs ea cl ha hn htk hm=>
  cases (show u=U1c a from rx);obtain⟨mA,O,_⟩:=xr I.hok ea;obtain⟨od,J,_⟩:=O.look;exact U29 (PySem.W.kitx_own (cl.get _) cl.hd ha hn htk hm) I.kIn J e (λz=>nomatch z) h
end
structure FZ(k:Nat)(A:Around):Prop where
 hd:A.handled=none
 dp:A.depth+3*k+5<recursionLimit
 un:A.units+16*k+200<cLine
 gd:A.guards=some []
def FZ.mono(r:FZ k A)(h:j<=k):FZ j A:=⟨r.hd,by have:=r.dp;lia,by have:=r.un;lia,r.gd⟩
theorem FZ.deeper(r:FZ (k+1) A)(env:Env):FZ k (A.deeper env):=
 ⟨r.hd,by have:=r.dp;show A.depth+1+3*k+5<_;lia,by have:=r.un;show A.units+3+16*k+200<_;lia,r.gd⟩
theorem FZ.depth(r:FZ k A):A.depth<recursionLimit:=by have:=r.dp;lia
theorem FZ.units(r:FZ k A):A.units+64<cLine:=by have:=r.un;lia
def zL:TA:=λ_ H Q=>Q [] H
def uN(ta:TE)(tr:TA):TA:=λZ3 H Q=>ta Z3 H λx H1=>tr Z3 H1 λxs H2=>Q (x::xs) H2
section
variable{X:Cx}{e:Expr}{es:List Expr}{te:TE}{t:TA}{pos:Pos}
def Sx:PA X [] zL:=λ_ _ _ _ H Q I h=>U72 ⟨[],H,I,.nil,h⟩
def Qy(ha:PE X e te)(hr:PA X es t)(hs:starEach (e::es) X.env=(false,eval e X.env)::starEach es X.env:=by rfl):PA X (e::es) (uN te t):=by intro pos pins s Z3 H Q I h;rw[hs];show wpAny _ _ (spliced ((false,eval e X.env)::backTo pos (starEach es X.env))) _ _ s;refine U5z (thn (ha pins s Z3 H _ I h) λu s1 ⟨x,H1,I1,r1,q1⟩=>?_);exact thn (hr pos pins s1 Z3 H1 _ I1 q1) λus s2 ⟨xs,H2,I2,r2,q2⟩=>⟨x::xs,H2,I2,.cons r1 r2,q2⟩
def zK(t:TA):TE:=λZ3 H Q=>t Z3 H λxs H1=>xs.length<=sizeLine/\∀p,H1 p=none->Q (.ref p) (upd H1 p (.tup xs))
def Je4(t:TA):TE:=λZ3 H Q=>t Z3 H λxs H1=>xs.length<=sizeLine/\∀p,H1 p=none->Q (.ref p) (upd H1 p (.lst xs))
def Jbc{x1}(h:PA X es t):PE X (.Tuple es x1 pos) (zK t):=by intro pins s Z3 H Q I hq;refine wpAny_Tuple_spliced (thn (h pos pins s Z3 H _ I hq) λus s1 ⟨xs,H1,I1,r,z,q⟩=>⟨by rw[←r.length];exact z,?_⟩);have hf:H1 s1.heap.objs.size=none:=I1.hok.fresh (U0o _);refine⟨.ref s1.heap.objs.size,upd H1 s1.heap.objs.size (.tup xs),I1.laid (t':=s1.toks) (λb u e=>U0a _ e) (U0o _) ?_,rfl,q _ hf⟩;exact⟨z,us,r,⟨_,U0s _ rfl,rfl,_,rfl⟩⟩
def kY(h:PA X es t):PE X (.List es pos) (Je4 t):=by intro pins s Z3 H Q I hq;refine wpAny_List_spliced (thn (h pos pins s Z3 H _ I hq) λus s1 ⟨xs,H1,I1,r,z,q⟩=>⟨by rw[←r.length];exact z,?_⟩);have hf:H1 s1.heap.objs.size=none:=I1.hok.fresh (U0o _);refine⟨.ref s1.heap.objs.size,upd H1 s1.heap.objs.size (.lst xs),I1.laid (t':=s1.toks) (λb u e=>U0a _ e) (U0o _) ?_,rfl,q _ hf⟩;exact⟨z,us,0,r,U0s _ rfl⟩
end
abbrev Sp:=List V->Hp->VK->XK->Prop
abbrev CXT:=List Env->Hp->Shared->XK->Value->Shared->Prop
structure iG(P:Program)(w:World)(K:U0e)(mg:Str->Option Value)(base:Heap)(A:Around)(outer:List Env)(s:Shared)(H:Hp):Prop where
 frames:A.frames=some outer
 mod:Mod K mg base
 bs:∀b o,base.get? b=some o->s.heap.get? b=some o/\H b=none
 bsz:base.objs.size<=s.heap.objs.size
 Ow:s.heap.FunFrames base outer
 frf:∀b∈frs outer,H b=none
 hok:HOk P w H s.heap
 bare:AllBare s.gens
 sy:Oz H
def CE(outer:List Env)(P:Program)(w:World)(H:Hp)(s:Shared)(Q:VK)(u:Value)(s':Shared):Prop:=
 ∃v H',s'.os=s.os/\AllBare s'.gens/\Un (frs outer) [] H H' s.heap s'.heap/\HOk P w H' s'.heap/\RelV v u/\Q v H'
def CR(CX:CXT)(outer:List Env)(P:Program)(w:World)(H:Hp)(s:Shared)(Q:VK)(E:XK)(r:Result)(s':Shared):Prop:=
 match r with
 |.ok (.ret u)=>CE outer P w H s Q u s'
 |.ok _=>False
 |.error e=>CX outer H s E e s'
structure Hj(P:Program)(w:World)(K:U0e)(mg:Str->Option Value)(base:Heap)(CX:CXT)(k:Nat)(f:Addr)(fd:FuncData)(ps:List Str)(sp:Sp):Prop where
 len:∀vs H Q E,sp vs H Q E->vs.length=ps.length
 run:∀(A:Around)(outer:List Env)(s:Shared)(H:Hp)(args:Args)(us:List Value)(vs:List V)(Q:VK)(E:XK),FZ k A->iG P w K mg base A outer s H->BindsTo s fd args (ps.zip us)->Vals vs us->sp vs H Q E ->
  codeAny (model P w) A (.call (.ref f) args) (CR CX outer P w H s Q E) s
theorem Hj.mono{P:Program}{w:World}{K:U0e}{mg:Str->Option Value}{base:Heap}{CX:CXT}{j k:Nat}{f:Addr}{fd:FuncData}{ps:List Str}{sp:Sp}(F:Hj P w K mg base CX j f fd ps sp)(h:j<=k) :
  Hj P w K mg base CX k f fd ps sp:=⟨F.len,λA outer s H args us vs Q E hr=>F.run A outer s H args us vs Q E (hr.mono h)⟩
def Hj.imp{P:Program}{w:World}{K:U0e}{mg:Str->Option Value}{base:Heap}{CX:CXT}{k:Nat}{f:Addr}{fd:FuncData}{ps:List Str}{sp sp':Sp}(F:Hj P w K mg base CX k f fd ps sp)
  (h:∀vs H Q E,sp' vs H Q E->sp vs H Q E):Hj P w K mg base CX k f fd ps sp':=
 ⟨λvs H Q E q=>F.len vs H Q E (h _ _ _ _ q),λA outer s H args us vs Q E hr he hb hv hs=>F.run A outer s H args us vs Q E hr he hb hv (h _ _ _ _ hs)⟩
section
variable{X:Cx}{pins:List (Addr×Obj)}{Z3:St}{H:Hp}{s s':Shared}
def Inv.env0(I:Inv X pins Z3 H s):iG X.prog X.w X.K X.mg X.base X.A X.stack s H:=
 ⟨I.ok.frames,I.ok.mod,I.bs,U01 I.ok.bsz I.sz,I.stack,I.eO,I.hok,I.bare,I.XJ⟩
def Inv.after(I:Inv X pins Z3 H s)(h:CE X.stack X.prog X.w H s Q u s'):EP X pins Z3 Q u s':=by obtain⟨v,H',os,bare,un,hok,r,q⟩:=h;obtain⟨hh,g,d,t,os'⟩:=s';obtain rfl:os'=s.os:=os;exact⟨v,H',I.call (h':=hh) (g':=g) (d':=d) (t':=t) (ch:=[]) un hok bare (λb z=>absurd z (by simp)),r,q⟩
end
def uO(sp:Sp)(dvs:List V)(E:XK)(t:TA):TE:=λZ3 H Q=>t Z3 H λvs H1=>sp (vs++dvs) H1 Q E
def Binds(K:U0e)(fd:FuncData)(ps:List Str)(ds:List Value):Prop:=
 ∀(s:Shared)(us:List Value),K.In s.heap->(us++ds).length=ps.length->BindsTo s fd ⟨us,[]⟩ (ps.zip (us++ds))
def Binds.all{K:U0e}{fd:FuncData}{ps:List Str}(h:∀us:List Value,us.length=ps.length->bindArgs fd ⟨us,[]⟩=pure (ps.zip us)):Binds K fd ps []:=λs us _ hl=>by rw[U17]at hl ⊢;exact .of_eq (h us hl)
def Passes(CX:CXT)(X:Cx)(E:XK):Prop:=∀(pins:List (Addr×Obj))(Z3:St)(H:Hp)(s:Shared)(e:Value)(s':Shared),Inv X pins Z3 H s->CX X.stack H s E e s'->X.xe e s'
section
variable{X:Cx}{CX:CXT}{k:Nat}{f C:Addr}{fd:FuncData}{ps:List Str}{sp:Sp}{dvs:List V}{ds:List Value}{E:XK}{x m:Str}{p pos apos:Pos}{e o:Expr}{es:List Expr}{ta:TE}{t:TA}
def jz(F:Hj X.prog X.w X.K X.mg X.base CX k f fd ps sp)(hr:FZ k X.A)(hb:Binds X.K fd ps ds)(hd:Vals dvs ds)(hx:Passes CX X E)
  (I:Inv X pins Z3 H s) (r:Vals vs us) (h:sp (vs++dvs) H Q E):wpAny (model X.prog X.w) X.A (call (.ref f) us) (EP X pins Z3 Q) X.xe s:=by
 have r2:Vals (vs++dvs) (us++ds):=r.append hd;have hl:(us++ds).length=ps.length:=by rw[←r2.length];exact F.len _ _ _ _ h
 refine wpAny_call (codeAny_mono (F.run X.A X.stack s H ⟨us,[]⟩ (us++ds) (vs++dvs) Q E hr I.env0 (hb s us I.kIn hl) r2 h) λr s' hq=>?_);cases r with
 |error e=>exact hx pins Z3 H s e s' I hq
 |ok fl=>
  cases fl with
  |ret u=>exact I.after hq
  |next=>exact U4p hq
  |brk=>exact U4p hq
  |cont=>exact U4p hq
def wX(F:Hj X.prog X.w X.K X.mg X.base CX k f fd ps sp)(hr:FZ k X.A)(hg:Gl X x)(hm:X.mg x=some (.ref f))(hk:U4a X.K (.ref f)=true)(hb:Binds X.K fd ps ds)(hd:Vals dvs ds)(hx:Passes CX X E)
  (ha:PA X (e::es) t) (hdb:(x==("__debug__":Str))=false:=by decide) (he:starEach (e::es) X.env=(false,eval e X.env)::starEach es X.env:=by rfl) (hpl:(backTo pos (starEach es X.env)).any (·.1)=false:=by rfl) :
  PE X (.Call (.Name x p) (e::es) [] pos) (uO sp dvs E t):=by
 exact`zt;refine U46 (Xm I hg hm ?_ hdb);refine PySem.W.callWith_K (h₀:=X.base) I.ok.mod.kin hk (thn (ha pos pins s Z3 H _ I h) λus s1 ⟨vs,H1,I1,r,q⟩=>⟨I1.kIn,?_⟩) he hpl;exact jz F hr hb hd hx I1 r q
structure Mk(K:U0e)(C f:Addr):Prop where
 makes:PySem.W.makesIn K C=true
 init:U57 K (.ref C) "__init__"=some (some (.ref f))
 fn:PySem.W.isFn K (.ref f)=true
 kp:U4a K (.ref C)=true
end
section
variable{X:Cx}{CX:CXT}{k:Nat}{f C:Addr}{fd:FuncData}{ps ks:List Str}{sp:Sp}{E:XK}{x m:Str}{p pos apos kpos:Pos}{e o:Expr}{es:List Expr}{kws:List Keyword}{te ta:TE}{t tk:TA}{nm:Option Str}
structure Jgj(K:U0e)(fd:FuncData)(ps ks:List Str)(g:List Value->List Value->List Value)(gV:List V->List V->List V):Prop where
 to:∀(s:Shared)(us ws:List Value),K.In s.heap->(g us ws).length=ps.length->BindsTo s fd ⟨us,ks.zip ws⟩ (ps.zip (g us ws))
 rel:∀{vs:List V} {us:List Value} {zs:List V} {ws:List Value},Vals vs us->Vals zs ws->Vals (gV vs zs) (g us ws)
variable{g:List Value->List Value->List Value}{gV:List V->List V->List V}
end
structure Ov(N P:List Str)(sc:Scope):Prop where
 kind:sc.kind=.function
 co:sc.isCoroutine=false
 gen:sc.isGenerator=false
 nd:N.Nodup
 pre:N.take P.length=P
 par:∀x∈P,sc.names.lookup x=some .local∨sc.names.lookup x=some .cell
 nofree:∀y∈sc.names,y.2≠.free
theorem Ys{kindOf:Str->Option NameKind}{x:Str}:∀{binds:List (Str×Value)} {m:Str->Option Value},(∀v,(x,v) ∉ binds)->bindL kindOf binds m x=m x
 |[],_,_=>rfl
 |(n,v)::r,m,h=>by
  unfold bindL;rw[Ys λw hw=>h w (U0k _ hw)];split
  .have:x≠n:=by rintro rfl;exact h v U0h
   simp[this]
  .rfl
theorem Yu{kindOf:Str->Option NameKind}{x:Str}:∀{binds:List (Str×Value)} {m:Str->Option Value},(∀v,(x,v) ∉ binds)->bindC kindOf binds m x=m x
 |[],_,_=>rfl
 |(n,v)::r,m,h=>by
  unfold bindC;rw[Yu λw hw=>h w (U0k _ hw)];split
  .rfl
  .have:x≠n:=by rintro rfl;exact h v U0h
   simp[this]
theorem Yt{kindOf:Str->Option NameKind}{x:Str}{v:Value}:∀{P:List Str} {vs:List Value} {i:Nat} {m:Str->Option Value},P.Nodup->P[i]?=some x->vs[i]?=some v->kindOf x=some .local ->
  bindL kindOf (P.zip vs) m x=some v
 |[],_,_,_,_,h,_,_=>by simp at h
 |_::_,[],_,_,_,_,h,_=>by simp at h
 |p::P,w::vs,0,m,nd,h1,h2,hk=>by simp at h1 h2;subst h1;subst h2;show bindL kindOf ((p,w)::P.zip vs) m p=_;unfold bindL;rw[Ys λv hv=>(U3h.mp nd).1 (U8f hv).1,if_pos hk];simp
 |p::P,w::vs,i+1,m,nd,h1,h2,hk=>by show bindL kindOf ((p,w)::P.zip vs) m x=_;unfold bindL;exact Yt (i:=i) (U3h.mp nd).2 (by simpa using h1) (by simpa using h2) hk
theorem Yv{kindOf:Str->Option NameKind}{x:Str}{v:Value}:∀{P:List Str} {vs:List Value} {i:Nat} {m:Str->Option Value},P.Nodup->P[i]?=some x->vs[i]?=some v->kindOf x≠some .local ->
  bindC kindOf (P.zip vs) m x=some v
 |[],_,_,_,_,h,_,_=>by simp at h
 |_::_,[],_,_,_,_,h,_=>by simp at h
 |p::P,w::vs,0,m,nd,h1,h2,hk=>by simp at h1 h2;subst h1;subst h2;show bindC kindOf ((p,w)::P.zip vs) m p=_;unfold bindC;rw[Yu λv hv=>(U3h.mp nd).1 (U8f hv).1,if_neg hk];simp
 |p::P,w::vs,i+1,m,nd,h1,h2,hk=>by show bindC kindOf ((p,w)::P.zip vs) m x=_;unfold bindC;exact Yv (i:=i) (U3h.mp nd).2 (by simpa using h1) (by simpa using h2) hk
def start(N:List Str)(vs:List V):St:=vs.map some++U06 (N.length-vs.length) none
def RN(CX:CXT)(P:Program)(w:World)(K:U0e)(mg:Str->Option Value)(base:Heap)(N:List Str)(qual:Str)(scope:Scope)(f:Addr)(cd:Value)(A:Around)(outer:List Env)(s:Shared)(H:Hp)(E:XK):Cx where
 prog:=P
 w:=w
 K:=K
 mg:=mg
 base:=base
 A:=A.deeper (envOfC qual scope s.heap.objs.size f cd)
 N:=N
 s₀:=s
 H₀:=H
 env:=envOfC qual scope s.heap.objs.size f cd
 outer:=outer
 stack:=envOfC qual scope s.heap.objs.size f cd::outer
 ex:=[]
 calm:=true
 fn:=λ_=>true
 pn:=[]
 xe:=λe s'=>wpAny (model P w) (A.deeper (envOfC qual scope s.heap.objs.size f cd)) (leaving (envOfC qual scope s.heap.objs.size f cd) e) (λ_ s''=>CX outer H s E e s'') (λe' s''=>CX outer H s E e' s'') s'
def bV{sc:Scope}{n:Nat}{x:Str}(h:sc.names.lookup x=some .cell):∃c,(cellsFrom n sc.names []).lookup x=some c:=by have q:=U6i sc.names n [] (.inl h);exact U31.mp q
def oK{CX:CXT}{P:Program}{w:World}{K:U0e}{mg:Str->Option Value}{base:Heap}{N ps:List Str}{qual:Str}{scope:Scope}{f:Addr}{cd:Value}{A:Around}{outer:List Env}{s s1:Shared}{H:Hp}{E:XK}{us:List Value}{vs:List V}
  (S:Ov N ps scope) (hd:A.handled=none) (e0:iG P w K mg base A outer s H) (hl:vs.length=ps.length) (r:Vals vs us)
  (x:InCallC s s.heap.objs.size (bindL (envOfC qual scope s.heap.objs.size f cd).kindOf (ps.zip us) λ_=>none) (cellsFrom (s.heap.objs.size+1) scope.names []) (bindC (envOfC qual scope s.heap.objs.size f cd).kindOf (ps.zip us) λ_=>none) s1) :
  Inv (RN CX P w K mg base N qual scope f cd A outer s H E) [] (start N vs) H s1:=by
 have hpl:ps.length<=N.length:=by have:=congrArg U4t S.pre;rw[U2e]at this;exact qG this
 obtain⟨h1,tk,rfl,hk⟩:=x.done;have noA:∀b:Addr,b ∉ (RN CX P w K mg base N qual scope f cd A outer s H E).ex:=λb z=>absurd (show b∈([]:List Addr) from z) (by simp);refine⟨⟨e0.mod,S.kind,rfl,rfl,U0o _,λy z c h1 h2=>?_,λy hy=>?_,λy c _ h=>?_,λ_=>hd,Around.frames_deeper e0.frames,.inr ⟨rfl,rfl⟩,λb z=>absurd z (noA b),e0.bs,e0.bsz,λb _ _=>noA b,λb z=>absurd z (noA b),e0.Ow,e0.frf,e0.sy⟩,
  rfl,e0.bare,Un.kept hk,⟨_,x.toInCall.ns,λi y v h1 h2 h3=>?_⟩,λy c h=>⟨_,x.cell y c h⟩,e0.hok.fresh (U0o _),λy c h=>?_,λp hp=>absurd (show p∈([]:List (Addr×Obj)) from hp) (by simp),e0.hok.kept hk,?_⟩
 .exact name_of_addr x.apart (U22 h1) (U22 h2)
 .have hy:scope.names.lookup y=some .cell∨scope.names.lookup y=some .free:=hy;rcases hy with hy|hy
  .exact bV hy
  .exact absurd rfl (S.nofree _ (U22 hy))
 .exact U2o (x.above y c (U22 h))
 .have hi:i<vs.length:=by
   unfold start at h2;by_cases hi:i<vs.length
   .exact hi
   .rw[U2f (by simpa using hi)]at h2;rw[U42]at h2;split at h2<;>cases h2
  have ha:vs[i]?=some v:=by
   unfold start at h2;rw[U1e (by simpa using hi),U0z]at h2;cases e:vs[i]? with
   |none=>rw[e]at h2;cases h2
   |some a=>rw[e]at h2;cases h2;rfl
  obtain⟨u,hu,rv⟩:=r.get ha;have hp:ps[i]?=some y:=by rw[←S.pre,List.getElem?_take_of_lt (by lia)];exact h1
  have ndP:ps.Nodup:=by rw[←S.pre];exact S.nd.sublist (List.take_sublist _ _)
  refine⟨u,rv,?_⟩;rcases S.par y (U00 hp) with k|k
  .exact .inl ⟨k,Yt ndP hp hu k⟩
  .obtain⟨c,e⟩:=bV (n:=s.heap.objs.size+1) k;refine .inr ⟨.inl k,c,e,?_⟩;have q:=x.cell y c e;rw[Yv ndP hp hu (by show scope.names.lookup y≠_;rw[k];decide)]at q;exact q
 .exact e0.hok.fresh (U2o (x.above y c (U22 h)))
 .unfold start;show _=N.length;rw[U0n,U0i,U2b];lia
def Jef{CX:CXT}{P:Program}{w:World}{K:U0e}{mg:Str->Option Value}{base:Heap}{k:Nat}{f:Addr}{name qual:Str}{params:Arguments}{body:List Stmt}{scope:Scope}{dV kV doc pm cdv ct oc:Value}{an od:Option Addr}
  {osl:Array (Option Value)} {N ps:List Str} {sp:Sp} (lk:K.lookup f=some ⟨oc,od,.func (U4e name qual params body scope dV kV doc pm an cdv ct),osl⟩) (hcd:U7i K cdv qual=true) (S:Ov N ps scope)
  (len:∀vs H Q E,sp vs H Q E->vs.length=ps.length)
  (hbody:∀(A:Around)(outer:List Env)(s:Shared)(H:Hp)(vs:List V)(Q:VK)(E:XK),FZ k (A.deeper (envOfC qual scope s.heap.objs.size f cdv))->sp vs H Q E ->
   ∃t,PSs (RN CX P w K mg base N qual scope f cdv A outer s H E) body t/\t { nx:=λ_ H'=>Q .non H',rt:=Q } (start N vs) H) :
  Hj P w K mg base CX (k+1) f (U4e name qual params body scope dV kV doc pm an cdv ct) ps sp:=by
 refine⟨len,λA outer s H args us vs Q E hr e0 hb r hsp=>?_⟩;have hl:=len _ _ _ _ hsp;have KX:K.In s.heap:=e0.mod.kin.keeps λb o e=>(e0.bs b o e).1;have lim:s.heap.NoLimit:=e0.mod.nolimit.keeps λb o e=>(e0.bs b o e).1;have hkind:∀y∈ps.zip us,scope.names.lookup y.1=some .local∨(scope.names.lookup y.1=some .cell/\((cellsFrom (s.heap.objs.size+1) scope.names []).lookup y.1).isSome=true):=λ⟨n,v⟩ hy=>by
  rcases S.par n (U8f hy).1 with q|q
  .exact .inl q
  .exact .inr ⟨q,U6i _ _ _ (.inl q)⟩
 refine codeAny_call_function hr.depth (KX _ _ lk) rfl S.co S.gen rfl (PySem.W.codeRec_of KX hcd) (hb _ _ _ _ ?_);refine wpAny_newFunctionEnv_cells S.kind hkind λenv he s1 x=>?_;subst he;refine⟨lim.keeps x.toInCall.keep,codeAny_func ?_⟩;obtain⟨t,ht,hq⟩:=hbody A outer s H vs Q E (hr.deeper _) hsp;have I:Inv (RN CX P w K mg base N qual scope f cdv A outer s H E) [] (start N vs) H s1:=oK S hr.hd e0 hl r x;refine U5o (ht [] s1 (start N vs) H _ I hq) (λfl s' hs=>?_) λe s' hs=>hs;have fin:∀{ZZ:St} {H':Hp} {v:V} {u:Value},Inv (RN CX P w K mg base N qual scope f cdv A outer s H E) [] ZZ H' s'->RelV v u->Q v H'->CE outer P w H s Q u s':=
  fun {ZZ H' v u} J rv q=>⟨v,H',J.os,J.bare,J.base,J.hok,rv,q⟩
 cases fl with
 |ret u=>
  obtain⟨v,ZZ,H',J,rv,q⟩:=hs;exact fin J rv q
 |next=>
  obtain⟨ZZ,H',J,q⟩:=hs;exact fin (v:=V.non) (u:=U2d) J rfl q
 |brk=>
  obtain⟨_,_,_,q⟩:=hs;exact U4p q
 |cont=>
  obtain⟨_,_,_,q⟩:=hs;exact U4p q
section
variable{X:Cx}{x:Str}{p pos:Pos}{e:Expr}{es:List Expr}{t:TA}{id T:String}{r:List V->Hp->VK->Prop}
def tCB(r:List V->Hp->VK->Prop)(t:TA):TE:=λZ3 H Q=>t Z3 H λvs H1=>r vs H1 Q
def VL(hc:Eh X (.builtin id) r)(hg:Gl X x)(hm:X.mg x=none)(hv:bootBuiltins x=some (.builtin id))(ha:PA X (e::es) t)(hn:x≠"__name__":=by decide)(hdb:(x==("__debug__":Str))=false:=by decide)
  (he:starEach (e::es) X.env=(false,eval e X.env)::starEach es X.env:=by rfl) (hpl:(backTo pos (starEach es X.env)).any (·.1)=false:=by rfl):PE X (.Call (.Name x p) (e::es) [] pos) (tCB r t):=by
 exact`zt;refine U46 (Ni I hg hm hv ?_ hn hdb);exact PyProof.Rows.callWith_builtin1 (thn (ha pos pins s Z3 H _ I h) λus s1 ⟨vs,H1,I1,r1,q1⟩=>hc pins s1 Z3 H1 vs us Q I1 r1 q1) he hpl
def QK(hc:Eh X (.type T) r)(hg:Gl X x)(hm:X.mg x=none)(hv:bootBuiltins x=some (.type T))(ha:PA X (e::es) t)(hn:x≠"__name__":=by decide)(hdb:(x==("__debug__":Str))=false:=by decide)
  (he:starEach (e::es) X.env=(false,eval e X.env)::starEach es X.env:=by rfl) (hpl:(backTo pos (starEach es X.env)).any (·.1)=false:=by rfl):PE X (.Call (.Name x p) (e::es) [] pos) (tCB r t):=by
 exact`zt;refine U46 (Ni I hg hm hv ?_ hn hdb);exact U3a (thn (ha pos pins s Z3 H _ I h) λus s1 ⟨vs,H1,I1,r1,q1⟩=>hc pins s1 Z3 H1 vs us Q I1 r1 q1) he hpl
end
end L2
namespace HT
open PySem PyProof.Rows
def lexLt:List Int->List Int->Bool
 |[],[]=>false
 |[],_::_=>true
 |_::_,[]=>false
 |x::xs,y::ys=>if x=y then lexLt xs ys else decide (x<y)
def Rt(x y:Int)(xs ys:List Int):lexLt (x::xs) (y::ys)=if x=y then lexLt xs ys else decide (x<y):=rfl
def S9:lexLt [] []=false:=rfl
def Xy(y:Int)(ys:List Int):lexLt [] (y::ys)=true:=rfl
def Xz(x:Int)(xs:List Int):lexLt (x::xs) []=false:=rfl
def tU(A:Around)(s:Shared)(a:Int)(t:Tok)(c:Int)(u:Tok):∃e,U8r A s (.int a t) (.int c u) e/\(e=true↔a=c):=
 ⟨(a==c),U8r.int_int a t c u,by simp⟩
def qg(A:Around)(s:Shared)(a:Int)(t:Tok)(c:Int)(u:Tok)(prog:Program)(w:World)(E:Value->Shared->Prop)(Q:Value->Shared->Prop)(h:Q (.bool (decide (a<c))) s) :
  wpAny (model prog w) A (richCompare .Lt (.int a t) (.int c u)) Q E s:=
 (PyProof.Rows.lt_int h:wpAny (model prog w) A (compareOp .Lt (.int a t) (.int c u)) Q E s)
section
open PySem.SeqAt
open PySem.AutoSeq1 (wpAny_loadPart')
open PySem.MeetsSeq PySem.MeetsSeq2 PySem.MeetsSeq3
def Yz(l b:Addr)(items items2:Array Value)(n n2:Nat)(dd dd2:Option Addr)(sl sl2:Array (Option Value))(ns ms:List Int)(hi:IntsAre items.toList ns)(hj:IntsAre items2.toList ms) :
  Meets (Builtin.«tuple.__lt__» ⟨[.ref l,.ref b],[]⟩)
   (λ_ R s=>s.heap.get? l=some { cls:=.type "tuple",dict:=dd,data:=.seq items n,slots:=sl }/\s.heap.get? b=some { cls:=.type "tuple",dict:=dd2,data:=.seq items2 n2,slots:=sl2 } /\
    R (.ok (.ret (.bool (lexLt ns ms)))) s):=
 .of_wp λprog w A R s h=>by
  obtain⟨hp,g,d,tk,os⟩:=s;obtain⟨hl,hb,h⟩:=h;have f2:=AutoSeq1.sub_tuple_tuple;have z1:items.size=ns.length:=by rw[←hi.length];simp
  have z2:items2.size=ms.length:=by rw[←hj.length];simp
  wp_walk using wpAny_loadPart' hl,wpAny_loadPart' hb,wpAny_forIn_list _ (λrest b s'=>b.1=none/\s'=⟨hp,g,d,tk,os⟩/\∃(vs ws:List Value)(ns' ms':List Int),rest=vs.zip ws /\
   IntsAre vs ns'/\IntsAre ws ms'/\ns'.length+items2.size=ms'.length+items.size/\R (.ok (.ret (.bool (lexLt ns' ms')))) ⟨hp,g,d,tk,os⟩) _
  case turn=>
   rintro⟨y,x⟩ rest b s' ⟨hb',rfl,vs,ws,ns',ms',hz,hvi,hwi,hlen,hR⟩;cases hvi with
   |nil=>rw[List.zip_nil_left]at hz;cases hz
   |cons a t hvi'=>
    cases hwi with
    |nil=>rw[List.zip_nil_right]at hz;cases hz
    |cons c u hwi'=>
     rw[U47]at hz;injection hz with hyx hrest
     injection hyx with hy hx
     subst hy hx;rw[Rt]at hR;simp only[U0f]at hlen;obtain⟨e,he,hiff⟩:=tU A.in1 ⟨hp,g,d,tk,os⟩ a t c u;refine U0 (he prog w _ _ ?_);cases e with
     |true=>
      rw[if_pos (hiff.mp rfl)]at hR;wp_walk;exact⟨rfl,rfl,_,_,_,_,hrest,hvi',hwi',by lia,hR⟩
     |false=>
      rw[if_neg (λq=>absurd (hiff.mpr q) U05)]at hR;have hri:=qg A.in1 ⟨hp,g,d,tk,os⟩ a t c u prog w;wp_walk using hri;exact⟨_,rfl,by simpa using hR⟩
  case fin=>
   rintro⟨b1,b2⟩ s' ⟨hb',rfl,vs,ws,ns',ms',hz,hvi,hwi,hlen,hR⟩;simp only at hb';subst hb';have hv:lexLt ns' ms'=decide (items.size<items2.size):=by
    cases hvi with
    |nil=>
     cases hwi with
     |nil=>
      simp only[U0y]at hlen;rw[S9];exact(decide_eq_false (by lia)).symm
     |cons c u hw=>
      simp only[U0y,U0f]at hlen;rw[Xy];exact(decide_eq_true (by lia)).symm
    |cons a t hv=>
     cases hwi with
     |nil=>
      simp only[U0y,U0f]at hlen;rw[Xz];exact(decide_eq_false (by lia)).symm
     |cons c u hw=>
      rw[U47]at hz;cases hz
   rw[hv]at hR;wp_walk;exact⟨_,rfl,by simpa [Builtin.Tuple.tupleCompareSizes] using hR⟩
  case h=>
   exact⟨rfl,rfl,items.toList,items2.toList,ns,ms,rfl,hi,hj,by lia,h⟩
end
section
variable{prog:Program}{w:World}{A:Around}{E:Value->Shared->Prop}{s:Shared}
def jK{Q:Value->Shared->Prop}(hl:IsTup s.heap l items)(hb:IsTup s.heap b items2)(hi:IntsAre items.toList ns)(hj:IntsAre items2.toList ms)
  (hu:A.units<cLine) (h:Q (.bool (lexLt ns ms)) s):wpAny (model prog w) A (compareOp .Lt (.ref l) (.ref b)) Q E s:=by
 obtain⟨⟨cls,dd,data,sl⟩,ho,hc,n,hd⟩:=id hl;obtain⟨⟨cls2,dd2,data2,sl2⟩,ho2,hc2,n2,hd2⟩:=id hb;simp only at hc hd hc2 hd2;subst hc hd hc2 hd2;exact richCompare_meets_room (op:=.Lt) ⟨_,ho,rfl⟩ ⟨_,ho2,rfl⟩ PySem.F.slot_tuple_lt PySem.F.entry_tuple_lt (PySem.F.args_tuple_lt_2 _ _) (Yz l b items items2 n n2 dd dd2 sl sl2 ns ms hi hj)
  ⟨ho,ho2,show U3r (lexLt ns ms)≠Value.notImplemented/\Q (.bool (lexLt ns ms)) s from ⟨(λx=>nomatch x),h⟩⟩ hu
def yS{Q:Value->Shared->Prop}(ht:IsTup s.heap t vs.toArray)(hb:IsTup s.heap b ws.toArray)(hv:vs≠[])
  (h1:ws=[]->Q (.ref t) s) (h2:ws≠[]->Q (.ref s.heap.objs.size) { s with heap:=s.heap.push { cls:=.type "tuple",data:=.seq (vs++ws).toArray } })
  (hsz:vs.length+ws.length<=sizeLine):wpAny (model prog w) A (binaryOp .Add (.ref t) (.ref b)) Q E s:=by
 obtain⟨⟨cls,dd,data,sl⟩,ho,hc,n,hd⟩:=id ht;obtain⟨⟨cls2,dd2,data2,sl2⟩,ho2,hc2,n2,hd2⟩:=id hb;simp only at hc hd hc2 hd2;subst hc hd hc2 hd2;have e:vs.toArray++ws.toArray=(vs++ws).toArray:=by simp
 by_cases hw:ws=[]
 .exact concat_meets ⟨_,ho,rfl⟩ ⟨_,ho2,rfl⟩ noFill_tuple_add seq_tuple_add U6j U59 (U50 _ _)
   (tuple_addW1 t b vs.toArray ws.toArray n n2 dd dd2 sl sl2 (by simpa using hv) (by simp[hw])) ⟨ho,ho2,h1 hw⟩
 .refine concat_meets ⟨_,ho,rfl⟩ ⟨_,ho2,rfl⟩ noFill_tuple_add seq_tuple_add U6j U59 (U50 _ _)
   (tuple_addW2 t b vs.toArray ws.toArray n n2 dd dd2 sl sl2 (by simpa using hv) (by simpa using hw) (by rw[U0t,U0t];exact hsz)) ⟨ho,ho2,?_⟩
  rw[e];exact h2 hw
def sIx(n d:Nat):Option Int->Nat
 |none=>d
 |some v=>if v<0 then (v+(n:Int)).toNat else min v.toNat n
theorem fB(n d k:Nat):sIx n d (some (k:Int))=min k n:=by show(if (k:Int)<0 then ((k:Int)+(n:Int)).toNat else min (k:Int).toNat n)=min k n;rw[if_neg (by lia),U2t]
theorem Ja0(n d:Nat)(hd:d<=n)(o:Option Int):sIx n d o<=n:=by
 cases o with
 |none=>exact hd
 |some v=>
  show(if v<0 then (v+(n:Int)).toNat else min v.toNat n)<=n;by_cases hv:v<0
  .rw[if_pos hv];lia
  .rw[if_neg hv];exact Nat.min_le_right _ _
theorem gJ(v:Int)(n d:Nat):(if v<0 then max (v+(n:Int)) 0 else min v (n:Int))=((sIx n d (some v):Nat):Int):=by
 show(if v<0 then max (v+(n:Int)) 0 else min v (n:Int))=(((if v<0 then (v+(n:Int)).toNat else min v.toNat n):Nat):Int);by_cases hv:v<0
 .simp only[if_pos hv];lia
 .simp only[if_neg hv];lia
theorem ju(lo hi:Option Int)(n:Nat):U3i lo hi 1 (n:Int)=(((sIx n 0 lo:Nat):Int),((sIx n n hi:Nat):Int)):=by
 have h1:¬((1:Int)<0):=by lia
 unfold U3i;simp only[h1,if_false];refine U86 ?_ ?_
 .cases lo with
  |none=>rfl
  |some v=>exact gJ v n 0
 .cases hi with
  |none=>rfl
  |some v=>exact gJ v n n
theorem jE(i j:Nat):U20 (i:Int) (j:Int) 1=j-i:=by
 unfold U20;have h1:(1:Int)>0:=by lia
 simp only[h1,if_true,U8v];split<;>lia
def WY{Q:Option Int->Shared->Prop}(p:IsPart v o)(h:Q o s):wpAny (model prog w) A (Builtin.Slice.slicePartIndex v) Q E s:=by
 cases p with
 |none=>exact slicePart_none h
 |int i t=>exact slicePart_int h
def Pz{sl:Addr}{vl vu:Value}{lo hi:Option Int}{n:Nat}{Q:Int×Int×Nat->Shared->Prop}(hs:s.heap.IsSliceOf sl vl vu .none)(pl:IsPart vl lo)(pu:IsPart vu hi)
  (h:Q (((sIx n 0 lo:Nat):Int),1,sIx n n hi-sIx n 0 lo) s):wpAny (model prog w) A (U5s (.ref sl) (pure (n:Int))) Q E s:=by
 obtain⟨os,hos,hcs,hds⟩:=id hs;unfold U5s Builtin.Slice.sliceFields;refine U0 (U0 (U1v hos hds (x:=vl) rfl (U0 (U1v hos hds (x:=vu) rfl (U0 (U1v hos hds (x:=.none) rfl (U0c ?_)))))));refine U0 (slicePart_none ?_);show wpAny _ _ (if ((1:Int)==0)=true then _ else _) _ _ s;rw[if_neg (by decide)];refine U0 (WY pl (U0 (WY pu (U0 (U0c ?_)))));show wpAny _ _ (match U3i lo hi 1 (n:Int) with|(lo,hi)=>pure (lo,(1:Int),U20 lo hi 1)) _ _ s;rw[ju lo hi n];show wpAny _ _ (pure (((sIx n 0 lo:Nat):Int),(1:Int),U20 ((sIx n 0 lo:Nat):Int) ((sIx n n hi:Nat):Int) 1)) _ _ s;rw[jE];exact U0c h
theorem qx(xs:Array Value)(i k:Nat):((U07 k).filterMap λ(m:Nat)=>xs[((i:Int)+(m:Int)*1).toNat]?).toArray=((xs.toList.drop i).take k).toArray:=by
 have e:(λ(m:Nat)=>xs[((i:Int)+(m:Int)*1).toNat]?)=λm=>xs[i+m]?:=by
  funext m;have:((i:Int)+(m:Int)*1).toNat=i+m:=by lia
  rw[this]
 rw[e];have:=pick_run xs i k;rw[List.filterMap_map]at this;have e2:((λx=>xs[x]?)∘λx=>i+x)=λm=>xs[i+m]?:=rfl;rw[e2]at this;rw[this]
theorem Ur{t sl:Addr}{items:Array Value}{vl vu:Value}{lo hi:Option Int}{Q:Value->Shared->Prop}(ht:IsTup s.heap t items)(hs:s.heap.IsSliceOf sl vl vu .none)(pl:IsPart vl lo)(pu:IsPart vu hi)
  (hw:¬(sIx items.size 0 lo=0/\sIx items.size items.size hi=items.size))
  (h:Q (.ref s.heap.objs.size) { s with heap:=s.heap.push { cls:=.type "tuple",data:=.seq ((items.toList.drop (sIx items.size 0 lo)).take (sIx items.size items.size hi-sIx items.size 0 lo)).toArray } })
  (hsz:items.size<=sizeLine):wpAny (model prog w) A (getItem (.ref t) (.ref sl)) Q E s:=by
 have htake:sizeOk (.seq ((items.toList.drop (sIx items.size 0 lo)).take (sIx items.size items.size hi-sIx items.size 0 lo)).toArray):=by show((items.toList.drop (sIx items.size 0 lo)).take (sIx items.size items.size hi-sIx items.size 0 lo)).toArray.size<=sizeLine;rw[U0t,U2e,U4b,U1j];lia
 have hj:sIx items.size items.size hi<=items.size:=Ja0 _ _ (U0o _) hi;obtain⟨os,hos,hcs,hds⟩:=id hs;have hTs:s.TypeIs (.ref sl) "slice":=⟨os,hos,hcs⟩;unfold getItem
 try with_reducible refine U1u ?_
 first|refine U0 (U0c ?_)|skip
 refine U0 (U73 ht.typeIs (by decide) ?_);refine U0 (wpAny_callSpecial?_slot (name:=U2w "__getitem__") ht.typeIs U12
  (U1o U12 ht.typeIs entry_tuple_getitem ?_ (args_tuple_getitem _ _)))
 show wpAny _ _ (U5t (.ref t) >>= _) _ _ s;refine U0 (tupleItemsOf_ ht ?_);refine U0 (U4f hTs ?_);rw[if_pos (by decide)];refine U0 (Pz hs pl pu ?_);have hno:¬((((sIx items.size 0 lo:Nat):Int)==0&&(1:Int)==1&&(sIx items.size items.size hi-sIx items.size 0 lo)==items.size)=true):=by intro q;rw[U1a,U1a]at q;have q1:((sIx items.size 0 lo:Nat):Int)=0:=eq_of_beq q.1.1;have q2:sIx items.size items.size hi-sIx items.size 0 lo=items.size:=eq_of_beq q.2;exact hw ⟨by lia,by lia⟩
 show wpAny _ _ (if (((sIx items.size 0 lo:Nat):Int)==0&&(1:Int)==1&&(sIx items.size items.size hi-sIx items.size 0 lo)==items.size)=true then _ else _) _ _ s;rw[if_neg hno,qx]
 first
  |exact U0 (m:=U25 _) (U1l (U0c ⟨_,rfl,U0c h⟩) htake)
  |exact U0 (m:=U25 _) (U1l (U0 (U0c (U0c ⟨_,rfl,U0c h⟩))) htake)
  |exact U0 (U0 (m:=U25 _) (U1l (U0c (U0c ⟨_,rfl,U0c h⟩)) htake))
  |exact U0 (U0 (m:=U25 _) (U1l (U0c ⟨_,rfl,U0c h⟩) htake))
end
end HT
namespace L2
open PySem PySem.Spec PyProof.Rows
abbrev TO:=St->Hp->(Option Int->Hp->Prop)->Prop
def PO(X:Cx)(e:Option Expr)(t:TO):Prop:=
 ∀(pins:List (Addr×Obj))(s:Shared)(Z3:St)(H:Hp)(Q:Option Int->Hp->Prop),Inv X pins Z3 H s->t Z3 H Q ->
  wpAny (model X.prog X.w) X.A (evalPart e X.env) (λu s'=>∃o H',Inv X pins Z3 H' s'/\IsPart u o/\Q o H') X.xe s
def vI:TO:=λ_ H Q=>Q none H
def Jdl(t:TE):TO:=λZ3 H Q=>t Z3 H λx H1=>∃i,x=.int i/\Q (some i) H1
def intsAre_of:∀{us:List Value},Vals (ns.map V.int) us->IntsAre us ns:=by
 induction ns with
 |nil=>intro us r;rw[U09]at r;cases r;exact .nil
 |cons n ns ih=>
  intro us r;rw[U0j]at r;cases r with
  |cons r1 r2=>
   obtain⟨t,e⟩:=r1;subst e;exact .cons n t (ih r2)
section
variable{X:Cx}{e:Expr}{te:TE}{lo hi:Option Expr}{tl th:TO}{pos p2:Pos}
def wN:PO X none vI:=by exact`zt;rw[evalPart_none];exact U0c ⟨none,H,I,.none,h⟩
def wM(h:PE X e te):PO X (some e) (Jdl te):=by intro pins s Z3 H Q I hw;rw[evalPart_some];refine thn (h pins s Z3 H _ I hw) λu s1 ⟨x,H1,I1,r1,q1⟩=>?_;obtain⟨i,rfl,q⟩:=q1;obtain⟨t,rfl⟩:=r1;exact⟨some i,H1,I1,.int i t,q⟩
def SlR(X:Cx)(r:V->Option Int->Option Int->Hp->VK->Prop):Prop:=
 ∀(pins:List (Addr×Obj))(s:Shared)(Z3:St)(H:Hp)(x:V)(v vl vu:Value)(lo hi:Option Int)(sl:Addr)(Q:VK),Inv X pins Z3 H s->RelV x v->s.heap.IsSliceOf sl vl vu .none->IsPart vl lo->IsPart vu hi->r x lo hi H Q ->
  ∃T id,typeLookup (.type T) "__getitem__"=pure (some (.builtin id))/\s.TypeIs v T/\wpAny (model X.prog X.w) X.A (getItem v (.ref sl)) (EP X pins Z3 Q) X.xe s
def SlR.or{r r':V->Option Int->Option Int->Hp->VK->Prop}(h:SlR X r)(h':SlR X r'):SlR X (λx lo hi H Q=>r x lo hi H Q∨r' x lo hi H Q):=by
 intro pins s Z3 H x v vl vu lo hi sl Q I rx hs pl pu q;rcases q with q|q
 .exact h pins s Z3 H x v vl vu lo hi sl Q I rx hs pl pu q
 .exact h' pins s Z3 H x v vl vu lo hi sl Q I rx hs pl pu q
def tSl(r:V->Option Int->Option Int->Hp->VK->Prop)(te:TE)(tl th:TO):TE:=λZ3 H Q=>te Z3 H λx H1=>tl Z3 H1 λl H2=>th Z3 H2 λu H3=>r x l u H3 Q
def rA{r:V->Option Int->Option Int->Hp->VK->Prop}(hr:SlR X r)(he:PE X e te)(hl:PO X lo tl)(hu:PO X hi th):PE X (.Subscript e (.Slice lo hi none p2) pos) (tSl r te tl th):=by exact`zt;refine Subscript_ (thn (he pins s Z3 H _ I h) λv s1 ⟨x,H1,I1,r1,q1⟩=>?_);refine wpAny_Slice (thn (hl pins s1 Z3 H1 _ I1 q1) λvl s2 ⟨l,H2,I2,pl,q2⟩=>thn (hu pins s2 Z3 H2 _ I2 q2) λvu s3 ⟨u,H3,I3,pu,q3⟩=>?_);rw[evalPart_none];refine U0c ?_;have I4:Inv X pins Z3 H3 { s3 with heap:=s3.heap.push { cls:=.type "slice",data:=.fields #[vl,vu,.none] } }:=I3.kept (t':=s3.toks) λb ob q=>U0a _ q;obtain⟨T,id,hT,ht,hg⟩:=hr pins { s3 with heap:=s3.heap.push { cls:=.type "slice",data:=.fields #[vl,vu,.none] } } Z3 H3 x v vl vu l u s3.heap.objs.size Q I4 r1 (U7r ..) pl pu q3;show wpAny (model X.prog X.w) X.A (subscriptTail e (.Slice lo hi none p2) v (.ref s3.heap.objs.size)) (EP X pins Z3 Q) X.xe { s3 with heap:=s3.heap.push { cls:=.type "slice",data:=.fields #[vl,vu,.none] } };exact tail_any (ops:=[.ref s3.heap.objs.size,v]) ht hT hg (by with_unfolding_all rfl)
def Le(xs:List V)(lo hi:Option Int):List V:=(xs.drop (HT.sIx xs.length 0 lo)).take (HT.sIx xs.length xs.length hi-HT.sIx xs.length 0 lo)
theorem V0(xs:List V)(lo hi:Option Int):(Le xs lo hi).length<=xs.length:=by unfold Le;rw[U2e,U4b];lia
def Je8(K:U0e):V->Option Int->Option Int->Hp->VK->Prop:=λx lo hi H Q=>∃a xs,x=.ref a/\SqT K H a xs /\
 ¬(HT.sIx xs.length 0 lo=0/\HT.sIx xs.length xs.length hi=xs.length)/\∀p,H p=none->Q (.ref p) (upd H p (.tup (Le xs lo hi)))
def Jax:SlR X (Je8 X.K):=by
 intro pins s Z3 H x v vl vu lo hi sl Q I rx hs pl pu h;obtain⟨a,xs,rfl,hx,hw,q⟩:=h;cases rx;obtain⟨its,r,ht,hz⟩:=I.tuple hx;have hlen:its.toArray.size=xs.length:=by rw[U0t];exact r.length.symm
 refine⟨"tuple",_,U12.lookup,ht.typeIs,?_⟩;refine HT.Ur ht hs pl pu (by rw[hlen];exact hw) ?_ (by rw[hlen];exact hz);rw[hlen];refine⟨.ref s.heap.objs.size,_,I.laid (t':=s.toks) (o:=.tup (Le xs lo hi)) (λb ob q=>U0a _ q) (U0o _) ?_,rfl,q _ (I.hok.fresh (U0o _))⟩;exact⟨U01 (V0 xs lo hi) hz,_,(r.drop (HT.sIx xs.length 0 lo)).take (HT.sIx xs.length xs.length hi-HT.sIx xs.length 0 lo),U7s _ _⟩
def Jdu(K:U0e):R2:=λx y H Q=>∃a b xs ys,x=.ref a/\y=.ref b/\SqT K H a xs/\SqT K H b ys/\xs≠[]/\xs.length+ys.length<=sizeLine /\
 (ys=[]->Q (.ref a) H)/\(ys≠[]->∀p,H p=none->Q (.ref p) (upd H p (.tup (xs++ys))))
def Vals.Ue(r:Vals xs us):us=[]↔xs=[]:=by
 cases r with
 |nil=>simp
 |cons _ _=>simp
def wj:OpR X (binaryOp .Add) (Jdu X.K):=by exact`zh;obtain⟨a,b,xs,ys,rfl,rfl,ha,hb,hx,hz,q1,q2⟩:=h;cases rx;cases ry;obtain⟨its,r1,p1,_⟩:=I.tuple ha;obtain⟨its2,r2,p2,_⟩:=I.tuple hb;refine HT.yS p1 p2 (λz=>hx (r1.Ue.mp z)) (λz=>⟨.ref a,H,I,rfl,q1 (r2.Ue.mp z)⟩) (λz=>?_) (by rw[←r1.length,←r2.length];exact hz);refine⟨.ref s.heap.objs.size,_,I.laid (t':=s.toks) (o:=.tup (xs++ys)) (λb ob q=>U0a _ q) (U0o _) ?_,rfl,q2 (λw=>z (r2.Ue.mpr w)) _ (I.hok.fresh (U0o _))⟩;exact⟨by rw[U0n];exact hz,_,r1.append r2,U7s _ _⟩
end
def ixN(n:Nat)(i:Int):Option Nat:=if 0<=i then (if i<n then some i.toNat else none) else if -(n:Int)<=i then some (i+n).toNat else none
def atI{Zp:Type}(xs:List Zp)(i:Int):Option Zp:=(ixN xs.length i).bind λj=>xs[j]?
def fj(h:ixN n i=some j):seqIndex? i n=some j/\j<n/\-(n:Int)<=i/\i<n:=by
 unfold ixN at h;by_cases h0:0<=i
 .rw[if_pos h0]at h;by_cases h1:i<n
  .rw[if_pos h1]at h;have e:i.toNat=j:=U08 h;exact⟨by rw[seqIndex_of h0 h1,e],by lia,by lia,h1⟩
  .rw[if_neg h1]at h;cases h
 .rw[if_neg h0]at h;by_cases h1:-(n:Int)<=i
  .rw[if_pos h1]at h;have e:(i+n).toNat=j:=U08 h;exact⟨by rw[seqIndex_neg (by lia) h1,e],by lia,h1,by lia⟩
  .rw[if_neg h1]at h;cases h
def Xx{Zp:Type}{xs:List Zp}{i:Int}{v:Zp}(h:atI xs i=some v):∃j,seqIndex? i xs.length=some j/\xs[j]?=some v/\j<xs.length/\-(xs.length:Int)<=i/\i<xs.length:=by
 unfold atI at h;cases e:ixN xs.length i with
 |none=>rw[e]at h;cases h
 |some j=>
  rw[e]at h;obtain⟨h1,h2,h3,h4⟩:=fj e;exact⟨j,h1,h,h2,h3,h4⟩
def LR{Zp:Type}{xs:List Zp}{j:Nat}{v:Zp}(h:xs[j]?=some v):atI xs (j:Int)=some v:=by
 have hj:j<xs.length:=(U0l.mp h).1;have e:ixN xs.length (j:Int)=some j:=by unfold ixN;rw[if_pos (by lia),if_pos (by lia)];simp
 unfold atI;rw[e];exact h
def uF{Zp:Type}(xs:List Zp)(v:Zp):atI (xs++[v]) (-1)=some v:=by
 have hl:(xs++[v]).length=xs.length+1:=by simp
 have e:ixN (xs++[v]).length (-1)=some xs.length:=by unfold ixN;rw[hl,if_neg (by decide),if_pos (by lia)];congr 1;lia
 unfold atI;rw[e];show(xs++[v])[xs.length]?=some v;simp
def Um(b:Expr):Prop:=∀o i,subscripted b false o i=operate [o,i] (getItem o i)
def IxR(X:Cx)(r:R2):Prop:=
 ∀(value slice:Expr)(pins:List (Addr×Obj))(s:Shared)(Z3:St)(H:Hp)(x y:V)(v u:Value)(Q:VK),Inv X pins Z3 H s->RelV x v->RelV y u->r x y H Q ->
  subscripted slice false v u=operate [v,u] (getItem v u)->wpAny (model X.prog X.w) X.A (subscriptTail value slice v u) (EP X pins Z3 Q) X.xe s
def MtR(X:Cx)(id:String)(r:V->List V->Hp->VK->Prop):Prop:=
 ∀(pins:List (Addr×Obj))(s:Shared)(Z3:St)(H:Hp)(x:V)(xs:List V)(v:Value)(us:List Value)(Q:VK),Inv X pins Z3 H s->RelV x v->Vals xs us->r x xs H Q ->
  wpAny (model X.prog X.w) X.A (call (.builtin id) (v::us)) (EP X pins Z3 Q) X.xe s
section
variable{X:Cx}{a b:Expr}{ta tb:TE}{pos:Pos}
def IxR.or(h:IxR X r)(h':IxR X r'):IxR X (λx y H Q=>r x y H Q∨r' x y H Q):=by
 intro value slice pins s Z3 H x y v u Q I rx ry q hs;rcases q with q|q
 .exact h value slice pins s Z3 H x y v u Q I rx ry q hs
 .exact h' value slice pins s Z3 H x y v u Q I rx ry q hs
def Jdz(hr:IxR X r)(ha:PE X a ta)(hb:PE X b tb)(hs:Um b):PE X (.Subscript a b pos) (tOp r ta tb):=by exact`zt;exact Subscript_ (gj ha hb I h λv u s2 x y H2 I2 rx ry q=>hr a b pins s2 Z3 H2 x y v u Q I2 rx ry q (hs _ _))
def zZ(K:U0e):R2:=λx y H Q=>∃p xs i v,x=.ref p/\y=.int i/\SqL K H p xs/\atI xs i=some v/\Q v H
def zX(K:U0e):R2:=λx y H Q=>∃p xs i v,x=.ref p/\y=.int i/\SqT K H p xs/\atI xs i=some v/\Q v H
def zY:R2:=λx y H Q=>∃z i c,x=.str z/\y=.int i/\z.length<=sizeLine/\atI z.cps.toList i=some c/\Q (.str ⟨#[c]⟩) H
theorem xY:IxR X (zZ X.K):=by
 intro value slice pins s Z3 H x y v u Q I rx ry h hs;obtain⟨p,xs,i,z,rfl,rfl,hq,he,q⟩:=h;cases rx;obtain⟨t,rfl⟩:=ry;obtain⟨its,r,pl,hz⟩:=I.list hq;obtain⟨j,h1,h2,h3,h4,h5⟩:=Xx he;obtain⟨w,ew,rw'⟩:=r.get h2;have hl:=r.length;have hn:=Sy;have fin:EP X pins Z3 Q w s:=⟨z,H,I,rw',q⟩;by_cases h0:0<=i
 .have hj:i.toNat=j:=by rw[seqIndex_of h0 h5]at h1;exact U08 h1
  exact item_listR pl.isList h0 (by lia) (by rw[hj];simpa using ew) fin hs
 .have hj:(i+(its.toArray.size:Int)).toNat=j:=by rw[seqIndex_neg (by lia) h4]at h1;rw[U0t,←hl];exact U08 h1
  exact subscriptTail_builtinR (x:=w) pl.isList.typeIs slot_list_getitem.lookup
   (wpAny_getItem_list_neg (Q:=λr s'=>r=w/\EP X pins Z3 Q r s') pl.isList (by lia) (by rw[U0t]<;>lia) (by lia) (by rw[hj];simpa using ew) ⟨rfl,fin⟩) hs
theorem Jb6:IxR X (zX X.K):=by
 intro value slice pins s Z3 H x y v u Q I rx ry h hs;obtain⟨p,xs,i,z,rfl,rfl,hq,he,q⟩:=h;cases rx;obtain⟨t,rfl⟩:=ry;obtain⟨its,r,pl,hz⟩:=I.tuple hq;obtain⟨j,h1,h2,h3,h4,h5⟩:=Xx he;obtain⟨w,ew,rw'⟩:=r.get h2;have hl:=r.length;have hn:=Sy;have fin:EP X pins Z3 Q w s:=⟨z,H,I,rw',q⟩;exact subscriptTail_builtinR (x:=w) pl.typeIs slot_tuple_getitem.lookup
  (getItem_tuple (j:=j) (Q:=λr s'=>r=w/\EP X pins Z3 Q r s') pl (by lia) (by lia) (by rw[U0t,←hl];exact h1) (by simpa using ew) ⟨rfl,fin⟩) hs
theorem Jb7:IxR X zY:=by
 intro value slice pins s Z3 H x y v u Q I rx ry h hs;obtain⟨z,i,c,rfl,rfl,hz,he,q⟩:=h;obtain⟨t,rfl⟩:=rx;obtain⟨t',rfl⟩:=ry;obtain⟨j,h1,h2,h3,h4,h5⟩:=Xx he;have hl:z.cps.toList.length=z.length:=by simp[Str.length]
 rw[hl]at h1 h4 h5;have hn:=Sy;exact tail_any (typeIs_str s z t) slot_str_getitem.lookup (getItem_str (c:=c) (by
  have e1:decide (i < -(2^63:Int))=false:=decide_eq_false (by lia);have e2:decide (i≥2^63)=false:=decide_eq_false (by lia);rw[e1,e2,Bool.or_false]) (by rw[h1];simpa using h2) ⟨.str ⟨#[c]⟩,H,I.tok _,⟨_,rfl⟩,q⟩) hs
def rIx(K:U0e):R2:=λx y H Q=>zZ K x y H Q∨zX K x y H Q∨zY x y H Q
def BK:IxR X (rIx X.K):=xY.or (Jb6.or Jb7)
def jJ(its:List Value)(n j:Nat)(u:Value):U1m (·.setIfInBounds j u) { cls:=.type "list",data:=.seq its.toArray n }={ cls:=.type "list",data:=.seq (its.set j u).toArray n }:=by simp[U1m]
theorem Inv.lst(I:Inv X pins Z3 H s)(h:H p=some (.lst xs)) :
  ∃(its:List Value)(n:Nat),Vals xs its/\s.heap.get? p=some { cls:=.type "list",data:=.seq its.toArray n }/\xs.length<=sizeLine:=by
 obtain⟨z,its,n,r,e⟩:=I.hok p _ h;exact⟨its,n,r,e,z⟩
def Inv.Jbw{pins:List (Addr×Obj)}{Z3:St}{H:Hp}{s:Shared}{p:Addr}{xs ys:List V}{its its':List Value}{n n':Nat}{f:Obj->Obj}(I:Inv X pins Z3 H s)(h:H p=some (.lst xs))
  (ho:s.heap.get? p=some { cls:=.type "list",data:=.seq its.toArray n }) (hf:f { cls:=.type "list",data:=.seq its.toArray n }={ cls:=.type "list",data:=.seq its'.toArray n' }) (r:Vals ys its') (hz:ys.length<=sizeLine) (t:Nat) :
  Inv X pins Z3 (upd H p (.lst ys)) { s with heap:=s.heap.update p f,toks:=t }:=by
 have e:(s.heap.update p f).get? p=some { cls:=.type "list",data:=.seq its'.toArray n' }:=by rw[U2g f ho (by rw[hf]<;>rfl),hf]
 refine I.write (x:=p) (e:=p) (by rw[h];trivial) (.inl rfl) (λb u hb q=>(U1f _ _ (U1n hb)).trans q) ⟨_,e⟩ ?_;exact⟨hz,its',n',r,e⟩
def Jds:V->V->V->Hp->(Hp->Prop)->Prop:=λo i v H Q=>∃p xs k j,o=.ref p/\i=.int k/\H p=some (.lst xs)/\ixN xs.length k=some j/\Q (upd H p (.lst (xs.set j v)))
theorem set_list:Jah X Jds:=by
 intro pins s Z3 H o i v ov iv u Q I ro ri rv h;obtain⟨p,xs,k,j,rfl,rfl,hp,hj,q⟩:=h;cases ro;obtain⟨t,rfl⟩:=ri;obtain⟨its,n,r,ho,hz⟩:=I.lst hp;obtain⟨h1,h2,h3,h4⟩:=fj hj;have hl:=r.length;have hn:=Sy;have I':Inv X pins Z3 (upd H p (.lst (xs.set j v))) { s with heap:=s.heap.update p (U1m (·.setIfInBounds j u)) }:=
  I.Jbw hp ho (jJ its n j u) (r.set rv j) (by rw[U3p];exact hz) s.toks
 by_cases h0:0<=k
 .have hk:k.toNat=j:=by rw[seqIndex_of h0 h4]at h1;exact U08 h1
  exact PySem.W.ki_setAt ho h0 (by lia) (by rw[U0t,←hl];exact h4) (by rw[hk];exact⟨_,I',q⟩)
 .have hk:(k+(its.toArray.size:Int)).toNat=j:=by rw[seqIndex_neg (by lia) h3]at h1;rw[U0t,←hl];exact U08 h1
  exact PySem.W.ki_setBack ho (by lia) (by rw[U0t,←hl];exact h3) (by lia) (by rw[hk];exact⟨_,I',q⟩)
def cD(lo hi:Option Int)(n:Nat):(sliceBounds lo hi none n).1=((HT.sIx n 0 lo:Nat):Int)/\(sliceBounds lo hi none n).2.1=((HT.sIx n n hi:Nat):Int)/\(sliceBounds lo hi none n).2.2=1:=by
 refine⟨?_,?_,rfl⟩
 .cases lo with
  |none=>simp[sliceBounds,HT.sIx]
  |some i=>
   simp only[sliceBounds,HT.sIx,Option.getD_none,show(1:Int)>0 by decide,if_true];by_cases h:i<0
   .simp only[h,if_true]<;>exact zy h
   .simp only[h,if_false]<;>exact Jaa
 .cases hi with
  |none=>simp[sliceBounds,HT.sIx]
  |some i=>
   simp only[sliceBounds,HT.sIx,Option.getD_none,show(1:Int)>0 by decide,if_true];by_cases h:i<0
   .simp only[h,if_true]<;>exact zy h
   .simp only[h,if_false]<;>exact Jaa
def Z1(its:List Value)(lo hi:Option Int):slicePick its.toArray lo hi none=((its.drop (HT.sIx its.length 0 lo)).take (HT.sIx its.length its.length hi-HT.sIx its.length 0 lo)).toArray:=by obtain⟨h1,h2,h3⟩:=cD lo hi its.toArray.size;unfold slicePick;rw[h1,h2,h3];simp only[sliceRange_one,pick_run,U0t]<;>rfl
def zR(K:U0e):V->Option Int->Option Int->Hp->VK->Prop:=λx lo hi H Q=>∃a xs,x=.ref a/\SqL K H a xs/\∀p,H p=none->Q (.ref p) (upd H p (.lst (Le xs lo hi)))
theorem vU:SlR X (zR X.K):=by intro pins s Z3 H x v vl vu lo hi sl Q I rx hs pl pu h;obtain⟨a,xs,rfl,hx,q⟩:=h;cases rx;obtain⟨its,r,ht,hz⟩:=I.list hx;have hlen:=r.length;refine⟨"list",_,slot_list_getitem.lookup,ht.isList.typeIs,?_⟩;refine wpAny_getItem_list_slice ht.isList hs pl pu .none (by simp) ?_ (by rw[U0t]<;>lia);rw[Z1,←hlen];refine⟨.ref s.heap.objs.size,_,I.laid (t':=s.toks) (o:=.lst (Le xs lo hi)) (λb ob q=>U0a _ q) (U0o _) ?_,rfl,q _ (I.hok.fresh (U0o _))⟩;exact⟨U01 (V0 xs lo hi) hz,_,0,(r.drop (HT.sIx xs.length 0 lo)).take (HT.sIx xs.length xs.length hi-HT.sIx xs.length 0 lo),U0s _ rfl⟩
theorem Cy:Eh X (.builtin "len") (λxs H Q=>∃p ys,xs=[.ref p]/\(SqL X.K H p ys∨SqT X.K H p ys)/\Q (.int ys.length) H):=by
 exact`zo;obtain⟨p,ys,rfl,hq,q⟩:=h;obtain⟨u,rfl,rx⟩:=vals1 r;cases rx;have hn:=Sy;rcases hq with hq|hq
 .obtain⟨its,r',pl,hz⟩:=I.list hq;have hlen:=r'.length;exact Calls.call_len_list pl.isList (by simp only[U0t]<;>lia) ⟨.int ys.length,H,I.tok _,⟨s.toks+1,by rw[U0t,hlen]⟩,q⟩
 .obtain⟨its,r',pl,hz⟩:=I.tuple hq;have hlen:=r'.length;exact len_tuple pl (by simp only[U0t]<;>lia) ⟨.int ys.length,H,I.tok _,⟨s.toks+1,by rw[U0t,hlen]⟩,q⟩
def Eh.or{f:Value}{r r':List V->Hp->VK->Prop}(h:Eh X f r)(h':Eh X f r'):Eh X f (λxs H Q=>r xs H Q∨r' xs H Q):=by
 intro pins s Z3 H xs us Q I rs q;rcases q with q|q
 .exact h pins s Z3 H xs us Q I rs q
 .exact h' pins s Z3 H xs us Q I rs q
theorem Ke:Eh X (.type "tuple") (λxs H Q=>∃p ys,xs=[.ref p]/\((SqL X.K H p ys/\∀l,H l=none->Q (.ref l) (upd H l (.tup ys)))∨(SqT X.K H p ys/\Q (.ref p) H))):=by
 exact`zo;obtain⟨p,ys,rfl,h⟩:=h;obtain⟨u,rfl,rx⟩:=vals1 r;cases rx;rcases h with ⟨hq,q⟩|⟨hq,q⟩
 .obtain⟨its,r',pl,hz⟩:=I.list hq;have hlen:=r'.length;refine call_tuple_list pl.isList (λh' kp=>?_) (by simp only[U0t]<;>lia);have I1:Inv X pins Z3 H { s with heap:=h' }:=I.kept (t':=s.toks) kp;have I2:Inv X pins Z3 (upd H h'.objs.size (.tup ys)) { s with heap:=h'.push { cls:=.type "tuple",data:=.seq its.toArray } }:=
   I1.laid (t':=s.toks) (λb o e=>U0a _ e) (U0o _) (show Df X.prog X.w _ _ _ (.tup ys) from ⟨hz,its,r',U7s _ _⟩)
  exact⟨.ref h'.objs.size,_,I2,rfl,q _ (I1.hok.fresh (U0o _))⟩
 .obtain⟨its,r',pl,hz⟩:=I.tuple hq;exact call_tuple_same pl ⟨.ref p,H,I,rfl,q⟩
def tyV(K:U0e)(T:String)(x:V)(H:Hp):Prop:=match x with
 |.str _=>T="str"
 |.int _=>T="int"
 |.ref p=>(T="list"/\∃xs,SqL K H p xs)∨(T="tuple"/\∃o,K.lookup p=some o/\o.cls=.type "tuple"/\o.dict=none) ∨
   (T="dict"/\((∃kvs,H p=some (.dK kvs))∨∃kvs,H p=some (.dT kvs)))∨(T="set"/\∃S n,H p=some (.set S n))
 |_=>False
def Jap(I:Inv X pins Z3 H s)(r:RelV x v)(ty:tyV X.K T x H) :
  s.TypeIs v T/\∀a,v=.ref a->∃ob,s.heap.get? a=some ob/\ob.dict=none:=by
 cases x with
 |str z=>
  obtain⟨t,rfl⟩:=r;cases (show T="str" from ty);exact⟨typeIs_str s z t,λ_ e=>nomatch e⟩
 |int i=>
  obtain⟨t,rfl⟩:=r;cases (show T="int" from ty);exact⟨typeIs_int s i t,λ_ e=>nomatch e⟩
 |ref p=>
  cases r;rcases ty with ⟨rfl,xs,hq⟩|⟨rfl,o,hk,hc,hd⟩|⟨rfl,hk⟩|⟨rfl,S,n,hk⟩
  .obtain⟨its,_,pl,_⟩:=I.list hq;refine⟨pl.isList.typeIs,λa e=>?_⟩;cases e;obtain⟨o,n,e,c,hd,_⟩:=pl;exact⟨o,e,hd⟩
  .refine⟨⟨o,I.kIn p o hk,hc⟩,λa e=>?_⟩;cases e;exact⟨o,I.kIn _ o hk,hd⟩
  .have z:∃o,s.heap.get? p=some o/\o.ExactDict:=by
    rcases hk with ⟨kvs,hk⟩|⟨kvs,hk⟩
    .obtain⟨_,_,_,_,o,_,_,e,ex,_⟩:=I.hok p _ hk;exact⟨o,e,ex⟩
    .obtain⟨_,_,_,_,o,_,_,e,ex,_⟩:=I.hok p _ hk;exact⟨o,e,ex⟩
   obtain⟨o,e,ex⟩:=z;refine⟨⟨o,e,ex.1⟩,λa e2=>?_⟩;cases e2;exact⟨o,e,ex.2.1⟩
  .obtain⟨o,_,_,_,e,ex,_⟩:=I.hok p _ hk;refine⟨⟨o,e,ex.1⟩,λa e2=>?_⟩;cases e2;exact⟨o,e,ex.2.1⟩
 |_=>exact U4p ty
def tBM(K:U0e)(T:String)(r:V->List V->Hp->VK->Prop)(to:TE)(t:TA):TE:=λZ3 H Q=>to Z3 H λx H1=>tyV K T x H1/\t Z3 H1 λxs H2=>r x xs H2 Q
variable{o e:Expr}{es:List Expr}{to:TE}{t:TA}{name:Str}{apos cpos:Pos}{T id:String}{r:V->List V->Hp->VK->Prop}
def Jd0(pa:PlainAttrs T)(slot:Slot T name id)(hty:typeOf (.builtin id)=pure (.type "method_descriptor"))(hm:MtR X id r)(ho:PE X o to)(ha:PA X (e::es) t)
  (hbase:attributeBase o name X.env (eval o X.env)=eval o X.env:=by rfl)
  (hfew:((backTo cpos (starEach (e::es) X.env)).all (λx=>!x.1)&&(backToKw cpos (keywordEach [] X.env)).all (λx=>x.1.isSome)
   && decide ((e::es).length+([]:List Keyword).length+(if ([]:List Keyword).isEmpty then 0 else 1)<30))=true:=by rfl)
  (hline:(apos.endLine==cpos.line)=true:=by rfl) (hs:starEach (e::es) X.env=(false,eval e X.env)::starEach es X.env:=by rfl) (hplain:(backTo cpos (starEach es X.env)).any (·.1)=false:=by rfl) :
  PE X (.Call (.Attribute o name apos) (e::es) [] cpos) (tBM X.K T r to t):=by
 exact`zt;refine wpAny_Call_method_late hbase hfew hline rfl (thn (ho pins s Z3 H _ I h) λv s1 ⟨x,H1,I1,r1,ty,q1⟩=>?_);obtain⟨h1,h2⟩:=Jap I1 r1 ty;refine⟨T,id,pa,slot,hty,h1,h2,?_⟩;have hA:=ha cpos pins s1 Z3 H1 _ I1 q1;rw[hs]at hA ⊢;refine U6k (by show(false||(backTo cpos (starEach es X.env)).any (·.1))=false;rw[hplain]<;>rfl) (Calls.evalArgs_plain ?_);exact thn hA λus s2 ⟨vs,H2,I2,r2,q2⟩=>hm pins s2 Z3 H2 x vs v us Q I2 r1 r2 q2
end
def MtM(X:Cx)(id:String)(r:V->List V->Hp->VK->Prop):Prop:=
 ∀(pins:List (Addr×Obj))(s:Shared)(Z3:St)(H:Hp)(x:V)(xs:List V)(v:Value)(us:List Value)(Q:VK),Inv X pins Z3 H s->RelV x v->Vals xs us->r x xs H Q ->
  wpAny (model X.prog X.w) X.A (call (.builtin id) (v::us)) (EP X pins Z3 Q) X.xe s
def Vals.one:∀{x:V} {us:List Value},Vals [x] us->∃u,us=[u]/\RelV x u
 |_,_,.cons r .nil=>⟨_,rfl,r⟩
theorem Vals.reverse(h:Vals xs us):Vals xs.reverse us.reverse:=by
 induction h with
 |nil=>exact .nil
 |cons r t ih=>rw[U6a,U6a];exact Vals.append ih (.cons r .nil)
theorem Vals.rep(h:Vals xs us):∀k:Nat,Vals (U06 k xs).flatten (U06 k us).flatten
 |0=>.nil
 |k+1=>by rw[U0p,U0p,U35,U35];exact Vals.append h (Vals.rep h k)
theorem foldl_rep(its:List Value):∀(k:Nat)(acc:List Value),
  U6y (λx1 x2=>x1++x2) acc.toArray (U06 k its.toArray)=(acc++(U06 k its).flatten).toArray
 |0,acc=>by simp
 |k+1,acc=>by
  have e:acc.toArray++its.toArray=(acc++its).toArray:=by simp
  have e2:(acc++its)++(U06 k its).flatten=acc++(U06 (k+1) its).flatten:=by rw[U0p,U35,U3o]
  rw[←e2,←foldl_rep its k (acc++its),←e,U0p,U2l]
section
variable{X:Cx}{pins:List (Addr×Obj)}{Z3:St}{H:Hp}{s:Shared}{l b:Addr}{xs ys zs:List V}
def Inv.zq{its its':List Value}{n:Nat}{f:Array Value->Array Value}{t':Nat}(I:Inv X pins Z3 H s)(hH:H l=some (.lst xs))
  (e:s.heap.get? l=some { cls:=.type "list",data:=.seq its.toArray n }) (hf:f its.toArray=its'.toArray) (hv:Vals ys its') (hz:ys.length<=sizeLine) :
  Inv X pins Z3 (upd H l (.lst ys)) { s with heap:=s.heap.update l (U1m f),toks:=t' }:=by
 have q:=PySem.IsL.update e f;rw[hf]at q;refine I.write (x:=l) (e:=l) (by rw[hH];exact trivial) (.inl rfl) (λb' u hb hu=>(U1f s.heap (U1m f) (U1n hb)).trans hu) ⟨_,q⟩ ?_;exact⟨hz,its',_,hv,q⟩
def Inv.zu(I:Inv X pins Z3 H s)(hv:Vals ys its)(hz:ys.length<=sizeLine) :
  Inv X pins Z3 (upd H s.heap.objs.size (.lst ys)) { s with heap:=s.heap.push { cls:=.type "list",data:=.seq its.toArray },toks:=t' }:=
 I.laid (λ_ _ q=>U0a _ q) (U0o _) ⟨hz,its,0,hv,U0s _ rfl⟩
theorem Inv.fresh(I:Inv X pins Z3 H s):H s.heap.objs.size=none:=I.hok.fresh (U0o _)
def Inv.XM(I:Inv X pins Z3 H s)(hH:H l=some (.lst xs)):xs.length<=sizeLine/\∃(its:List Value)(n:Nat),Vals xs its/\xs.length=its.length/\s.heap.get? l=some { cls:=.type "list",data:=.seq its.toArray n }:=by obtain⟨z,its,n,r,e⟩:=I.hok l _ hH;exact⟨z,its,n,r,r.length,e⟩
theorem bA(h:n<=sizeLine):U4x n=false:=by unfold U4x;exact decide_eq_false (by lia)
end
section
variable{X:Cx}
def fD:V->List V->Hp->VK->Prop:=λx vs H Q=>∃l xs y,x=.ref l/\vs=[y]/\H l=some (.lst xs)/\xs.length<sizeLine/\Q .non (upd H l (.lst (xs++[y])))
def Nq:MtM X "list.append" fD:=by intro pins s Z3 H x vs v us Q I rx rv h;obtain⟨l,xs,y,rfl,rfl,hH,hz,q⟩:=h;cases rx;obtain⟨u,rfl,ru⟩:=rv.one;obtain⟨z,its,n,r,hl,e⟩:=I.XM hH;refine call_meets F.slot_list_append ⟨_,e,rfl⟩ F.entry_list_append (F.args_list_append_2 _ _) (PySem.list_append l its.toArray n u (by rw[U0t];lia)) ⟨e,?_⟩;refine⟨.non,_,I.zq (its':=its++[u]) hH e (by simp) (r.append (.cons ru .nil)) ?_,rfl,q⟩;rw[U0n,U3w];lia
def fC:V->List V->Hp->VK->Prop:=λx vs H Q=>∃l b xs zs,x=.ref l/\vs=[.ref b]/\H l=some (.lst xs)/\H b=some (.lst zs)/\xs.length+zs.length<=sizeLine/\Q .non (upd H l (.lst (xs++zs)))
def nZ:MtM X "list.extend" fC:=by
 intro pins s Z3 H x vs v us Q I rx rv h;obtain⟨l,b,xs,zs,rfl,rfl,hH,hB,hz,q⟩:=h;cases rx;obtain⟨u,rfl,ru⟩:=rv.one;cases ru;obtain⟨z,its,n,r,hl,e⟩:=I.XM hH;obtain⟨z2,its2,n2,r2,hl2,e2⟩:=I.XM hB;have hsz:its.toArray.size+its2.toArray.size<=sizeLine:=by rw[U0t,U0t];lia
 have hlong:¬(!its.toArray.isEmpty&&U4x (its.toArray.size+its2.toArray.size))=true:=by rw[bA hsz,Bool.and_false];exact U05
 refine call_meets F.slot_list_extend ⟨_,e,rfl⟩ F.entry_list_extend (F.args_list_extend_2 _ _)
  (AutoSeq1.list_extend_list_list_0 l its.toArray n b its2.toArray n2 hlong (by rw[U0t];lia) (by lia)) ⟨e,e2,?_⟩
 refine⟨.non,_,I.zq (its':=its++its2) hH e (by simp) (r.append r2) ?_,rfl,q⟩;rw[U0n];lia
def zf:R2:=λx y H Q=>∃l b xs zs,x=.ref l/\y=.ref b/\H l=some (.lst xs)/\H b=some (.lst zs)/\xs.length+zs.length<=sizeLine/\∀p,H p=none->Q (.ref p) (upd H p (.lst (xs++zs)))
def Jbl:OpR X (binaryOp .Add) zf:=by
 exact`zh;obtain⟨l,b,xs,zs,rfl,rfl,hH,hB,hz,q⟩:=h;cases rx;cases ry;obtain⟨z,its,n,r,hl,e⟩:=I.XM hH;obtain⟨z2,its2,n2,r2,hl2,e2⟩:=I.XM hB;refine PySem.P.add_list e e2 ?_ (by rw[U0t,U0t];lia);have ea:its.toArray++its2.toArray=(its++its2).toArray:=by simp
 rw[ea];exact⟨.ref _,_,I.zu (t':=s.toks) (r.append r2) (by rw[U0n];lia),rfl,q _ I.fresh⟩
def zV:R2:=λx y H Q=>∃l k xs,x=.ref l/\y=.int k/\H l=some (.lst xs)/\-(2^63)<=k/\k<2^63/\xs.length*k.toNat<=sizeLine /\
 ∀p,H p=none->Q (.ref p) (upd H p (.lst (U06 k.toNat xs).flatten))
def len_rep{Zp:Type}(xs:List Zp)(k:Nat):(U06 k xs).flatten.length=k*xs.length:=by
 induction k with
 |zero=>simp
 |succ k ih=>rw[U0p,U35,U0n,ih,Nat.succ_mul,Nat.add_comm]
def Jbg:OpR X (binaryOp .Mult) zV:=by
 exact`zh;obtain⟨l,k,xs,rfl,rfl,hH,h1,h2,hz,q⟩:=h;cases rx;obtain⟨t,rfl⟩:=ry;obtain⟨z,its,n,r,hl,e⟩:=I.XM hH;have hlen:its.toArray.size*k.toNat<=sizeLine:=by rw[U0t,←hl];exact hz
 have hcap:¬its.toArray.size*k.toNat>(2^63-1)/8:=by
  have:(sizeLine:Nat)<=(2^63-1)/8:=by decide
  lia
 have hfit:¬(!Builtin.List.listFitsIndex k)=true:=by rw[fitsIndex_both h1 h2];exact U05
 have hlong:¬U4x (its.toArray.size*k.toNat)=true:=by rw[bA hlen];exact U05
 have hnew:U6y (λx1 x2=>x1++x2) #[] (U06 (if its.toArray.isEmpty=true then 0 else k.toNat) its.toArray)=(U06 k.toNat its).flatten.toArray:=by
  have f0:∀m:Nat,U6y (λx1 x2=>x1++x2) #[] (U06 m its.toArray)=(U06 m its).flatten.toArray:=λm=>by have:=foldl_rep its m [];rw[U1i]at this;exact this
  rw[f0];cases its with
  |nil=>simp
  |cons a r'=>rw[if_neg (by simp)]
 refine wpAny_binaryOp_repeat_ref (T:="list") (U:="int") (by decide) ⟨_,e,rfl⟩ (λs'=>typeIs_int s' k t) noFill_list_mul F.fills_int_mul F.slot_int_rmul repeat_list F.slot_int_index.lookup
  (call_meets F.slot_int_rmul (typeIs_int s k t) F.entry_int_rmul (F.args_int_rmul_2 _ _) (int___rmul___int_list k t l its.toArray n)
   ⟨e,rfl,⟨_,e,rfl⟩,call_meets F.slot_list_mul ⟨_,e,rfl⟩ F.entry_list_mul (F.args_list_mul_2 _ _) (AutoListH.list___mul___list_int_3 l its.toArray n k t hfit hcap hlong) ⟨e,?_⟩⟩)
 rw[hnew];exact⟨.ref _,_,I.zu (t':=s.toks) (r.rep k.toNat) (by rw[len_rep,U6z];exact hz),rfl,q _ I.fresh⟩
end
section
variable{prog:Program}{w:World}{A:Around}{E:Value->Shared->Prop}{s:Shared}
set_option maxRecDepth 100000 in
end
end L2
namespace Att
open PySem PySem.W PySem.Calls PyProof.Rows
def X5:∀(ns:List Int)(vs:List Value),WellAll P h vs (ns.map WData.int)->IntsAre vs ns:=by
 intro ns;induction ns with
 |nil=>
  intro vs w;rw[U09]at w;cases w;exact .nil
 |cons n ns ih=>
  intro vs w;rw[U0j]at w;cases w with
  |cons a b=>
   cases a;exact .cons _ _ (ih _ b)
def n8{l:OpenLaw}{n:Nat}(hn:l.most=some n){P:Params}{h:Heap}{args:List WData}{vals:List Value}
  (hpre:l.row.toRowW.claim.pre args=true) (hwl:WellAll P h vals args) :
  ∃a vs ns,vals=[U1c a]/\args=[WData.list (ns.map WData.int)]/\h.get? a=some { cls:=.type "list",data:=.seq vs.toArray }/\IntsAre vs ns/\ns.length<=n:=by
 have hsh:WShape.hasAll [] args [.list .int]=true:=(pre_splitW hpre).1;have hc:l.pre.holds [] { args:=args }=true:=(pre_splitW hpre).2;obtain⟨d,r,rfl,h1,h2⟩:=hasAllW_cons hsh;obtain rfl:=hasAllW_nil h2;obtain⟨xs,rfl,h3⟩:=hasW_list h1;obtain⟨ns,rfl⟩:=items_int h3;have hlen:ns.length<=n:=by
  unfold OpenLaw.pre at hc;have h4:(WTm.not (.lt (.lit (.int (n:Int))) (.len (.arg 0)))).holds [] { args:=[.list (ns.map .int)] }=true:=by have h4:=(holds_andW hc).1;rw[hn]at h4;exact h4
  have h5:=condW_of h4 (w_not (w_lt w_lit (w_len_list (w_arg rfl))));rw[U0i]at h5;refine U77 λq=>?_;have q':(n:Int)<((ns.length:Nat):Int):=by lia
  first
   |(rw[decide_eq_true q']at h5;exact absurd h5 (by decide))
   |(simp at h5;lia)
 cases hwl with
 |cons w1 w2=>
  cases w2;cases w1 with
  |list ho hall=>exact⟨_,_,ns,rfl,rfl,ho,X5 ns _ hall,hlen⟩
def nJ(l:OpenLaw)(args:List WData):l.row.toRowW.claim.post args (.bool true) args=true:=
 postW_of (r:=l.row.toRowW) (X:=(true==true))
  (show WShape.has [] (.bool true) .bool=true by first|rfl|decide|simp[WShape.has,WShape.arms,WShape.armsAll])
  (show(WTm.eq .res (.lit (.bool true))).value [] { args:=args,res:=some (.bool true),after:=args }=some (.bool (true==true)) from w_eq_bool (w_res rfl) w_lit) rfl
def jL(r:ReadsAllW R cl h [.ref a] [.list ds] as)(lo:∀b∈as,(b==sysModules)=false):a≠sysModules:=by
 cases r with
 |cons r1 _=>
  cases r1 with
  |list _ _ _ _=>exactλz=>by have:=lo a (by simp);rw[z]at this;simp at this
def dW{l:OpenLaw}{n:Nat}{q:Program}{loose:List Str}{XP:(Str->Option Value)->Heap->Prop}{YP:World->Heap->Prop}{d:DefRec}
  (hn:l.most=some n) (hdf:d.params.defaults=[])
  (call:∀(w:World)(s₀ s₁:Shared)(mg mb:Str->Option Value)(fa:Addr)(o:Obj)(pm cd doc:Value)(a:Addr)(vs:List Value)(ns:List Int),
   Ground q loose [] XP w s₀ mg mb s₁.heap->YP w s₁.heap ->
   s₁.heap.get? fa=some o->o.data=.func (docDef d.name d.params d.body d.scope pm cd doc)->s₁.heap.CodeRec cd d.name->mg d.name=some (.ref fa) ->
   s₁.heap.get? a=some { cls:=.type "list",data:=.seq vs.toArray }->IntsAre vs ns->ns.length<=n->a≠sysModules->s₁.gens=#[] ->
   codeAny (model l.prog w) callerA (.call (.ref fa) ⟨[.ref a],[]⟩) (λr s'=>r=.ok (.ret (.bool true))/\OldK s₁.heap s'.heap/\s'.os=s₁.os/\AllBare s'.gens) s₁) :
  WalkO q loose XP YP l.row.toRowW d [] (λf vs=>U8s f vs):=by
 intro w s₀ s₁ mg mb G Y fa o pm cd doc dV kV ho hd hcd hD hmg hg args vals as hpre hlay hrd hwl hlo;obtain rfl:dV=.none:=Dflts.none hD hdf;obtain rfl:kV=.none:=Dflts.noKw hD;obtain⟨a,vs,ns,rfl,rfl,hobj,hints,hlen⟩:=n8 hn hpre hwl;refine enter_call (codeAny_mono (call w s₀ s₁ mg mb fa o pm cd doc a vs ns G Y ho (fd_plain hd) hcd hmg hobj hints hlen (jL hrd hlo) hg) λr s' hq=>?_);obtain⟨rfl,h2,h3,h4⟩:=hq;exact⟨.inl ⟨.bool true,.bool true,[],rfl,λ_=>rfl,.bool true,nJ l _,λ_=>⟨U74,λ_ hm=>(nomatch hm)⟩⟩,h2,h3,h4⟩
end Att
namespace L2
open PySem PySem.Spec PyProof.Rows
theorem TJ:∀{vs:List Value} {ns:List Int},IntsAre vs ns->Vals (ns.map V.int) vs
 |_,_,.nil=>.nil
 |_,_,.cons n t h=>.cons ⟨t,rfl⟩ (TJ h)
def Only(H:Hp):Prop:=∀b,H b=none∨∃o xs,H b=some (.frz o (.lst xs))
def rR{P:Program}{w:World}{K:U0e}{mg mb:Str->Option Value}{CX:CXT}{k:Nat}{fa a:Addr}{fd:FuncData}{x:Str}{sp:Sp}{s₁:Shared}{vs:List Value}{ns:List Int}
  (KX:K.In s₁.heap) (hns:s₁.heap.Ns mainGlobals mg) (hb:s₁.heap.Ns builtinsNs mb) (hbb:∀x:Str,x≠"__name__"->mb x=bootBuiltins x) (hlim:s₁.heap.NoLimit) (hg:s₁.gens=#[])
  (ha:s₁.heap.get? a=some { cls:=.type "list",data:=.seq vs.toArray }) (hi:IntsAre vs ns) (hl:ns.length<=sizeLine) (hasy:a≠sysModules) (hr:FZ k callerA)
  (F:∀base:Heap,K.In base->base.Ns mainGlobals mg->Hj P w K mg base CX k fa fd [x] sp) (hbind:∀(s:Shared)(u:Value),BindsTo s fd ⟨[u],[]⟩ [(x,u)])
  (hsp:∀H:Hp,Only H->SqL K H a (ns.map V.int)->sp [.ref a] H (λv _=>v=.bl true) λ_ _ _=>False)
  (hCX:∀H e s',CX [] H s₁ (λ_ _ _=>False) e s'->False) :
  codeAny (model P w) callerA (.call (.ref fa) ⟨[.ref a],[]⟩) (λr s'=>r=.ok (.ret (.bool true))/\OldK s₁.heap s'.heap/\s'.os=s₁.os/\AllBare s'.gens) s₁:=by
 have rv:=TJ hi;have lenV:=hi.length;have core:∀H:Hp,Only H->SqL K H a (ns.map V.int)->HOk P w H s₁.heap->(∀b,H b≠none->b=a)->(H a≠none->K.lookup a=none) ->
   codeAny (model P w) callerA (.call (.ref fa) ⟨[.ref a],[]⟩) (λr s'=>r=.ok (.ret (.bool true))/\OldK s₁.heap s'.heap/\s'.os=s₁.os/\AllBare s'.gens) s₁:=by
  intro H hO hS hok hA hK;have base_of:∀{b:Addr} {o:Obj},s₁.heap.get? b=some o->H b=none->(RL s₁.heap H).get? b=some o:=λe n=>tR e n;have noA:∀{b:Addr} {o:Obj} {es:Array DictEntry} {ep:Nat},s₁.heap.get? b=some o->o.data=.dict es ep->H b=none:=fun {b o es ep} e d=>by
   cases q:H b with
   |none=>rfl
   |some u=>
    have e':b=a:=hA b (by rw[q];simp);subst e';rw[ha]at e;cases e;have d':Data.seq vs.toArray _=Data.dict es ep:=d;cases d'
  have nsK:∀{b:Addr} {m:Str->Option Value},s₁.heap.Ns b m->(RL s₁.heap H).Ns b m:=fun {b m} ⟨o,es,ep,e,d,r⟩=>⟨o,es,ep,base_of e (noA e d),d,r⟩;have hKb:K.In (RL s₁.heap H):=λb o e=>base_of (KX b o e) (by
   cases q:H b with
   |none=>rfl
   |some u=>
    have e':b=a:=hA b (by rw[q];simp);subst e';rw[hK (by rw[q];simp)]at e;cases e)
  have hM:Mod K mg (RL s₁.heap H):=⟨hKb,nsK hns,⟨mb,nsK hb,hbb⟩,let ⟨mc,h1,h2⟩:=hlim;⟨mc,nsK h1,h2⟩⟩;have e0:iG P w K mg (RL s₁.heap H) callerA [] s₁ H:=⟨rfl,hM,λb o e=>wz e,U8w (oN _ _),trivial,λb hb=>absurd (show b∈([]:List Addr) from hb) (by simp),hok,.of_eq hg,λu q=>(hasy (hA _ (by rw[q];exactλz=>by cases z)).symm).elim⟩;refine codeAny_mono ((F _ hKb (nsK hns)).run callerA [] s₁ H ⟨[.ref a],[]⟩ [.ref a] [.ref a] _ _ hr e0 (hbind s₁ (.ref a)) (.cons rfl .nil) (hsp H hO hS)) λr s' h=>?_;cases r with
  |error e=>exact(hCX H e s' h).elim
  |ok fl=>
   cases fl with
   |next=>exact U4p h
   |brk=>exact U4p h
   |cont=>exact U4p h
   |ret u=>
    obtain⟨v,H',os,bare,un,hok',r',q⟩:=h;have q':v=.bl true:=q;subst q';obtain rfl:u=U3r true:=r';refine⟨rfl,OldK.of_keep λb o e=>?_,os,bare⟩;cases q:H b with
    |none=>exact un.keep b o e q (by intro z;exact absurd (show b∈([]:List Addr) from z) (by simp)) (by simp)
    |some u=>
     rcases hO b with z|⟨ob,xs,z⟩
     .rw[q]at z;cases z
     .have z2:=un.frzs b ob _ z;obtain⟨e1,_⟩:=hok b _ z;obtain⟨e2,_⟩:=hok' b _ z2;rw[e]at e1;cases e1;exact e2
 cases hk:K.lookup a with
 |some o=>
  have e:=KX a o hk;rw[ha]at e;cases e;refine core (λ_=>none) (λ_=>.inl rfl) (.inr ⟨_,vs.toArray,_,hk,rfl,rfl,rfl,by rw[U0t,lenV];exact hl,by simpa using rv⟩) (λb u z=>by have z':(none:Option HO)=some u:=z;cases z') (λb z=>absurd rfl z) λz=>absurd rfl z
 |none=>
  refine core (λb=>if b=a then some (.frz { cls:=.type "list",data:=.seq vs.toArray } (.lst (ns.map V.int))) else none) (λb=>?_) (.inl (.inr ⟨{ cls:=.type "list",data:=.seq vs.toArray },if_pos rfl⟩)) (λb u z=>?_) (λb z=>?_) λ_=>hk
  .by_cases hb:b=a
   .exact .inr ⟨_,_,if_pos hb⟩
   .exact .inl (if_neg hb)
  .by_cases hb:b=a
   .have z':=(if_pos hb).symm.trans z;cases z';subst hb;exact⟨ha,by rw[U0i];exact hl,vs,_,rv,ha⟩
   .have z':=(if_neg hb).symm.trans z;cases z'
  .by_cases hb:b=a
   .exact hb
   .exact absurd (if_neg hb) z
abbrev KOf{K:U0e}{h:Heap}(_:K.In h):U0e:=K
def walk_of{l:U60}{n k:Nat}{q:Program}{loose:List Str}{XP:(Str->Option Value)->Heap->Prop}{YP:World->Heap->Prop}{d:DefRec}{K:Params->U0e}{CX:World->CXT}{sp:World->Sp}{x:Str}
  (hn:l.most=some n) (hn2:n<=sizeLine) (hdf:d.params.defaults=[]) (hr:FZ k callerA)
  (hY:∀(w:World)(h:Heap),YP w h->(K w.params).In h)
  (F:∀(w:World)(mg:Str->Option Value)(fa:Addr)(h:Heap),(K w.params).In h->h.Ns mainGlobals mg->mg d.name=some (.ref fa) ->
   ∃fd:FuncData,(∀(s:Shared)(u:Value),BindsTo s fd ⟨[u],[]⟩ [(x,u)]) /\
    ∀base:Heap,(K w.params).In base->base.Ns mainGlobals mg->Hj l.prog w (K w.params) mg base (CX w) k fa fd [x] (sp w))
  (hsp:∀(w:World)(H:Hp)(a:Addr)(ns:List Int),ns.length<=n->Only H->SqL (K w.params) H a (ns.map V.int)->sp w [.ref a] H (λv _=>v=.bl true) λ_ _ _=>False)
  (hCX:∀(w:World)(H:Hp)(s:Shared)(e:Value)(s':Shared),CX w [] H s (λ_ _ _=>False) e s'->False) :
  U8t q loose XP YP l.row.toRowW d [] (λf vs=>U8s f vs):=by
 refine Att.dW hn hdf λw s₀ s₁ mg mb fa o pm cd doc a vs ns G Y ho hd hcd hmg hobj hints hlen hasy hg=>?_;have KX:=hY w _ Y;obtain⟨fd,hb,hF⟩:=F w mg fa _ KX G.T.g hmg;exact rR KX G.T.g G.T.b G.T.builtins G.T.nolimit hg hobj hints (U01 hlen hn2) hasy hr hF hb (λH hO hS=>hsp w H a ns hlen hO hS) λH e s'=>hCX w H s₁ e s'
def qN{l:U60}{n k:Nat}{q:Program}{loose:List Str}{XP:(Str->Option Value)->Heap->Prop}{YP:World->Heap->Prop}{d:DefRec}{K:Params->U0e}{CX:CXT}{sp:U0e->Sp}{x:Str}
  (hn:l.most=some n) (hn2:n<=sizeLine) (hdf:d.params.defaults=[]) (hr:FZ k callerA)
  (hY:∀(w:World)(h:Heap),YP w h->(K w.params).In h)
  (F:∀(w:World)(mg:Str->Option Value)(fa:Addr)(h:Heap),(K w.params).In h->h.Ns mainGlobals mg->mg d.name=some (.ref fa) ->
   ∃fd:FuncData,(∀(s:Shared)(u:Value),BindsTo s fd ⟨[u],[]⟩ [(x,u)]) /\
    ∀base:Heap,(K w.params).In base->base.Ns mainGlobals mg->Hj l.prog w (K w.params) mg base CX k fa fd [x] (sp (K w.params)))
  (hsp:∀(K:U0e)(H:Hp)(a:Addr)(ns:List Int),ns.length<=n->Only H->SqL K H a (ns.map V.int)->sp K [.ref a] H (λv _=>v=.bl true) λ_ _ _=>False)
  (hCX:∀(H:Hp)(s:Shared)(e:Value)(s':Shared),CX [] H s (λ_ _ _=>False) e s'->False) :
  U8t q loose XP YP l.row.toRowW d [] (λf vs=>U8s f vs):=
 walk_of (K:=K) (CX:=λ_=>CX) (sp:=λw=>sp (K w.params)) hn hn2 hdf hr hY F (λw H a ns h1 h2 h3=>hsp (K w.params) H a ns h1 h2 h3) λ_ H s e s'=>hCX H s e s'
end L2
namespace L2
open PySem PySem.Spec PyProof.Rows
def Mf(s:Stmt):Arguments:=match s with
 |.FunctionDef _ a _ _ _ _ _ _ _ _=>a
 |_=>{ posonlyargs:=[],args:=[],vararg:=none,kwonlyargs:=[],kw_defaults:=[],kwarg:=none,defaults:=[] }
def J4(s:Stmt):List Stmt:=match s with
 |.FunctionDef _ _ b _ _ _ _ _ _ _=>b
 |_=>[]
def Br(s:Stmt):Scope:=match s with
 |.FunctionDef _ _ _ _ _ _ sc _ _ _=>sc
 |_=>{ kind:=.function,names:=[],isGenerator:=false,isCoroutine:=false }
abbrev CX0:CXT:=λ_ _ _ _ _ _=>False
abbrev E0:XK:=λ_ _ _=>False
def uY:Passes CX0 X E0:=λ_ _ _ _ _ _ _ h=>h.elim
structure Fun(K:U0e)(x qual:Str)(st:Stmt)(f:Addr)(fd:FuncData):Prop where
 ex:∃(oc:Value)(od:Option Addr)(kV doc pm:Value)(an:Option Addr)(cdv ct:Value)(osl:Array (Option Value)),
  fd=U4e x qual (Mf st) (J4 st) (Br st) .none kV doc pm an cdv ct/\K.lookup f=some ⟨oc,od,.func fd,osl⟩/\U7i K cdv qual=true
 kp:U4a K (.ref f)=true
section
variable{P:Program}{w:World}{K:U0e}{mg:Str->Option Value}{base:Heap}
def Fun.ok{x qual:Str}{st:Stmt}{f:Addr}{fd:FuncData}{N ps:List Str}{k:Nat}{sp:Sp}(F:Fun K x qual st f fd)(S:Ov N ps (Br st))(len:∀vs H Q E,sp vs H Q E->vs.length=ps.length)
  (hbody:∀(cdv:Value)(A:Around)(outer:List Env)(s:Shared)(H:Hp)(vs:List V)(Q:VK)(E:XK),FZ k (A.deeper (envOfC qual (Br st) s.heap.objs.size f cdv))->sp vs H Q E ->
   ∃t,PSs (RN CX0 P w K mg base N qual (Br st) f cdv A outer s H E).nox (J4 st) t/\t { nx:=λ_ H'=>Q .non H',rt:=Q } (start N vs) H):Hj P w K mg base CX0 (k+1) f fd ps sp:=by
 obtain⟨oc,od,kV,doc,pm,an,cdv,ct,osl,rfl,lk,hcd⟩:=F.ex;refine Jef lk hcd S len λA outer s H vs Q E hr hsp=>?_;obtain⟨t,h,q⟩:=hbody cdv A outer s H vs Q E hr hsp;exact⟨t,h.nox,q⟩
def Fun.binds{x qual:Str}{st:Stmt}{f:Addr}{fd:FuncData}{ps:List Str}(F:Fun K x qual st f fd)
  (h:∀(kV doc pm:Value)(an:Option Addr)(cdv ct:Value)(us:List Value),us.length=ps.length->bindArgs (U4e x qual (Mf st) (J4 st) (Br st) .none kV doc pm an cdv ct) ⟨us,[]⟩=pure (ps.zip us)):Binds K fd ps []:=by
 obtain⟨oc,od,kV,doc,pm,an,cdv,ct,osl,rfl,lk,hcd⟩:=F.ex;exact .all (h kV doc pm an cdv ct)
def Jci{x qual:Str}{st:Stmt}{f:Addr}{oc:Value}{od an:Option Addr}{osl:Array (Option Value)}{kV doc pm cdv ct:Value}(l:K.lookup f=some ⟨oc,od,.func (U4e x qual (Mf st) (J4 st) (Br st) .none kV doc pm an cdv ct),osl⟩)
  (c:U7i K cdv qual=true) (k:U4a K (.ref f)=true):Fun K x qual st f (U4e x qual (Mf st) (J4 st) (Br st) .none kV doc pm an cdv ct):=⟨⟨oc,od,kV,doc,pm,an,cdv,ct,osl,rfl,l,c⟩,k⟩
end
def iW(hr:FZ k A):A.units+1<cLine:=U4g (Nat.add_le_add_left (by decide:1<=64) _) hr.units
def mU(h:n<=1000):n<sizeLine:=U4g h (by decide)
def Same(H H':Hp):Prop:=∀b o,H b=some o->H' b=some o
def Same.refl(H:Hp):Same H H:=λ_ _ h=>h
def Same.free(e:Same H H')(h:H' l=Option.none):H l=Option.none:=by
 cases q:H l with
 |none=>rfl
 |some o=>
  rw[e l o q]at h;cases h
end L2
end
section
namespace SetP
open PySem
def Km(xs:Array Nat):Prop:=xs.toList.Pairwise (·<·)
def qe:Km #[]:=U74
def jD(n:Nat):Km (Array.range n):=by unfold Km;rw[Array.toList_range];exact U6l
def Km.lt(h:Km xs)(hik:i<k)(hk:k<xs.size):xs.getD i 0<xs.getD k 0:=by have q:=List.pairwise_iff_getElem.mp h i k (by rw[U1j];lia) (by rw[U1j];exact hk) hik;rw[U3b,U3b,U1y (by lia),U1y hk];simpa using q
def Km.le(h:Km xs)(hik:i<=k)(hk:k<xs.size):xs.getD i 0<=xs.getD k 0:=by
 rcases Nat.lt_or_eq_of_le hik with z|z
 .exact U2o (h.lt z hk)
 .rw[z];exact U0o _
theorem Xq(h:Km xs):∀(fuel lo hi:Nat),lo<=hi->hi<=xs.size->hi-lo<=fuel->(∀i,i<lo->xs.getD i 0<j)->(∀i,hi<=i->i<xs.size->j<=xs.getD i 0) ->
  U5h xs j fuel lo hi<=xs.size/\(∀i,i<U5h xs j fuel lo hi->xs.getD i 0<j)/\∀i,U5h xs j fuel lo hi<=i->i<xs.size->j<=xs.getD i 0
 |0,lo,hi,h1,h2,h3,h4,h5=>by
  have e:lo=hi:=by lia
  subst e;unfold U5h;exact⟨h2,h4,h5⟩
 |fuel+1,lo,hi,h1,h2,h3,h4,h5=>by
  unfold U5h;by_cases hlt:lo<hi
  .rw[if_pos hlt];have hm:(lo+hi)/2<hi:=by lia
   have hl:lo<=(lo+hi)/2:=by lia
   have e:xs.getD ((lo+hi)/2) j=xs.getD ((lo+hi)/2) 0:=by rw[U3b,U3b,U1y (by lia)];rfl
   dsimp only
   rw[e];by_cases hc:xs.getD ((lo+hi)/2) 0<j
   .rw[if_pos hc];exact Xq h fuel _ hi (by lia) h2 (by lia) (λi hi'=>U4g (h.le (by lia) (by lia)) hc) h5
   .rw[if_neg hc];exact Xq h fuel lo _ (by lia) (by lia) (by lia) h4 (λi hi' hs=>U01 (U77 hc) (h.le hi' hs))
  .rw[if_neg hlt];have e:lo=hi:=by lia
   subst e;exact⟨h2,h4,h5⟩
def S7(h:Km xs):U1w xs j<=xs.size/\(∀i,i<U1w xs j->xs.getD i 0<j)/\∀i,U1w xs j<=i->i<xs.size->j<=xs.getD i 0:=by unfold U1w;exact Xq h xs.size 0 xs.size (U3 _) (U0o _) (by lia) (λi hi=>absurd hi (U8g _)) λi h1 h2=>absurd h2 (by lia)
def X4(h:Km xs)(hi:i<xs.size):U1w xs (xs.getD i 0+1)=i+1:=by
 obtain⟨a,b,c⟩:=S7 (j:=xs.getD i 0+1) h;generalize U1w xs (xs.getD i 0+1)=r at a b c;rcases Nat.lt_trichotomy r (i+1) with z|z|z
 .have:=c i (by lia) hi;lia
 .exact z
 .have h1:=b (i+1) z;have h2:xs.getD i 0<xs.getD (i+1) 0:=h.lt (U5p i) (by lia);lia
def X3(h:Km xs):U1w xs 0=0:=by
 obtain⟨a,b,c⟩:=S7 (j:=0) h;generalize U1w xs 0=r at a b c;cases r with
 |zero=>rfl
 |succ r=>exact absurd (b 0 (by lia)) (U8g _)
def cg(h:Km xs)(hn:xs[U1w xs j]?≠some j):Km (SetTable.insertAt xs (U1w xs j) j):=by
 obtain⟨a,b,c⟩:=S7 (j:=j) h;unfold Km;rw[SetTable.toList_insertAt];generalize U1w xs j=p at a b c hn;have getT:∀i,i<xs.size->xs.toList[i]?=some (xs.getD i 0):=λi hi=>by rw[U2m,U3b,U1y hi];rfl
 refine U3c.mpr ⟨h.sublist (List.take_sublist _ _),U1k.mpr ⟨λy hy=>?_,h.sublist (List.drop_sublist _ _)⟩,λx hx y hy=>?_⟩
 .obtain⟨i,hi⟩:=U26.mp hy;rw[List.getElem?_drop]at hi;have hlt:p+i<xs.size:=by have:=(U0l.mp hi).1;rwa [U1j]at this
  rw[getT _ hlt]at hi;have e:=U08 hi;have h1:=c (p+i) (U1p _ _) hlt;rw[←e];rcases Nat.lt_or_eq_of_le h1 with z|z
  .exact z
  .exfalso;have hp:p<xs.size:=by lia
   have h2:=c p (U0o _) hp;have h3:=h.le (U1p p i) hlt;have h4:xs.getD p 0=j:=by lia
   apply hn;have:=getT p hp;rw[U2m]at this;rw[this,h4]
 .have hxj:x<j:=by
   obtain⟨i,hi⟩:=U26.mp hx;have hip:i<p:=by have:=(U0l.mp hi).1;rw[U2e]at this;lia
   rw[List.getElem?_take_of_lt hip]at hi;have hlt:i<xs.size:=by have:=(U0l.mp hi).1;rwa [U1j]at this
   rw[getT _ hlt]at hi;rw[←U08 hi];exact b i hip
  rcases U0q.mp hy with z|z
  .rw[z];exact hxj
  .obtain⟨i,hi⟩:=U26.mp z;rw[List.getElem?_drop]at hi;have hlt:p+i<xs.size:=by have:=(U0l.mp hi).1;rwa [U1j]at this
   rw[getT _ hlt]at hi;rw[←U08 hi];exact U0w hxj (c (p+i) (U1p _ _) hlt)
def Off(t:SetTable)(j:Nat):Prop:=t.place[U1w t.place j]?≠some j
def Uu(h:∀i,t.slot j≠.live i):Off t j:=λe=>by
 apply h (U1w t.place j);unfold SetTable.slot;dsimp only
 rw[e];simp
theorem TX:∀(fuel:Nat)(p:SetTable.Probe),(∀d,p.dummy=some d->Off t d)->U75 t f h fuel p=some (.empty j d)->Off t j/\∀d',d=some d'->Off t d'
 |0,_,_,e=>by unfold U75 at e;cases e
 |fuel+1,p,hp,e=>by
  unfold U75 at e;cases hs:t.slot p.j with
  |empty=>
   rw[hs]at e;have e':=U08 e;cases e';exact⟨Uu (λi z=>by rw[hs]at z;exact SetTable.Slot.noConfusion z),hp⟩
  |dummy=>
   rw[hs]at e;refine TX fuel _ (λd' hd=>?_) e;have hd':(t.advance { p with dummy:=some p.j }).dummy=some p.j:=by unfold SetTable.advance;dsimp only;split<;>rfl
   rw[hd']at hd;cases hd;exact Uu λi z=>by rw[hs]at z;cases z
  |live i=>
   rw[hs]at e;exact`qc;split at e
   .cases e
   .refine TX fuel _ (λd' hd=>hp d' ?_) e;rw[←hd];unfold SetTable.advance;split<;>rfl
def cJ(e:t.freeSlot h=some (j,b)):Off t j:=by
 unfold SetTable.freeSlot at e;split at e
 .rename_i j' d q;unfold U7j at q;obtain⟨o1,o2⟩:=TX _ _ (λd hd=>by unfold SetTable.probeStart at hd;cases hd) q;have e':=U08 e;cases d with
  |none=>cases e';exact o1
  |some d=>cases e';exact o2 _ rfl
 .cases e
def TabOk(L:Bool)(t:SetTable):Prop:=Km t.place/\t.led=L
theorem TabOk.fresh(L:Bool)(f m:Nat):TabOk L (.fresh f m L):=⟨qe,rfl⟩
theorem TabOk.standIn(h:TabOk L t)(n:Nat):TabOk L (t.standIn n):=⟨jD n,h.2⟩
theorem TabOk.orStandIn(h:TabOk L t)(n:Nat):TabOk L (t.orStandIn n):=by
 unfold SetTable.orStandIn;split
 .exact h
 .exact h.standIn n
def TabOk.vG(h:TabOk L t)(b:Bool):TabOk L { t with plain:=b }:=h
def jO(h:TabOk L t)(es:Array (Int×Value))(k:Int)(x:Value):TabOk L (layNew t es k x).2.1:=by
 unfold layNew;split
 .rename_i slot wasDummy q;exact TabOk.orStandIn (t:=(t.put slot).1) ⟨cg h.1 (cJ q),h.2⟩ _
 .exact h.standIn _
theorem Vb{Zp:Type}(g:Nat->Option Zp):∀l:List Nat,List.Sublist ((l.filterMap λj=>(g j).map (j,·)).map (·.1)) l
 |[]=>List.Sublist.slnil
 |j::r=>by
  rw[U5w];cases hg:g j with
  |none=>exact(Vb g r).cons j
  |some a=>exact(Vb g r).cons_cons j
def cF(h:TabOk L t)(es:Array (Int×Value))(n:Nat):TabOk L (relayAll t es n).2.1:=by
 unfold relayAll;split
 .rename_i t' order q;dsimp only
  split
  .unfold SetTable.relaid SetTable.laid at q;cases ho:SetTable.layClean (SetTable.sizeAbove n-1) (es.map (·.1)) with
   |none=>rw[ho]at q;cases q
   |some owner=>
    rw[ho]at q;have q':=U08 q;cases q';refine⟨?_,h.2⟩;show U7u (·<·) (List.toArray _).toList;exact U6l.sublist (Vb (λj=>owner.getD j none) _)
  .exact h.standIn _
 .exact h.standIn _
end SetP
end
section
set_option maxRecDepth 100000
namespace SetP
open PySem PyProof.Rows
abbrev Mz(w:World):Bool:=!(w.params.followText "set-order")
structure SetT(prog:Program)(w:World)(h:Heap)(a:Addr)(ds:List Int):Prop where
 nd:ds.Nodup
 ex:∃o es ep t,h.get? a=some o/\o.ExactSet/\o.data=.set es ep t/\ElemsOf (intKind prog w) es.toList/\(∀k,decide (k∈ds)=true↔∃e∈es.toList,(intKind prog w).is k e.2=true) /\
  es.size<scanBound/\t.fits es.size=true/\es.size=ds.length/\TabOk (Mz w) t
def G5(ds:List Int)(k:Int):List Int:=if k∈ds then ds else ds++[k]
def Vq(h:ds.Nodup)(k:Int):(G5 ds k).Nodup:=by
 unfold G5;split
 .exact h
 .rename_i hk;exact List.nodup_append.mpr ⟨h,by simp,λa ha b hb=>by rw[U0r]at hb;subst hb;rintro rfl;exact hk ha⟩
def YS:j∈G5 ds k↔j∈ds∨j=k:=by
 unfold G5;split
 .rename_i hk;exact⟨.inl,λz=>z.elim id λe=>e ▸ hk⟩
 .rw[U0x,U0r]
def pK(ds:List Int)(k:Int):(G5 ds k).length<=ds.length+1:=by
 unfold G5;split
 .lia
 .rw[U0n,U3w];lia
section
variable{prog:Program}{w:World}{A:Around}{E:Value->Shared->Prop}{s:Shared}
def SetT.sameBut(x:SetT prog w h a ds)(hs:∀o,h.get? a=some o->h'.get? a=some o):SetT prog w h' a ds:=by obtain⟨nd,o,es,ep,t,e,r⟩:=x;exact⟨nd,o,es,ep,t,hs o e,r⟩
def SetT.stored{h:Heap}{a:Addr}{o:Obj}{es es':Array (Int×Value)}{ep:Nat}{t t':SetTable}{ds:List Int}(ho:h.get? a=some o)(hex:o.ExactSet)(hd:o.data=.set es ep t)(nd:ds.Nodup)
  (hel:ElemsOf (intKind prog w) es'.toList) (hm:∀k,decide (k∈ds)=true↔∃e∈es'.toList,(intKind prog w).is k e.2=true) (hb:es'.size<scanBound) (hf:t'.fits es'.size=true) (hn:es'.size=ds.length) (ht:TabOk (Mz w) t') :
  (h.update a (Obj.putSet es' t')).get? a=some { o with data:=.set es' (ep+1) t' }/\SetT prog w (h.update a (Obj.putSet es' t')) a ds:=by
 obtain⟨g,_⟩:=SetOf_store (knd:=intKind prog w) ho hex hd hel hm hb hf;exact⟨g,nd,_,es',ep+1,t',g,hex,rfl,hel,hm,hb,hf,hn,ht⟩
def Yy{g:Bool->Sem Unit}(hg:∀(b:Bool)(s₁:Shared)(Q':Unit->Shared->Prop),Q' () s₁->wpAny (model prog w) A (g b) Q' E s₁)
  {a:Addr} {o:Obj} {es es1:Array (Int×Value)} {ep:Nat} {t t2:SetTable} {ds:List Int} (ho:s.heap.get? a=some o) (hex:o.ExactSet) (hd:o.data=.set es ep t) (nd:ds.Nodup)
  (hel:ElemsOf (intKind prog w) es1.toList) (hm:∀k,decide (k∈ds)=true↔∃e∈es1.toList,(intKind prog w).is k e.2=true) (hb:es1.size<scanBound) (hf:t2.fits es1.size=true) (hn:es1.size=ds.length) (ht:TabOk (Mz w) t2)
  {dummy:Bool} {R:Option Bool->Shared->Prop} (h:∀h',U02 a s.heap h'->SetT prog w h' a ds->R (some true) { s with heap:=h' }) :
  wpAny (model prog w) A (do
    storeSet a es1 t2
    if (!dummy&&t2.tooFull)=true then do
      g (relayAll t2 es1 (U4v es1.size)).2.2
      storeSet a (relayAll t2 es1 (U4v es1.size)).1 (relayAll t2 es1 (U4v es1.size)).2.1
      pure (some true)
     else pure (some true)) R E s:=by
 obtain⟨g1,T1⟩:=SetT.stored (prog:=prog) (w:=w) ho hex hd nd hel hm hb hf hn ht;have sb1:=U1x s.heap a (Obj.putSet es1 t2);refine U0 (wpAny_storeSet_of ho hd ?_ (fits_of_scanBound hb));split
 .have p:=relayAll_perm t2 es1 (U4v es1.size);have f:=relayAll_fits t2 es1 (U4v es1.size);have tb:=cF ht es1 (U4v es1.size);generalize relayAll t2 es1 (U4v es1.size)=RR at p f tb;obtain⟨es2,t3,gave⟩:=RR;have sz:es2.size=es1.size:=by simpa using p.length_eq
  have T2:=SetT.stored (prog:=prog) (w:=w) (es':=es2) (t':=t3) g1 hex rfl nd (hel.perm p) (λk=>(hm k).trans ⟨λ⟨e,he,q⟩=>⟨e,p.mem_iff.mpr he,q⟩,λ⟨e,he,q⟩=>⟨e,p.mem_iff.mp he,q⟩⟩)
   (by rw[sz];exact hb) f (by rw[sz];exact hn) tb
  refine U0 (hg _ _ _ (U0 (wpAny_storeSet_of g1 rfl ?_ (fits_of_scanBound (by show es2.size<_;rw[sz];exact hb)))));exact U0c (h _ (sb1.trans (U1x _ a _)) T2.2)
 .exact U0c (h _ sb1 T1)
def dX{a:Addr}{ds:List Int}{k:Int}{t0:Tok}{Q:Bool->Shared->Prop}(hS:SetT prog w s.heap a ds)(room:ds.length+1<scanBound)
  (h:∀b h',U02 a s.heap h'->SetT prog w h' a (G5 ds k)->Q b { s with heap:=h' }):wpAny (model prog w) A (setAddHashed a (.int k t0) ((intKind prog w).hash k)) Q E s:=by
 obtain⟨nd,o,es,ep,t,ho,hex,hd,hel,hm,hb,hf,hn,ht⟩:=hS;have hkey:(intKind prog w).is k (.int k t0)=true:=intKind_is prog w k t0;have hsc:(U2v k t0).scannable=true:=rfl;unfold setAddHashed setAddHashedIn;refine U1u (U0 (U4n ho hd hf ?_));dsimp only
 rw[byScan_of hsc hb hel,if_pos rfl];unfold setAddByScan;refine U0 (U0 (U4r (U0 (wpAny_setScan_of hkey ho hd hf hel ?_))));cases hr:List.findIdx? (λe=>(intKind prog w).is k e.2) es.toList with
 |some j=>
  obtain⟨hj,hpj,_⟩:=List.findIdx?_eq_some_iff_getElem.mp hr;have hk:k∈ds:=of_decide_eq_true ((hm k).mpr ⟨es.toList[j],U3d hj,hpj⟩);refine U0c (U0c ?_);have q:=h false s.heap (U76 a s.heap) (by
   have e:G5 ds k=ds:=by unfold G5;rw[if_pos hk]
   rw[e];exact⟨nd,o,es,ep,t,ho,hex,hd,hel,hm,hb,hf,hn,ht⟩)
  cases s;exact q
 |none=>
  have hk:k ∉ ds:=λz=>by obtain⟨e,he,hp⟩:=(hm k).mp (decide_eq_true z);have q:=List.findIdx?_eq_none_iff.mp hr e he;rw[hp]at q;cases q
  have eA:G5 ds k=ds++[k]:=by unfold G5;rw[if_neg hk]
  have p:=layNew_perm t es ((intKind prog w).hash k) (.int k t0);have f:=layNew_fits t es ((intKind prog w).hash k) (.int k t0);have tb:=jO ht es ((intKind prog w).hash k) (.int k t0);generalize layNew t es ((intKind prog w).hash k) (.int k t0)=LL at p f tb;obtain⟨es1,t1,dummy,gave⟩:=LL;dsimp only at p f tb ⊢;rw[Array.toList_push]at p;have hel1:ElemsOf (intKind prog w) es1.toList:=(hel.push hkey hsc).perm p;have sz:es1.size=(G5 ds k).length:=by have q:=p.length_eq;rw[U1j,U0n,U3w,U1j]at q;rw[q,eA,U0n,U3w,hn]
  have hm1:∀j,decide (j∈G5 ds k)=true↔∃e∈es1.toList,(intKind prog w).is j e.2=true:=λj=>by rw[←mem_push_iff (S:=λk'=>decide (k'∈ds)) hkey hm p j];simp only[decide_eq_true_eq,Bool.or_eq_true,YS]
  have hb1:es1.size<scanBound:=by rw[sz,eA,U0n,U3w];exact room
  refine U0 ?_;have gw:∀(b:Bool)(s₁:Shared)(Q':Unit->Shared->Prop),Q' () s₁->wpAny (model prog w) A (match b with|true=>rule "set.scan.the-table-gave-way"|false=>pure ()) Q' E s₁:=λb s₁ Q' q=>by
   cases b
   .exact U0c q
   .exact U4r q
  refine gw _ _ _ ?_;split
  .refine U0 ?_;rw[hashByValue_scannable 8 hsc];refine U0c (Yy gw ho hex hd (Vq nd k) hel1 hm1 hb1 ?_ sz ?_ λh' sb T=>U0c (h true h' sb T))
   .split
    .exact f
    .exact SetTable.fits_plain_off f
   .split
    .exact tb
    .exact tb.vG false
  .refine U0 (U0c ?_);rw[if_pos rfl];exact Yy gw ho hex hd (Vq nd k) hel1 hm1 hb1 f sz tb λh' sb T=>U0c (h true h' sb T)
end
set_option maxRecDepth 100000
def Yj:entryFor table "set.update.loop"=some Builtin.«set.update.loop»:=entryFor_of_tree (by kernel_rfl)
def TY:plainId "set.update.loop"=true:=by decide +kernel
def once(ns:List Int):List Int:=ns.foldl G5 []
def nT(ns:List Int)(k:Int):once (ns++[k])=G5 (once ns) k:=by unfold once;rw[U36];rfl
def Ph:∀(ns:List Int),(once ns).Nodup/\(once ns).length<=ns.length/\∀j,j∈once ns↔j∈ns:=by
 intro ns;have all:∀(ns ds:List Int),ds.Nodup->(ns.foldl G5 ds).Nodup/\(ns.foldl G5 ds).length<=ds.length+ns.length/\∀j,j∈ns.foldl G5 ds↔j∈ds∨j∈ns:=by
  intro ns;induction ns with
  |nil=>intro ds h;exact⟨h,by simp,λj=>by simp⟩
  |cons n r ih=>
   intro ds h;obtain⟨a,b,c⟩:=ih (G5 ds n) (Vq h n);refine⟨a,?_,λj=>?_⟩
   .have:=pK ds n;rw[U2l,U0f];lia
   .rw[U2l,c j,YS,U0q];constructor
    .rintro((z|z)|z)
     .exact .inl z
     .exact .inr (.inl z)
     .exact .inr (.inr z)
    .rintro(z|z|z)
     .exact .inl (.inl z)
     .exact .inl (.inr z)
     .exact .inr z
 obtain⟨a,b,c⟩:=all ns [] U8o;exact⟨a,by rw[U0y,U51]at b;exact b,λj=>by rw[show once ns=ns.foldl G5 [] from rfl,c j];simp⟩
theorem Mh:∀(ns ds:List Int),ds.length<=(ns.foldl G5 ds).length
 |[],ds=>U0o _
 |n::r,ds=>by
  have h:ds.length<=(G5 ds n).length:=by unfold G5;split<;>simp
  exact U01 h (Mh r (G5 ds n))
def nR(ns:List Int)(i:Nat):(once (ns.take i)).length<=(once ns).length:=by have:=Mh (ns.drop i) (once (ns.take i));unfold once at this ⊢;rw[←U36,List.take_append_drop]at this;exact this
section
variable{prog:Program}{w:World}{A:Around}{E:Value->Shared->Prop}{s:Shared}
theorem qQ{R:Result->Shared->Prop}(hh:A.handled=none)(hSI:S<I)(hlS:l<S)(P:Nat->Heap->Prop)
  (keep:∀i h h',(∀b o,b<=S->h.get? b=some o->h'.get? b=some o)->P i h->P i h')
  (step:∀(i:Nat)(hi:i<items.size)(s:Shared)(Q:Bool->Shared->Prop)(E:Value->Shared->Prop),P i s.heap->(∀b h' tk,U02 S s.heap h'->P (i+1) h'->Q b { s with heap:=h',toks:=tk })->wpAny (model prog w) A.in1 (setAdd S items[i]) Q E s) :
  ∀(k i:Nat)(s:Shared),items.size-i=k->i<=items.size->s.heap.IsListIter I l i->s.heap.IsList l items->P i s.heap ->
   (∀h' tk,(∀b o,b≠S->b≠I->s.heap.get? b=some o->h'.get? b=some o)->P items.size h'->R (.ok (.ret .none)) { s with heap:=h',toks:=tk }) ->
   codeAny (model prog w) A (.builtin "set.update.loop" ⟨[.ref S,.ref I],[]⟩) R s:=by
 have nSI:S≠I:=U0u hSI;have nSl:S≠l:=U1r hlS;have nIl:I≠l:=U1r (U2j hlS hSI);intro k;induction k with
 |zero=>
  intro i s hk hi' it il T hR;have e:i=items.size:=by lia
  subst e;refine codeAny_builtin Yj ?_;rw[U2x TY _];show wpAny _ A.in1 (pyNext (.ref I) >>= _) _ _ s;refine U0 (U6s hh it il (by simp) λh' eb=>?_);show wpAny _ A.in1 (ret U2d) _ _ _;exact U0c (hR h' s.toks (λb o _ hbI q=>eb b o hbI q) (keep _ _ _ (λb o hb q=>eb b o (U0u (U4g hb hSI)) q) T))
 |succ k ih=>
  intro i s hk hi' it il T hR;have hlt:i<items.size:=gq hk;refine codeAny_builtin Yj ?_;rw[U2x TY _];show wpAny _ A.in1 (pyNext (.ref I) >>= _) _ _ s;refine U0 (U6h it il (x:=items[i]) (by simp[hlt]) λh1 it1 sb1=>?_);show wpAny _ A.in1 (holding [items[i]] (setAdd S items[i]) >>= _) _ _ _;have T1:P i h1:=keep _ _ _ (λb o hb q=>(sb1.2 b (U0u (U4g hb hSI))).trans q) T;have il1:h1.IsList l items:=by obtain⟨o,ho,r⟩:=il;exact⟨o,(sb1.2 l nIl.symm).trans ho,r⟩
  refine U0 (U1u (step i hlt { s with heap:=h1 } _ _ T1 λb h2 t2 sb2 T2=>?_));refine U0c ⟨plainId_quiet TY _,ih (i+1) _ (Jad hk) hlt ?_ ?_ T2 λh' tk hk' T'=>?_⟩
  .obtain⟨o,ho,r⟩:=it1;exact⟨o,(sb2.2 I nSI.symm).trans ho,r⟩
  .obtain⟨o,ho,r⟩:=il1;exact⟨o,(sb2.2 l nSl.symm).trans ho,r⟩
  .exact hR h' tk (λc o hcS hcI q=>hk' c o hcS hcI ((sb2.2 c hcS).trans ((sb1.2 c hcI).trans q))) T'
def Jd4(a:Value){Q₁:Value->Shared->Prop}
  (h:Q₁ (.ref s.heap.objs.size) { s with heap:=s.heap.push { cls:=.type "set",dict:=none,data:=.set #[] 0 (.fresh 0 0 (Mz w)) } }) :
  codeAny (model prog w) A (.call (.builtin "set.__new__") ⟨[.type "set",a],[]⟩) (wants Q₁ E) s:=by
 refine codeAny_of_tree ?_;have hck:checkBuiltinCall "set.__new__" ⟨[.type "set",a],[]⟩=pure ():=by kernel_rfl
 show wpAny _ A.in1 (checkBuiltinCall "set.__new__" ⟨[.type "set",a],[]⟩ >>= λ_=>again (.builtin "set.__new__" ⟨[.type "set",a],[]⟩)) _ _ s;rw[hck];refine U0 (U0c (U0c ⟨plainId_quiet F.plain_set_new _,codeAny_builtin F.entry_set_new ?_⟩));rw[U2x F.plain_set_new _];have hsub:=sub_set_self;unfold Builtin.«set.__new__» Builtin.Frozenset.newClass;obtain⟨hp,g,d,tk,os⟩:=s;dsimp only
 wp_walk;refine U4y (U0c ?_);simp only[newObj];exact U0 (wpAny_alloc (U0c (U0c h)))
def tK{Q:Unit->Shared->Prop}(hT:s.TypeIs self "set")(hQ:Q () s):wpAny M A (checkBuiltinCall "set.__init__" ⟨[self,a],[]⟩) Q E s:=by
 simp only[checkBuiltinCall,kind_set_init,split_set_init,sig_set_init];refine U0 (U4c hT sub_set_self ?_);simp only[U5u,U18,if_false];unfold Bind.checkArgs;dsimp only
 refine U0 (m:=Bind.printed "set" true _ _) (printed_name (by decide) ?_);refine U0 (m:=Bind.printed "*" false _ _) (printed_star (self:=self) rfl hT λshort=>?_);have one:(if (U6b.self==U6b.none)=true then [self,a].length else [self,a].length-1)=1:=by
  have z:(U6b.self==U6b.none)=false:=by decide
  simp[z]
 rw[one];simp only[U09];have z1:(U4k==U4k)=true:=by decide
 have z2:(U4k==U4h.posOrKw)=false:=by decide
 have z3:(U4k==U4h.varPos)=false:=by decide
 have fine:Bind.check ⟨.positional,"set","*",.self,[⟨"iterable",.posOnly,false⟩]⟩ "set" short 1 []=pure ():=by simp[Bind.check,Bind.checkCount,Bind.isPositional,z1,z2,z3]
 rw[fine];exact U0c hQ
set_option maxHeartbeats 3200000 in
theorem vY{Q:Value->Shared->Prop}(hh:A.handled=none)(hl:s.heap.IsList l items)(P:Nat->Heap->Prop)
  (keep:∀i h h',(∀b o,b<=s.heap.objs.size->h.get? b=some o->h'.get? b=some o)->P i h->P i h')
  (step:∀(A':Around),A'.units<=A.units+4->∀(i:Nat)(hi:i<items.size)(s':Shared)(Q:Bool->Shared->Prop)(E:Value->Shared->Prop),P i s'.heap->(∀b h' tk,U02 s.heap.objs.size s'.heap h'->P (i+1) h'->Q b { s' with heap:=h',toks:=tk })->wpAny (model prog w) A' (setAdd s.heap.objs.size items[i]) Q E s')
  (init:∀h',(∀b o,s.heap.get? b=some o->h'.get? b=some o)->h'.get? s.heap.objs.size=some { cls:=.type "set",dict:=none,data:=.set #[] 0 (.fresh 0 0 (Mz w)) }->P 0 h')
  (h:∀h' tk,(∀b o,s.heap.get? b=some o->h'.get? b=some o)->P items.size h'->Q (.ref s.heap.objs.size) { s with heap:=h',toks:=tk }) :
  wpAny (model prog w) A (call (.type "set") [.ref l]) Q E s:=by
 have hmade:=U4z.made;have hsub:=U4z.sub;have h1:=U4z.notType;have h2:=U4z.canCreate;have hct:checkTypeCall "set" ⟨[.ref l],[]⟩=pure ():=by kernel_rfl
 obtain⟨c,tl,hmro⟩:=U4z.mro;refine wpAny_call (codeAny_of_tree ?_);show wpAny _ _ (callAny (.type "set") ⟨[.ref l],[]⟩) _ _ s;refine U0c ⟨Code.quiet_builtin _ (by decide +kernel),codeAny_builtin F.entry_type_call ?_⟩;rw[Around.under_plain (weight_type_call_type "set" [.ref l] []) rfl]
 repeat (any_goals (first|assumption|wp_step))
 refine codeAny_mono (Jd4 (.ref l) (E:=E) (Q₁:=λobj s₁=>obj=.ref s.heap.objs.size/\s₁={ s with heap:=s.heap.push { cls:=.type "set",dict:=none,data:=.set #[] 0 (.fresh 0 0 (Mz w)) } }) ⟨rfl,rfl⟩) λr s₁ hr=>?_;cases r with
 |error e=>exact hr
 |ok fl=>
  cases fl with
  |ret obj=>
   obtain⟨rfl,rfl⟩:=hr;generalize hg1:s.heap.push { cls:=.type "set",dict:=none,data:=.set #[] 0 (.fresh 0 0 (Mz w)) }=g1;have e1:g1.get? s.heap.objs.size=some { cls:=.type "set",dict:=none,data:=.set #[] 0 (.fresh 0 0 (Mz w)) }:=hg1 ▸ U0s _ rfl;have k1:∀b o,s.heap.get? b=some o->g1.get? b=some o:=λb o q=>hg1 ▸ U0a _ q;have z1:g1.objs.size=s.heap.objs.size+1:=by rw[←hg1,U2c]
   have hT:U4l { s with heap:=g1 } (.ref s.heap.objs.size) "set":=⟨_,e1,rfl⟩;have hli:=U4z.init.lookup;have hbi:=U4z.init.bind (.ref s.heap.objs.size)
   repeat (any_goals (first|assumption|wp_step))
   refine codeAny_mono (codeAny_call_builtin (R:=wants (λr s₂=>r=.none/\∃h' tk,s₂={ s with heap:=h',toks:=tk }/\(∀b o,s.heap.get? b=some o->h'.get? b=some o)/\P items.size h') E)
    U4z.init.plain F.entry_set_init (tK hT ?_)) λr₂ s₂ hr₂=>?_
   .obtain⟨ol,hol,hcl,nl,hdl⟩:=hl;obtain⟨ocls,odict,odata,oslots⟩:=ol;simp only at hcl hdl;subst hcl hdl;have q1:g1.get? l=some { cls:=.type "list",dict:=odict,data:=.seq items nl,slots:=oslots }:=k1 _ _ hol;have il:g1.IsList l items:=⟨_,q1,rfl,nl,rfl⟩;have hlS:l<s.heap.objs.size:=U0m hol;have hs1:isSubtype (.type "list") (.type "set")=pure false:=by rw[isSubtype_type];kernel_rfl
    have hs2:isSubtype (.type "list") (.type "frozenset")=pure false:=by rw[isSubtype_type];kernel_rfl
    have hs3:(U23 "list"==U23 "dict")=false:=by decide
    unfold Builtin.«set.__init__» noKeywords Builtin.Frozenset.updateFrom;generalize hPI:pyIter=PI;wp_walk;subst hPI;refine U4o il (U0 (wpAny_runValue ?_));refine qQ (l:=l) (items:=items) (by simpa using hh) (by rw[z1];exact U5p _) hlS P keep (λi hi s' Q' E'=>step _ ?_ i hi s' Q' E') (items.size-0) 0 _ (by lia) (U3 _) ⟨_,U0s _ rfl,rfl,rfl⟩ ?_ ?_ ?_
    .simp
    .obtain⟨o,ho,r⟩:=il;exact⟨o,U0a _ ho,r⟩
    .exact init _ (λb o q=>U0a _ (k1 b o q)) (U0a _ e1)
    .intro h' tk hk T;show wpAny _ _ _ _ _ _;refine U0c ?_;show wpAny _ _ (ret U2d) _ _ _;refine U0c ⟨rfl,h',tk,rfl,λb o q=>?_,T⟩;have hb':=U0m q;exact hk b o (U0u hb') (by rw[z1];exact U0u (U2u hb')) (U0a _ (k1 b o q))
   .cases r₂ with
    |error e=>exact hr₂
    |ok fl₂=>
     cases fl₂ with
     |ret r=>
      obtain⟨rfl,h',tk,rfl,hk,T⟩:=hr₂
      repeat (any_goals (first|assumption|wp_step))
      exact h h' tk hk T
     |_=>exact hr₂.elim
  |_=>exact hr.elim
theorem vX{Q:Value->Shared->Prop}(hh:A.handled=none)(hl:s.heap.IsList l items)(hi:IntsAre items.toList ns)(hb:(once ns).length+1<scanBound)
  (h:∀h' tk,(∀b o,s.heap.get? b=some o->h'.get? b=some o)->SetT prog w h' s.heap.objs.size (once ns)->Q (.ref s.heap.objs.size) { s with heap:=h',toks:=tk }) :
  wpAny (model prog w) A (call (.type "set") [.ref l]) Q E s:=by
 have hlen:items.size=ns.length:=by have:=hi.length;simpa using this
 refine vY hh hl (λi h=>SetT prog w h s.heap.objs.size (once (ns.take i))) (λi h h' k T=>T.sameBut λo q=>k _ o (U0o _) q) (λA' _ i hlt s' Q' E' T hQ=>?_) (λh' k e=>?_) λh' tk k T=>?_
 .have hn:i<ns.length:=by lia
  obtain⟨t0,hv⟩:∃t0,items[i]=.int ns[i] t0:=by
   have all:∀{vs:List Value} {ms:List Int},IntsAre vs ms->∀(j:Nat)(h1:j<vs.length)(h2:j<ms.length),∃t0,vs[j]=.int ms[j] t0:=by
    intro vs ms r;induction r with
    |nil=>intro j h1;simp at h1
    |cons n t _ ih=>intro j h1 h2;cases j with
     |zero=>exact⟨t,rfl⟩
     |succ j=>exact ih j (by simpa using h1) (by simpa using h2)
   have q:=all hi i (by simpa using hlt) hn;simpa using q
  rw[hv];unfold setAdd;refine U1u (U0 ((intKind prog w).pyHash (k:=ns[i]) (intKind_is _ _ _ _) ?_));refine dX (s:={ s' with toks:=s'.toks+1 }) T (by have q:=nR ns i;lia) λb h2 sb2 T2=>hQ _ _ _ sb2 ?_;rw[List.take_succ_eq_append_getElem hn,nT];exact T2
 .exact⟨U8o,_,#[],0,_,e,⟨rfl,rfl,rfl⟩,rfl,λe he=>by simp at he,λk=>by simp[once],by decide,by rfl,rfl,TabOk.fresh _ _ _⟩
 .rw[U3f (by lia)]at T;exact h h' tk k T
end
set_option maxRecDepth 100000
theorem Rz{Zp:Type}:∀(l:List Zp)(i:Nat)(h:i<l.length),(l[i]::l.eraseIdx i).Perm l
 |[],i,h=>absurd h (by simp)
 |x::r,0,_=>U7k _
 |x::r,i+1,h=>(U48.swap x _ _).trans (U8p x (Rz r i (by simpa using h)))
theorem Ut:∀{ds ns:List Int},ds.Nodup->(∀k,k∈ds->k∈ns)->ns.length<=ds.length->ns.Perm ds
 |[],ns,_,_,h=>by have e:ns=[]:=U1z.mp (by simpa using h);rw[e]
 |d::r,ns,nd,sub,h=>by
  have hd:d∈ns:=sub d U0h;have p:=List.perm_cons_erase hd;obtain⟨h1,h2⟩:=U3h.mp nd;refine p.trans (U8p d (Ut h2 (λk hk=>?_) ?_))
  .have hne:k≠d:=λe=>h1 (e ▸ hk);exact(List.mem_erase_of_ne hne).mpr (sub k (U0k _ hk))
  .rw[List.length_erase_of_mem hd];rw[U0f]at h;omega
theorem fJ{Zp:Type}(next:Nat->Nat):∀(fuel k:Nat)(left:List Zp)(out:Array Zp),left.length=fuel->(pickOrder.go next fuel k left out).toList.Perm (out.toList++left)
 |0,_,left,out,h=>by have e:left=[]:=U1z.mp h;subst e;unfold pickOrder.go;simp
 |fuel+1,k,left,out,h=>by
  unfold pickOrder.go;have hi:next k%left.length<left.length:=Nat.mod_lt _ (by omega)
  rw[U0v hi];dsimp only
  refine(fJ next fuel (k+1) _ _ (by rw[List.length_eraseIdx_of_lt hi];exact qH h)).trans ?_;rw[Array.toList_push,U3o];exact U48.append_left _ (Rz _ _ hi)
def nM{Zp:Type}(next:Nat->Nat)(xs:Array Zp):(pickOrder next xs).toList.Perm xs.toList:=by unfold pickOrder;simpa using fJ next xs.size 0 xs.toList #[] (by simp)
section
variable{M:Model}{A:Around}{E:Value->Shared->Prop}
def jZ{Q:Nat->Shared->Prop}(hn:n≠0)(h:∀i d',i<n->Q i { s with drawn:=d' }):wpAny M A (choose src n) Q E s:=
 λ_ _ _=>⟨hn,h _ _ (Nat.mod_lt _ (Nat.pos_of_ne_zero hn))⟩
theorem SN{Zp:Type}:∀(n:Nat)(xs:List Zp)(s:Shared)(Q:List Zp->Shared->Prop),xs.length<=n->(∀ys d',ys.Perm xs->Q ys { s with drawn:=d' })->wpAny M A (drawOrder n xs) Q E s
 |0,xs,s,Q,h,q=>by have e:xs=[]:=U1z.mp (by omega);subst e;unfold drawOrder;exact U0c (q [] s.drawn (U7k _))
 |n+1,[],s,Q,h,q=>by unfold drawOrder;exact U0c (q [] s.drawn (U7k _))
 |n+1,x::xs,s,Q,h,q=>by
  unfold drawOrder;refine U0 (jZ (by simp) λi d' hi=>?_);rw[U0v hi];dsimp only
  refine U0 (SN n _ _ _ (by rw[List.length_eraseIdx_of_lt hi];simp at h ⊢;omega) λys d'' p=>U0c (q _ d'' ?_));exact(U8p _ p).trans (Rz _ _ hi)
end
def GP:Slot "set_iterator" "__next__" "set_iterator.__next__":=
 .of (owner:="set_iterator") (n:="__next__") (by rw[typeLookup_type,builtinLookup_eq_fast];kernel_rfl) (by decide +kernel) (by decide +kernel) (by decide +kernel)
  (by first|exact .inl (by decide +kernel)|exact .inr (by decide +kernel)) (by rw[isSubtype_type];kernel_rfl)
def Q5:entryFor table "set_iterator.__next__"=some Builtin.«set_iterator.__next__»:=entryFor_of_tree (by kernel_rfl)
def Qd(a:Value):argsOk "set_iterator.__next__" ⟨[a],[]⟩:=by unfold argsOk;kernel_rfl
def Y0:entryFor table "set.__iter__"=some Builtin.«frozenset.__iter__»:=
 entryFor_alias (id':="frozenset.__iter__") (by kernel_rfl) rfl (by decide +kernel) (by kernel_rfl)
def KH(first:Value)(i:Nat)(S:Addr)(n ep:Nat):Obj:={ cls:=.type "set_iterator",data:=.fields #[first,.int i 0,.ref S,.int n 0,.int ep 0] }
inductive Road (w:World) (h:Heap) (es:Array (Int×Value)) (ep:Nat) (t:SetTable) (S it T:Addr) (vs:List Value) (i:Nat):Value->Prop
 |text (k:Int):w.params.followText "set-order"=true->(∀(j:Nat),vs[j]?=((pickOrder (w.params.setOrder S ep) es)[j]?).map λ(e:Int×Value)=>e.2)->Road w h es ep t S it T vs i (.int k 0)
 |plain:w.params.followText "set-order"=false->(!t.plain&&decide (es.size>1))=false->TabOk true t->(∀(j:Nat),vs[j]?=(es[j]?).map λ(e:Int×Value)=>e.2)->Road w h es ep t S it T vs i (.int ((if i=0 then 0 else t.place.getD (i-1) 0+1:Nat):Int) 0)
 |drawn (ps:List Nat):T≠it->h.get? T=some { cls:=.type "tuple",data:=.seq (ps.map λ(p:Nat)=>rawInt p).toArray 0 }->(∀p∈ps,p<es.size)->(∀(j:Nat),vs[j]?=(ps[j]?).bind λp=>(es[p]?).map λ(e:Int×Value)=>e.2)->Road w h es ep t S it T vs i (.ref T)
structure Ob(w:World)(h:Heap)(it S T:Addr)(vs:List Value)(i:Nat):Prop where
 ne:it≠S
 ex:∃o es ep t first,h.get? S=some o/\o.data=.set es ep t/\t.fits es.size=true/\vs.length=es.size/\h.get? it=some (KH first i S es.size ep)/\Road w h es ep t S it T vs i first
section
variable{prog:Program}{w:World}{A:Around}{E:Value->Shared->Prop}{s:Shared}
def Ob.keep(x:Ob w h it S T vs i)(k:∀b∈[it,S,T],∀o,h.get? b=some o->h'.get? b=some o):Ob w h' it S T vs i:=by
 obtain⟨ne,o,es,ep,t,first,a,b,c,d,e,r⟩:=x;refine⟨ne,o,es,ep,t,first,k S (by simp) _ a,b,c,d,k it (by simp) _ e,?_⟩;cases r with
 |text k1 z1 z2=>exact .text k1 z1 z2
 |plain z1 z2 z3 z4=>exact .plain z1 z2 z3 z4
 |drawn ps z1 z2 z3 z4=>exact .drawn ps z1 (k T (by simp) _ z2) z3 z4
def Xc(w:World)(h:Heap)(S:Addr)(es:Array (Int×Value)):Prop:=∃o ep t,h.get? S=some o/\o.ExactSet/\o.data=.set es ep t/\es.size<scanBound/\t.fits es.size=true/\TabOk (Mz w) t
def WK(es:Array (Int×Value))(vs:List Value):Prop:=∃l:List (Int×Value),l.Perm es.toList/\vs=l.map (·.2)
def Xc.sameBut(x:Xc w h a es)(hs:∀o,h.get? a=some o->h'.get? a=some o):Xc w h' a es:=by obtain⟨o,ep,t,e,r⟩:=x;exact⟨o,ep,t,hs o e,r⟩
def SetT.ints(hS:SetT prog w h S ds):∃es,Xc w h S es/\es.size=ds.length/\∀vs,WK es vs->∃ns,IntsAre vs ns/\ns.Perm ds:=by
 obtain⟨nd,o,es,ep,t,ho,hex,hd,hel,hm,hb,hf,hn,ht⟩:=hS;have intsV:∀(l:List (Int×Value)),ElemsOf (intKind prog w) l->∃ns,IntsAre (l.map (·.2)) ns/\∀k,k∈ns↔∃e∈l,(intKind prog w).is k e.2=true:=by
  intro l;induction l with
  |nil=>intro _;exact⟨[],.nil,λk=>by simp⟩
  |cons e r ih=>
   intro he;obtain⟨ns,a,b⟩:=ih he.tail;obtain⟨⟨k0,hk0,_⟩,_⟩:=he.head;obtain⟨t0,e0⟩:=U70 (show U8k k0 e.2=true from hk0);refine⟨k0::ns,by rw[U0j,e0];exact .cons k0 t0 a,λk=>?_⟩;rw[U0q,b k];constructor
   .rintro(z|⟨e',he',q⟩)
    .exact⟨e,U0h,by rw[z];exact hk0⟩
    .exact⟨e',U0k _ he',q⟩
   .rintro⟨e',he',q⟩;rcases U0q.mp he' with z|z
    .subst z;exact .inl ((intKind prog w).inj _ _ _ q hk0)
    .exact .inr ⟨e',z,q⟩
 refine⟨es,⟨o,ep,t,ho,hex,hd,hb,hf,ht⟩,hn,λvs ⟨l,p,e⟩=>?_⟩;subst e;obtain⟨ns,a,b⟩:=intsV l (hel.perm p);refine⟨ns,a,?_⟩;have hsub:ds ⊆ ns:=λk hk=>(b k).mpr (by
  obtain⟨e,he,q⟩:=(hm k).mp (decide_eq_true hk);exact⟨e,p.mem_iff.mpr he,q⟩)
 have hle:ns.length<=ds.length:=by have q1:(l.map (·.2)).length=ns.length:=IntsAre.length a;rw[U0i]at q1;exact U8w (by rw[←q1,p.length_eq,U1j,hn])
 exact Ut nd (λk hk=>hsub hk) hle
def Jb8{Q:Value->Shared->Prop}(hS:Xc w s.heap S es)
  (h:∀h' d' it T vs,(∀b o,s.heap.get? b=some o->h'.get? b=some o)->s.heap.objs.size<=it->(T=S∨s.heap.objs.size<=T)->Ob w h' it S T vs 0->WK es vs->Q (.ref it) { s with heap:=h',drawn:=d' }) :
  wpAny (model prog w) A (pyIter (.ref S)) Q E s:=by
 obtain⟨o,ep,t,ho,hex,hd,hb,hf,ht⟩:=hS;have hT:s.TypeIs (.ref S) "set":=⟨o,ho,hex.1⟩;have hlt:=U0m ho;have fin:∀(l:List (Int×Value)),l.Perm es.toList->WK es (l.map (·.2)):=λl p=>⟨l,p,rfl⟩;refine U6c hT F.slot_set_iter (U1o F.slot_set_iter hT Y0 ?_ (F.args_set_iter_1 _));unfold Builtin.«frozenset.__iter__» Builtin.Frozenset.slot0 slotArgs;simp only[U78,U5u,U18,↓reduceIte,bind_assoc,U0y,bne_self_eq_false];unfold Builtin.Frozenset.addrOf Builtin.Frozenset.sizeOf;refine U0 (U0c ?_)
 try dsimp only
 refine U0 (U0c ?_);refine U0 (U0 (U69 ho hd hf (U0c ?_)));unfold setDrawn setsByText;simp only[bind_assoc];refine U0 (U4n ho hd hf ?_);refine U0 (U4y ?_);refine U0 (U0c (U0 (U0c ?_)));show wpAny (model prog w) A.in1 (if (!(w.params.followText "set-order")&&(!t.plain&&decide (es.size>1)))=true then _ else _) _ _ s;have len2:∀(ps:List Nat),ps.Perm (U07 es.size)->((ps.filterMap λp=>es[p]?)).Perm es.toList/\∀(j:Nat),((ps.filterMap λp=>es[p]?).map (·.2))[j]?=(ps[j]?).bind λp=>(es[p]?).map λ(e:Int×Value)=>e.2:=λps p=>by
  refine⟨(p.filterMap _).trans (by rw[filterMap_getElem?_range]),?_⟩;have all:∀(ps:List Nat),(∀p∈ps,p<es.size)->∀(j:Nat),((ps.filterMap λp=>es[p]?).map (·.2))[j]?=(ps[j]?).bind λp=>(es[p]?).map λ(e:Int×Value)=>e.2:=by
   intro ps;induction ps with
   |nil=>intro _ j;simp
   |cons q r ih=>
    intro hq j;have hq':q<es.size:=hq q U0h;rw[List.filterMap_cons_some (b:=es[q]) (by simp[hq'])];cases j with
    |zero=>simp[hq']
    |succ j=>simpa using ih (λp hp=>hq p (U0k _ hp)) j
  exact all ps λq hq=>U3l.mp (p.mem_iff.mp hq)
 split
 .rename_i hc;refine U0 (SN es.size (U07 es.size) s _ (by simp) λps d' p=>?_);obtain⟨p1,p2⟩:=len2 ps p;refine U0 (U1l ?_ ?_)
  .refine U0 (wpAny_setEpoch_of (U0a _ ho) hd hf ?_);refine U0 (U1l (U0c ⟨_,rfl,"set_iterator",_,⟨_,U0s _ rfl,rfl⟩,GP.lookup,?_⟩));refine h _ d' _ s.heap.objs.size ((ps.filterMap λp=>es[p]?).map (·.2)) (λb o' e=>U0a _ (U0a _ e)) ?_ (.inr (U0o _)) ?_ (fin _ p1)
   .show s.heap.objs.size<=(s.heap.push _).objs.size;rw[U2c];exact U5e _
   .refine⟨?_,o,es,ep,t,_,U0a _ (U0a _ ho),hd,hf,?_,U0s _ rfl,.drawn ps ?_ (U0a _ (U0s _ rfl)) (λq hq=>U3l.mp (p.mem_iff.mp hq)) p2⟩
    .show(s.heap.push _).objs.size≠S;rw[U2c];exact U1r (U2u hlt)
    .rw[U0i,p1.length_eq,U1j]
    .show s.heap.objs.size≠(s.heap.push _).objs.size;rw[U2c];exact U0u (U5p _)
  .show _<=sizeLine;rw[U0t,U0i,p.length_eq,U5i];exact fits_of_scanBound hb
 .rename_i hc;refine U0 (U0c (U0 (wpAny_setEpoch_of ho hd hf ?_)));refine U0 (U1l (U0c ⟨_,rfl,"set_iterator",_,⟨_,U0s _ rfl,rfl⟩,GP.lookup,?_⟩));by_cases ht':w.params.followText "set-order"=true
  .have pp:=nM (w.params.setOrder S ep) es;have q:=h (s.heap.push (KH (rawInt 0) 0 S es.size ep)) s.drawn s.heap.objs.size S ((pickOrder (w.params.setOrder S ep) es).toList.map (·.2)) (λb o' e=>U0a _ e) (U0o _) (.inl rfl)
    ⟨U1r hlt,o,es,ep,t,_,U0a _ ho,hd,hf,by rw[U0i,pp.length_eq,U1j],U0s _ rfl,.text 0 ht' λj=>by rw[U0z,U2m]⟩ (fin _ pp)
   exact q
  .have hf':w.params.followText "set-order"=false:=by simpa using ht'
   have hL:Mz w=true:=by show(!_)=true;rw[hf'];rfl
   rw[hL]at ht;have hdr:(!t.plain&&decide (es.size>1))=false:=by rw[hf']at hc;simpa using hc
   have q:=h (s.heap.push (KH (rawInt 0) 0 S es.size ep)) s.drawn s.heap.objs.size S (es.toList.map (·.2)) (λb o' e=>U0a _ e) (U0o _) (.inl rfl)
    ⟨U1r hlt,o,es,ep,t,_,U0a _ ho,hd,hf,by rw[U0i,U1j],U0s _ rfl,.plain hf' hdr ht λj=>by rw[U0z,U2m]⟩ (fin _ (U7k _))
   exact q
end
set_option maxRecDepth 100000
section
variable{prog:Program}{w:World}{A:Around}{E:Value->Shared->Prop}{s:Shared}
def Wf(first x:Value)(i:Nat)(S:Addr)(n ep:Nat):U38 (·.setIfInBounds 0 x) (KH first i S n ep)=KH x i S n ep:=rfl
def jR(first:Value)(i:Nat)(S:Addr)(n ep:Nat):U38 (·.setIfInBounds 1 (rawInt ((i:Int)+1))) (KH first i S n ep)=KH first (i+1) S n ep:=rfl
def Tt{Q:Option (Value×Nat)->Shared->Prop}(ho:s.heap.get? S=some o)(hd:o.data=.set es ep t)(hf:t.fits es.size=true)
  (z:w.params.followText "set-order"=true) (h:Q (((pickOrder (w.params.setOrder S ep) es)[given]?).map λe=>(e.2,slot)) s):wpAny (model prog w) A (setNext S slot given ep) Q E s:=by
 unfold setNext;refine U0 (U4n ho hd hf ?_);unfold setsByText;refine U0 (U0 (U4y (U0c ?_)));show wpAny _ _ (if (w.params.followText "set-order")=true then _ else _) _ _ s;rw[if_pos z];show wpAny _ _ (if (ep != ep)=true then _ else _) _ _ s;rw[if_neg (by simp)];unfold setWalk;refine U0 (U0 (U4n ho hd hf ?_));unfold setsByText;refine U0 (U0 (U4y (U0c ?_)));show wpAny _ _ (if (w.params.followText "set-order")=true then _ else _) _ _ s;rw[if_pos z];exact U0 (U4y (U0c (U0c h)))
def S8{Q:Option (Value×Nat)->Shared->Prop}(ho:s.heap.get? S=some o)(hd:o.data=.set es ep t)(hf:t.fits es.size=true)
  (z:w.params.followText "set-order"=false) (z2:(!t.plain&&decide (es.size>1))=false) (z3:t.led=true)
  (h:Q (match es[U1w t.place slot]?,t.place[U1w t.place slot]? with|some (_,x),some j=>some (x,j+1)|_,_=>none) s):wpAny (model prog w) A (setNext S slot given ep) Q E s:=by
 unfold setNext;refine U0 (U4n ho hd hf ?_);unfold setsByText;refine U0 (U0 (U4y (U0c ?_)));show wpAny _ _ (if (w.params.followText "set-order")=true then _ else _) _ _ s;rw[if_neg (by rw[z];simp)];show wpAny _ _ (if (!t.plain&&decide (es.size>1))=true then _ else _) _ _ s;rw[if_neg (by rw[z2];simp)];refine U0 ?_;show wpAny _ _ (if (!t.led&&!es.isEmpty)=true then _ else _) _ _ s;rw[if_neg (by rw[z3];simp)];exact U0c (U0c h)
theorem jH{Q:Option Value->Shared->Prop}(x:Ob w s.heap it S T vs i)(hv:vs[i]?=some v)
  (h:∀h',U02 it s.heap h'->Ob w h' it S T vs (i+1)->Q (some v) { s with heap:=h' }):wpAny (model prog w) A (pyNext (.ref it)) Q E s:=by
 obtain⟨ne,o,es,ep,t,first,ho,hd,hf,hl,hi,r⟩:=x;have hT:s.TypeIs (.ref it) "set_iterator":=⟨_,hi,rfl⟩;unfold pyNext;refine U0 (U3t (wpAny_callSpecial?_slot (name:=U2w "__next__") hT GP (U1o GP hT Q5 ?_ (Qd _))));unfold Builtin.«set_iterator.__next__» slotArgs;simp only[U78,U5u,U18,↓reduceIte,U0y,bne_self_eq_false];refine U0 (U0c ?_);refine U0 (U7l hi rfl ?_);show wpAny _ _ (setEntries S >>= _) _ _ s;refine U0 (U69 ho hd hf ?_);show wpAny _ _ (if ((es.size:Int) != (es.size:Int))=true then _ else _) _ _ s;rw[if_neg (by simp)];have lt:i<vs.length:=(U0l.mp hv).1;have upd1:∀{h1:Heap} {f1:Value},h1.get? it=some (KH f1 i S es.size ep)->(h1.update it (U38 (·.setIfInBounds 1 (rawInt ((i:Int)+1))))).get? it=some (KH f1 (i+1) S es.size ep):=fun {h1 f1} e=>by rw[←jR f1 i S es.size ep];exact U2g _ e rfl
 have upd0:∀{h1:Heap} {f1 y:Value},h1.get? it=some (KH f1 i S es.size ep)->(h1.update it (U38 (·.setIfInBounds 0 y))).get? it=some (KH y i S es.size ep):=fun {h1 f1 y} e=>by rw[←Wf f1 y i S es.size ep];exact U2g _ e rfl
 cases r with
 |text k z1 z2=>
  show wpAny _ _ (setNext S k.toNat i ep >>= _) _ _ s;refine U0 (Tt ho hd hf z1 ?_);have q:=z2 i;rw[hv]at q;cases hp:(pickOrder (w.params.setOrder S ep) es)[i]? with
  |none=>rw[hp]at q;cases q
  |some e=>
   rw[hp]at q;have q':v=e.2:=U08 q;subst q';refine U0 (U27 hi rfl (by simp) (U0 (U27 (upd0 hi) rfl (by simp) (U0c ⟨_,rfl,U0c (h _ ((U1x ..).trans (U1x ..)) ⟨ne,o,es,ep,t,_,?_,hd,hf,hl,upd1 (upd0 hi),.text _ z1 z2⟩)⟩))));rw[U1f _ _ ne,U1f _ _ ne];exact ho
 |plain z1 z2 z3 z4=>
  show wpAny _ _ (setNext S (Int.toNat ((if i=0 then 0 else t.place.getD (i-1) 0+1:Nat):Int)) i ep >>= _) _ _ s;rw[U2t];refine U0 (S8 ho hd hf z1 z2 z3.2 ?_);have psz:t.place.size=es.size:=by have q:=hf;simp only[SetTable.fits,U1a,beq_iff_eq]at q;exact q.1
  have hb:U1w t.place (if i=0 then 0 else t.place.getD (i-1) 0+1)=i:=by
   cases i with
   |zero=>rw[if_pos rfl];exact X3 z3.1
   |succ i=>rw[if_neg (by lia)];exact X4 z3.1 (by lia)
  rw[hb];have q:=z4 i;rw[hv]at q;have hie:i<es.size:=by lia
  have hip:i<t.place.size:=by lia
  rw[U1y hie]at q ⊢;rw[U1y hip];have q':v=es[i].2:=U08 q;subst q';show wpAny _ _ (setField (.ref it) 0 (rawInt ((t.place[i]+1:Nat):Int)) >>= _) _ _ s;refine U0 (U27 hi rfl (by simp) (U0 (U27 (upd0 hi) rfl (by simp) (U0c ⟨_,rfl,U0c (h _ ((U1x ..).trans (U1x ..)) ⟨ne,o,es,ep,t,_,?_,hd,hf,hl,upd1 (upd0 hi),?_⟩)⟩))))
  .rw[U1f _ _ ne,U1f _ _ ne];exact ho
  .have e:t.place[i]=t.place.getD (i+1-1) 0:=by rw[U3b,Nat.add_sub_cancel,U1y hip];rfl
   have rr:∀hp:Heap,Road w hp es ep t S it T vs (i+1) (.int ((t.place[i]+1:Nat):Int) 0):=λhp=>by have r1:Road w hp es ep t S it T vs (i+1) (.int ((if i+1=0 then 0 else t.place.getD (i+1-1) 0+1:Nat):Int) 0):=.plain z1 z2 z3 z4;rw[if_neg (by lia),←e]at r1;exact r1
   exact rr _
 |drawn ps z1 z2 z3 z4=>
  show wpAny _ _ (seqItems? (.ref T) >>= _) _ _ s;refine U0 (U2q z2 rfl ?_);have q:=z4 i;rw[hv]at q;cases hp:ps[i]? with
  |none=>rw[hp]at q;cases q
  |some p=>
   rw[hp]at q;have hlt:p<es.size:=z3 p (U00 hp);have q2:some v=(es[p]?).map λ(e:Int×Value)=>e.2:=q;rw[U1y hlt]at q2;have q':v=es[p].2:=U08 q2;subst q';have hg:((ps.map λ(p:Nat)=>rawInt p).toArray)[i]?=some (rawInt p):=by rw[U5k,U0z,hp];rfl
   show wpAny _ _ (match ((ps.map λ(p:Nat)=>rawInt p).toArray)[(i:Int).toNat]? with|some (.int place _)=>_|some _=>_|none=>_) _ _ s;rw[U2t,hg];show wpAny _ _ (setNextDrawn S p ep >>= _) _ _ s;unfold setNextDrawn;refine U0 (U0 (U4n ho hd hf ?_));show wpAny _ _ (if (ep != ep)=true then _ else _) _ _ s;rw[if_neg (by simp)];dsimp only
   rw[U1y hlt];refine U0c ?_;refine U0 (U27 hi rfl (by simp) (U0c ⟨_,rfl,U0c (h _ (U1x ..) ⟨ne,o,es,ep,t,_,?_,hd,hf,hl,upd1 hi,.drawn ps z1 ?_ z3 z4⟩)⟩))
   .rw[U1f _ _ ne];exact ho
   .rw[U1f _ _ z1.symm];exact z2
theorem nW{Q:Option Value->Shared->Prop}(hh:A.handled=none)(x:Ob w s.heap it S T vs vs.length)
  (h:∀h',U4u it s.heap h'->Q none { s with heap:=h' }):wpAny (model prog w) A (pyNext (.ref it)) Q E s:=by
 obtain⟨ne,o,es,ep,t,first,ho,hd,hf,hl,hi,r⟩:=x;have hT:s.TypeIs (.ref it) "set_iterator":=⟨_,hi,rfl⟩;unfold pyNext;refine U0 (U3t (wpAny_callSpecial?_slot (name:=U2w "__next__") hT GP (U1o GP hT Q5 ?_ (Qd _))));unfold Builtin.«set_iterator.__next__» slotArgs;simp only[U78,U5u,U18,↓reduceIte,U0y,bne_self_eq_false];refine U0 (U0c ?_);refine U0 (U7l hi rfl ?_);show wpAny _ _ (setEntries S >>= _) _ _ s;refine U0 (U69 ho hd hf ?_);show wpAny _ _ (if ((es.size:Int) != (es.size:Int))=true then _ else _) _ _ s;rw[if_neg (by simp)];have stop:∀{s1:Shared},U4u it s.heap s1.heap->s1={ s with heap:=s1.heap }->wpAny (model prog w) A.in1 (newExc (.type "StopIteration") [] >>= λe=>(raiseNew e:Sem Fin)) (λfin s'=>∃v,fin=.done (.ret v)/\wpAny (model prog w) A (pure (some v)) Q E s')
   (λe s'=>wpAny (model prog w) A (do if ←isInstance e (.type "StopIteration") then pure none else throw e) Q E s') s1:=fun {s1} eb es1=>by
  refine U0 ?_;simp only[newExc,newTuple];refine U0 (U1l ?_ (by size_fits));refine U0 (m:=firstArgMember _ _) (wpAny_of_eq (a:=U2d) (by first|rfl|(simp only[firstArgMember];rfl)) ?_);refine U1l ?_ (by size_fits);simp only[raiseNew];refine U0 (wpAny_handled ?_);rw[show A.in1.handled=none from hh];refine U0 (U0c (wpAny_throw ?_));refine U0 (U4c (T:="StopIteration") (b:=true) ⟨_,U0s _ rfl,rfl⟩ isSubtype_stop ?_);rw[if_pos rfl,es1];exact U0c (h _ ((eb.push _).push _))
 cases r with
 |text k z1 z2=>
  show wpAny _ _ (setNext S k.toNat vs.length ep >>= _) _ _ s;refine U0 (Tt ho hd hf z1 ?_);have q:=z2 vs.length;rw[U5l (U0o _)]at q;cases hp:(pickOrder (w.params.setOrder S ep) es)[vs.length]? with
  |some e=>rw[hp]at q;cases q
  |none=>
   refine U0 (U27 hi rfl (by simp) ?_);exact stop (s1:={ s with heap:=s.heap.update it (U38 (·.setIfInBounds 2 U2d)) }) (U1x ..).extBut rfl
 |plain z1 z2 z3 z4=>
  generalize hsl:(if vs.length=0 then 0 else t.place.getD (vs.length-1) 0+1:Nat)=sl;show wpAny _ _ (setNext S (Int.toNat (sl:Int)) vs.length ep >>= _) _ _ s;rw[U2t];refine U0 (S8 ho hd hf z1 z2 z3.2 ?_);have psz:t.place.size=es.size:=by have q:=hf;simp only[SetTable.fits,U1a,beq_iff_eq]at q;exact q.1
  have hb:U1w t.place sl=vs.length:=by
   rw[←hsl];generalize vs.length=n at hl;cases n with
   |zero=>rw[if_pos rfl];exact X3 z3.1
   |succ i=>rw[if_neg (by lia)];exact X4 z3.1 (by lia)
  rw[hb,hl,Array.getElem?_eq_none (U0o _)];refine U0 (U27 hi rfl (by simp) ?_);exact stop (s1:={ s with heap:=s.heap.update it (U38 (·.setIfInBounds 2 U2d)) }) (U1x ..).extBut rfl
 |drawn ps z1 z2 z3 z4=>
  show wpAny _ _ (seqItems? (.ref T) >>= _) _ _ s;refine U0 (U2q z2 rfl ?_);have q:=z4 vs.length;rw[U5l (U0o _)]at q;have hg:((ps.map λ(p:Nat)=>rawInt p).toArray)[vs.length]?=none:=by
   rw[U5k,U0z];cases hp:ps[vs.length]? with
   |none=>rfl
   |some p=>
    rw[hp]at q;have hlt:p<es.size:=z3 p (U00 hp);have q2:none=(es[p]?).map λ(e:Int×Value)=>e.2:=q;rw[U1y hlt]at q2;cases q2
  show wpAny _ _ (match ((ps.map λ(p:Nat)=>rawInt p).toArray)[(vs.length:Int).toNat]? with|some (.int place _)=>_|some _=>_|none=>_) _ _ s;rw[U2t,hg];refine U0 (U27 hi rfl (by simp) ?_);have e0:(s.heap.update it (U38 (·.setIfInBounds 0 (rawInt 0)))).get? it=some (KH (rawInt 0) vs.length S es.size ep):=by rw[←Wf (.ref T) (rawInt 0) vs.length S es.size ep];exact U2g _ hi rfl
  refine U0 (U27 e0 rfl (by simp) ?_);exact stop (s1:={ s with heap:=(s.heap.update it (U38 (·.setIfInBounds 0 (rawInt 0)))).update it (U38 (·.setIfInBounds 2 U2d)) }) ((U1x ..).trans (U1x ..)).extBut rfl
end
set_option maxRecDepth 100000
def Qa:Slot "set_iterator" "__iter__" "set_iterator.__iter__":=
 .of (owner:="set_iterator") (n:="__iter__") (by rw[typeLookup_type,builtinLookup_eq_fast];kernel_rfl) (by decide +kernel) (by decide +kernel) (by decide +kernel)
  (by first|exact .inl (by decide +kernel)|exact .inr (by decide +kernel)) (by rw[isSubtype_type];kernel_rfl)
def Vu:entryFor table "set_iterator.__iter__"=some Builtin.«dict_keyiterator.__iter__»:=
 entryFor_alias (id':="dict_keyiterator.__iter__") (by kernel_rfl) rfl (by decide +kernel) (by kernel_rfl)
def XF(a:Value):argsOk "set_iterator.__iter__" ⟨[a],[]⟩:=by unfold argsOk;kernel_rfl
def jN:typeLookup (.type "set") "__len__"=pure (some (.builtin "set.__len__")):=F.slot_set_len.lookup
section
variable{prog:Program}{w:World}{A:Around}{E:Value->Shared->Prop}{s:Shared}
def vC(hh:A.handled=none)(it S T:Addr)(vs:List Value):Walks prog w A it [it,S,T] [it] vs.length (λi v=>vs[i]?=some v) (λi h=>Ob w h it S T vs i) where
 sub:=λb hb=>by simp at hb;subst hb;simp
 frame:=λi h h' x k=>x.keep λb hb o e=>k b hb o e
 item:=λi s Q E hi x hQ=>by have hv:vs[i]?=some vs[i]:=U0v hi;exact jH x hv λh' sb x'=>hQ _ h' s.toks hv x' λb o hb e=>(sb.2 b (by simpa using hb)).trans e
 done:=λs Q E x hQ=>nW hh x λh' eb=>hQ h' s.toks λb o hb e=>eb b o (by simpa using hb) e
 self:=λi s Q E x hQ=>by obtain⟨_,o,es,ep,t,first,_,_,_,_,hi,_⟩:=x;have hT:s.TypeIs (.ref it) "set_iterator":=⟨_,hi,rfl⟩;refine U6c hT Qa (U1o Qa hT Vu ?_ (XF _));show wpAny _ _ (ret (.ref it)) _ _ s;exact U0c ⟨_,rfl,"set_iterator",_,hT,GP.lookup,hQ⟩
def Jce{Q:Bool->Shared->Prop}(hT:s.TypeIs (.ref S) "set")(h:Q false s):wpAny (model prog w) A (U5n (.ref S)) Q E s:=by
 unfold U5n;refine U0 (U8h hT jN ?_);have hs:splitId "set.__len__"=some ("set","__len__"):=by decide +kernel
 dsimp only
 rw[hs];dsimp only
 refine U0 (U4c hT sub_set_self ?_);simp only[U5u,U18,if_false];refine U0 (U4f hT ?_);exact U0c h
theorem pD{Q:List Value->Shared->Prop}(hh:A.handled=none)(hS:Xc w s.heap S es)
  (h:∀h' d' tk vs,(∀b o,s.heap.get? b=some o->h'.get? b=some o)->WK es vs->Q vs { s with heap:=h',drawn:=d',toks:=tk }):wpAny (model prog w) A (collect (.ref S)) Q E s:=by
 obtain⟨o,ho,hex,hbs⟩:∃o,s.heap.get? S=some o/\o.ExactSet/\es.size<scanBound:=by obtain⟨o,ep,t,ho,hex,_,hb,_⟩:=hS;exact⟨o,ho,hex,hb⟩
 have hlt:=U0m ho;unfold collect;refine U0 (wpAny_runValue (codeAny_builtin F.entry_proto_collect ?_));rw[U2x F.plain_proto_collect _];show wpAny _ A.in1 (newList [] >>= λl=>again (.builtin "list.__iadd__" ⟨[l,.ref S],[]⟩)) _ _ s;refine U0 (U1l (U0c ⟨plainId_quiet F.plain_list_iadd _,codeAny_builtin F.entry_list_iadd ?_⟩));rw[U2x F.plain_list_iadd _];generalize hL:s.heap.objs.size=L;generalize hg:s.heap.push { cls:=.type "list",dict:=none,data:=.seq ([]:List Value).toArray }=g;have k1:∀b o,s.heap.get? b=some o->g.get? b=some o:=λb o e=>hg ▸ U0a _ e;have hLg:g.get? L=some { cls:=.type "list",data:=.seq ([]:List Value).toArray }:=hg ▸ hL ▸ U0s _ rfl;have hsz:g.objs.size=L+1:=by rw[←hg,U2c,hL]
 have hLS:L≠S:=by rw[←hL];exact U1r hlt
 have hT:U4l { s with heap:=g } (.ref S) "set":=⟨o,k1 _ _ ho,hex.1⟩;show wpAny _ A.in1 (U3q (.ref L) (.ref S) (.ref L)) _ _ _;unfold U3q;refine U0 (U4f hT ?_);have h1:U40 (.ref L) (.ref S)=false:=by simp[U40,hLS]
 have h2:(U23 "set"==U23 "list")=false:=by decide
 have h3:(U23 "set"==U23 "tuple")=false:=by decide
 simp only[h1,h2,h3,Bool.or_false,U18,if_false];refine U0 (Jb8 (s:={ s with heap:=g }) (hS.sameBut λo e=>k1 _ _ e) λg2 d2 it T vs k2 hit hTT x hIn=>?_);have hT2:U4l { s with heap:=g2,drawn:=d2 } (.ref S) "set":=⟨o,k2 _ _ (k1 _ _ ho),hex.1⟩;refine U0 (U1u (Jce hT2 ?_));have hit':L<it:=by have hit2:g.objs.size<=it:=hit;lia
 show wpAny _ A.in1 (rule "list.extend.makes-room" >>= λ_=>Builtin.List.listTouch (.ref L) >>= λ_=>again (.builtin "list.extend.loop" ⟨[.ref L,.ref it,.ref L],[]⟩)) _ _ _;refine U0 (U4r (U0 ?_));have e1:=k2 _ _ hLg;show wpAny _ A.in1 (updateSeq L (·.push .none) >>= λ_=>updateSeq L (·.pop)) _ _ _;refine U0 (U49 e1 rfl ?_);have e2:=U2g (U1m (·.push U2d)) e1 rfl;refine U49 e2 rfl ?_;have e3:=U2g (U1m (·.pop)) e2 rfl;have oth:∀b o,b≠L->g2.get? b=some o->((g2.update L (U1m (·.push U2d))).update L (U1m (·.pop))).get? b=some o:=λb o hb e=>(U1f _ _ (U1n hb)).trans ((U1f _ _ (U1n hb)).trans e);have hz:vs.length<=sizeLine:=by obtain⟨l,p,e⟩:=hIn;rw[e,U0i,p.length_eq,U1j];exact fits_of_scanBound hbs
 have nin:L ∉ [it,S,T]:=λz=>by
  simp only[U0q,U1s,or_false]at z;rcases z with z|z|z
  .lia
  .exact hLS z
  .rcases hTT with q|q
   .exact hLS (z.trans q)
   .have q':g.objs.size<=T:=q;lia
 have W:=(vC (prog:=prog) (w:=w) (A:=A.in1) (by simpa using hh) it S T vs).toS;have x3:Ob w ((g2.update L (U1m (·.push U2d))).update L (U1m (·.pop))) it S T vs 0:=x.keep λb hb o e=>oth b o (λz=>nin (z ▸ hb)) e;refine U0c ⟨plainId_quiet F.plain_extend_loop _,codeAny_extend_loopS W hz L nin _ vs.length 0 _ _ _ (ar4) (U3 _) x3 e3 (ItemsOf.nil _) λs' acc c hm hS' hacc=>?_⟩;show wpAny _ A (load L >>= _) _ _ s';refine U0 (wpAny_load hS' ?_);have eacc:acc.toList=vs:=by
  apply List.ext_getElem?;intro j;rw[U2m];cases hj:acc[j]? with
  |some v=>exact(hacc.2 j v hj).symm
  |none=>
   have:acc.size<=j:=by simpa using hj
   rw[hacc.1]at this;exact(U5l this).symm
 obtain⟨h',g',d',tk,os'⟩:=s';have q1:g'=s.gens:=hm.gens;have q2:os'=s.os:=hm.os;subst q1 q2;refine U0c ?_;show Q acc.toList _;rw[eacc];refine h h' d' tk vs (λb o e=>hm.heap b o ?_ (oth b o ?_ (k2 _ _ (k1 _ _ e)))) hIn
 .have hb:b<L:=by rw[←hL];exact U0m e
  intro z;rcases U0q.mp z with z|z
  .exact absurd z (U0u hb)
  .exact absurd (U0r.mp z) (U0u (U2j hb hit'))
 .exact U0u (by rw[←hL];exact U0m e)
def pC{Q:List Value->Shared->Prop}(hh:A.handled=none)(hS:SetT prog w s.heap S ds)
  (h:∀h' d' tk vs ns,(∀b o,s.heap.get? b=some o->h'.get? b=some o)->IntsAre vs ns->ns.Perm ds->Q vs { s with heap:=h',drawn:=d',toks:=tk }):wpAny (model prog w) A (collect (.ref S)) Q E s:=by
 obtain⟨es,W,_,q⟩:=hS.ints;refine pD hh W λh' d' tk vs k i=>?_;obtain⟨ns,a,b⟩:=q vs i;exact h h' d' tk vs ns k a b
def QZ(ho:h.get? a=some (seqObj "list" vs.toArray n)):∃n',(sortedHeap h a vs out).get? a=some (seqObj "list" out n'):=by unfold sortedHeap;have q1:=get?_update_seq ho (λ_=>#[]);exact⟨_,get?_update_seq (U0a _ (U0a _ q1)) (λ_=>out)⟩
def Py(hb:b≠a)(ho:h.get? b=some o):(sortedHeap h a vs out).get? b=some o:=by unfold sortedHeap;rw[U1f _ _ (U1n hb)];exact U0a _ (U0a _ ((U1f _ _ (U1n hb)).trans ho))
def qY{Q:Value->Shared->Prop}(hh:A.handled=none)(hS:SetT prog w s.heap S ds)(h64:ds.length<64)
  (h:∀h' d' tk l vs ns n,(∀b o,s.heap.get? b=some o->h'.get? b=some o)->(∀b o,s.heap.get? b=some o->b<l)->h'.get? l=some { cls:=.type "list",data:=.seq vs n }->IntsAre vs.toList ns->ns.Perm ds->ns.Pairwise (·<=·)->Q (.ref l) { s with heap:=h',drawn:=d',toks:=tk }) :
  wpAny (model prog w) A (call (.builtin "sorted") [.ref S]) Q E s:=by
 refine Calls.call_function_entry kind_sorted plain_sorted entry_sorted (args_sorted1 _) ?_;unfold Builtin.«sorted»;refine U0 (m:=checkCount "sorted" 1 1 _) (U0c ?_);refine U0 (pC (A:=A.in1) (by simpa using hh) hS λh1 d1 t1 vs ns k1 hi hp=>?_);have hv64:vs.length<64:=by rw[show vs.length=ns.length from IntsAre.length hi,hp.length_eq];exact h64
 refine U0 (wpAny_newList ?_);have hoL:(h1.push (seqObj "list" vs.toArray 0)).get? h1.objs.size=some (seqObj "list" vs.toArray 0):=U0s _ rfl;show wpAny _ _ _ _ _ { s with heap:=h1.push (seqObj "list" vs.toArray 0),drawn:=d1,toks:=t1 };refine U0 (U1u (U1o slot_list_sort ⟨_,hoL,rfl⟩ entry_list_sort (list_sort_tree hoL hi hv64 λout ns' a1 a2 a3=>⟨_,rfl,?_⟩) (args_list_sort _)));refine U0c ⟨_,rfl,?_⟩;have old:∀b o,s.heap.get? b=some o->b≠h1.objs.size:=λb o e=>U0u (U0m (k1 b o e));obtain⟨n',e'⟩:=QZ (out:=out) hoL;refine h _ d1 t1 h1.objs.size out ns' n' (λb o e=>Py (old b o e) (U0a _ (k1 b o e))) (λb o e=>U0m (k1 b o e)) e' a1 (a2.trans hp) a3
end
end SetP
end
section
namespace L2
open PySem PySem.Spec PyProof.Rows
def PTs(X:Cx)(ifs:List Expr)(t:TT):Prop:=
 ∀(pins:List (Addr×Obj))(s:Shared)(Z3:St)(H:Hp)(Q:Bool->Hp->Prop),Inv X pins Z3 H s->t Z3 H Q ->
  wpAny (model X.prog X.w) X.A (forIn ifs true λc r=>if r=true then do let ok ←isTrue c X.env (eval c X.env);pure (U61 ok) else pure (U61 r)) (TP X pins Z3 Q) X.xe s
def Fd:TT:=λ_ H Q=>Q true H
def wD:PTs X [] Fd:=λ_ _ _ H _ I h=>U0c ⟨H,I,h⟩
def wC(h:PT X c t):PTs X [c] t:=by intro pins s Z3 H Q I hw;rw[U4i];simp only[if_true];refine U0 (U0 (thn (h pins s Z3 H Q I hw) λb s1 hb=>U0c ?_));show wpAny _ _ (pure b) _ _ _;exact U0c hb
def Low(k:Nat)(g:TG):Prop:=∀x Z3 H Q,g x Z3 H Q->g x Z3 H λZZ H'=>Q ZZ H'/\ZZ.length=Z3.length/\∀j,k<=j->ZZ[j]?=Z3[j]?
def Za(k:Nat)(g:TGs):Prop:=∀x Z3 H Q,g x Z3 H Q->g x Z3 H λZZ H'=>Q ZZ H'/\ZZ.length=Z3.length/\∀j,k<=j->ZZ[j]?=Z3[j]?
def rM(h:i<k):Low k (ZF i):=λx Z3 H Q q=>
 ⟨q,U3p ..,λj hj=>U2i (by lia)⟩
def xP:Za k pZ:=λ_ _ _ _ ⟨e,q⟩=>⟨e,q,rfl,λ_ _=>rfl⟩
def rO(ht:Low k t)(hu:Za k u)(mono:∀x Z3 H Q Q',(∀ZZ H',Q ZZ H'->Q' ZZ H')->t x Z3 H Q->t x Z3 H Q')
  (monoU:∀x Z3 H Q Q',(∀ZZ H',Q ZZ H'->Q' ZZ H')->u x Z3 H Q->u x Z3 H Q'):Za k (iZ t u):=λx Z3 H Q ⟨v,r,e,q⟩=>by
 refine⟨v,r,e,mono v Z3 H _ _ (λZT H1 z=>?_) (ht v Z3 H _ q)⟩;obtain⟨z1,z2,z3⟩:=z;exact monoU r ZT H1 _ _ (λZY H2 y=>⟨y.1,y.2.1.trans z2,λj hj=>(y.2.2 j hj).trans (z3 j hj)⟩) (hu r ZT H1 _ z1)
def xO{K:U0e}{n k:Nat}{t:TGs}(h:Za k t):Low k (pY K n t):=λx Z3 H Q ⟨a,xs,e,hs,hl,q⟩=>⟨a,xs,e,hs,hl,h xs Z3 H Q q⟩
def compLook(sc:Scope)(N N2:List Str)(k:Nat)(caps:List Nat)(scope:Scope):Bool:=
 decide (scope.kind=.function)&&scope.names.all (λy=>decide (y.2≠.cell)||decide (scope.names.lookup y.1=some .cell))&&scope.names.all (λy=>decide (y.2≠.local)||decide (scope.names.lookup y.1=some .local)) &&
 scope.names.all (λy=>decide (y.2≠.free)||decide (sc.names.lookup y.1=some .cell)||decide (sc.names.lookup y.1=some .free))&&decide N2.Nodup&&decide (N2.length=k+caps.length) &&
 (U07 caps.length).all λj=>match caps[j]?,N2[k+j]? with
  |some i,some y=>decide (N[i]?=some y)&&decide (scope.names.lookup y=some .free)
  |_,_=>false
structure Dl(sc:Scope)(N N2:List Str)(k:Nat)(caps:List Nat)(scope:Scope):Prop where
 kind:scope.kind=.function
 one:∀y∈scope.names,y.2=.cell->scope.names.lookup y.1=some .cell
 loc:∀y∈scope.names,y.2=.local->scope.names.lookup y.1=some .local
 free:∀y∈scope.names,y.2=.free->sc.names.lookup y.1=some .cell∨sc.names.lookup y.1=some .free
 nd:N2.Nodup
 len:N2.length=k+caps.length
 cap:∀j i,caps[j]?=some i->∃y,N2[k+j]?=some y/\N[i]?=some y/\scope.names.lookup y=some .free
def Dl.of(h:compLook sc N N2 k caps scope=true):Dl sc N N2 k caps scope:=by
 unfold compLook at h;simp only[U1a,U3k,Bool.or_eq_true,decide_eq_true_eq]at h;obtain⟨⟨⟨⟨⟨⟨h1,h2⟩,h3⟩,h4⟩,h5⟩,h6⟩,h7⟩:=h;refine⟨h1,λy hy e=>?_,λy hy e=>?_,λy hy e=>?_,h5,h6,λj i e=>?_⟩
 .rcases h2 y hy with z|z
  .exact absurd e z
  .exact z
 .rcases h3 y hy with z|z
  .exact absurd e z
  .exact z
 .rcases h4 y hy with (z|z)|z
  .exact absurd e z
  .exact .inl z
  .exact .inr z
 .have hj:j∈U07 caps.length:=U3l.mpr (U0l.mp e).1;have q:=h7 j hj;rw[e]at q;cases hy:N2[k+j]? with
  |none=>rw[hy]at q;exact absurd q (by simp)
  |some y=>
   rw[hy]at q;simp only[U1a,decide_eq_true_eq]at q;exact⟨y,rfl,q.1,q.2⟩
theorem Tv{env:Env}:∀{names:List (Str×NameKind)} {x:Str},names.lookup x=some .free ->
  (names.map λ(n,k)=>if (k==U2h&&env.scope.kind==.function&&env.kindOf n==some .cell) then (n,U3u) else (n,k)).lookup x=some .cell ∨
  (names.map λ(n,k)=>if (k==U2h&&env.scope.kind==.function&&env.kindOf n==some .cell) then (n,U3u) else (n,k)).lookup x=some .free
 |[],_,h=>by simp at h
 |(n,k)::r,x,h=>by
  have ih:=@Tv env r x;show U8l x ((if (k==U2h&&env.scope.kind==.function&&env.kindOf n==some .cell)=true then (n,U3u) else (n,k))::_)=_∨U8l x ((if (k==U2h&&env.scope.kind==.function&&env.kindOf n==some .cell)=true then (n,U3u) else (n,k))::_)=_;cases hx:x==n with
  |true=>
   simp only[U15,hx]at h;cases h;by_cases hc:(U2h==U2h&&env.scope.kind==.function&&env.kindOf n==some .cell)=true
   .rw[if_pos hc];left;simp only[U15,hx]
   .rw[if_neg hc];right;simp only[U15,hx]
  |false=>
   simp only[U15,hx]at h;by_cases hc:(k==U2h&&env.scope.kind==.function&&env.kindOf n==some .cell)=true
   .rw[if_pos hc];simp only[U15,hx];exact ih h
   .rw[if_neg hc];simp only[U15,hx];exact ih h
theorem Tw{env:Env}:∀{names:List (Str×NameKind)} {x:Str},
  ((names.map λ(n,k)=>if (k==U2h&&env.scope.kind==.function&&env.kindOf n==some .cell) then (n,U3u) else (n,k)).lookup x=some .cell ∨
   (names.map λ(n,k)=>if (k==U2h&&env.scope.kind==.function&&env.kindOf n==some .cell) then (n,U3u) else (n,k)).lookup x=some .free)->names.lookup x=some .free∨names.lookup x=some .cell
 |[],_,h=>by simp at h
 |(n,k)::r,x,h=>by
  have ih:=@Tw env r x;cases hx:x==n with
  |true=>
   simp only[U15,hx];by_cases hf:k=.free
   .rw[hf];exact .inl rfl
   .have hkf:(k==U2h)=false:=by cases k<;>first|rfl|exact absurd rfl hf
    simp only[U0j,hkf,U56,U18,if_false,U15,hx]at h;rcases h with z|z
    .exact .inr z
    .exact absurd (U08 z) hf
  |false=>
   simp only[U15,hx];refine ih ?_;have h':U8l x ((if (k==U2h&&env.scope.kind==.function&&env.kindOf n==some .cell)=true then (n,U3u) else (n,k))::U52 _ r)=some .cell∨U8l x ((if (k==U2h&&env.scope.kind==.function&&env.kindOf n==some .cell)=true then (n,U3u) else (n,k))::U52 _ r)=some .free:=h;by_cases hcc:(k==U2h&&env.scope.kind==.function&&env.kindOf n==some .cell)=true
   .rw[if_pos hcc]at h';simp only[U15,hx]at h';exact h'
   .rw[if_neg hcc]at h';simp only[U15,hx]at h';exact h'
theorem JN:∀(names:List (Str×NameKind))(n:Nat)(acc:List (Str×Addr)),cellsFrom n names acc=cellsFrom n names []++acc
 |[],_,_=>rfl
 |(x,k)::r,n,acc=>by
  unfold cellsFrom;split
  .rw[JN r (n+1) ((x,n)::acc),JN r (n+1) [(x,n)],U3o];rfl
  .exact JN r n acc
theorem O8:∀(names:List (Str×NameKind))(n:Nat){x:Str}{c:Addr},(x,c)∈cellsFrom n names []->(x,U3u)∈names
 |[],_,_,_,h=>by simp[cellsFrom]at h
 |(y,k)::r,n,x,c,h=>by
  unfold cellsFrom at h;split at h
  .rename_i hk;rw[JN]at h;rcases U0x.mp h with z|z
   .exact U0k _ (O8 r (n+1) z)
   .have z':(x,c)=(y,n):=by simpa using z
    have hk':k=.cell:=by simpa using hk
    cases z';rw[hk'];exact U0h
  .exact U0k _ (O8 r n h)
def jM{cs ds:List (Str×Addr)}{x:Str}{c:Addr}(h:(cs++ds).lookup x=some c):cs.lookup x=some c∨(cs.lookup x=none/\ds.lookup x=some c):=by
 rw[U5]at h;cases e:cs.lookup x with
 |none=>rw[e]at h;exact .inr ⟨rfl,h⟩
 |some d=>rw[e]at h;exact .inl h
def d9{E:Value->Shared->Prop}{Q:Env->Shared->Prop}
  (hQ:∀h':Heap,h'.Ns s.heap.objs.size (λ_=>none)->(∀b o,s.heap.get? b=some o->h'.get? b=some o)->CellsOk h' (s.heap.objs.size+1) (cellsFrom (s.heap.objs.size+1) scope.names []) ->
   Q { scope,locals:=s.heap.objs.size,globals,cells:=cellsFrom (s.heap.objs.size+1) scope.names []++cl,qual,func:=none,code:=env.code,frame:=env.frame,builtins:=env.builtins } { s with heap:=h' }) :
  wpAny M A (newFunctionEnv scope globals cl [] qual none .none (some env)) Q E s:=by
 simp only[newFunctionEnv,Option.isSome_some,if_true];refine U0 (wpAny_alloc ?_);refine U0 (wpAny_layCells _ (λname kind cells=>by cases hkc:kind==U3u<;>simp[hkc]) _ _ _ _ ?_);rw[show({ s with heap:=s.heap.push { cls:=.type "dict",data:=.dict #[] } }:Shared).heap.objs.size=s.heap.objs.size+1 from U2c ..];have ok:=cellsFrom_ok scope.names (s.heap.push { cls:=.type "dict",data:=.dict #[] }) (s.heap.objs.size+1) [] ⟨λ_ _ hm=>(nomatch hm),U74⟩ (by rw[U2c];exact U0o _);rw[U2c]at ok;rw[JN];refine U0 ?_;rw[U58];refine U0c (U0c (hQ _ ?_ ?_ ok))
 .exact(Heap.Ns.new s.heap (.type "dict")).keeps (pushCells_keeps _ _)
 .exact λb o e=>pushCells_keeps _ _ b o (U0a _ e)
def Wt(h:∀y∈scope.names,y.2=.free->∃c,env.cells.lookup y.1=some c) :
  ∃cl,closureFor scope env=pure cl/\(∀x c,cl.lookup x=some c->env.cells.lookup x=some c)/\∀x,scope.names.lookup x=some .free->∃c,cl.lookup x=some c:=by
 have all:∀(names:List (Str×NameKind))(cs:List (Str×Addr)),(∀y∈names,y.2=.free->∃c,env.cells.lookup y.1=some c)->(∀x c,cs.lookup x=some c->env.cells.lookup x=some c) ->
   ∃cl,(forIn names cs (λ(x:Str×NameKind) (cs:List (Str×Addr))=>(match x with
     |(name,kind)=>if (kind==U2h)=true then (cellOf env name >>= λa=>pure (U61 ((name,a)::cs))) else pure (U61 cs):Sem (ForInStep (List (Str×Addr)))) ):Sem (List (Str×Addr)))=pure cl /\
    (∀x c,cl.lookup x=some c->env.cells.lookup x=some c)/\(∀x c,cs.lookup x=some c->∃c',cl.lookup x=some c')/\∀x,names.lookup x=some .free->∃c,cl.lookup x=some c:=by
  intro names;induction names with
  |nil=>intro cs _ hc;exact⟨cs,rfl,hc,λx c e=>⟨c,e⟩,λx e=>by simp at e⟩
  |cons y r ih=>
   intro cs hy hc;obtain⟨n,kd⟩:=y;by_cases hk:kd=.free
   .subst hk;obtain⟨c,hcn⟩:=hy (n,.free) U0h rfl;have hc':∀x c',((n,c)::cs).lookup x=some c'->env.cells.lookup x=some c':=λx c' e=>by
     rw[U15]at e;cases hx:x==n with
     |true=>
      rw[hx]at e;have hxn:x=n:=by simpa using hx
      rw[hxn,hcn];exact e
     |false=>rw[hx]at e;exact hc x c' e
    obtain⟨cl,e1,e2,e3,e4⟩:=ih ((n,c)::cs) (λz hz=>hy z (U0k _ hz)) hc';refine⟨cl,?_,e2,λx c' e=>?_,λx e=>?_⟩
    .rw[U4i];have hb:(U2h==U2h)=true:=rfl;simp only[hb,if_true,cellOf,hcn,pure_bind];exact e1
    .by_cases hx:(x==n)=true
     .exact e3 x c (by rw[U15,hx])
     .have hx':(x==n)=false:=by simpa using hx
      exact e3 x c' (by rw[U15,hx'];exact e)
    .rw[U15]at e;cases hx:x==n with
     |true=>exact e3 x c (by rw[U15,hx])
     |false=>rw[hx]at e;exact e4 x e
   .have hb:(kd==U2h)=false:=by cases kd<;>first|rfl|exact absurd rfl hk
    obtain⟨cl,e1,e2,e3,e4⟩:=ih cs (λz hz=>hy z (U0k _ hz)) hc;refine⟨cl,?_,e2,e3,λx e=>?_⟩
    .rw[U4i];simp only[hb,U18,if_false,pure_bind];exact e1
    .rw[U15]at e;cases hx:x==n with
     |true=>rw[hx]at e;exact absurd (U08 e) hk
     |false=>rw[hx]at e;exact e4 x e
 obtain⟨cl,e1,e2,_,e4⟩:=all scope.names [] h (λx c e=>by simp at e);refine⟨cl,?_,e2,e4⟩;unfold closureFor;rw[←bind_pure (pure cl:Sem _),←e1]
abbrev Eo(X:Cx)(N2:List Str)(scope:Scope)(cl:List (Str×Addr))(C:Addr)(s:Shared)(H:Hp)(ex:List Addr):Cx:=
 { X with N:=N2,s₀:=s,H₀:=H,env:=compEnvC scope cl C X.env,outer:=X.stack,ex:=ex,fn:=λx=>decide (scope.names.lookup x=some .cell),pn:=[],xe:=λ_ _=>False }
def Jb(k:Nat)(caps:List Nat)(Z3:St):St:=U06 k none++caps.map λj=>(Z3[j]?).join
def Jeo(J:It)(k:Nat)(caps:List Nat)(Z3:St)(g:TG)(tt:TT)(te:TE)(Q:VK)(H1:Hp):Prop:=∃W:Nat->Nat->List V->Hp->Prop,(∃m,W 0 m [] H1)/\∀i m ys H,W i m ys H ->
 (J.stop i H/\∀p,H p=none->Q (.ref p) (upd H p (.lst ys))) ∨
 (J.go i H/\ys.length<sizeLine/\∀x H',J.yld i H x H'->g x (Jb k caps Z3) H' λZY H2=>tt ZY H2 λb H3=>
  if b=true then te ZY H3 λv H4=>∃m',m'<m/\W (i+1) m' (ys++[v]) H4 else ∃m',m'<m/\W (i+1) m' ys H3)
def iI(k:Nat)(caps:List Nat)(wi:TI)(g:TG)(tt:TT)(te:TE):TE:=λZ3 H Q=>wi Z3 H λJ H1=>Jeo J k caps Z3 g tt te Q H1
def gK(h:(Jb k caps Z3)[i]?=some (some v)):∃j a,i=k+j/\caps[j]?=some a/\Z3[a]?=some (some v):=by
 unfold Jb at h;by_cases hi:i<k
 .rw[U1e (by simpa using hi),U42,if_pos hi]at h;cases h
 .rw[U2f (by simpa using hi),U2b,U0z]at h;cases e:caps[i-k]? with
  |none=>rw[e]at h;cases h
  |some a=>
   rw[e]at h;have h':(Z3[a]?).join=some v:=U08 h;refine⟨i-k,a,by lia,e,?_⟩;cases e2:Z3[a]? with
   |none=>rw[e2]at h';cases h'
   |some o=>
    rw[e2]at h';cases o with
    |none=>cases h'
    |some v'=>
     have h'':some v'=some v:=h';rw[h'']
def N6{a b n:Nat}(h1:a<n)(h2:n<=b):a≠b:=by lia
section
variable{X:Cx}{pins:List (Addr×Obj)}{Z3:St}
def Inv.but(I:Inv X pins Z3 H s)(hb:U02 C s.heap h')(hn:H C=none)(hL:C≠X.env.locals)(h1:X.s₀.heap.objs.size<=C)(h2:∀x c,X.env.cells.lookup x=some c->c≠C)(h3:∀p∈X.pn++pins,p.1≠C) :
  Inv X pins Z3 H { s with heap:=h' }:=I.turned (t':=s.toks) (λb o hne e=>(hb.2 b hne).trans e) hn hL (.inr h1) h2 h3
def Ws{s2:Shared}{H2:Hp}{elt tg iter:Expr}{ifs:List Expr}{scope:Scope}{pos:Pos}{N2:List Str}{k:Nat}{caps:List Nat}{cl:List (Str×Addr)}{g:TG}{tt:TT}{te:TE}{E:Value->Shared->Prop}
  {it:Addr} {fp:List Addr} {tn:Nat->Heap->Prop} {J:It} {RR:Value->Addr->Result->Shared->Prop} {Qe:List V->Hp->Prop} {W:Nat->Nat->List V->Hp->Prop} {m0:Nat}
  (hc:X.calm=true) (hS:Dl X.env.scope X.N N2 k caps scope) (hlow:Low k g)
  (hcl:∀x c,cl.lookup x=some c->X.env.cells.lookup x=some c) (hcf:∀x,scope.names.lookup x=some .free->∃c,cl.lookup x=some c)
  (hb:∀(cl:List (Str×Addr))(C:Addr)(s:Shared)(H:Hp)(ex:List Addr),PG (Eo X N2 scope cl C s H ex) tg g/\PTs (Eo X N2 scope cl C s H ex) ifs tt/\PE (Eo X N2 scope cl C s H ex) elt te)
  (I2:Inv X pins Z3 H2 s2) (T:Turn X.prog X.w X.K tg J fp it tn) (st2:tn 0 s2.heap) (f2:∀b∈fp,Qg X pins H2 b) (w0:W 0 m0 [] H2)
  (turn:∀i m ys H,W i m ys H->(J.stop i H/\Qe ys H) ∨
   (J.go i H/\ys.length<sizeLine/\∀x H',J.yld i H x H'->g x (Jb k caps Z3) H' λZY H2=>tt ZY H2 λb H3=>
    if b=true then te ZY H3 λv H4=>∃m',m'<m/\W (i+1) m' (ys++[v]) H4 else ∃m',m'<m/\W (i+1) m' ys H3))
  (hRR:∀D C s' H' ys,s2.heap.objs.size<=D->s2.heap.objs.size<=C->C≠D->H' D=none->H' C=none->Inv X pins Z3 (upd H' D (.lst ys)) s'->(∃m,s'.heap.Ns C m)->Qe ys H'->RR (.ref D) C (.ok .next) s') :
  wpAny (model X.prog X.w) X.A (newList []) (λacc s₃=>wpAny (model X.prog X.w) X.A (newFunctionEnv scope X.env.globals cl [] X.env.qual none .none (some X.env)) (λcenv s₄=>
   codeAny (model X.prog X.w) X.A (.compStart (.ListComp elt [⟨tg,iter,ifs,0⟩] scope pos) 0 (.ref it) acc { cenv with scope:=relabel scope X.env }) (RR acc cenv.locals) s₄) E s₃) E s2:=by
 refine U1l (d9 λh₁ hns₁ kp cok=>?_);dsimp only at hns₁ kp cok ⊢;generalize hH3:s2.heap.push { cls:=.type "list",dict:=none,data:=.seq ([]:List Value).toArray }=H3 at hns₁ kp cok ⊢;have hC:H3.objs.size=s2.heap.objs.size+1:=by rw[←hH3,U2c]
 generalize hDD:s2.heap.objs.size=D at hC;generalize hCC:H3.objs.size=C at hns₁ cok hC ⊢;have hDC:D≠C:=by lia
 have szD:s2.heap.objs.size<=D:=U8w hDD;have szC:s2.heap.objs.size<=C:=by rw[hDD,hC];exact U5e _
 have below:∀b o,s2.heap.get? b=some o->b≠C/\b≠D:=λb o e=>⟨N6 (U0m e) szC,N6 (U0m e) szD⟩;have old:∀b o,s2.heap.get? b=some o->h₁.get? b=some o:=λb o e=>kp b o (hH3 ▸ U0a _ e);have hacc:h₁.get? D=some { cls:=.type "list",data:=.seq ([]:List Value).toArray 0 }:=kp _ _ (hH3 ▸ hDD ▸ U0s _ rfl);have f2h:∀b∈fp,∃o,s2.heap.get? b=some o:=λb hbf=>let ⟨o,e,_⟩:=T.obj 0 _ st2 b hbf;⟨o,e⟩;have okc:∀x c,X.env.cells.lookup x=some c->∃o,s2.heap.get? c=some o:=λx c e=>let ⟨_,o,ho,_⟩:=I2.cell x c e;⟨o,ho⟩;have oMem:∀x c,(cellsFrom (C+1) scope.names []).lookup x=some c->C+1<=c/\h₁.IsCell c none/\scope.names.lookup x=some .cell:=λx c e=>by have m:=U22 e;exact⟨(cok.empty x c m).2,(cok.empty x c m).1,hS.one _ (O8 _ _ m) rfl⟩
 have oHas:∀x,scope.names.lookup x=some .cell->∃c,(cellsFrom (C+1) scope.names []).lookup x=some c:=λx e=>U31.mp (U6i scope.names (C+1) [] (.inl e));have oApart:=cok.apart;generalize cellsFrom (C+1) scope.names []=own at oMem oHas oApart ⊢;have hcs:∀x c,(own++cl).lookup x=some c->(C+1<=c/\h₁.IsCell c none/\own.lookup x=some c)∨X.env.cells.lookup x=some c:=λx c e=>by
  rcases jM e with z|z
  .exact .inl ⟨(oMem x c z).1,(oMem x c z).2.1,z⟩
  .exact .inr (hcl x c z.2)
 have hlt:∀x c,X.env.cells.lookup x=some c->c<s2.heap.objs.size:=λx c e=>let ⟨o,ho⟩:=okc x c e;U0m ho;have OK:(Eo X N2 scope (own++cl) C s2 H2 fp).Ok:=by
  refine⟨I2.ok.mod,hS.kind,I2.ok.glob,I2.ok.blt,?_,λx y c h1 h2=>?_,λx hx=>?_,λx c hf h1=>?_,I2.ok.hd,I2.ok.frames,.inl rfl,λb hbf=>?_,I2.bs,
   U01 I2.ok.bsz I2.sz,λb o e hbf=>?_,λb hbf hb'=>?_,I2.stack,I2.eO,I2.XJ⟩
  .exact szC
  .rcases hcs x c h1 with z|z
   .rcases hcs y c h2 with z'|z'
    .exact name_of_addr oApart (U22 z.2.2) (U22 z'.2.2)
    .exact absurd (hlt y c z') (Nat.not_lt.mpr (U01 szC (U01 (U5e _) z.1)))
   .rcases hcs y c h2 with z'|z'
    .exact absurd (hlt x c z) (Nat.not_lt.mpr (U01 szC (U01 (U5e _) z'.1)))
    .exact I2.ok.inj x y c z z'
  .rcases Tw (env:=X.env) hx with z|z
   .obtain⟨c,e⟩:=hcf x z;show ∃c,(own++cl).lookup x=some c;rw[U5];cases q:own.lookup x with
    |none=>exact⟨c,e⟩
    |some d=>exact⟨d,rfl⟩
   .obtain⟨c,e⟩:=oHas x z;exact⟨c,by show(own++cl).lookup x=some c;rw[U5,e];rfl⟩
  .obtain⟨d,e⟩:=oHas x (of_decide_eq_true hf);have h1':(own++cl).lookup x=some c:=h1;rw[U5,e]at h1';have e2:d=c:=U08 h1';rw[←e2];exact U01 szC (U01 (U5e _) (oMem x d e).1)
  .obtain⟨o,e⟩:=f2h b hbf;refine⟨(below b o e).1,λx c h1=>?_⟩;rcases hcs x c h1 with z|z
   .exact λw=>absurd (U0m e) (by rw[←w];exact Nat.not_lt.mpr (U01 szC (U01 (U5e _) z.1)))
   .exact(f2 b hbf).2.2.2.2.1 x c z
  .rcases(f2 b hbf).2.2.2.1 with z|z
   .exact I2.ok.noex b o e z
   .exact absurd (U0w (U0m (I2.ok.bs b o e).1) z) (U3s _)
  .rcases U0q.mp (I2.Sv b hb') with z|z
   .exact(f2 b hbf).2.1 z
   .exact(f2 b hbf).2.2.1 z
 have fresh:∀a,s2.heap.objs.size<=a->H2 a=none:=λa ha=>I2.hok.fresh ha;have I4:∀tk,Inv (Eo X N2 scope (own++cl) C s2 H2 fp) [(D,{ cls:=.type "list",data:=.seq ([]:List Value).toArray 0 })] (Jb k caps Z3) H2 { s2 with heap:=h₁,toks:=tk }:=λtk=>by
  refine⟨OK,rfl,I2.bare,Un.kept old,⟨_,hns₁,λi x v e1 e2 e3=>?_⟩,λx c e=>?_,fresh C szC,λx c e=>?_,λp hp=>?_,I2.hok.kept old,?_⟩
  .obtain⟨j,a,rfl,ha,hv⟩:=gK e2;obtain⟨y,y1,y2,y3⟩:=hS.cap j a ha;have e1':N2[k+j]?=some x:=e1;rw[y1]at e1';cases e1';have hk:X.env.scope.names.lookup x=some .cell∨X.env.scope.names.lookup x=some .free:=hS.free (x,.free) (U22 y3) rfl;obtain⟨m',_,hl⟩:=id I2.loc;obtain⟨u,ru,lk⟩:=hl a x v y2 hv (hk.elim (λz=>.inr (.inl z)) λz=>.inr (.inr z));refine⟨u,ru,.inr ⟨Tv y3,?_⟩⟩;rcases lk with ⟨kk,_⟩|⟨_,c,e,z⟩
   .have kk':X.env.scope.names.lookup x=some .local:=kk;rw[kk']at hk;rcases hk with z|z<;>cases z
   .obtain⟨c',e'⟩:=hcf x y3;have e'':=hcl x c' e';rw[e]at e'';cases e'';obtain⟨o,ho,hd⟩:=z;refine⟨c,?_,o,old c o ho,hd⟩;show(own++cl).lookup x=some c;rw[U5];cases q:own.lookup x with
    |none=>exact e'
    |some d=>have:=(oMem x d q).2.2;rw[y3]at this;cases this
  .rcases hcs x c e with z|z
   .exact⟨none,z.2.1⟩
   .obtain⟨v,o,ho,hd⟩:=I2.cell x c z;exact⟨v,o,old c o ho,hd⟩
  .rcases hcs x c e with z|z
   .exact fresh c (U01 szC (U01 (U5e _) z.1))
   .exact I2.freeC x c z
  .have hp':p∈[(D,({ cls:=.type "list",data:=.seq ([]:List Value).toArray 0 }:Obj))]:=hp;have e:p=(D,({ cls:=.type "list",data:=.seq ([]:List Value).toArray 0 }:Obj)):=by simpa using hp'
   subst e;exact⟨hacc,fresh D szD,hDC,λz=>by
    rcases U0q.mp (I2.Sv D z) with z|z
    .exact N6 I2.lt szD z.symm
    .exact I2.pR szD z,λv z=>by cases z⟩
  .show(Jb k caps Z3).length=N2.length;unfold Jb;rw[U0n,U2b,U0i,hS.len]
 obtain⟨hg,ht,he⟩:=hb (own++cl) C s2 H2 fp;have loop:∀s₃:Shared,Inv (Eo X N2 scope (own++cl) C s2 H2 fp) [(D,{ cls:=.type "list",data:=.seq ([]:List Value).toArray 0 })] (Jb k caps Z3) H2 s₃->tn 0 s₃.heap ->
   codeAny (model X.prog X.w) X.A (.compLoop (.ListComp elt [⟨tg,iter,ifs,0⟩] scope pos) 0 (.ref it) (.ref D) (compEnvC scope (own++cl) C X.env)) (RR (.ref D) C) s₃:=by
  intro s₃ I₃ st₃;refine codeAny_loop rfl (λn s'=>∃i ys its nn H',Inv (Eo X N2 scope (own++cl) C s2 H2 fp) [(D,{ cls:=.type "list",data:=.seq (its:List Value).toArray nn })] (Jb k caps Z3) H' s'/\Vals ys its/\tn i s'.heap/\(∀b∈fp,H' b=none)/\ys.length<=sizeLine/\W i n ys H') ?_ m0
   ⟨0,[],[],0,H2,I₃,.nil,st₃,λb hbf=>(f2 b hbf).1,U3 _,w0⟩
  rintro n s5 ⟨i,ys,its,nn,H5,I5,rv,st5,fr5,hz,w5⟩;show wpAny _ X.A ((compTurn (.ListComp elt [⟨tg,iter,ifs,0⟩] scope pos) 0 (.ref it) (.ref D) (compEnvC scope (own++cl) C X.env)).onRaise (λx=>do noteFrame x (compEnvC scope (own++cl) C X.env);theTreesLotGoes x)) _ _ s5;refine wpAny_noted ?_;rw[compTurn_list];refine U0 (wpAny_standAt (U0 ?_));have fpok:∀{H':Hp} {o:Obj},(∀b∈fp,H' b=none)->∀b∈fp,Qg (Eo X N2 scope (own++cl) C s2 H2 fp) [(D,o)] H' b:=fun {H' o} hn b hbf=>by
   obtain⟨ob,e⟩:=f2h b hbf;refine⟨hn b hbf,(below b ob e).1,OK.exfs b hbf,.inl hbf,(OK.exf b hbf).2,λp hp z=>?_⟩;have hp':p∈[(D,o)]:=hp;have e':p=(D,o):=by simpa using hp'
   subst e';exact(below b ob e).2 z.symm
  rcases turn i n ys H5 w5 with ⟨stop,qn⟩|⟨go,hz2,step⟩
  .refine thn (T.done (Eo X N2 scope (own++cl) C s2 H2 fp) rfl rfl rfl hc i _ s5 _ H5 _ I5 (fpok fr5) st5 stop) λr s6 ⟨hr,I6⟩=>?_;subst hr;refine U0c ?_;obtain⟨pe,pn,pne,pnf,_⟩:=I6.pin (D,{ cls:=.type "list",data:=.seq its.toArray nn }) (U04 _ (U0r.mpr rfl));have hD:H5 D=none:=pn;have hCn:H5 C=none:=I6.free;refine hRR D C s6 H5 ys szD szC (U1n hDC) hD hCn ?_ ?_ qn
   .have un:Un (frs X.stack) fp H2 (upd H5 D (.lst ys)) s2.heap s6.heap:=by
     have u:=I6.base;refine⟨u.keep,u.slot,λb o e n1 n2=>?_,u.there,λb xs e=>?_,λb o u' e=>?_,λb ps e=>?_,λn v q=>u.sy n v (by rw[Bt (U0u (U0w I2.gn szD))]at q;exact q)⟩
     .rw[Bt (below b o e).2];exact u.free b o e n1 n2
     .rw[Bt (Ec (u.tups b xs e) hD)];exact u.tups b xs e
     .rw[Bt (Ec (u.frzs b o u' e) hD)];exact u.frzs b o u' e
     .obtain⟨more,q⟩:=u.tbls b ps e;exact⟨more,by rw[Bt (Ec q hD)];exact q⟩
    refine I2.call' I6.os un (λb u e=>?_) I6.bare (λb hbf=>⟨(f2 b hbf).2.2.2.1,(f2 b hbf).2.1,(f2 b hbf).2.2.2.2.1,(f2 b hbf).2.2.2.2.2⟩);by_cases hbd:b=D
    .subst hbd;rw[CT]at e;cases e;exact⟨hz,its,nn,rv,pe⟩
    .rw[Bt hbd]at e;exact(I6.hok b u e).stay (λ_ _ _ q=>q) (λc q=>by rw[Bt (Ec q hD)];exact q) λc xs q=>by rw[Bt (Ec q hD)];exact q
   .obtain⟨m,hn,_⟩:=I6.loc;exact⟨m,hn⟩
  .refine thn (T.item (Eo X N2 scope (own++cl) C s2 H2 fp) rfl rfl rfl hc i _ s5 _ H5 _ I5 (fpok fr5) st5 go) λr s6 ⟨u,hr,h6⟩=>?_;subst hr;refine U0 (thn h6 λ_ s7 ⟨x,H7,I7,r7,y7,st7,fr7⟩=>?_);have I7':=I7.pinned (fpok fr7) (T.obj _ _ st7);refine U0 (U5o (hg _ s7 _ H7 x u _ I7' r7 (hlow _ _ _ _ (step x H7 y7))) (λ_ s8 ⟨ZI,H8,I8,q8,ql,qk⟩=>?_) λ_ _ z=>z.elim);have wk:∀{pl:List (Addr×Obj)} {H9:Hp} {s9:Shared},Inv (Eo X N2 scope (own++cl) C s2 H2 fp) pl ZI H9 s9->Inv (Eo X N2 scope (own++cl) C s2 H2 fp) pl (Jb k caps Z3) H9 s9:=fun {pl H9 s9} I9=>
    I9.weak ql.symm λi v e=>by obtain⟨j,a,rfl,_,_⟩:=gK e;rw[qk (k+j) (U1p _ _)];exact e
   have pinD:∀{pl:List (Addr×Obj)} {ZN:St} {H9:Hp} {s9:Shared},Inv (Eo X N2 scope (own++cl) C s2 H2 fp) (((D,({ cls:=.type "list",data:=.seq its.toArray nn }:Obj))::[])++pl) ZN H9 s9->s9.heap.get? D=some { cls:=.type "list",data:=.seq its.toArray nn }/\H9 D=none:=fun {pl ZN H9 s9} I9=>by obtain⟨e1,e2,_⟩:=I9.pin (D,_) (U04 _ (U10 _ (U0r.mpr rfl)));exact⟨e1,e2⟩
   have stn:∀{pl:List (Addr×Obj)} {ZN:St} {H9:Hp} {s9:Shared},Inv (Eo X N2 scope (own++cl) C s2 H2 fp) (pl++Nh fp s7.heap) ZN H9 s9->tn (i+1) s9.heap/\∀b∈fp,H9 b=none:=fun {pl ZN H9 s9} I9=>by refine⟨T.keep _ _ _ st7 λb hbf o e=>(I9.pin (b,o) (U04 _ (U04 _ (Oe hbf e)))).1,λb hbf=>?_⟩;obtain⟨o,e,d⟩:=T.obj _ _ st7 b hbf;exact(I9.pin (b,o) (U04 _ (U04 _ (Oe hbf e)))).2.1
   refine U0 (U5o (ht _ s8 ZI H8 _ I8 q8) (λok s9 ⟨H9,I9,q9⟩=>?_) λ_ _ z=>z.elim);cases ok with
   |false=>
    obtain⟨m',hm,w9⟩:=(by simpa using q9:∃m',m'<n/\W (i+1) m' ys H9);refine U0c ⟨rfl,m',hm,i+1,ys,its,nn,H9,wk I9.Ra,rv,(stn I9).1,(stn I9).2,hz,w9⟩
   |true=>
    have q9':te ZI H9 λv H4=>∃m',m'<n/\W (i+1) m' (ys++[v]) H4:=by simpa using q9
    refine U0 (U0 (U5o (he _ s9 ZI H9 _ I9 q9') (λy s10 ⟨v,H10,I10,r10,q10⟩=>U0 ?_) λ_ _ z=>z.elim));obtain⟨m',hm,w10⟩:=q10;obtain⟨eD,nD⟩:=pinD I10;have hl:=rv.length;refine call_meets F.slot_list_append ⟨_,eD,rfl⟩ F.entry_list_append (F.args_list_append_2 _ _) (PySem.list_append D its.toArray nn y (by rw[U0t];lia)) ⟨eD,?_⟩;refine U0c (U0c ⟨rfl,m',hm,?_⟩);obtain⟨n2,qD⟩:∃n2,(s10.heap.update D (U1m λz=>z.push y)).get? D=some { cls:=.type "list",data:=.seq (its++[y]).toArray n2 }:=by
     have q0:=PySem.IsL.update eD (λz=>z.push y);have hf:its.toArray.push y=(its++[y]).toArray:=by simp
     rw[hf]at q0;exact⟨_,q0⟩
    have J0:Inv (Eo X N2 scope (own++cl) C s2 H2 fp) (Nh fp s7.heap) (Jb k caps Z3) H10 s10:=wk (I10.Ud λp hp=>I10.pin p (U04 _ (U04 _ hp)));have J1:Inv (Eo X N2 scope (own++cl) C s2 H2 fp) (Nh fp s7.heap) (Jb k caps Z3) H10 { s10 with heap:=s10.heap.update D (U1m λz=>z.push y),toks:=s10.toks }:=by
     refine J0.turned (λb o hne e=>(U1f s10.heap _ (U1n hne)).trans e) nD hDC (.inr szD) (λx c e z=>?_) λp hp z=>?_
     .rcases hcs x c e with y|y
      .have:=y.1;rw[z]at this;lia
      .obtain⟨o,ho⟩:=okc x c y;exact(below c o ho).2 z
     .have hp':p∈Nh fp s7.heap:=hp;obtain⟨ob,e⟩:=f2h p.1 (YM hp').1;exact(below p.1 ob e).2 z
    have J2:Inv (Eo X N2 scope (own++cl) C s2 H2 fp) [(D,{ cls:=.type "list",data:=.seq (its++[y]).toArray n2 })] (Jb k caps Z3) H10 { s10 with heap:=s10.heap.update D (U1m λz=>z.push y),toks:=s10.toks }:=by
     refine J1.Ud λp hp=>?_;have e:p=(D,{ cls:=.type "list",data:=.seq (its++[y]).toArray n2 }):=U0r.mp hp;subst e;exact⟨qD,nD,hDC,λz=>by
      rcases U0q.mp (I2.Sv D z) with z|z
      .exact N6 I2.lt szD z.symm
      .exact I2.pR szD z,λv z=>by cases z⟩
    refine⟨i+1,ys++[v],its++[y],_,H10,J2,rv.append (.cons r10 .nil),?_,(stn I10).2,?_,w10⟩
    .refine T.keep _ _ _ (stn I10).1 λb hbf o e=>?_;obtain⟨ob,e'⟩:=f2h b hbf;exact(U1f s10.heap _ (U1n (below b ob e').2)).trans e
    .rw[U0n,U3w];lia
 have st1:tn 0 h₁:=T.keep _ _ _ st2 λb hbf o e=>old b o e;exact codeAny_compStart_list (loop _ (I4 _) st1) (T.self X.A 0 _ _ _ st1 (loop _ (I4 _) st1))
def wW{elt tg iter:Expr}{ifs:List Expr}{scope:Scope}{pos:Pos}{N2:List Str}{k:Nat}{caps:List Nat}{wi:TI}{g:TG}{tt:TT}{te:TE}
  (hc:X.calm=true) (hS:Dl X.env.scope X.N N2 k caps scope) (hlow:Low k g) (hi:PI X tg iter wi)
  (hb:∀(cl:List (Str×Addr))(C:Addr)(s:Shared)(H:Hp)(ex:List Addr),PG (Eo X N2 scope cl C s H ex) tg g/\PTs (Eo X N2 scope cl C s H ex) ifs tt/\PE (Eo X N2 scope cl C s H ex) elt te)
  (hs:∀x,foldedSetIterable iter X.env x=pure x:=by intro _;rfl):PE X (.ListComp elt [⟨tg,iter,ifs,0⟩] scope pos) (iI k caps wi g tt te):=by
 exact`zt;rw[eval_ListComp];obtain⟨cl,hcl0,hcl,hcf⟩:=Wt (scope:=scope) (env:=X.env) λy hy e=>I.ok.has y.1 (hS.free y hy e);refine wpAny_comprehension_free (use:=none) rfl hs hcl0 hS.kind hS.loc ?_;refine thn (hi pins s Z3 H _ I h) λv s1 h1=>thn h1 λitv s2 h2=>?_;obtain⟨it,fp,tn,J,H2,e,I2,T,st2,f2,W,⟨m0,w0⟩,turn⟩:=h2;subst e;refine Ws (RR:=λacc C=>compPost (model X.prog X.w) X.A X.xe none (EP X pins Z3 Q) acc C) (Qe:=λys H=>∀p,H p=none->Q (.ref p) (upd H p (.lst ys))) hc hS hlow hcl hcf hb I2 T st2 f2 w0 turn ?_;intro D C s' H' ys hD hC hDC nD nC I' hn q;obtain⟨m,hn⟩:=hn;refine⟨m,hn,λh' hsb=>⟨.ref D,_,?_,rfl,q D nD⟩⟩;refine I'.but hsb (by rw[Bt hDC];exact nC) (λz=>?_) (U01 I2.sz hC) (λx c e z=>?_) λp hp z=>?_
 .exact N6 I2.lt hC z.symm
 .obtain⟨v,o,ho,_⟩:=I2.cell x c e;exact N6 (U0m ho) hC z
 .exact N6 (U0m (I2.pin p hp).1) hC z
def Jdj(i:Nat)(t:TE):TS:=λD Z3 H=>t Z3 H λv H1=>D.nx (Z3.set i (some v)) H1
def wI{elt tg iter:Expr}{ifs:List Expr}{scope:Scope}{pos py spos:Pos}{N2:List Str}{k i:Nat}{y:Str}{caps:List Nat}{wi:TI}{g:TG}{tt:TT}{te:TE}
  (hc:X.calm=true) (hN:X.N.Nodup) (hi':X.N[i]?=some y) (hS:Dl X.env.scope X.N N2 k caps scope) (hlow:Low k g) (hi:PI X tg iter wi)
  (hb:∀(cl:List (Str×Addr))(C:Addr)(s:Shared)(H:Hp)(ex:List Addr),PG (Eo X N2 scope cl C s H ex) tg g/\PTs (Eo X N2 scope cl C s H ex) ifs tt/\PE (Eo X N2 scope cl C s H ex) elt te)
  (hx:X.env.scope.names.lookup y=some .local:=by rfl) (hsw:swapsWith (.ListComp elt [⟨tg,iter,ifs,0⟩] scope pos) (some (.Name y py)) spos.line X.env=pure true:=by rfl)
  (hs:∀x,foldedSetIterable iter X.env x=pure x:=by intro _;rfl):PS X (.Assign [.Name y py] (.ListComp elt [⟨tg,iter,ifs,0⟩] scope pos) spos) (Jdj i (iI k caps wi g tt te)):=by
 intro pins s Z3 H D0 I h;obtain⟨cl,hcl0,hcl,hcf⟩:=Wt (scope:=scope) (env:=X.env) λy hy e=>I.ok.has y.1 (hS.free y hy e);rw[exec_Assign_Name_used _ _ _ _ hsw];refine U0 (wpAny_standAt (U0 ?_));show wpAny _ X.A (do let _ ←comprehension (.ListComp elt [⟨tg,iter,ifs,0⟩] scope pos) scope X.env _ (newList []) false (eval iter X.env) (some (assign (.Name y py) X.env))) _ _ s;refine U0 (U5o (wpAny_comprehension_free (use:=some (assign (.Name y py) X.env)) (Q:=λ_ s'=>SP X pins D0 .next s') rfl hs hcl0 hS.kind hS.loc ?_) (λ_ s' hq=>U0c (U0c hq)) λ_ _ e=>e);refine thn (hi pins s Z3 H _ I h) λv s1 h1=>thn h1 λitv s2 h2=>?_;obtain⟨it,fp,tn,J,H2,e,I2,T,st2,f2,W,⟨m0,w0⟩,turn⟩:=h2;subst e;refine Ws (RR:=λacc C=>compPost (model X.prog X.w) X.A X.xe (some (assign (.Name y py) X.env)) (λ_ s'=>SP X pins D0 .next s') acc C)
  (Qe:=λys H=>∀p,H p=none->D0.nx (Z3.set i (some (.ref p))) (upd H p (.lst ys))) hc hS hlow hcl hcf hb I2 T st2 f2 w0 turn ?_
 intro D C s' H' ys hD hC hDC nD nC I' hn q;obtain⟨m,hn⟩:=hn;show wpAny _ X.A (assign (.Name y py) X.env (.ref D)) _ _ _;refine wpAny_assign_Name (YC (v:=.ref D) I' hN hi' (.inl hx) rfl (λs'' I'' ⟨a,hsb,ha⟩=>?_) (.inr hx));have hLC:C≠X.env.locals:=λz=>N6 I2.lt hC z.symm;have hcC:∀x c,X.env.cells.lookup x=some c->c≠C:=λx c e z=>by obtain⟨v,o,ho,_⟩:=I2.cell x c e;exact N6 (U0m ho) hC z
 have haC:C≠a:=by
  rcases ha with z|z
  .rw[z];exact hLC
  .exact λe=>hcC y a z e.symm
 refine⟨m,hn.sameBut hsb haC,λh' hsb'=>?_⟩;refine⟨_,_,I''.but hsb' (by rw[Bt hDC];exact nC) hLC (U01 I2.sz hC) hcC λp hp z=>?_,q D nD⟩;exact N6 (U0m (I2.pin p hp).1) hC z
end
def Df.obj(x:Df P w H h a o):∃ob,h.get? a=some ob:=by
 cases o with
 |lst xs=>obtain⟨_,_,_,_,e⟩:=x;exact⟨_,e⟩
 |tup xs=>obtain⟨_,_,_,ob,e,_⟩:=x;exact⟨ob,e⟩
 |dK kvs=>obtain⟨_,_,_,_,o,_,_,e,_⟩:=x;exact⟨o,e⟩
 |dT kvs=>obtain⟨_,_,_,_,o,_,_,e,_⟩:=x;exact⟨o,e⟩
 |set S n=>obtain⟨o,_,_,_,e,_⟩:=x;exact⟨o,e⟩
 |ins C dx fs=>obtain⟨_,_,_,e,_⟩:=x;exact⟨_,e⟩
 |own y=>exact x
 |xd fs=>obtain⟨_,⟨o,_,_,e,_⟩,_⟩:=x;exact⟨o,e⟩
 |rng lo hi=>obtain⟨_,_,_,e⟩:=x;exact⟨_,e⟩
 |frz ob u=>obtain⟨e,_⟩:=x;exact⟨_,e⟩
 |tbl ps=>exact⟨_,x⟩
 |met f y=>exact⟨_,x⟩
 |ext φ=>obtain⟨_,e,_⟩:=x;exact e
section
variable{X:Cx}{pins:List (Addr×Obj)}{Z3:St}{H:Hp}{s:Shared}
def Inv.Xj(I:Inv X pins Z3 H s)(h:s.heap.get? a=none):H a=none:=by
 cases q:H a with
 |none=>rfl
 |some o=>
  obtain⟨ob,e⟩:=(I.hok a o q).obj;rw[h]at e;cases e
def Inv.laidN(I:Inv X pins Z3 H s)(k:∀b u,s.heap.get? b=some u->h'.get? b=some u)(hn:s.heap.get? a=none)(hsy:sysModules≠a)(new:Df X.prog X.w (upd H a o) h' a o) :
  Inv X pins Z3 (upd H a o) { s with heap:=h',drawn:=d',toks:=t' }:=by
 have hH:=I.Xj hn;have ne:∀b u,s.heap.get? b=some u->b≠a:=λb u e z=>by rw[z,hn]at e;cases e
 refine I.step (g':=s.gens) (ch:=[]) (λ_ z=>nomatch z) (λb u _ _ _ e _=>k b u e) (λb u _ _ _ e _=>⟨u.slots,k b u e⟩) (λb u _ e n=>by rw[Bt (ne b u e)];exact n) (λb u _ e=>⟨u,k b u e⟩)
  (λb xs e=>by rw[Bt (Ec e hH)];exact e) (λb u xs e=>by rw[Bt (Ec e hH)];exact e) (λb ps e=>⟨#[],by rw[Bt (Ec e hH),e];simp⟩) (λm hm=>?_) (λb u e=>?_) I.bare (λn v q=>n v (by rw[Bt hsy]at q;exact q))
 .obtain⟨ob,es,ep,e,r⟩:=hm;exact⟨ob,es,ep,k _ _ e,r⟩
 .by_cases hb:b=a
  .subst hb;rw[CT]at e;cases e;exact new
  .rw[Bt hb]at e;exact(I.hok b u e).stay (λc v _ q=>k c v q) (λc q=>by rw[Bt (Ec q hH)];exact q) λc xs q=>by rw[Bt (Ec q hH)];exact q
end
def ZK(P:Program)(w:World)(a:Addr)(ds:List Int):HO:=.ext λh=>SetP.SetT P w h a ds
def vZ(x:SetP.SetT P w h a ds):Df P w H h a (ZK P w a ds):=
 ⟨x,(by obtain⟨_,o,_,_,_,e,_⟩:=x;exact⟨o,e⟩),λh1 h2 y k=>y.sameBut k⟩
section
variable{X:Cx}
def u6(hc:X.calm=true):Eh X (.type "set") (λxs H Q=>∃p ns,xs=[.ref p]/\SqL X.K H p (ns.map V.int)/\(SetP.once ns).length<1000/\∀a,H a=none->Q (.ref a) (upd H a (ZK X.prog X.w a (SetP.once ns)))):=by exact`zo;obtain⟨p,ns,rfl,hq,hl,q⟩:=h;obtain⟨u,rfl,rx⟩:=vals1 r;cases rx;obtain⟨its,rv,pl,hz⟩:=I.list hq;have hlen:=rv.length;rw[U0i]at hlen;refine SetP.vX (I.ok.hd hc) pl.isList (by simpa using intsAre_of rv) (by unfold scanBound;lia) λh' tk k T=>?_;have hn:s.heap.get? s.heap.objs.size=none:=Heap.get?_none_of_le (U0o _);exact⟨.ref s.heap.objs.size,_,I.laidN (d':=s.drawn) (t':=tk) k hn (U0u I.gn) (vZ T),rfl,q _ (I.hok.fresh (U0o _))⟩
def Y4(hc:X.calm=true):Eh X (.builtin "sorted") (λxs H Q=>∃(a:Addr)(ds:List Int),xs=[.ref a]/\H a=some (ZK X.prog X.w a ds)/\ds.length<64 /\
  ∀(l:Addr)(ns:List Int),H l=none->ns.Perm ds->ns.Pairwise (·<=·)->Q (.ref l) (upd H l (.lst (ns.map V.int)))):=by
 exact`zo;obtain⟨a,ds,rfl,hH,hl,q⟩:=h;obtain⟨u,rfl,rx⟩:=vals1 r;cases rx;obtain⟨T,_,_⟩:=(show Df X.prog X.w H s.heap a (ZK X.prog X.w a ds) from I.hok a _ hH);refine SetP.qY (I.ok.hd hc) T hl λh' d' tk l vs ns n k hb e hi hp hs=>?_;have hn:s.heap.get? l=none:=by
  cases q:s.heap.get? l with
  |none=>rfl
  |some o=>exact absurd (hb l o q) (U3s _)
 have hsy:sysModules≠l:=by obtain⟨o,_,_,e,_⟩:=I.ok.mod.glob;exact U0u (U2j (by decide:(1:Nat)<3) (hb _ _ (I.bk _ _ e)))
 have hlen:ns.length<64:=by rw[hp.length_eq];exact hl
 refine⟨.ref l,_,I.laidN (d':=d') (t':=tk) (o:=.lst (ns.map V.int)) k hn hsy ⟨?_,vs.toList,n,TJ hi,by simpa using e⟩,rfl,q l ns (I.Xj hn) hp hs⟩;rw[U0i];exact U2o (mU (by lia))
def cW{prog:Program}{w:World}{A:Around}{bs:List Bool}{its:List Value}(r:Vals (bs.map V.bl) its):TruthOf prog w A (λi v=>its.toArray[i]?=some v) (λi=>bs.getD i false):=by
 intro i v s Q E hP h;rw[U5k]at hP;have hlen:=r.length;rw[U0i]at hlen;have hi:i<bs.length:=by rw[hlen];exact(U0l.mp hP).1
 obtain⟨u,e,ru⟩:=r.get (i:=i) (x:=.bl bs[i]) (by rw[U0z,U0v hi];rfl);rw[e]at hP;cases hP;have ru':v=U3r bs[i]:=ru;subst ru';have e2:bs.getD i false=bs[i]:=by rw[U1b,U0v hi];rfl
 have h:Q (bs.getD i false) s:=h;rw[e2]at h;exact U3g h
def all_range(bs:List Bool):(U07 bs.length).all (λi=>bs.getD i false)=bs.all id:=by
 rw[U28,U3k,U3k];constructor
 .intro h b hb;obtain⟨i,hi⟩:=U26.mp hb;have q:=h i (U3l.mpr (U0l.mp hi).1);rw[U1b,hi]at q;exact q
 .intro h i hi;have hi':=U3l.mp hi;rw[U1b,U0v hi'];exact h _ (U3d hi')
def Pn(hc:X.calm=true):Eh X (.builtin "all") (λxs H Q=>∃(p:Addr)(bs:List Bool),xs=[.ref p]/\SqL X.K H p (bs.map V.bl)/\Q (.bl (bs.all id)) H):=by
 exact`zo;obtain⟨p,bs,rfl,hq,q⟩:=h;obtain⟨u,rfl,rx⟩:=vals1 r;cases rx;obtain⟨its,rv,pl,hz⟩:=I.list hq;have hlen:=rv.length;rw[U0i]at hlen;have hl:=pl.isList;have hlt:p<s.heap.objs.size:=by obtain⟨o,ho,_⟩:=hl;exact U0m ho
 refine call_all_walk (U4o hl ?_);refine⟨s.heap.objs.size,[s.heap.objs.size,p],[s.heap.objs.size],its.toArray.size,_,_,λi=>bs.getD i false,rfl,Walks.list (by simpa using I.ok.hd hc) s.heap.objs.size p (U0u hlt) its.toArray,⟨⟨_,U0s _ rfl,rfl,rfl⟩,hl.push _⟩,cW rv,λh' tk k=>?_⟩;refine⟨.bl (bs.all id),H,I.kept (h':=h') (t':=tk) λb o e=>k b o (λz=>?_) (U0a _ e),?_,q⟩
 .exact absurd (U0r.mp z) (U0u (U0m e))
 .show U3r _=U3r _;rw[U0t,←hlen,all_range]
def Dd{K:U0e}{a b:String}{r:Bool}(h:(if (U23 a==U23 b)=true then some true else if PySem.W.kitMeta b=true then (PySem.fastBuiltinMro a).map (·.contains (.type b)) else none)=some r):U3m K (.type a) (.type b)=some r:=h
def dI:Eh X (.builtin "isinstance") (λxs H Q=>∃(x:V)(T:String)(t:Value)(b:Bool),xs=[x,.ty T]/\Kl X.K H x t/\U3m X.K t (.type T)=some b/\Q (.bl b) H):=by exact`zo;obtain⟨x,T,t,b,rfl,ty,e,q⟩:=h;obtain⟨u,w',rfl,rx,rt⟩:=vals2 r;cases (show w'=U23 T from rt);exact oG I rx ty e λtk=>⟨.bl b,H,I.tok tk,rfl,q⟩
def dH:Eh X (.type "range") (λxs H Q=>∃(n:Int),xs=[.int n]/\∀p,H p=none->Q (.ref p) (upd H p (.rng 0 n))):=by exact`zo;obtain⟨n,rfl,q⟩:=h;obtain⟨u,rfl,rx⟩:=vals1 r;obtain⟨t,rfl⟩:=(show ∃t,u=U2v n t from rx);exact call_range_1 ⟨.ref s.heap.objs.size,_,I.laid (o:=.rng 0 n) (λ_ _ e=>U0a _ e) (U0o _) ⟨_,_,_,U0s _ rfl⟩,rfl,q _ (I.hok.fresh (U0o _))⟩
def dG:Eh X (.type "range") (λxs H Q=>∃(a b:Int),xs=[.int a,.int b]/\∀p,H p=none->Q (.ref p) (upd H p (.rng a b))):=by exact`zo;obtain⟨a,b,rfl,q⟩:=h;obtain⟨u,w',rfl,rx,ry⟩:=vals2 r;obtain⟨t,rfl⟩:=(show ∃t,u=U2v a t from rx);obtain⟨t',rfl⟩:=(show ∃t,w'=U2v b t from ry);exact call_range_2 ⟨.ref s.heap.objs.size,_,I.laid (o:=.rng a b) (λ_ _ e=>U0a _ e) (U0o _) ⟨_,_,_,U0s _ rfl⟩,rfl,q _ (I.hok.fresh (U0o _))⟩
def upTo(lo:Int)(n:Nat):List Int:=(U07 n).map λ(i:Nat)=>lo+i
def Y5(hc:X.calm=true):Eh X (.type "list") (λxs H Q=>∃(r:Addr)(lo hi:Int),xs=[.ref r]/\H r=some (.rng lo hi)/\-(2^62)<=lo/\lo<2^62/\-(2^62)<=hi/\hi<2^62/\(hi-lo).toNat<=100000 /\
  ∀l,H l=none->Q (.ref l) (upd H l (.lst ((upTo lo (hi-lo).toNat).map V.int)))):=by
 intro pins s Z3 H xs us Q I rr h;obtain⟨r,lo,hi,rfl,hH,h1,h2,h3,h4,h5,q⟩:=h;obtain⟨u,rfl,rx⟩:=vals1 rr;cases rx;obtain⟨t,u,v,e⟩:=(show Df X.prog X.w H s.heap r (.rng lo hi) from I.hok r _ hH);have hsz:Builtin.Range.rangeSize lo hi 1=(((hi-lo).toNat:Nat):Int):=by rw[rangeSize_one];split<;>lia
 refine call_list_range (a:=lo) (b:=hi) (c:=1) (I.ok.hd hc) e (small_one h1 h2 h3 h4) hsz (by lia) λh' tk acc c k eS hacc=>?_;refine⟨.ref s.heap.objs.size,_,I.laid (o:=.lst ((upTo lo (hi-lo).toNat).map V.int)) (t':=tk) k (U0o _) ⟨?_,acc.toList,c,?_,by simpa using eS⟩,rfl,q _ (I.hok.fresh (U0o _))⟩
 .unfold upTo;rw[U0i,U0i,U5i];exact U01 h5 (by decide)
 .have gen:∀(l:List Value)(j:Nat),(∀(i:Nat)(v:Value),l[i]?=some v->∃t,v=U2v (lo+((i+j:Nat):Int)) t)->Vals (((U7o j l.length).map λ(i:Nat)=>lo+i).map V.int) l:=by
   intro l;induction l with
   |nil=>intro j _;exact .nil
   |cons x r ih=>
    intro j hx;obtain⟨t,e⟩:=hx 0 x rfl;subst e;rw[U0f,U6r];refine .cons ⟨t,by simp⟩ (ih (j+1) λi v hv=>?_);obtain⟨t',e'⟩:=hx (i+1) v (by simpa using hv);exact⟨t',by rw[e',show i+1+j=i+(j+1) by lia]⟩
  have q2:=gen acc.toList 0 λi v hv=>by obtain⟨t',e'⟩:=hacc.2 i v (by simpa using hv);exact⟨t',by rw[e'];simp⟩
  have el:acc.toList.length=(hi-lo).toNat:=by simpa using hacc.1
  rw[el,←List.range_eq_range']at q2;exact q2
def Inv.big(I:Inv X pins Z3 H s):sysModules<s.heap.objs.size:=by obtain⟨o,_,_,e,_⟩:=I.ok.mod.glob;exact U2j (by decide:(1:Nat)<3) (U0m (I.bk _ _ e))
end
mutual
inductive Tr (N:Addr->Prop) (H:Hp):V->PyData->Prop
 |non:Tr N H .non .none
 |bl (b:Bool):Tr N H (.bl b) (.bool b)
 |int (i:Int):Tr N H (.int i) (.int i)
 |str (x:Str):Tr N H (.str x) (.str x)
 |lst {a:Addr} {xs:List V} {ds:List PyData}:N a->H a=some (.lst xs)->KN N H xs ds->Tr N H (.ref a) (.list ds)
 |tup {a:Addr} {xs:List V} {ds:List PyData}:N a->H a=some (.tup xs)->KN N H xs ds->Tr N H (.ref a) (.tuple ds)
 |dct {a:Addr}:N a->H a=some (.dK [])->Tr N H (.ref a) (.dict [])
 |dc1 {a:Addr} {k:Int} {v:V} {d:PyData}:N a->H a=some (.dK [(.inl k,v)])->Tr N H v d->Tr N H (.ref a) (.dict [(.int k,d)])
inductive KN (N:Addr->Prop) (H:Hp):List V->List PyData->Prop
 |nil:KN N H [] []
 |cons {x:V} {d:PyData} {xs:List V} {ds:List PyData}:Tr N H x d->KN N H xs ds->KN N H (x::xs) (d::ds)
end
section
variable{N:Addr->Prop}{P:Program}{w:World}{H:Hp}{h:Heap}
mutual
theorem Tr.reads(ok:HOk P w H h)(hs:Oz H):∀{v:V} {d:PyData},Tr N H v d->∀u,RelV v u->∃as,Reads h u d as/\sysModules ∉ as
 |_,_,.non,u,r=>⟨[],by cases (show u=U2d from r);exact .none,by simp⟩
 |_,_,.bl b,u,r=>⟨[],by cases (show u=U3r b from r);exact .bool b,by simp⟩
 |_,_,.int i,u,r=>by obtain⟨t,rfl⟩:=(show ∃t,u=U2v i t from r);exact⟨[],.int i t,by simp⟩
 |_,_,.str x,u,r=>by obtain⟨t,rfl⟩:=(show ∃t,u=U8c x t from r);exact⟨[],.str x t,by simp⟩
 |_,_,.lst (a:=a) (xs:=xs) (ds:=ds) _ hH t,u,r=>by
  cases (show u=U1c a from r);obtain⟨_,its,n,rv,e⟩:=(show Df P w H h a (.lst xs) from ok a _ hH);obtain⟨as,ra,na⟩:=KN.reads ok hs t its rv;refine⟨a::as,.list e rfl rfl (by simpa using ra),λz=>?_⟩;rcases U0q.mp z with z|z
  .obtain⟨_,_,y⟩:=hs _ (by rw[z];exact hH);cases y
  .exact na z
 |_,_,.tup (a:=a) (xs:=xs) (ds:=ds) _ hH t,u,r=>by cases (show u=U1c a from r);obtain⟨_,its,rv,ob,e,c,n,d⟩:=(show Df P w H h a (.tup xs) from ok a _ hH);obtain⟨as,ra,na⟩:=KN.reads ok hs t its rv;exact⟨as,.tuple e c d (by simpa using ra),na⟩
 |_,_,.dct (a:=a) _ hH,u,r=>by
  cases (show u=U1c a from r);obtain⟨_,y,vs,kv,o,es,ep,e,ex,d,el⟩:=(show Df P w H h a (.dK []) from ok a _ hH);cases kv;have e0:es.toList=[]:=by have q:Pairs (Es P w) es.toList []:=el.2.1;generalize es.toList=l at q;cases q;rfl
  refine⟨[a],.dict (as:=[]) (bs:=[]) e ex.1 d (by rw[e0];exact .nil) (by rw[e0];exact .nil),λz=>?_⟩;have z':=U0r.mp z;rw[←z']at y;simp at y
 |_,_,.dc1 (a:=a) (k:=k) (v:=v) (d:=dd) _ hH t,u,r=>by
  cases (show u=U1c a from r);obtain⟨_,y,vs,kv,o,es,ep,e,ex,d,el⟩:=(show Df P w H h a (.dK [(.inl k,v)]) from ok a _ hH);cases kv with|cons p0 p1=>
  cases p1;obtain⟨ek,rv⟩:=p0;obtain⟨as,ra,na⟩:=Tr.reads ok hs t _ rv;obtain⟨en,e0,ek1,ev1⟩:∃en,es.toList=[en]/\(Es P w).is (.inl k) en.key=true/\en.val=_:=by
   have q:Pairs (Es P w) es.toList _:=el.2.1;generalize es.toList=l at q;cases q with|cons q1 q2 q3=>
   cases q3;exact⟨_,rfl,by rw[←ek]at q1;exact q1,q2⟩
  have hi:∃t,en.key=.int k t:=U70 ek1;obtain⟨t',ht'⟩:=hi;have r1:ReadsAll h (es.toList.map (·.key)) [PyData.int k] ([]++[]):=by rw[e0,U0j,U09,ht'];exact .cons (.int k t') .nil
  have r2:ReadsAll h (es.toList.map (·.val)) [dd] (as++[]):=by rw[e0,U0j,U09,ev1];exact .cons ra .nil
  refine⟨_,.dict (kvs:=[(.int k,dd)]) e ex.1 d r1 r2,λz=>?_⟩;rcases U0q.mp z with z|z
  .rw[←z]at y;simp at y
  .exact na (by simpa using z)
theorem KN.reads(ok:HOk P w H h)(hs:Oz H):∀{xs:List V} {ds:List PyData},KN N H xs ds->∀us,Vals xs us->∃as,ReadsAll h us ds as/\sysModules ∉ as
 |_,_,.nil,us,r=>by cases r;exact⟨[],.nil,by simp⟩
 |_,_,.cons t ts,us,r=>by
  cases r with
  |cons rx rr=>
   obtain⟨as,ra,na⟩:=Tr.reads ok hs t _ rx;obtain⟨bs,rb,nb⟩:=KN.reads ok hs ts _ rr;exact⟨as++bs,.cons ra rb,λz=>(U0x.mp z).elim na nb⟩
end
end
section
variable{X:Cx}
def Jbk(hr:FZ k X.A):OpR X (compareOp .Eq) (λx y H Q=>∃(N N':Addr->Prop)(d e:PyData),Tr N H x d/\Tr N' H y e/\U2r d=true/\U2r e=true/\Q (.bl (U5a d e)) H):=by exact`zh;obtain⟨N,N',d,e,t1,t2,s1,s2,q⟩:=h;obtain⟨as,ra,_⟩:=t1.reads I.hok I.XJ v rx;obtain⟨bs,rb,_⟩:=t2.reads I.hok I.XJ u ry;exact SeqAt.compareEq_shaped ra rb s1 s2 hr.units ⟨.bl _,H,I,rfl,q⟩
def Jbh(hr:FZ k X.A):OpR X (compareOp .NotEq) (λx y H Q=>∃(N N':Addr->Prop)(d e:PyData),Tr N H x d/\Tr N' H y e/\U2r d=true/\U2r e=true/\Q (.bl (!PyData.eqv d e)) H):=by exact`zh;obtain⟨N,N',d,e,t1,t2,s1,s2,q⟩:=h;obtain⟨as,ra,_⟩:=t1.reads I.hok I.XJ v rx;obtain⟨bs,rb,_⟩:=t2.reads I.hok I.XJ u ry;exact SeqAt.compareNe_shaped ra rb s1 s2 hr.units ⟨.bl _,H,I,rfl,q⟩
end
end L2
end
section
namespace HT
open PySem PySem.Spec PyProof.Rows
section
variable{prog:Program}{w:World}{A:Around}{E:Value->Shared->Prop}{s:Shared}
def u5{t b:Addr}{ws:List Value}{Q:Value->Shared->Prop}(ht:IsTup s.heap t ([]:List Value).toArray)(hb:IsTup s.heap b ws.toArray)(h:Q (.ref b) s):wpAny (model prog w) A (binaryOp .Add (.ref t) (.ref b)) Q E s:=by obtain⟨⟨c1,d1,x1,sl1⟩,ho,hc,n,hd⟩:=id ht;obtain⟨⟨c2,d2,x2,sl2⟩,ho2,hc2,n2,hd2⟩:=id hb;simp only at hc hd hc2 hd2;subst hc hd hc2 hd2;exact concat_meets ⟨_,ho,rfl⟩ ⟨_,ho2,rfl⟩ noFill_tuple_add seq_tuple_add U6j U59 (U50 _ _) (tuple_addW0 t b _ ws.toArray n n2 d1 d2 sl1 sl2 (by simp)) ⟨ho,ho2,h⟩
def cZ{t sl:Addr}{items:Array Value}{vl vu:Value}{lo hi:Option Int}{Q:Value->Shared->Prop}(ht:IsTup s.heap t items)(hs:s.heap.IsSliceOf sl vl vu .none)(pl:IsPart vl lo)(pu:IsPart vu hi)
  (hw:sIx items.size 0 lo=0/\sIx items.size items.size hi=items.size) (h:Q (.ref t) s):wpAny (model prog w) A (getItem (.ref t) (.ref sl)) Q E s:=by
 obtain⟨os,hos,hcs,hds⟩:=id hs;have hTs:s.TypeIs (.ref sl) "slice":=⟨os,hos,hcs⟩;unfold getItem
 try with_reducible refine U1u ?_
 first|refine U0 (U0c ?_)|skip
 refine U0 (U73 ht.typeIs (by decide) ?_);refine U0 (wpAny_callSpecial?_slot (name:=U2w "__getitem__") ht.typeIs U12 (U1o U12 ht.typeIs entry_tuple_getitem ?_ (args_tuple_getitem _ _)));show wpAny _ _ (U5t (.ref t) >>= _) _ _ s;refine U0 (tupleItemsOf_ ht (U0 (U4f hTs ?_)));rw[if_pos (by decide)];refine U0 (Pz hs pl pu ?_);have yes:(((sIx items.size 0 lo:Nat):Int)==0&&(1:Int)==1&&(sIx items.size items.size hi-sIx items.size 0 lo)==items.size)=true:=by rw[hw.1,hw.2];simp
 show wpAny _ _ (if (((sIx items.size 0 lo:Nat):Int)==0&&(1:Int)==1&&(sIx items.size items.size hi-sIx items.size 0 lo)==items.size)=true then _ else _) _ _ s;rw[if_pos yes];unfold Builtin.Tuple.tupleIsExact;refine U0 (U0 (U4f ht.typeIs (U0c ?_)));rw[if_pos (by decide)];exact U0 (U4r (U0c ⟨_,rfl,U0c h⟩))
theorem ak(xs:Array Value):((U07 xs.size).filterMap λ(m:Nat)=>xs[(((xs.size:Int)-1)+(m:Int)*(-1)).toNat]?)=xs.toList.reverse:=by
 have e:∀m∈U07 xs.size,xs[(((xs.size:Int)-1)+(m:Int)*(-1)).toNat]?=some (xs.toList.reverse.getD m .none):=λm hm=>by
  have hm':=U3l.mp hm;have q:(((xs.size:Int)-1)+(m:Int)*(-1)).toNat=xs.size-1-m:=by lia
  rw[q,U1y (by lia),U1b,List.getElem?_reverse (by rw[U1j];exact hm'),U1j,U2m,U1y (by lia)];rfl
 have all:∀(l:List Nat)(f:Nat->Option Value)(g:Nat->Value),(∀m∈l,f m=some (g m))->l.filterMap f=l.map g:=by
  intro l f g;induction l with
  |nil=>intro _;rfl
  |cons a r ih=>
   intro h;rw[List.filterMap_cons_some (h a U0h),U0j,ih λm hm=>h m (U0k _ hm)]
 rw[all _ _ _ e];have len:(U52 (λm=>xs.toList.reverse.getD m .none) (U07 xs.size)).length=xs.toList.reverse.length:=by simp
 refine List.ext_getElem len λj h1 h2=>?_;rw[List.getElem_map,List.getElem_range,U1b,U0v h2];rfl
theorem mW{Q:Value->Shared->Prop}(ht:IsTup s.heap t items)(hs:s.heap.IsSliceOf sl .none .none (.int (-1) t0))(hsz:items.size<=sizeLine)
  (h:Q (.ref s.heap.objs.size) { s with heap:=s.heap.push { cls:=.type "tuple",data:=.seq items.toList.reverse.toArray } }):wpAny (model prog w) A (getItem (.ref t) (.ref sl)) Q E s:=by
 obtain⟨os,hos,hcs,hds⟩:=id hs;have hTs:s.TypeIs (.ref sl) "slice":=⟨os,hos,hcs⟩;have fits:sizeOk (.seq items.toList.reverse.toArray):=by show items.toList.reverse.toArray.size<=sizeLine;simpa using hsz
 unfold getItem
 try with_reducible refine U1u ?_
 first|refine U0 (U0c ?_)|skip
 refine U0 (U73 ht.typeIs (by decide) ?_);refine U0 (wpAny_callSpecial?_slot (name:=U2w "__getitem__") ht.typeIs U12 (U1o U12 ht.typeIs entry_tuple_getitem ?_ (args_tuple_getitem _ _)));show wpAny _ _ (U5t (.ref t) >>= _) _ _ s;refine U0 (tupleItemsOf_ ht (U0 (U4f hTs ?_)));rw[if_pos (by decide)];refine U0 ?_;unfold U5s Builtin.Slice.sliceFields;refine U0 (U0 (U1v hos hds (x:=.none) rfl (U0 (U1v hos hds (x:=.none) rfl (U0 (U1v hos hds (x:=.int (-1) t0) rfl (U0c ?_)))))));refine U0 (slicePart_int ?_);show wpAny _ _ (if ((-1:Int)==0)=true then _ else _) _ _ s;rw[if_neg (by decide)];refine U0 (slicePart_none (U0 (slicePart_none (U0 (U0c ?_)))));have adj:U3i none none (-1) (items.size:Int)=((items.size:Int)-1,-1):=by unfold U3i;simp
 show wpAny _ _ (match U3i none none (-1) (items.size:Int) with|(lo,hi)=>pure (lo,(-1:Int),U20 lo hi (-1))) _ _ s;rw[adj];have pl:U20 ((items.size:Int)-1) (-1) (-1)=items.size:=by
  unfold U20;rw[if_neg (by decide)];by_cases hz:(items.size:Int)-1>-1
  .rw[if_pos hz];have e1:(-(-1:Int))=1:=rfl;rw[e1,U8v];lia
  .rw[if_neg hz];lia
 dsimp only
 rw[pl];refine U0c ?_;have no:¬((((items.size:Int)-1)==0&&(-1:Int)==1&&items.size==items.size)=true):=by simp
 show wpAny _ _ (if (((items.size:Int)-1)==0&&(-1:Int)==1&&items.size==items.size)=true then _ else _) _ _ s;rw[if_neg no,ak]
 first
  |exact U0 (m:=U25 _) (U1l (U0c ⟨_,rfl,U0c h⟩) fits)
  |exact U0 (m:=U25 _) (U1l (U0 (U0c (U0c ⟨_,rfl,U0c h⟩))) fits)
  |exact U0 (U0 (m:=U25 _) (U1l (U0c ⟨_,rfl,U0c h⟩) fits))
end
end HT
namespace L2
open PySem PySem.Spec PyProof.Rows
def DY(h:H p=none)(o:HO):Same H (upd H p o):=λb u q=>by rw[Bt (Ec q h)];exact q
def jY(xs:List V)(lo hi:Option Int)(h:HT.sIx xs.length 0 lo=0/\HT.sIx xs.length xs.length hi=xs.length):Le xs lo hi=xs:=by unfold Le;rw[h.1,h.2,U7m,U79,U2y]
section
variable{X:Cx}
def wu:OpR X (binaryOp .Add) (λx y H Q=>∃(a b:Addr)(xs ys:List V),x=.ref a/\y=.ref b/\H a=some (.tup xs)/\H b=some (.tup ys)/\xs.length+ys.length<=sizeLine/\∀p H',Same H H'->H' p=some (.tup (xs++ys))->Q (.ref p) H'):=by
 exact`zh;obtain⟨a,b,xs,ys,rfl,rfl,ha,hb,hz,q⟩:=h;by_cases hx:xs=[]
 .subst hx;cases rx;cases ry;obtain⟨its,r1,p1,_⟩:=I.tuple (SqT.of ha);obtain⟨its2,r2,p2,_⟩:=I.tuple (SqT.of hb);cases r1;exact HT.u5 p1 p2 ⟨.ref b,H,I,rfl,q b H (Same.refl H) hb⟩
 .refine wj pins s Z3 H _ _ v u Q I rx ry ⟨a,b,xs,ys,rfl,rfl,SqT.of ha,SqT.of hb,hx,hz,λz=>?_,λ_ p hp=>q p _ (DY hp _) CT⟩;subst z;exact q a H (Same.refl H) (by rw[U17];exact ha)
def vR:SlR X (λx lo hi H Q=>∃(a:Addr)(xs:List V),x=.ref a/\H a=some (.tup xs)/\∀p H',Same H H'->H' p=some (.tup (Le xs lo hi))->Q (.ref p) H'):=by
 intro pins s Z3 H x v vl vu lo hi sl Q I rx hs pl pu h;obtain⟨a,xs,rfl,ha,q⟩:=h;by_cases hw:HT.sIx xs.length 0 lo=0/\HT.sIx xs.length xs.length hi=xs.length
 .cases rx;obtain⟨its,r,ht,hz⟩:=I.tuple (SqT.of ha);have hlen:its.toArray.size=xs.length:=by rw[U0t];exact r.length.symm
  refine⟨"tuple",_,U12.lookup,ht.typeIs,?_⟩;exact HT.cZ ht hs pl pu (by rw[hlen];exact hw) ⟨.ref a,H,I,rfl,q a H (Same.refl H) (by rw[jY xs lo hi hw];exact ha)⟩
 .exact Jax pins s Z3 H _ v vl vu lo hi sl Q I rx hs pl pu ⟨a,xs,rfl,SqT.of ha,hw,λp hp=>q p _ (DY hp _) CT⟩
def rH(hT:∀h,X.K.In h->IntTab X.prog X.w h d D):OpR X (compareOp .In) (λx y H Q=>∃(i:Int),x=.int i/\y=.ref d/\Q (.bl (lookup (.int i) D).isSome) H):=by exact`zh;obtain⟨i,rfl,rfl,q⟩:=h;obtain⟨t,rfl⟩:=(show ∃t,v=U2v i t from rx);cases ry;exact in_intTab (hT _ I.kIn) ⟨.bl _,H,I.tok _,rfl,q⟩
def Je0{P:Program}{w:World}{K:U0e}{d:Addr}{ep:Nat}{h1 h2 h3 k1 k2 k3 v1 v2 v3:Int}{t1 t2 t3 u1 u2 u3:Tok}(hd:(d==sysModules)=false)
  (l:K.lookup d=some { cls:=.type "dict",data:=.dict #[⟨h1,.int k1 t1,.int v1 u1⟩,⟨h2,.int k2 t2,.int v2 u2⟩,⟨h3,.int k3 t3,.int v3 u3⟩] ep })
  (e1:h1=hashInt k1) (e2:h2=hashInt k2) (e3:h3=hashInt k3) (nd:[k1,k2,k3].Nodup):∀h,K.In h->IntTab P w h d [(.int k1,.int v1),(.int k2,.int v2),(.int k3,.int v3)]:=by
 intro h kin;refine⟨hd,[(k1,.int v1 u1),(k2,.int v2 u2),(k3,.int v3 u3)],⟨_,_,ep,kin _ _ l,⟨rfl,rfl,rfl⟩,rfl,?_,?_,nd⟩,?_⟩
 .intro e he;simp only[List.mem_toArray,U0q,U1s,or_false]at he;rcases he with z|z|z
  .subst z;exact⟨k1,intKind_is P w k1 t1,e1⟩
  .subst z;exact⟨k2,intKind_is P w k2 t2,e2⟩
  .subst z;exact⟨k3,intKind_is P w k3 t3,e3⟩
 .exact .cons (intKind_is P w k1 t1) rfl (.cons (intKind_is P w k2 t2) rfl (.cons (intKind_is P w k3 t3) rfl .nil))
 .exact .cons (.int v1 u1) (.cons (.int v2 u2) (.cons (.int v3 u3) .nil))
end
def Cal(P:Program)(w:World)(K:U0e)(mg:Str->Option Value)(base:Heap)(x:Str)(k:Nat)(ps:List Str)(sp:Sp):Prop:=
 ∃f fd,Hj P w K mg base CX0 k f fd ps sp/\Binds K fd ps []/\U4a K (.ref f)=true/\mg x=some (.ref f)
section
variable{X:Cx}
def Rb(c:Cal X.prog X.w X.K X.mg X.base x k ps sp)(hr:FZ k' X.A)(hk:k<=k')(hg:Gl X x)(ha:PA X (e::es) t)
  (hdb:(x==("__debug__":Str))=false:=by decide) (he:starEach (e::es) X.env=(false,eval e X.env)::starEach es X.env:=by rfl) (hpl:(backTo pos (starEach es X.env)).any (·.1)=false:=by rfl) :
  PE X (.Call (.Name x p) (e::es) [] pos) (uO sp [] E0 t):=by
 obtain⟨f,fd,F,b,kp,m⟩:=c;exact wX (F.mono hk) hr hg m kp b .nil uY ha hdb he hpl
def VP:OpR X (binaryOp .FloorDiv) (rI (λ_ j=>0<j/\j<2^64) λi j=>.int (i/j)):=opI λi j _ _ _ _ _ hc q=>by
 rw[←Int.fdiv_eq_ediv_of_nonneg _ (U8x hc.1)]at q;refine floordiv_int (Int.ne_of_gt hc.1) q (.inl (PyProof.noPylong_of_log2 ?_));have h1:j.natAbs<2^64:=by omega
 have h2:j.natAbs≠0:=by omega
 exact U2j ((Nat.log2_lt h2).mpr h1) (by decide)
end
def Fw:bootBuiltins "len"=some (.builtin "len"):=by decide +kernel
def GR:bootBuiltins "isinstance"=some (.builtin "isinstance"):=by decide +kernel
def TF:bootBuiltins "all"=some (.builtin "all"):=by decide +kernel
def Yr:bootBuiltins "sorted"=some (.builtin "sorted"):=by decide +kernel
def lY:bootBuiltins "min"=some (.builtin "min"):=by decide +kernel
def Zy:bootBuiltins "max"=some (.builtin "max"):=by decide +kernel
def lg:bootBuiltins "abs"=some (.builtin "abs"):=by decide +kernel
def Jcr:bootBuiltins "set"=some (.type "set"):=by decide +kernel
def Xv:bootBuiltins "list"=some (.type "list"):=by decide +kernel
def Jl:bootBuiltins "tuple"=some (.type "tuple"):=by decide +kernel
def uD:bootBuiltins "range"=some (.type "range"):=by decide +kernel
def lZ:bootBuiltins "int"=some (.type "int"):=by decide +kernel
def yV:bootBuiltins "bool"=some (.type "bool"):=by decide +kernel
def Vn:List Str:=["len","isinstance","all","sorted","min","max","abs","repr","set","list","tuple","range","int","bool","str"]
def Blt(mg:Str->Option Value):Prop:=∀x∈Vn,mg x=none
def Blt.is(b:Blt mg)(x:Str)(h:Vn.contains x=true:=by decide +kernel):mg x=none:=b x (List.contains_iff_mem.mp h)
def tyName:PyData->String
 |.none=>"NoneType"
 |.bool _=>"bool"
 |.int _=>"int"
 |.str _=>"str"
 |.list _=>"list"
 |.tuple _=>"tuple"
 |.dict _=>"dict"
def Tr.ty{N:Addr->Prop}{K:U0e}{H:Hp}{v:V}{d:PyData}(t:Tr N H v d):Kl K H v (.type (tyName d)):=by
 cases t with
 |non=>exact .non
 |bl b=>exact .bl b
 |int i=>exact .int i
 |str x=>exact .str x
 |lst _ h _=>exact .lst h
 |tup _ h _=>exact .tup h
 |dct _ h=>exact .dK h
 |dc1 _ h _=>exact .dK h
def XQ(T:String)(d:PyData):Bool:=match T with
 |"int"=>(match d with|.int _=>true|.bool _=>true|_=>false)
 |"bool"=>(match d with|.bool _=>true|_=>false)
 |"tuple"=>(match d with|.tuple _=>true|_=>false)
 |"list"=>(match d with|.list _=>true|_=>false)
 |_=>false
def xV{K:U0e}(d:PyData):U3m K (.type (tyName d)) (.type "int")=some (XQ "int" d):=by
 cases d with
 |none=>exact Dd (a:="NoneType") (r:=false) (by decide +kernel)
 |bool _=>exact Dd (a:="bool") (r:=true) (by decide +kernel)
 |int _=>exact Dd (a:="int") (r:=true) (by decide +kernel)
 |str _=>exact Dd (a:="str") (r:=false) (by decide +kernel)
 |list _=>exact Dd (a:="list") (r:=false) (by decide +kernel)
 |tuple _=>exact Dd (a:="tuple") (r:=false) (by decide +kernel)
 |dict _=>exact Dd (a:="dict") (r:=false) (by decide +kernel)
def rY{K:U0e}(d:PyData):U3m K (.type (tyName d)) (.type "bool")=some (XQ "bool" d):=by
 cases d with
 |none=>exact Dd (a:="NoneType") (r:=false) (by decide +kernel)
 |bool _=>exact Dd (a:="bool") (r:=true) (by decide +kernel)
 |int _=>exact Dd (a:="int") (r:=false) (by decide +kernel)
 |str _=>exact Dd (a:="str") (r:=false) (by decide +kernel)
 |list _=>exact Dd (a:="list") (r:=false) (by decide +kernel)
 |tuple _=>exact Dd (a:="tuple") (r:=false) (by decide +kernel)
 |dict _=>exact Dd (a:="dict") (r:=false) (by decide +kernel)
def kit_tuple{K:U0e}(d:PyData):U3m K (.type (tyName d)) (.type "tuple")=some (XQ "tuple" d):=by
 cases d with
 |none=>exact Dd (a:="NoneType") (r:=false) (by decide +kernel)
 |bool _=>exact Dd (a:="bool") (r:=false) (by decide +kernel)
 |int _=>exact Dd (a:="int") (r:=false) (by decide +kernel)
 |str _=>exact Dd (a:="str") (r:=false) (by decide +kernel)
 |list _=>exact Dd (a:="list") (r:=false) (by decide +kernel)
 |tuple _=>exact Dd (a:="tuple") (r:=true) (by decide +kernel)
 |dict _=>exact Dd (a:="dict") (r:=false) (by decide +kernel)
def rW{K:U0e}(d:PyData):U3m K (.type (tyName d)) (.type "list")=some (XQ "list" d):=by
 cases d with
 |none=>exact Dd (a:="NoneType") (r:=false) (by decide +kernel)
 |bool _=>exact Dd (a:="bool") (r:=false) (by decide +kernel)
 |int _=>exact Dd (a:="int") (r:=false) (by decide +kernel)
 |str _=>exact Dd (a:="str") (r:=false) (by decide +kernel)
 |list _=>exact Dd (a:="list") (r:=true) (by decide +kernel)
 |tuple _=>exact Dd (a:="tuple") (r:=false) (by decide +kernel)
 |dict _=>exact Dd (a:="dict") (r:=false) (by decide +kernel)
def xR:PyData->Bool
 |.none=>true
 |.bool _=>true
 |.int i=>decide (i.natAbs<10^41)
 |.str x=>decide (x.length<=30)&&x.cps.toList.all λc=>decide (c<16^8)
 |.dict kvs=>kvs.isEmpty
 |_=>false
def fit:List Nat->PyData->Bool
 |w::ws,.list xs=>decide (xs.length<=w)&&xs.all (fit ws)
 |w::ws,.tuple xs=>decide (xs.length<=w)&&xs.all (fit ws)
 |_,d=>xR d
def Nx(n:Nat)(Pv:Nat->List V->Hp->Prop)(i:Nat)(ys:List V)(H:Hp):Prop:=∃m',m'<n-i/\(m'=n-(i+1)/\i+1<=n/\Pv (i+1) ys H)
def nx{Pv:Nat->List V->Hp->Prop}(hi:i<n)(p:Pv (i+1) ys H):Nx n Pv i ys H:=⟨n-(i+1),iB hi,rfl,hi,p⟩
def Well(H:Hp)(a:Addr):Prop:=∃x y:Int,H a=some (.lst [.int x,.int y])
section
variable{X:Cx}{K:U0e}
abbrev Jfa(K:U0e):List V->Hp->VK->Prop:=λxs H Q=>∃p ys,xs=[.ref p]/\(SqL K H p ys∨SqT K H p ys)/\Q (.int ys.length) H
abbrev qm(K:U0e):List V->Hp->VK->Prop:=λxs H Q=>∃p ys,xs=[.ref p]/\((SqL K H p ys/\∀l,H l=none->Q (.ref l) (upd H l (.tup ys)))∨(SqT K H p ys/\Q (.ref p) H))
def cj:OpR X (compareOp .IsNot) (λx y H Q=>∃(c d:Bool),x=.bl c/\y=.bl d/\Q (.bl (!decide (c=d))) H):=by exact`zh;obtain⟨c,d,rfl,rfl,q⟩:=h;cases (show v=U3r c from rx);cases (show u=U3r d from ry);refine isnot_bool ⟨.bl (!decide (c=d)),H,I,?_,q⟩;show U3r _=U3r _;cases c<;>cases d<;>rfl
def rB(hT:∀h,X.K.In h->IntTab X.prog X.w h d D)(ha:PE X (.Name x p) ta)(hb:PE X b tb)(hs:Um b)
  (hg:∀r,letTemporaryGo (.Name x p) (.ref d) r=pure ():=by intro _;with_unfolding_all rfl) :
  PE X (.Subscript (.Name x p) b pos) (tOp (λx y H Q=>∃(i j:Int),x=.ref d/\y=.int i/\lookup (.int i) D=some (.int j)/\Q (.int j) H) ta tb):=by
 exact`zt;refine Subscript_ (gj ha hb I h λv u s2 x y H2 I2 rx ry q=>?_);obtain⟨i,j,rfl,rfl,hl,q⟩:=q;cases rx;obtain⟨t,rfl⟩:=ry;refine item_intTab (hT _ I2.kIn) hl (λv fl=>?_) (hs _ _) hg;cases fl s2.heap with
 |int _ t'=>exact⟨.int j,H2,I2.tok _,⟨t',rfl⟩,q⟩
def pF(hc:X.calm=true)(hK:X.K=K):Eh X (.builtin "max") (λxs H Q=>∃(p:Addr)(ns:List Int),xs=[.ref p]/\SqL K H p (ns.map V.int)/\ns≠[]/\∀m,m∈ns->(∀n∈ns,n<=m)->Q (.int m) H):=by
 subst hK;exact`zo;obtain⟨p,ns,rfl,hq,hne,q⟩:=h;obtain⟨u,rfl,rx⟩:=vals1 r;cases rx;obtain⟨its,rv,pl,hz⟩:=I.list hq;have hlen:=rv.length;rw[U0i]at hlen;have hl:=pl.isList;have hlt:p<s.heap.objs.size:=by obtain⟨o,ho,_⟩:=hl;exact U0m ho
 have hval:∀i v,its.toArray[i]?=some v->∃t,v=U2v (ns.getD i 0) t:=λi v e=>by
  rw[U5k]at e;have hi:i<ns.length:=by rw[hlen];exact(U0l.mp e).1
  obtain⟨u,e1,ru⟩:=rv.get (i:=i) (x:=.int ns[i]) (by rw[U0z,U0v hi];rfl);rw[e]at e1;cases e1;have e2:ns.getD i 0=ns[i]:=by rw[U1b,U0v hi];rfl
  rw[e2];exact ru
 have hpos:0<ns.length:=U4.mpr hne;refine call_max_walk (U4o hl ?_);refine⟨s.heap.objs.size,[s.heap.objs.size,p],[s.heap.objs.size],its.toArray.size,λi v=>its.toArray[i]?=some v,_,_,rfl,Walks.list (by simpa using I.ok.hd hc) s.heap.objs.size p (U0u hlt) its.toArray,⟨⟨_,U0s _ rfl,rfl,rfl⟩,hl.push _⟩,?_,?_,CmpOf.ints_gt (λi=>ns.getD i 0) hval,λv h' tk hP hk=>?_⟩
 .intro b hb;show b<(s.heap.push _).objs.size;rw[U2c];rcases U0q.mp hb with z|hb
  .rw[z];exact U5p _
  .rw[U0r.mp hb];exact U2u hlt
 .rw[U0t,←hlen];exact hpos
 .obtain⟨g1,g2⟩:=argBest_gt (λi=>ns.getD i 0) (its.toArray.size-1);obtain⟨t,rfl⟩:=hval _ _ hP;rw[U0t,←hlen]at g1 g2;have hb:argBest (λi j=>decide (ns.getD i 0>ns.getD j 0)) (ns.length-1)<ns.length:=by omega
  rw[U0t,←hlen];refine⟨.int _,H,I.kept (h':=h') (t':=tk) λb o e=>hk b o (λz=>?_) (U0a _ e),⟨t,rfl⟩,q _ ?_ λn hn=>?_⟩
  .exact absurd (U0r.mp z) (U0u (U0m e))
  .rw[U1b,U0v hb];exact U3d hb
  .obtain⟨j,hj,rfl⟩:=List.getElem_of_mem hn;have:=g2 j (by omega);rw[U1b,U0v hj]at this;exact this
end
end L2
end
section
namespace Bc
open PySem PySem.Spec PyProof.Rows L2
abbrev D3:List (PyData×PyData):=[(.int 1,.int 20),(.int 2,.int 10),(.int 3,.int 6)]
def Jeb(i:Int):(lookup (.int i) D3).isSome=decide (i=1∨i=2∨i=3):=by
 have same_i:∀a b:Int,same (.int a) (.int b)=decide (a=b):=λa b=>by by_cases h:a=b<;>simp[same,h]
 simp only[lookup,same_i];by_cases h1:(1:Int)=i
 .subst h1;rfl
 by_cases h2:(2:Int)=i
 .subst h2;rfl
 by_cases h3:(3:Int)=i
 .subst h3;rfl
 rw[decide_eq_false h1,decide_eq_false h2,decide_eq_false h3];have h:¬(i=1∨i=2∨i=3):=by lia
 rw[decide_eq_false h];rfl
def Marks(ms:List Int):Prop:=ms.Pairwise (·<·)/\2<=ms.length/\ms.length<=60/\∀m∈ms,-(10^9)<=m/\m<=10^9
def zx:PyData->Bool
 |.tuple es=>U6d es&&decide (U62 es<=60)
 |_=>true
def lay:PyData->Bool
 |.tuple ds=>ds.all zx
 |_=>true
abbrev F3:List Nat:=[9,9,9]
def nr(a:Int):Bool:=decide (-(10^9)<=a)&&decide (a<=10^9)
def bx:PyData->Bool
 |.tuple [.int a,.int b]=>nr a&&nr b&&decide (a<b)
 |_=>false
def part(d:PyData):Bool:=fit [9,9] d&&zx d
def good(d:PyData):Bool:=fit F3 d&&lay d
end Bc
end
section
set_option maxRecDepth 100000
namespace HT
open PySem PySem.Spec PyProof.Rows
open AutoSeq1 (wpAny_loadPart')
def Vr:fillsNumberSlot (.type "tuple") "mul"=pure false:=
 PySem.fillsNumberSlot_seq (id:="tuple.__mul__") (r:=some (.builtin "tuple.__rmul__")) U5f.lookup (by decide +kernel) PySem.F.slot_tuple_rmul.lookup (by decide +kernel)
def nA:seqRepeat? (.type "tuple")=pure (some (.builtin "tuple.__mul__")):=by unfold seqRepeat?;rw[PySem.seqSlot_of (T:="tuple") (name:="__mul__") (id:="tuple.__mul__") U5f.lookup (by decide +kernel),PySem.seqSlot_of (T:="tuple") (name:="__rmul__") (id:="tuple.__rmul__") PySem.F.slot_tuple_rmul.lookup (by decide +kernel)];rfl
def cH(a:Int)(t:Tok)(l:Addr)(items:Array Value)(n:Nat)(dd:Option Addr)(sl:Array (Option Value)) :
  Meets (Builtin.«int.__rmul__» ⟨[.int a t,.ref l],[]⟩) (λ_ R s=>s.heap.get? l=some { cls:=.type "tuple",dict:=dd,data:=.seq items n,slots:=sl }/\R (.ok (.ret Value.notImplemented)) s):=
 .of_wp λprog w A R s h=>by obtain⟨hp,g,d,tk,os⟩:=s;obtain⟨hl,h⟩:=h;wp_walk using wpAny_loadPart' hl;exact⟨_,rfl,h⟩
def qU(l:Addr)(items:Array Value)(n:Nat)(dd:Option Addr)(sl:Array (Option Value))(x:Int)(u:Tok)(hc0:¬(decide (x < -(2^63))||decide (x≥2^63))=true)(hc1:(items.isEmpty||x==1)=true) :
  Meets (Builtin.«tuple.__mul__» ⟨[.ref l,.int x u],[]⟩) (λ_ R s=>s.heap.get? l=some { cls:=.type "tuple",dict:=dd,data:=.seq items n,slots:=sl }/\R (.ok (.ret (U1c l))) { s with heap:=s.heap,toks:=s.toks }):=
 .of_wp λprog w A R s h=>by obtain⟨hp,g,d,tk,os⟩:=s;obtain⟨hl,h⟩:=h;have f1:=AutoSeq1.idx_int;wp_walk;refine U8i (decide_eq_false hc0) ?_;wp_walk using wpAny_loadPart' hl;exact⟨_,rfl,h⟩
def qT(l:Addr)(items:Array Value)(n:Nat)(dd:Option Addr)(sl:Array (Option Value))(x:Int)(u:Tok)(hc0:¬(decide (x < -(2^63))||decide (x≥2^63))=true)(hc1:¬(items.isEmpty||x==1)=true)
  (hc2:¬(decide (x<=0)||items.isEmpty)=true) (hc3:¬(items.size:Int)*x>(2^63-1)/8) (hc4:¬Builtin.Tuple.tupleTooMany ((items.size:Int)*x)=true) (hsz:(U6y (λx1 x2=>x1++x2) #[] (U06 x.toNat items)).size<=sizeLine) :
  Meets (Builtin.«tuple.__mul__» ⟨[.ref l,.int x u],[]⟩) (λ_ R s=>s.heap.get? l=some { cls:=.type "tuple",dict:=dd,data:=.seq items n,slots:=sl }/\R (.ok (.ret (U1c s.heap.objs.size))) { s with heap:=s.heap.push { cls:=U23 "tuple",data:=Data.seq (U6y (λx1 x2=>x1++x2) #[] (U06 x.toNat items)) },toks:=s.toks }):=
 .of_wp λprog w A R s h=>by obtain⟨hp,g,d,tk,os⟩:=s;obtain⟨hl,h⟩:=h;have f1:=AutoSeq1.idx_int;wp_walk;refine U8i (decide_eq_false hc0) ?_;wp_walk using wpAny_loadPart' hl;refine U8i (decide_eq_false hc3) ?_;wp_walk;exact⟨_,rfl,h⟩
section
variable{prog:Program}{w:World}{A:Around}{E:Value->Shared->Prop}{s:Shared}
theorem xJ{Q:Value->Shared->Prop}(ht:IsTup s.heap t its.toArray)(hne:its≠[])(h1:1<=k)(h2:k<2^60)(hz:its.length*k.toNat<=sizeLine)
  (q1:k=1->Q (.ref t) s) (q2:k≠1->Q (.ref s.heap.objs.size) { s with heap:=s.heap.push { cls:=.type "tuple",data:=.seq (U06 k.toNat its).flatten.toArray } }) :
  wpAny (model prog w) A (binaryOp .Mult (.ref t) (.int k u)) Q E s:=by
 obtain⟨⟨c1,d1,x1,sl1⟩,ho,hc,n,hd⟩:=id ht;simp only at hc hd;subst hc hd;have c0:¬(decide (k < -(2^63))||decide (k≥2^63))=true:=by rw[decide_eq_false (by lia),decide_eq_false (by lia)];exact U05
 have ne:its.toArray.isEmpty=false:=by cases its with|nil=>exact absurd rfl hne|cons _ _=>rfl
 have hnew:U6y (λx1 x2=>x1++x2) #[] (U06 k.toNat its.toArray)=(U06 k.toNat its).flatten.toArray:=by have:=L2.foldl_rep its k.toNat [];rw[U1i]at this;exact this
 refine wpAny_binaryOp_repeat_ref (T:="tuple") (U:="int") (by decide) ⟨_,ho,rfl⟩ (λs'=>typeIs_int s' k u) Vr PySem.F.fills_int_mul PySem.F.slot_int_rmul nA PySem.F.slot_int_index.lookup
  (call_meets PySem.F.slot_int_rmul (typeIs_int s k u) PySem.F.entry_int_rmul (PySem.F.args_int_rmul_2 _ _) (cH k u t its.toArray n d1 sl1) ⟨ho,rfl,⟨_,ho,rfl⟩,?_⟩)
 by_cases k1:k=1
 .exact call_meets U5f ⟨_,ho,rfl⟩ PySem.F.entry_tuple_mul (PySem.F.args_tuple_mul_2 _ _) (qU t its.toArray n d1 sl1 k u c0 (by rw[k1];simp)) ⟨ho,q1 k1⟩
 .have e:((its.toArray.size:Nat):Int)*k=((its.length*k.toNat:Nat):Int):=by rw[U0t,Int.natCast_mul,Int.toNat_of_nonneg (by lia)]
  have hs:(sizeLine:Nat)=16777216:=by decide
  refine call_meets U5f ⟨_,ho,rfl⟩ PySem.F.entry_tuple_mul (PySem.F.args_tuple_mul_2 _ _) (qT t its.toArray n d1 sl1 k u c0 ?_ ?_ ?_ ?_ ?_) ⟨ho,?_⟩
  .rw[ne];simp[k1]
  .rw[ne,decide_eq_false (by lia)];exact U05
  .rw[e];lia
  .rw[e];unfold Builtin.Tuple.tupleTooMany;rw[decide_eq_true_eq];lia
  .rw[hnew,U0t,L2.len_rep,U6z];exact hz
  .rw[hnew];exact q2 k1
end
end HT
namespace L2
open PySem PySem.Spec PyProof.Rows
abbrev uT:R2:=λx y H Q=>∃(a:Addr)(k:Int)(xs:List V),x=.ref a/\y=.int k/\H a=some (.tup xs)/\xs≠[]/\1<=k/\k<2^60/\xs.length*k.toNat<=sizeLine/\∀p H',Same H H'->H' p=some (.tup (U06 k.toNat xs).flatten)->Q (.ref p) H'
section
variable{X:Cx}
def wZ:OpR X (binaryOp .Mult) uT:=by
 exact`zh;obtain⟨a,k,xs,rfl,rfl,ha,hne,k1,k2,hz,q⟩:=h;cases rx;obtain⟨t,rfl⟩:=ry;obtain⟨its,r1,p1,_⟩:=I.tuple (SqT.of ha);refine HT.xJ p1 (λz=>hne (r1.Ue.mp z)) k1 k2 (by rw[←r1.length];exact hz) (λe=>?_) (λe=>?_)
 .refine⟨.ref a,H,I,rfl,q a H (Same.refl H) ?_⟩;rw[e];simpa using ha
 .refine⟨.ref s.heap.objs.size,_,I.laid (t':=s.toks) (o:=.tup (U06 k.toNat xs).flatten) (λb ob q=>U0a _ q) (U0o _) ?_,rfl,q _ _ (DY (I.hok.fresh (U0o _)) _) CT⟩;exact⟨by rw[len_rep,U6z];exact hz,_,r1.rep k.toNat,U7s _ _⟩
end
structure Wq(a q:Addr)(bs:List V)(H:Hp):Prop where
 w:Well H a
 at_:H q=some (.lst bs)
 ne:q≠a
section
variable{a q p:Addr}{bs:List V}{H H':Hp}
abbrev uV:R2:=λx y H Q=>∃(a b:Addr)(xs ys:List V),x=.ref a/\y=.ref b/\H a=some (.tup xs)/\H b=some (.tup ys)/\xs.length+ys.length<=sizeLine/\∀p H',Same H H'->H' p=some (.tup (xs++ys))->Q (.ref p) H'
abbrev zT:V->Option Int->Option Int->Hp->VK->Prop:=λx lo hi H Q=>∃(a:Addr)(xs:List V),x=.ref a/\H a=some (.tup xs)/\∀p H',Same H H'->H' p=some (.tup (Le xs lo hi))->Q (.ref p) H'
end
end L2
namespace Bc
open PySem PySem.Spec PyProof.Rows L2
def Jbu:PyData->Nat
 |.int 1=>20
 |.int 2=>10
 |.int 3=>6
 |_=>0
def Jfp(n:Nat):PyData->Bool
 |.tuple es=>decide (es.length=n)&&es.all bx
 |_=>false
end Bc
end
section
namespace L2
open PySem PySem.Spec PyProof.Rows
def Inv.Uc{X:Cx}{pins:List (Addr×Obj)}{Z3:St}{H:Hp}{s:Shared}{h':Heap}{t':Nat}{fp:List Addr}(I:Inv X pins Z3 H s)(k:∀b o,b ∉ fp->s.heap.get? b=some o->h'.get? b=some o)(hf:∀b∈fp,Qg X pins H b) :
  Inv X pins Z3 H { s with heap:=h',toks:=t' }:=by
 have nit:∀b u,H b=some u->b ∉ fp:=λb u e z=>by have:=(hf b z).1;rw[this]at e;cases e
 refine I.step (g':=s.gens) (d':=s.drawn) (ch:=fp) (λb hb=>?_) (λb o _ _ hc e _=>k b o hc e) (λb o _ _ hc e _=>⟨o.slots,k b o hc e⟩) (λ_ _ _ _ n=>n) (λb o hc e=>⟨o,k b o hc e⟩) (λ_ _ e=>e) (λ_ _ _ e=>e)
  (λb ps e=>⟨#[],by rw[e];simp⟩) (λm hm=>?_) (λb u e=>?_) I.bare id
 .obtain⟨_,a2,_,a4,a5,a6⟩:=hf b hb;exact⟨a4,a2,a5,a6⟩
 .obtain⟨o,es,ep,ho,r⟩:=hm;exact⟨o,es,ep,k _ o (λz=>(hf _ z).2.1 rfl) ho,r⟩
 .refine(I.hok b u e).stay (λc v hc q=>k c v ?_ q) (λ_ q=>q) λ_ _ q=>q;rcases hc with z|z
  .rw[z];exact nit b u e
  .exact nit c _ z
def Inv.iM{X:Cx}{pins:List (Addr×Obj)}{Z3:St}{H:Hp}{s:Shared}{h':Heap}{t':Nat}{fp:List Addr}{x y:V}{u v:Value}(I:Inv X pins Z3 H s)(rx:RelV x u)(ry:RelV y v)
  (ht:h'.get? s.heap.objs.size=some { cls:=.type "tuple",data:=.seq #[u,v] }) (k:∀b o,b ∉ fp->s.heap.get? b=some o->h'.get? b=some o) (hf:∀b∈fp,Qg X pins H b) (hlt:∀b∈fp,b<s.heap.objs.size) :
  Inv X pins Z3 (upd H s.heap.objs.size (.tup [x,y])) { s with heap:=h',toks:=t' }:=by
 have I1:=I.laid (h':=s.heap.push { cls:=.type "tuple",data:=.seq #[u,v] }) (t':=s.toks) (a:=s.heap.objs.size) (o:=.tup [x,y]) (λb ob q=>U0a _ q) (U0o _)
  ⟨(by decide:2<=sizeLine),[u,v],.cons rx (.cons ry .nil),U7s _ _⟩
 refine Inv.Uc (s:={ s with heap:=s.heap.push { cls:=.type "tuple",data:=.seq #[u,v] } }) (h':=h') (t':=t') (fp:=fp) I1 (λb o hb e=>?_) (λb hb=>?_)
 .rcases Heap.get?_push_cases e with ⟨z1,z2⟩|z
  .rw[z1,z2];exact ht
  .exact k b o hb z
 .obtain⟨a1,a2,a3,a4,a5,a6⟩:=hf b hb;exact⟨by rw[Bt (U0u (hlt b hb))];exact a1,a2,a3,a4,a5,a6⟩
def Ite(K:U0e)(a:Addr):It:=
 ⟨λi H=>∃xs x,SqL K H a xs/\xs[i]?=some x,λi H v H'=>∃p x,H p=none/\v=.ref p/\H'=upd H p (.tup [.int i,x])/\∀xs,SqL K H a xs->xs[i]?=some x,λi H=>∃xs,SqL K H a xs/\xs.length<=i⟩
def mJ{P:Program}{w:World}{K:U0e}{elts:List Expr}{x1:Nat}{pos:Pos}(a e it:Addr)(hne:e≠it) :
  Turn P w K (.Tuple elts x1 pos) (Ite K a) [e,it] e (λi h=>(∃old,IsEnum h e it (i:Nat) old)/\h.IsListIter it a i) where
 mem:=by simp
 obj:=λi h st b hb=>by
  obtain⟨⟨old,he⟩,o,e1,c,d⟩:=st;simp only[U0q,U1s,or_false]at hb;rcases hb with rfl|rfl
  .exact⟨_,he,λv z=>by cases z⟩
  .exact⟨o,e1,λv z=>by rw[d]at z;cases z⟩
 keep:=λi h h' st k=>by obtain⟨⟨old,he⟩,hit⟩:=st;exact⟨⟨old,k e (by simp) _ he⟩,hit.at λo q=>k it (by simp) o q⟩
 item:=by
  exact`zk;subst hP hw hK;obtain⟨xs,x,hq,hx⟩:=hg;obtain⟨its,rv,p,hz⟩:=I.list hq;obtain⟨u,hu,ru⟩:=rv.get hx;obtain⟨⟨old,he⟩,hit⟩:=st;have lt1:e<s.heap.objs.size:=U0m he;have lt2:it<s.heap.objs.size:=by obtain⟨o,q,_⟩:=hit;exact U0m q
  refine wpAny_pyNext_enum_item he hit p.isList (x:=u) (by simpa using hu) hne λh' eo it' tp sz k=>⟨_,rfl,?_⟩;refine wpAny_letOwnedTupleGo_enum eo λh2 e2 sb=>?_;have ne2:s.heap.objs.size≠e:=U1r lt1;have J:=I.iM (h':=h2) (t':=s.toks+1) (fp:=[e,it]) (x:=.int i) (y:=x) (u:=.int i s.toks) (v:=u) ⟨_,rfl⟩ ru (sb.extBut _ _ ne2 tp) (λb o hb q=>by
   simp only[U0q,U1s,or_false,not_or]at hb;exact sb.extBut _ _ hb.1 (k b o hb.1 hb.2 q)) hf (λb hb=>by
   simp only[U0q,U1s,or_false]at hb;rcases hb with rfl|rfl
   .exact lt1
   .exact lt2)
  refine⟨.ref s.heap.objs.size,_,J,rfl,⟨_,x,I.hok.fresh (U0o _),rfl,rfl,λys hy=>by rw[I.bD hy hq];exact hx⟩,⟨⟨u,e2⟩,it'.at λo q=>sb.extBut _ _ (U1n hne) q⟩,λb hb=>?_⟩;rw[Bt]
  .exact(hf b hb).1
  .simp only[U0q,U1s,or_false]at hb;rcases hb with rfl|rfl
   .exact U0u lt1
   .exact U0u lt2
 done:=by exact`zk;subst hP hw hK;obtain⟨xs,hq,hx⟩:=hg;obtain⟨its,rv,p,hz⟩:=I.list hq;obtain⟨⟨old,he⟩,hit⟩:=st;have hl:=rv.length;exact wpAny_pyNext_enum_end (I.ok.hd hc) he hit p.isList (by simp;lia) λh' eb=>⟨rfl,I.Uc (t':=s.toks) (fp:=[e,it]) (λb o hb q=>eb b o (λz=>hb (by simp[z])) q) hf⟩
 self:=λ_ _ _ _ _ st h=>by obtain⟨⟨old,he⟩,_⟩:=st;exact wpAny_pyIter_enum he h
abbrev Jed(K:U0e)(ta:TA):TI:=λZ3 H R=>ta Z3 H λvs H1=>∃a,vs=[.ref a]/\(∃xs,SqL K H1 a xs)/\R (Ite K a) H1
section
variable{X:Cx}
def wO{a:Expr}{ta:TA}{p pos:Pos}{elts:List Expr}{x1:Nat}{tpos:Pos}(hg:Gl X "enumerate")(hm:X.mg "enumerate"=none)(ha:PA X [a] ta)(hs:starEach [a] X.env=[(false,eval a X.env)]:=by rfl) :
  PI X (.Tuple elts x1 tpos) (.Call (.Name "enumerate" p) [a] [] pos) (Jed X.K ta):=by
 intro pins s Z3 H R I h;refine Call_ (Ni I hg hm (by decide +kernel:bootBuiltins "enumerate"=some (.type "enumerate")) (U3a (thn (ha pos pins s Z3 H _ I h) λus s1 ⟨vs,H1,I1,r1,q1⟩=>?_) hs rfl));obtain⟨l,e,⟨xs,hq⟩,q⟩:=q1;subst e;cases r1 with
 |cons r rr=>
  cases rr;cases r;obtain⟨its,rv,pl,hz⟩:=I1.list hq;refine call_enumerate_list pl.isList λh' e1 i1 sz k=>?_;refine wpAny_pyIter_enum e1 ?_;refine⟨s1.heap.objs.size+1,[s1.heap.objs.size+1,s1.heap.objs.size],_,_,H1,rfl,I1.kept (t':=s1.toks) k,mJ l _ _ (Nat.succ_ne_self _),⟨⟨_,e1⟩,i1⟩,λb hb=>?_,q⟩;have hb':s1.heap.objs.size<=b:=by simp only[U0q,U1s,or_false]at hb;rcases hb with rfl|rfl<;>lia
  exact I1.Xa hb' (I1.hok.fresh hb')
end
end L2
end
section
set_option maxRecDepth 100000
namespace HT
open PySem PySem.Spec PyProof.Rows
section
variable{prog:Program}{w:World}{A:Around}{E:Value->Shared->Prop}{s:Shared}
def nextT{Q:Value->Shared->Prop}(c:s.heap.IsTupleIter it t i)(ct:s.heap.IsTuple t ws)(ex:ws[i]?=some x)
  (q:∀h',h'.IsTupleIter it t (i+1)->U02 it s.heap h'->Q x { s with heap:=h' }):wpAny (model prog w) A (U1h (.ref it)) Q E s:=by
 obtain⟨o,e0,e1,e2⟩:=id c;obtain⟨ot,f0,_,nt,f1⟩:=ct;unfold U1h;refine U0 (wpAny_callSpecial?_slot (name:=U2w "__next__") c.typeIs U3v (U1o U3v c.typeIs PySem.F.entry_tuple_iterator_next ?_ (PySem.F.args_tuple_iterator_next_1 _)));refine(show wpAny _ _ (field (.ref it) 0 >>= _) _ _ s from U0 (U1v e0 e2 (x:=.ref t) rfl ?_));show wpAny _ _ (ite ((U1c t==U2d)=true) _ _) _ _ s;rw[if_neg (by exact U05)];refine(show wpAny _ _ (field (.ref it) 1 >>= _) _ _ s from U0 (U1v e0 e2 (x:=.int i 0) rfl ?_));refine(show wpAny _ _ (seqItems? (.ref t) >>= _) _ _ s from U0 (U2q f0 f1 ?_));simp only[ex,U2t];refine U0 (U27 e0 e2 (by simp) (U0c ⟨x,rfl,U0c (q _ ⟨_,U2g _ e0 (Obj.isFreed_of_fields (Obj.data_mapFields e2 _)),(Obj.cls_mapFields ..).trans e1,?_⟩ (U1x ..))⟩));rw[Obj.data_mapFields e2];simp[rawInt]
def Jbr{Q:Value->Shared->Prop}(ha:A.handled=none)(c:s.heap.IsTupleIter it t i)(ct:s.heap.IsTuple t ws)(ex:ws[i]?=none)
  (q:∀h' e,U4u it s.heap h'->(∃o,h'.get? e=some o/\o.cls=.type "StopIteration")->E (.ref e) { s with heap:=h' }):wpAny (model prog w) A (U1h (.ref it)) Q E s:=by
 obtain⟨o,e0,e1,e2⟩:=id c;obtain⟨ot,f0,_,nt,f1⟩:=ct;unfold U1h;refine U0 (wpAny_callSpecial?_slot (name:=U2w "__next__") c.typeIs U3v (U1o U3v c.typeIs PySem.F.entry_tuple_iterator_next ?_ (PySem.F.args_tuple_iterator_next_1 _)));refine(show wpAny _ _ (field (.ref it) 0 >>= _) _ _ s from U0 (U1v e0 e2 (x:=.ref t) rfl ?_));show wpAny _ _ (ite ((U1c t==U2d)=true) _ _) _ _ s;rw[if_neg (by exact U05)];refine(show wpAny _ _ (field (.ref it) 1 >>= _) _ _ s from U0 (U1v e0 e2 (x:=.int i 0) rfl ?_));refine(show wpAny _ _ (seqItems? (.ref t) >>= _) _ _ s from U0 (U2q f0 f1 ?_));simp only[ex,U2t];refine U0 (U4r (U0 (U27 e0 e2 (by simp) (show wpAny _ _ (newExc (.type "StopIteration") [] >>= _) _ _ _ from U0 ?_))));simp only[newTuple,newExc];refine U0 (U1l (U0 (m:=firstArgMember _ _) (wpAny_of_eq (a:=U2d) (by first|rfl|(simp only[firstArgMember];rfl)) (U1l ?_ (by size_fits)))) (by size_fits));simp only[raiseNew];refine U0 (wpAny_handled ?_);rw[show A.in1.handled=none from ha];exact U0 (U0c (wpAny_throw (q _ _ (((U1x ..).extBut.push _).push _) ⟨_,U0s _ rfl,rfl⟩)))
def Jcm(ha:A.handled=none)(it t:Addr)(ne:t≠it)(ws:Array Value):Draws prog w A it [it,t] ws.size (λi v=>ws[i]?=some v) (λi h=>h.IsTupleIter it t i/\h.IsTuple t ws) where
 live:=λ_ _ st=>let ⟨o,e,_⟩:=st.1;⟨o,e⟩
 frame:=λ_ _ _ st k=>⟨st.1.at λo e=>k it (by simp) o e,st.2.at λo e=>k t (by simp) o e⟩
 item:=λi s Q E hi st q=>nextT st.1 st.2 (x:=ws[i]) (by simp[hi]) λh' c' sb=>q _ h' s.toks (by simp[hi]) ⟨c',st.2.extBut sb.extBut ne⟩ sb
 done:=λs Q E st q=>Jbr ha st.1 st.2 (by simp) q
structure Apart(z TI TO i1 i2:Addr)(fp1 fp2:List Addr):Prop where
 a1:TI≠z
 a2:TO≠z
 a3:TI≠TO
 b1:∀b∈fp1,b≠z/\b≠TO/\b≠i2
 b2:∀b∈fp2,b≠z/\b≠TO/\b≠i1
 c1:i1≠z/\i1≠TO/\i1≠TI
 c2:i2≠z/\i2≠TO/\i2≠TI
 c3:i1≠i2
section
variable{z TI TO i1 i2:Addr}{fp1 fp2:List Addr}{n1 n2 k:Nat}{P1 P2:Nat->Value->Prop}{S1 S2:Nat->Heap->Prop}{a b:Value}
def Jey{Q:Value->Shared->Prop}(D1:Draws prog w A i1 fp1 n1 P1 S1)(D2:Draws prog w A i2 fp2 n2 P2 S2)(D:Apart z TI TO i1 i2 fp1 fp2)(hZ:IsZip s.heap z TI TO .none)(hI:IsPair s.heap TI (.ref i1) (.ref i2))(hO:IsPair s.heap TO a b)
  (s1:S1 k s.heap) (s2:S2 k s.heap) (k1:k<n1) (k2:k<n2)
  (q:∀x y h' tk,P1 k x->P2 k y->IsZip h' z TI TO (rawInt s.heap.objs.size)->IsPair h' TO x y->S1 (k+1) h'->S2 (k+1) h'->IsPair h' s.heap.objs.size x y->h'.objs.size=s.heap.objs.size+1 ->
   (∀c o,c≠z->c≠TO->c≠i1->c≠i2->s.heap.get? c=some o->h'.get? c=some o)->Q (.ref s.heap.objs.size) { s with heap:=h',toks:=tk }) :
  wpAny (model prog w) A (Builtin.«zip.__next__» ⟨[.ref z],[]⟩) (λfin s'=>∃v,fin=.done (.ret v)/\Q v s') E s:=by
 obtain⟨hp,g,d,tk0,os⟩:=s;exact`zC;exact`zv;refine(show wpAny _ _ (U11 (.ref z) >>= _) _ _ _ from U0 ?_);unfold U11;refine U0 (U1v hZ rfl (x:=.none) rfl (U0c ?_));simp only[if_true];refine U0 (U4r (U0 (U1v hZ rfl (x:=.ref TO) rfl (U0 (U2k hZ (by simp) λg1 z1 m1=>?_)))));replace z1:IsZip g1 z TI TO .ellipsis:=z1;replace m1:U02 z hp g1:=m1;refine U0 ?_;simp only[U8,List.zipIdx_nil,U4i,U58];exact`qa;exact`zS;refine U0 (U0 (U6p (show wpAny _ _ (U1h (.ref i1) >>= _) _ _ _ from U0 (D1.item k ⟨g1,g,d,tk0,os⟩ _ _ k1 t1 λx g2 tk1 px t2 m2=>U0c ?_))));replace m2:U02 i1 g1 g2:=m2;have o2:IsPair g2 TO a b:=m2.extBut _ _ (U1n D.c1.2.1) (m1.extBut _ _ D.a2 hO);refine U0 (U2q o2 rfl (U0 (U63 o2 λg3 o3 m3=>?_)));replace o3:IsPair g3 TO x b:=o3;replace m3:U02 TO g2 g3:=m3;have u3:S2 k g3:=D2.frame _ _ _ u1 λc hc o e=>m3.extBut _ _ (D.b2 c hc).2.1 (m2.extBut _ _ (D.b2 c hc).2.2 e);refine U0 (U7p (U0c ?_));refine U0 (U0 (U6p (show wpAny _ _ (U1h (.ref i2) >>= _) _ _ _ from U0 (D2.item k ⟨g3,g,d,tk1,os⟩ _ _ k2 u3 λy g4 tk2 py u4 m4=>U0c ?_))));replace m4:U02 i2 g3 g4:=m4;have o4:IsPair g4 TO x b:=m4.extBut _ _ (U1n D.c2.2.1) o3;refine U0 (U2q o4 rfl (U0 (U63 o4 λg5 o5 m5=>?_)));replace o5:IsPair g5 TO x y:=o5;replace m5:U02 TO g4 g5:=m5;refine U0 (U7p (U0c (U0c (U0 (U2q o5 rfl (U0 (U7n ?_)))))));have sz:g5.objs.size=hp.objs.size:=by rw[m5.1,m4.1,m3.1,m2.1,m1.1]
 have z5:IsZip g5 z TI TO .ellipsis:=m5.extBut _ _ (U1n D.a2) (m4.extBut _ _ (U1n D.c2.1) (m3.extBut _ _ (U1n D.a2) (m2.extBut _ _ (U1n D.c1.1) z1)));have kk:∀c o,c≠z->c≠TO->c≠i1->c≠i2->hp.get? c=some o->g5.get? c=some o:=λc o n1 n2 n3 n4 e=>m5.extBut _ _ n2 (m4.extBut _ _ n4 (m3.extBut _ _ n2 (m2.extBut _ _ n3 (m1.extBut _ _ n1 e))));have lz:z<g5.objs.size:=U0m z5;refine(show wpAny _ _ (Builtin.SmallTypes.ownedTupleHandOut (.ref z) (.ref g5.objs.size) >>= _) _ _ _ from U0 ?_);unfold Builtin.SmallTypes.ownedTupleHandOut;have z6:IsZip (g5.push { cls:=.type "tuple",data:=.seq #[x,y] }) z TI TO .ellipsis:=U0a _ z5;refine U0 (U2k z6 (by simp) λg7 z7 m7=>?_);replace z7:IsZip g7 z TI TO (rawInt g5.objs.size):=z7;refine U2k z7 (by simp) λg8 z8 m8=>?_;replace z8:IsZip g8 z TI TO (rawInt g5.objs.size):=z8;have up:∀c o,c≠z->g5.get? c=some o->g8.get? c=some o:=λc o n e=>m8.extBut _ _ n (m7.extBut _ _ n (U0a _ e));have p8:IsPair g8 g5.objs.size x y:=m8.extBut _ _ (U1r lz) (m7.extBut _ _ (U1r lz) (U0s _ rfl));have w8:g8.objs.size=g5.objs.size+1:=by rw[m8.1,m7.1,U2c]
 rw[sz]at z8 p8 w8;refine U0c ⟨_,rfl,?_⟩;show Q (.ref g5.objs.size) _;rw[sz];refine q x y g8 tk2 px py z8 (up _ _ D.a2 o5) ?_ ?_ p8 w8 λc o n1 n2 n3 n4 e=>up c o n1 (kk c o n1 n2 n3 n4 e)
 .exact D1.frame _ _ _ t2 λc hc o e=>up _ _ (D.b1 c hc).1 (m5.extBut _ _ (D.b1 c hc).2.1 (m4.extBut _ _ (D.b1 c hc).2.2 (m3.extBut _ _ (D.b1 c hc).2.1 e)))
 .exact D2.frame _ _ _ u4 λc hc o e=>up _ _ (D.b2 c hc).1 (m5.extBut _ _ (D.b2 c hc).2.1 e)
def Jez{Q:PySem.Fin->Shared->Prop}(D1:Draws prog w A i1 fp1 n1 P1 S1)(D2:Draws prog w A i2 fp2 n2 P2 S2)(D:Apart z TI TO i1 i2 fp1 fp2)(hZ:IsZip s.heap z TI TO .none)(hI:IsPair s.heap TI (.ref i1) (.ref i2))(hO:IsPair s.heap TO a b)
  (s1:S1 k s.heap) (s2:S2 k s.heap) (ke:k=n1∨(k<n1/\k=n2))
  (q:∀h' e tk,(∀c o,c≠z->c≠TO->c≠i1->c≠i2->s.heap.get? c=some o->h'.get? c=some o)->(∃o,h'.get? e=some o/\o.cls=.type "StopIteration")->E (.ref e) { s with heap:=h',toks:=tk }) :
  wpAny (model prog w) A (Builtin.«zip.__next__» ⟨[.ref z],[]⟩) Q E s:=by
 obtain⟨hp,g,d,tk0,os⟩:=s;exact`zC;exact`zv;refine(show wpAny _ _ (U11 (.ref z) >>= _) _ _ _ from U0 ?_);unfold U11;refine U0 (U1v hZ rfl (x:=.none) rfl (U0c ?_));simp only[if_true];refine U0 (U4r (U0 (U1v hZ rfl (x:=.ref TO) rfl (U0 (U2k hZ (by simp) λg1 z1 m1=>?_)))));replace z1:IsZip g1 z TI TO .ellipsis:=z1;replace m1:U02 z hp g1:=m1;refine U0 ?_;simp only[U8,List.zipIdx_nil,U4i,U58];exact`qa;exact`zS;rcases ke with ke|⟨k1,ke⟩
 .subst ke;refine U0 (U0 (U6p (show wpAny _ _ (U1h (.ref i1) >>= _) _ _ _ from U0 (D1.done ⟨g1,g,d,tk0,os⟩ _ _ t1 λg2 e m2 he=>?_))));obtain⟨oe,he1,he2⟩:=he;replace m2:U4u i1 g1 g2:=m2;have z2:IsZip g2 z TI TO .ellipsis:=m2 _ _ (U1n D.c1.1) z1;have ez:e≠z:=λx=>by subst x;rw[z2]at he1;cases he1;simp at he2
  exact U2k z2 (by simp) λg3 _ m3=>q g3 e _ (λc o n1 _ n3 _ x=>m3.extBut _ _ n1 (m2 _ _ n3 (m1.extBut _ _ n1 x))) ⟨oe,m3.extBut _ _ ez he1,he2⟩
 .refine U0 (U0 (U6p (show wpAny _ _ (U1h (.ref i1) >>= _) _ _ _ from U0 (D1.item k ⟨g1,g,d,tk0,os⟩ _ _ k1 t1 λx g2 tk1 px t2 m2=>U0c ?_))));replace m2:U02 i1 g1 g2:=m2;have o2:IsPair g2 TO a b:=m2.extBut _ _ (U1n D.c1.2.1) (m1.extBut _ _ D.a2 hO);refine U0 (U2q o2 rfl (U0 (U63 o2 λg3 o3 m3=>?_)));replace m3:U02 TO g2 g3:=m3;have u3:S2 k g3:=D2.frame _ _ _ u1 λc hc o e=>m3.extBut _ _ (D.b2 c hc).2.1 (m2.extBut _ _ (D.b2 c hc).2.2 e);rw[ke]at u3;refine U0 (U7p (U0c ?_));refine U0 (U0 (U6p (show wpAny _ _ (U1h (.ref i2) >>= _) _ _ _ from U0 (D2.done ⟨g3,g,d,tk1,os⟩ _ _ u3 λg4 e m4 he=>?_))));obtain⟨oe,he1,he2⟩:=he;replace m4:U4u i2 g3 g4:=m4;have z4:IsZip g4 z TI TO .ellipsis:=m4 _ _ (U1n D.c2.1) (m3.extBut _ _ (U1n D.a2) (m2.extBut _ _ (U1n D.c1.1) z1));have ez:e≠z:=λx=>by subst x;rw[z4]at he1;cases he1;simp at he2
  exact U2k z4 (by simp) λg5 _ m5=>q g5 e _ (λc o n1 n2 n3 n4 x=>m5.extBut _ _ n1 (m4 _ _ n4 (m3.extBut _ _ n2 (m2.extBut _ _ n3 (m1.extBut _ _ n1 x))))) ⟨oe,m5.extBut _ _ ez he1,he2⟩
def dZ{Q:Option Value->Shared->Prop}(D1:Draws prog w A.in1 i1 fp1 n1 P1 S1)(D2:Draws prog w A.in1 i2 fp2 n2 P2 S2)(D:Apart z TI TO i1 i2 fp1 fp2)(hZ:IsZip s.heap z TI TO .none)(hI:IsPair s.heap TI (.ref i1) (.ref i2))(hO:IsPair s.heap TO a b)
  (s1:S1 k s.heap) (s2:S2 k s.heap) (k1:k<n1) (k2:k<n2)
  (q:∀x y h' tk,P1 k x->P2 k y->IsZip h' z TI TO (rawInt s.heap.objs.size)->IsPair h' TO x y->S1 (k+1) h'->S2 (k+1) h'->IsPair h' s.heap.objs.size x y->h'.objs.size=s.heap.objs.size+1 ->
   (∀c o,c≠z->c≠TO->c≠i1->c≠i2->s.heap.get? c=some o->h'.get? c=some o)->Q (some (.ref s.heap.objs.size)) { s with heap:=h',toks:=tk }) :
  wpAny (model prog w) A (pyNext (.ref z)) Q E s:=by
 have T:s.TypeIs (.ref z) "zip":=⟨_,hZ,rfl⟩;unfold pyNext;exact U0 (U3t (wpAny_callSpecial?_slot (name:=U2w "__next__") T U2s (U1o U2s T U5g (Jey D1 D2 D hZ hI hO s1 s2 k1 k2 λx y h' tk c1 c2 c3 c4 c5 c6 c7 c8 c9=>U0c (q x y h' tk c1 c2 c3 c4 c5 c6 c7 c8 c9)) (U43 _))))
def dY{Q:Option Value->Shared->Prop}(D1:Draws prog w A.in1 i1 fp1 n1 P1 S1)(D2:Draws prog w A.in1 i2 fp2 n2 P2 S2)(D:Apart z TI TO i1 i2 fp1 fp2)(hZ:IsZip s.heap z TI TO .none)(hI:IsPair s.heap TI (.ref i1) (.ref i2))(hO:IsPair s.heap TO a b)
  (s1:S1 k s.heap) (s2:S2 k s.heap) (ke:k=n1∨(k<n1/\k=n2))
  (q:∀h' tk,(∀c o,c≠z->c≠TO->c≠i1->c≠i2->s.heap.get? c=some o->h'.get? c=some o)->Q none { s with heap:=h',toks:=tk }):wpAny (model prog w) A (pyNext (.ref z)) Q E s:=by
 have T:s.TypeIs (.ref z) "zip":=⟨_,hZ,rfl⟩;unfold pyNext;refine U0 (U3t (wpAny_callSpecial?_slot (name:=U2w "__next__") T U2s (U1o U2s T U5g (Jez D1 D2 D hZ hI hO s1 s2 ke λh' e tk kk he=>?_) (U43 _))));obtain⟨o,e1,e2⟩:=he;exact U0 (U4c (T:="StopIteration") (b:=true) ⟨o,e1,e2⟩ isSubtype_stop (U0c (q h' tk kk)))
end
abbrev itO(c:String)(l:Addr):Obj:={ cls:=.type c,data:=.fields #[.ref l,.int 0 0] }
abbrev zt1(c1:String)(h:Heap)(l1:Addr):Heap:=h.push (itO c1 l1)
abbrev zt2(c1 c2:String)(h:Heap)(l1 l2:Addr):Heap:=(zt1 c1 h l1).push (itO c2 l2)
abbrev zt3(c1 c2:String)(h:Heap)(l1 l2:Addr):Heap:=(zt2 c1 c2 h l1 l2).push { cls:=.type "tuple",data:=.seq #[.ref h.objs.size,.ref (zt1 c1 h l1).objs.size] }
abbrev zt4(c1 c2:String)(h:Heap)(l1 l2:Addr):Heap:=(zt3 c1 c2 h l1 l2).push { cls:=.type "tuple",data:=.seq #[.none,.none] }
abbrev zt5(c1 c2:String)(h:Heap)(l1 l2:Addr):Heap:=(zt4 c1 c2 h l1 l2).push { cls:=.type "zip",data:=.fields #[.none,.bool false,.bool false,.ref (zt2 c1 c2 h l1 l2).objs.size,.ref (zt3 c1 c2 h l1 l2).objs.size] }
def ux(l1 l2:Addr)(xs ys:Array Value):Meets (Builtin.«zip.__new__» ⟨[.type "zip",.ref l1,.ref l2],[]⟩) (λ_ R s=>s.heap.IsTuple l1 xs/\s.heap.IsTuple l2 ys/\R (.ok (.ret (.ref (zt4 "tuple_iterator" "tuple_iterator" s.heap l1 l2).objs.size))) { s with heap:=zt5 "tuple_iterator" "tuple_iterator" s.heap l1 l2 }):=
 .of_wp λprog w A R s h=>by obtain⟨hp,g,d,tk,os⟩:=s;obtain⟨e1,e2,h⟩:=h;have sub:=sub_zip;have T1:U53 (U7q ⟨hp,g,d,tk,os⟩) l1 xs:=e1;have T2:U53 (U7q ⟨hp.push { cls:=.type "tuple_iterator",data:=.fields #[.ref l1,.int 0 0] },g,d,tk,os⟩) l2 ys:=U53.push e2 _;wp_walk using U54 T1,U54 T2;exact⟨_,rfl,h⟩
def uy(l1 l2:Addr)(xs ys:Array Value):Meets (Builtin.«zip.__new__» ⟨[.type "zip",.ref l1,.ref l2],[]⟩) (λ_ R s=>s.heap.IsList l1 xs/\s.heap.IsTuple l2 ys/\R (.ok (.ret (.ref (zt4 "list_iterator" "tuple_iterator" s.heap l1 l2).objs.size))) { s with heap:=zt5 "list_iterator" "tuple_iterator" s.heap l1 l2 }):=
 .of_wp λprog w A R s h=>by obtain⟨hp,g,d,tk,os⟩:=s;obtain⟨e1,e2,h⟩:=h;have sub:=sub_zip;have T1:Heap.IsList (U7q ⟨hp,g,d,tk,os⟩) l1 xs:=e1;have T2:U53 (U7q ⟨hp.push { cls:=.type "list_iterator",data:=.fields #[.ref l1,.int 0 0] },g,d,tk,os⟩) l2 ys:=U53.push e2 _;wp_walk using U4o T1,U54 T2;exact⟨_,rfl,h⟩
def bf{P1 P2:Heap->Prop}{Q:Value->Shared->Prop}(m:Meets (Builtin.«zip.__new__» ⟨[.type "zip",.ref l1,.ref l2],[]⟩) (λ_ R s=>P1 s.heap/\P2 s.heap/\R (.ok (.ret (.ref (zt4 c1 c2 s.heap l1 l2).objs.size))) { s with heap:=zt5 c1 c2 s.heap l1 l2 }))(e1:P1 s.heap)(e2:P2 s.heap)
  (q:∀h',IsZip h' (s.heap.objs.size+4) (s.heap.objs.size+2) (s.heap.objs.size+3) .none->IsPair h' (s.heap.objs.size+2) (.ref s.heap.objs.size) (.ref (s.heap.objs.size+1))->IsPair h' (s.heap.objs.size+3) .none .none ->
   h'.get? s.heap.objs.size=some (itO c1 l1)->h'.get? (s.heap.objs.size+1)=some (itO c2 l2)->(∀c o,s.heap.get? c=some o->h'.get? c=some o)->Q (.ref (s.heap.objs.size+4)) { s with heap:=h' }) :
  wpAny (model prog w) A (call (.type "zip") [.ref l1,.ref l2]) Q E s:=by
 refine callType_new PySem.F.called_zip (by decide) (PySem.F.typeCall_zip_2 _ _) (PySem.F.newCall_zip_2 _ _) (λobj=>PySem.F.args_object_init_3 obj _ _) PySem.F.entry_zip_new m ⟨e1,e2,?_⟩;have z1:(zt1 c1 s.heap l1).objs.size=s.heap.objs.size+1:=U2c ..;have z2:(zt2 c1 c2 s.heap l1 l2).objs.size=s.heap.objs.size+2:=by rw[U2c,z1]
 have z3:(zt3 c1 c2 s.heap l1 l2).objs.size=s.heap.objs.size+3:=by rw[U2c,z2]
 have z4:(zt4 c1 c2 s.heap l1 l2).objs.size=s.heap.objs.size+4:=by rw[U2c,z3]
 have g5:(zt5 c1 c2 s.heap l1 l2).get? (zt4 c1 c2 s.heap l1 l2).objs.size=some _:=U0s _ rfl;have g4:(zt5 c1 c2 s.heap l1 l2).get? (zt3 c1 c2 s.heap l1 l2).objs.size=some _:=U0a _ (U0s _ rfl);have g3:(zt5 c1 c2 s.heap l1 l2).get? (zt2 c1 c2 s.heap l1 l2).objs.size=some _:=U0a _ (U0a _ (U0s _ rfl));have g2:(zt5 c1 c2 s.heap l1 l2).get? (zt1 c1 s.heap l1).objs.size=some _:=U0a _ (U0a _ (U0a _ (U0s _ rfl)));have g1:(zt5 c1 c2 s.heap l1 l2).get? s.heap.objs.size=some _:=U0a _ (U0a _ (U0a _ (U0a _ (U0s _ rfl))));have kk:∀c o,s.heap.get? c=some o->(zt5 c1 c2 s.heap l1 l2).get? c=some o:=λc o e=>U0a _ (U0a _ (U0a _ (U0a _ (U0a _ e))));show _/\_;rw[z2,z3,z4]at g5;rw[z1,z2]at g3;rw[z3]at g4;rw[z1]at g2;have Z:IsZip (zt5 c1 c2 s.heap l1 l2) (s.heap.objs.size+4) (s.heap.objs.size+2) (s.heap.objs.size+3) .none:=g5;rw[z4];exact⟨⟨_,Z,rfl⟩,q _ Z g3 g4 g1 g2 kk⟩
def bZ{Q:Value->Shared->Prop}(e1:s.heap.IsTuple l1 xs)(e2:s.heap.IsTuple l2 ys)
  (q:∀h',IsZip h' (s.heap.objs.size+4) (s.heap.objs.size+2) (s.heap.objs.size+3) .none->IsPair h' (s.heap.objs.size+2) (.ref s.heap.objs.size) (.ref (s.heap.objs.size+1))->IsPair h' (s.heap.objs.size+3) .none .none ->
   h'.IsTupleIter s.heap.objs.size l1 0->h'.IsTupleIter (s.heap.objs.size+1) l2 0->(∀c o,s.heap.get? c=some o->h'.get? c=some o)->Q (.ref (s.heap.objs.size+4)) { s with heap:=h' }) :
  wpAny (model prog w) A (call (.type "zip") [.ref l1,.ref l2]) Q E s:=
 bf (P1:=λh=>h.IsTuple l1 xs) (P2:=λh=>h.IsTuple l2 ys) (ux l1 l2 xs ys) e1 e2 λh' c1 c2 c3 c4 c5 k=>q h' c1 c2 c3 ⟨_,c4,rfl,rfl⟩ ⟨_,c5,rfl,rfl⟩ k
def u9{Q:Value->Shared->Prop}(e1:s.heap.IsList l1 xs)(e2:s.heap.IsTuple l2 ys)
  (q:∀h',IsZip h' (s.heap.objs.size+4) (s.heap.objs.size+2) (s.heap.objs.size+3) .none->IsPair h' (s.heap.objs.size+2) (.ref s.heap.objs.size) (.ref (s.heap.objs.size+1))->IsPair h' (s.heap.objs.size+3) .none .none ->
   h'.IsListIter s.heap.objs.size l1 0->h'.IsTupleIter (s.heap.objs.size+1) l2 0->(∀c o,s.heap.get? c=some o->h'.get? c=some o)->Q (.ref (s.heap.objs.size+4)) { s with heap:=h' }) :
  wpAny (model prog w) A (call (.type "zip") [.ref l1,.ref l2]) Q E s:=
 bf (P1:=λh=>h.IsList l1 xs) (P2:=λh=>h.IsTuple l2 ys) (uy l1 l2 xs ys) e1 e2 λh' c1 c2 c3 c4 c5 k=>q h' c1 c2 c3 ⟨_,c4,rfl,rfl⟩ ⟨_,c5,rfl,rfl⟩ k
end
end HT
end
section
namespace L2
open PySem PySem.Spec PyProof.Rows
def HB(L:Bool)(xs:List V):HO:=if L=true then .lst xs else .tup xs
def HB.inj(h:HB L xs=HB L ys):xs=ys:=by cases L<;>cases h<;>rfl
def Itz(L M:Bool)(a b:Addr):It:=
 ⟨λi H=>∃xs ys x y,H a=some (HB L xs)/\H b=some (HB M ys)/\xs[i]?=some x/\ys[i]?=some y,
  λi H v H'=>∃p x y,H p=none/\v=.ref p/\H'=upd H p (.tup [x,y])/\(∀xs,H a=some (HB L xs)->xs[i]?=some x)/\∀ys,H b=some (HB M ys)->ys[i]?=some y,
  λi H=>∃xs ys,H a=some (HB L xs)/\H b=some (HB M ys)/\(i=xs.length∨(i<xs.length/\i=ys.length))⟩
def KQ(L:Bool)(h:Heap)(it a:Addr)(i:Nat):Prop:=if L=true then h.IsListIter it a i else h.IsTupleIter it a i
def iC(L:Bool)(h:Heap)(a:Addr)(ws:Array Value):Prop:=if L=true then h.IsList a ws else h.IsTuple a ws
def Qv(L:Bool)(ha:A.handled=none)(it t:Addr)(ne:t≠it)(ws:Array Value):Draws prog w A it [it,t] ws.size (λi v=>ws[i]?=some v) (λi h=>KQ L h it t i/\iC L h t ws):=by
 cases L with
 |true=>exact Draws.list ha it t ne ws
 |false=>exact HT.Jcm ha it t ne ws
theorem KQ.at(x:KQ L h it a i)(k:∀o,h.get? it=some o->h'.get? it=some o):KQ L h' it a i:=by
 cases L with
 |true=>exact Heap.IsListIter.at x k
 |false=>exact Heap.IsTupleIter.at x k
def KQ.obj(x:KQ L h it a i):∃o vs,h.get? it=some o/\o.data=.fields vs:=by
 cases L with
 |true=>obtain⟨o,e,_,d⟩:=(show h.IsListIter it a i from x);exact⟨o,_,e,d⟩
 |false=>obtain⟨o,e,_,d⟩:=(show h.IsTupleIter it a i from x);exact⟨o,_,e,d⟩
def Inv.Sh(I:Inv X pins Z3 H s)(h:H a=some (HB L xs)):∃its:List Value,Vals xs its/\iC L s.heap a its.toArray:=by
 cases L with
 |true=>obtain⟨its,rv,p,_⟩:=I.list (SqL.of h);exact⟨its,rv,p.isList⟩
 |false=>obtain⟨its,rv,p,_⟩:=I.tuple (SqT.of h);exact⟨its,rv,p⟩
def Jem(L M:Bool)(a b z TI TO i1 i2:Addr)(i:Nat)(h:Heap):Prop:=IsZip h z TI TO .none/\IsPair h TI (.ref i1) (.ref i2)/\(∃c d,IsPair h TO c d)/\KQ L h i1 a i/\KQ M h i2 b i
def Vo{z TI TO i1 i2 a b:Addr}(d1:TI≠z)(d2:TO≠z)(d3:TI≠TO)(d4:i1≠z/\i1≠TO/\i1≠TI)(d5:i2≠z/\i2≠TO/\i2≠TI)(d6:i1≠i2)(na:a ∉ [z,TI,TO,i1,i2])(nb:b ∉ [z,TI,TO,i1,i2]):HT.Apart z TI TO i1 i2 [i1,a] [i2,b] where
 a1:=d1
 a2:=d2
 a3:=d3
 b1:=λc hc=>by
  simp only[U0q,U1s,or_false,not_or]at hc na;rcases hc with rfl|rfl
  .exact⟨d4.1,d4.2.1,d6⟩
  .exact⟨na.1,na.2.2.1,na.2.2.2.2⟩
 b2:=λc hc=>by
  simp only[U0q,U1s,or_false,not_or]at hc nb;rcases hc with rfl|rfl
  .exact⟨d5.1,d5.2.1,U1n d6⟩
  .exact⟨nb.1,nb.2.2.1,nb.2.2.2.1⟩
 c1:=d4
 c2:=d5
 c3:=d6
def qR{P:Program}{w:World}{K:U0e}{elts:List Expr}{x1:Nat}{pos:Pos}(L M:Bool)(a b z TI TO i1 i2:Addr)(d1:TI≠z)(d2:TO≠z)(d3:TI≠TO)(d4:i1≠z/\i1≠TO/\i1≠TI)(d5:i2≠z/\i2≠TO/\i2≠TI)(d6:i1≠i2) :
  Turn P w K (.Tuple elts x1 pos) (Itz L M a b) [z,TI,TO,i1,i2] z (Jem L M a b z TI TO i1 i2) where
 mem:=by simp
 obj:=λi h st c hc=>by
  obtain⟨h1,h2,⟨c',d',h3⟩,h4,h5⟩:=st;simp only[U0q,U1s,or_false]at hc;rcases hc with rfl|rfl|rfl|rfl|rfl
  .exact⟨_,h1,λv q=>by cases q⟩
  .exact⟨_,h2,λv q=>by cases q⟩
  .exact⟨_,h3,λv q=>by cases q⟩
  .obtain⟨o,vs,e,d⟩:=h4.obj;exact⟨o,e,λv q=>by rw[d]at q;cases q⟩
  .obtain⟨o,vs,e,d⟩:=h5.obj;exact⟨o,e,λv q=>by rw[d]at q;cases q⟩
 keep:=λi h h' st k=>by obtain⟨h1,h2,⟨c',d',h3⟩,h4,h5⟩:=st;exact⟨k z (by simp) _ h1,k TI (by simp) _ h2,⟨c',d',k TO (by simp) _ h3⟩,h4.at λo q=>k i1 (by simp) o q,h5.at λo q=>k i2 (by simp) o q⟩
 item:=by
  exact`zk;subst hP hw hK;obtain⟨xs,ys,x,y,hq1,hq2,hx,hy⟩:=hg;obtain⟨its1,rv1,p1⟩:=I.Sh hq1;obtain⟨its2,rv2,p2⟩:=I.Sh hq2;obtain⟨u,hu,ru⟩:=rv1.get hx;obtain⟨v,hv,rv⟩:=rv2.get hy;obtain⟨h1,h2,⟨c',d',h3⟩,h4,h5⟩:=st;have lt:∀c∈[z,TI,TO,i1,i2],c<s.heap.objs.size:=λc hc=>by
   simp only[U0q,U1s,or_false]at hc;rcases hc with rfl|rfl|rfl|rfl|rfl
   .exact U0m h1
   .exact U0m h2
   .exact U0m h3
   .obtain⟨o,vs,e,_⟩:=h4.obj;exact U0m e
   .obtain⟨o,vs,e,_⟩:=h5.obj;exact U0m e
  have na:a ∉ [z,TI,TO,i1,i2]:=λq=>by rw[(hf a q).1]at hq1;cases hq1
  have nb:b ∉ [z,TI,TO,i1,i2]:=λq=>by rw[(hf b q).1]at hq2;cases hq2
  have ap:=Vo d1 d2 d3 d4 d5 d6 na nb;have hh:X.A.in1.handled=none:=I.ok.hd hc;refine HT.dZ (Qv L hh i1 a (λq=>na (by simp[q])) its1.toArray) (Qv M hh i2 b (λq=>nb (by simp[q])) its2.toArray) ap h1 h2 h3 ⟨h4,p1⟩ ⟨h5,p2⟩ (by rw[U0t];exact(U0l.mp hu).1) (by rw[U0t];exact(U0l.mp hv).1)
   λx' y' h' tk q1 q2 z' o' s1' s2' tp sz k=>⟨_,rfl,?_⟩
  have q1':its1[i]?=some x':=by simpa using q1
  have q2':its2[i]?=some y':=by simpa using q2
  rw[hu]at q1';rw[hv]at q2';cases q1';cases q2';refine wpAny_letOwnedTupleGo_zip z' λh3' z2 sb=>?_;have sb':U02 z h' h3':=sb;have nz:s.heap.objs.size≠z:=U1r (lt z (by simp));have J:=I.iM (h':=h3') (t':=tk) (fp:=[z,TI,TO,i1,i2]) (x:=x) (y:=y) ru rv (sb'.extBut _ _ nz tp) (λc o hc q=>by
   simp only[U0q,U1s,or_false,not_or]at hc;exact sb'.extBut _ _ hc.1 (k c o hc.1 hc.2.2.1 hc.2.2.2.1 hc.2.2.2.2 q)) hf lt
  refine⟨.ref s.heap.objs.size,_,J,rfl,⟨_,x,y,I.hok.fresh (U0o _),rfl,rfl,λzs hz=>?_,λzs hz=>?_⟩,⟨z2,?_,⟨_,_,sb'.extBut _ _ d2 o'⟩,s1'.1.at λo q=>sb'.extBut _ _ d4.1 q,s2'.1.at λo q=>sb'.extBut _ _ d5.1 q⟩,λc hc=>?_⟩
  .rw[hq1]at hz;rw[←HB.inj (U08 hz)];exact hx
  .rw[hq2]at hz;rw[←HB.inj (U08 hz)];exact hy
  .exact sb'.extBut _ _ d1 (k TI _ d1 d3 (U1n d4.2.2) (U1n d5.2.2) h2)
  .rw[Bt (U0u (lt c hc))];exact(hf c hc).1
 done:=by
  exact`zk;subst hP hw hK;obtain⟨xs,ys,hq1,hq2,ke⟩:=hg;obtain⟨its1,rv1,p1⟩:=I.Sh hq1;obtain⟨its2,rv2,p2⟩:=I.Sh hq2;obtain⟨h1,h2,⟨c',d',h3⟩,h4,h5⟩:=st;have na:a ∉ [z,TI,TO,i1,i2]:=λq=>by rw[(hf a q).1]at hq1;cases hq1
  have nb:b ∉ [z,TI,TO,i1,i2]:=λq=>by rw[(hf b q).1]at hq2;cases hq2
  have hh:X.A.in1.handled=none:=I.ok.hd hc;refine HT.dY (Qv L hh i1 a (λq=>na (by simp[q])) its1.toArray) (Qv M hh i2 b (λq=>nb (by simp[q])) its2.toArray) (Vo d1 d2 d3 d4 d5 d6 na nb) h1 h2 h3 ⟨h4,p1⟩ ⟨h5,p2⟩ (by rw[U0t,U0t,←rv1.length,←rv2.length];exact ke)
   λh' tk k=>⟨rfl,I.Uc (t':=tk) (fp:=[z,TI,TO,i1,i2]) (λc o hc q=>?_) hf⟩
  simp only[U0q,U1s,or_false,not_or]at hc;exact k c o hc.1 hc.2.2.1 hc.2.2.2.1 hc.2.2.2.2 q
 self:=λ_ _ _ _ _ st h=>wpAny_pyIter_zip st.1 h
abbrev Jfi(L M:Bool)(ta:TA):TI:=λZ3 H R=>ta Z3 H λvs H1=>∃a b xs ys,vs=[.ref a,.ref b]/\H1 a=some (HB L xs)/\H1 b=some (HB M ys)/\R (Itz L M a b) H1
section
variable{X:Cx}
def Zn(L M:Bool)(hLM:L=M∨(L=true/\M=false)){a b:Expr}{ta:TA}{p pos:Pos}{elts:List Expr}{x1:Nat}{tpos:Pos}(hg:Gl X "zip")(hm:X.mg "zip"=none)(ha:PA X [a,b] ta)(hs:starEach [a,b] X.env=[(false,eval a X.env),(false,eval b X.env)]:=by rfl)(hs2:starEach [b] X.env=[(false,eval b X.env)]:=by rfl) :
  PI X (.Tuple elts x1 tpos) (.Call (.Name "zip" p) [a,b] [] pos) (Jfi L M ta):=by
 intro pins s Z3 H R I h;refine Call_ (Ni I hg hm (by decide +kernel:bootBuiltins "zip"=some (.type "zip")) (U3a (thn (ha pos pins s Z3 H _ I h) λus s1 ⟨vs,H1,I1,r1,q1⟩=>?_) (by rw[hs,hs2]) (by rw[hs2];rfl)));obtain⟨l,m,xs,ys,e,e1,e2,q⟩:=q1;subst e;obtain⟨us1,us2⟩:us=[.ref l,.ref m]/\True:=by
  cases r1 with
  |cons r rr=>
   cases rr with
   |cons r' rr=>
    cases rr;cases r;cases r';exact⟨rfl,trivial⟩
 subst us1;obtain⟨its1,rv1,p1⟩:=I1.Sh e1;obtain⟨its2,rv2,p2⟩:=I1.Sh e2;have fin:∀h',IsZip h' (s1.heap.objs.size+4) (s1.heap.objs.size+2) (s1.heap.objs.size+3) .none->IsPair h' (s1.heap.objs.size+2) (.ref s1.heap.objs.size) (.ref (s1.heap.objs.size+1))->IsPair h' (s1.heap.objs.size+3) .none .none ->
   KQ L h' s1.heap.objs.size l 0->KQ M h' (s1.heap.objs.size+1) m 0->(∀c o,s1.heap.get? c=some o->h'.get? c=some o)->wpAny (model X.prog X.w) X.A (pyIter (.ref (s1.heap.objs.size+4))) (PIE X pins Z3 (.Tuple elts x1 tpos) R) X.xe { s1 with heap:=h' }:=λh' c1 c2 c3 c4 c5 k=>by
  refine wpAny_pyIter_zip c1 ?_;refine⟨s1.heap.objs.size+4,[s1.heap.objs.size+4,s1.heap.objs.size+2,s1.heap.objs.size+3,s1.heap.objs.size,s1.heap.objs.size+1],_,_,H1,rfl,I1.kept (t':=s1.toks) k,
   qR L M l m _ _ _ _ _ (by simp) (by simp) (by simp) ⟨by simp,by simp,by simp⟩ ⟨by simp,by simp,by simp⟩ (by simp),⟨c1,c2,⟨_,_,c3⟩,c4,c5⟩,λc hc=>?_,q⟩
  have hc':s1.heap.objs.size<=c:=by simp only[U0q,U1s,or_false]at hc;rcases hc with rfl|rfl|rfl|rfl|rfl<;>first|exact U1p _ _|exact U0o _
  exact I1.Xa hc' (I1.hok.fresh hc')
 cases L with
 |true=>
  cases M with
  |true=>exact call_zip_2 p1 p2 λh' c1 c2 c3 c4 c5 _ k=>fin h' c1 c2 c3 c4 c5 k
  |false=>exact HT.u9 p1 p2 λh' c1 c2 c3 c4 c5 k=>fin h' c1 c2 c3 c4 c5 k
 |false=>
  cases M with
  |true=>rcases hLM with z|⟨z,_⟩<;>cases z
  |false=>exact HT.bZ p1 p2 λh' c1 c2 c3 c4 c5 k=>fin h' c1 c2 c3 c4 c5 k
end
end L2
end
section
set_option maxRecDepth 100000
namespace HT
open PySem PySem.Spec PyProof.Rows
section
variable{prog:Program}{w:World}{A:Around}{E:Value->Shared->Prop}{s:Shared}
theorem xq(ha:AnswersAll (λs=>s.TypeIs x Tx) x cs vs) :
  Meets (Builtin.«isinstance» ⟨[x,.ref tp],[]⟩) (λ_ R s=>s.TypeIs x Tx/\s.heap.get? tp=some { cls:=.type "tuple",dict:=dd,data:=.seq cs.toArray n,slots:=sl }/\∀tk,R (.ok (.ret (.bool (vs.any id)))) { s with toks:=tk }):=
 λprog w A R s hs=>isinstance_outer (by
  obtain⟨h,g,d,t,os⟩:=s;obtain⟨hx,htp,hq⟩:=hs;have T2:(⟨h,g,d,t,os⟩:Shared).TypeIs (.ref tp) "tuple":=⟨_,htp,rfl⟩;have f1:=PySem.F.isi_sub_tuple
  repeat (any_goals first|assumption|wp_step)
  refine wpAny_arrayLoop ?_;simp only[List.toList_toArray,Option.getD_some];refine isinstance_items (dep:=0) (λ_ tk q=>q.toks tk) cs vs _ _ ha hx λtk'=>?_;cases hv:vs.any id with
  |true=>
   simp only[if_true]
   repeat (any_goals first|assumption|wp_step)
   exact hv ▸ hq tk'
  |false=>
   simp only[if_false,U18]
   repeat (any_goals first|assumption|wp_step)
   exact hv ▸ hq tk') (U4l.not_mainsLoader hs.1)
end
end HT
namespace L2
open PySem PySem.Spec PyProof.Rows
def isSeq:PyData->Bool
 |.list _=>true
 |.tuple _=>true
 |_=>false
def noDict:PyData->Bool
 |.dict _=>false
 |_=>true
def uM(T:String)(h:T="tuple"∨T="list"):typeOf (.type T)=pure (.type "type"):=by rcases h with rfl|rfl<;>first|rfl|kernel_rfl
def K9(h:(a,b)∈[("int","tuple"),("int","list"),("bool","tuple"),("bool","list"),("str","tuple"),("str","list"),("NoneType","tuple"),("NoneType","list"),("list","tuple"),("tuple","list")]):isSubtype (.type a) (.type b)=pure false:=by simp only[U0q,U1s,or_false,Prod.mk.injEq]at h;rcases h with ⟨rfl,rfl⟩|⟨rfl,rfl⟩|⟨rfl,rfl⟩|⟨rfl,rfl⟩|⟨rfl,rfl⟩|⟨rfl,rfl⟩|⟨rfl,rfl⟩|⟨rfl,rfl⟩|⟨rfl,rfl⟩|⟨rfl,rfl⟩<;>(rw[isSubtype_type];kernel_rfl)
def eN(h:a="tuple"∨a="list"):isSubtype (.type a) (.type a)=pure true:=by rcases h with rfl|rfl<;>(rw[isSubtype_type];kernel_rfl)
section
variable{X:Cx}
def Z6:Eh X (.builtin "isinstance") (λxs H Q=>∃(N:Addr->Prop)(x:V)(d:PyData)(p:Addr),xs=[x,.ref p]/\H p=some (.tup [.ty "tuple",.ty "list"])/\Tr N H x d/\noDict d=true/\Q (.bl (isSeq d)) H):=by
 exact`zo;obtain⟨N,x,d,p,rfl,hp,t,nd,q⟩:=h;obtain⟨u,v,rfl,rx,rv⟩:=vals2 r;cases (show v=U1c p from rv);obtain⟨its,rt,pt,_⟩:=I.tuple (SqT.of hp);have ei:its=[.type "tuple",.type "list"]:=by
  cases rt with
  |cons r1 rr=>
   cases rr with
   |cons r2 rn=>
    cases rn;cases (show _=U23 "tuple" from r1);cases (show _=U23 "list" from r2);rfl
 subst ei;obtain⟨⟨c1,d1,x1,sl1⟩,ho,hc,n,hd⟩:=id pt;simp only at hc hd;subst hc hd;have fin:∀(Tx:String)(vs:List Bool),AnswersAll (λs=>s.TypeIs u Tx) u [.type "tuple",.type "list"] vs->s.TypeIs u Tx->vs.any id=isSeq d->wpAny (model X.prog X.w) X.A (call (.builtin "isinstance") [u,.ref p]) (EP X pins Z3 Q) X.xe s:=λTx vs ha hx e=>
  call_isinstance (HT.xq (cs:=[.type "tuple",.type "list"]) (dd:=d1) (n:=n) (sl:=sl1) ha) ⟨hx,ho,λtk=>⟨.bl (isSeq d),H,I.tok tk,(by rw[e];rfl),q⟩⟩
 have y1:=uM "tuple" (.inl rfl);have y2:=uM "list" (.inr rfl);cases t with
 |non=>
  cases (show u=U2d from rx);exact fin "NoneType" [false,false] (.cons (Answers.of_false_none (by decide) y1 (K9 (by decide))) (.cons (Answers.of_false_none (by decide) y2 (K9 (by decide))) .nil)) rfl rfl
 |bl b=>
  cases (show u=U3r b from rx);exact fin "bool" [false,false] (.cons (Answers.of_false_bool (by decide) y1 (K9 (by decide))) (.cons (Answers.of_false_bool (by decide) y2 (K9 (by decide))) .nil)) rfl rfl
 |int i=>
  obtain⟨t,rfl⟩:=rx;exact fin "int" [false,false] (.cons (Answers.of_false_int (by decide) y1 (K9 (by decide))) (.cons (Answers.of_false_int (by decide) y2 (K9 (by decide))) .nil)) rfl rfl
 |str z=>
  obtain⟨t,rfl⟩:=rx;exact fin "str" [false,false] (.cons (Answers.of_false_str (by decide) y1 (K9 (by decide))) (.cons (Answers.of_false_str (by decide) y2 (K9 (by decide))) .nil)) rfl rfl
 |lst n1 h1 t1=>
  cases rx;obtain⟨its,_,pl,_⟩:=I.list (SqL.of h1);exact fin "list" [false,true] (.cons (Answers.of_false_list (by decide) y1 (K9 (by decide))) (.cons (Answers.of_true y2 (eN (.inr rfl))) .nil)) pl.isList.typeIs rfl
 |tup n1 h1 t1=>
  cases rx;obtain⟨its,_,pl,_⟩:=I.tuple (SqT.of h1);exact fin "tuple" [true,false] (.cons (Answers.of_true y1 (eN (.inl rfl))) (.cons (Answers.of_false_tuple (by decide) y2 (K9 (by decide))) .nil)) pl.typeIs rfl
 |dct _ _=>cases nd
 |dc1 _ _ _=>cases nd
end
end L2
namespace Bc
open PySem PySem.Spec PyProof.Rows L2
def Jfg:PyData->Int
 |.tuple [.int a,.int b]=>b-a
 |_=>0
def Jdr(es:List PyData):Int:=es.foldl (λacc d=>acc*Jfg d) 1
def Lj:PyData->Int
 |.tuple es=>Jdr es
 |_=>0
def inD:PyData->Int->Bool
 |.tuple [.int a,.int b],n=>decide (a<=n)&&decide (n<b)
 |_,_=>false
def Jcc(es:List PyData)(ns:List Int):Bool:=(es.zip ns).all λp=>inD p.1 p.2
def Hq:PyData->List Int->Bool
 |.tuple es,ns=>Jcc es ns
 |_,_=>false
structure Good(n:Nat)(ds:List PyData):Prop where
 n1:1<=n
 n3:n<=3
 le:ds.length<=Jbu (.int n)
 all:ds.all (Jfp n)=true
end Bc
end
section
namespace L2
open PySem PySem.Spec PyProof.Rows
end L2
namespace Bc
open PySem PySem.Spec PyProof.Rows L2
def mx(i j:Int):Int:=if j>i then j else i
def mn(i j:Int):Int:=if j<i then j else i
def Fe(w:Nat):PyData->Int
 |.tuple es=>(match es[w]? with|some (.tuple [.int a,.int _])=>a|_=>0)
 |_=>0
def En(w:Nat):PyData->Int
 |.tuple es=>(match es[w]? with|some (.tuple [.int _,.int b])=>b|_=>0)
 |_=>0
end Bc
end
section
namespace VS
open PySem PySem.Spec L2
abbrev DK:=Sum (List (Key×V)) (List (List Key×V))
def hoD:DK->HO
 |.inl k=>.dK k
 |.inr k=>.dT k
inductive D where
 |non|bl (b:Bool)|int (i:Int)|str (x:Str)|ty (n:String)
 |tup (ds:List D)|lst (m:Bool) (ds:List D)|ref (i:Nat)|scr (ns:List Int)|emp
 |dref (i:Nat)|dcf (kvs:DK)|dcm (kvs:DK)|fn (a:Addr) (n:Nat)|lent (ds:List D)|exc (C:Addr) (n:Nat)|dbx (b:List (Int×Int))
def Jfl(o:Obj):HO:=.frz o (.own 0)
def Jen(o:Obj)(C:Addr):Prop:=o.cls=.ref C/\∃vs,o.data=.fields vs
def Ua(H:Hp)(p:Addr)(b:List (Int×Int)):Prop:=∃qs:List Addr,qs.length=b.length/\H p=some (.tup (qs.map V.ref))/\∀(i:Nat)(q:Addr)(x:Int×Int),qs[i]?=some q->b[i]?=some x->H q=some (.tup [.int x.1,.int x.2])
def Ua.keep(h:Ua H p b)(k:∀a xs,H a=some (.tup xs)->H' a=some (.tup xs)):Ua H' p b:=by obtain⟨qs,h1,h2,h3⟩:=h;exact⟨qs,h1,k _ _ h2,λi q x e1 e2=>k _ _ (h3 i q x e1 e2)⟩
abbrev Mu:=List (Option Addr)
def Cj(μ:Mu)(a:Addr):Prop:=some a∈μ
structure Fr where
 K:U0e
 H0:Hp
 N:Addr->Prop
 m0:List Addr
def Fr.Ok(Γ:Fr)(m:Bool)(a:Addr):Prop:=(m=true->Γ.H0 a=none)/\(Γ.N a∨Γ.H0 a=none)
def IsL(H:Hp)(a:Addr):Prop:=∃xs,H a=some (.lst xs)
def Dy(o:HO):Prop:=∃k,o=hoD k∨∃ob,o=.frz ob (hoD k)
def IsK(H:Hp)(a:Addr):Prop:=∃o,H a=some o/\Dy o
def IsK.of(h:H a=some (hoD k)):IsK H a:=⟨_,h,k,.inl rfl⟩
def IsK.to(h:IsK H a)(e:∀o,H a=some o->H' a=some o):IsK H' a:=let ⟨o,h1,h2⟩:=h;⟨o,e o h1,h2⟩
def IsK.not(h:IsK H a)(e:H a=some o):(∃xs,o=.lst xs)∨(∃xs,o=.tup xs)->False:=by obtain⟨o',h1,k,h2⟩:=h;rw[e]at h1;cases h1;rintro(⟨xs,rfl⟩|⟨xs,rfl⟩)<;>rcases h2 with h2|⟨ob,h2⟩<;>first|cases h2|(cases k<;>cases h2)
mutual
inductive VR (Γ:Fr) (μ:Mu) (H:Hp):V->D->Prop
 |non:VR Γ μ H .non .non
 |bl (b:Bool):VR Γ μ H (.bl b) (.bl b)
 |int (i:Int):VR Γ μ H (.int i) (.int i)
 |str (x:Str):VR Γ μ H (.str x) (.str x)
 |ty (n:String):VR Γ μ H (.ty n) (.ty n)
 |fn (a:Addr) (n:Nat):VR Γ μ H (.ref a) (.fn a n)
 |lent {a:Addr} {xs:List V} {ds:List D}:¬Cj μ a->H a=some (.lst xs)->VRs Γ μ H xs ds->VR Γ μ H (.ref a) (.lent ds)
 |tup {a:Addr} {xs:List V} {ds:List D}:H a=some (.tup xs)->VRs Γ μ H xs ds->VR Γ μ H (.ref a) (.tup ds)
 |lst {m:Bool} {a:Addr} {xs:List V} {ds:List D}:Γ.Ok m a->¬Cj μ a->H a=some (.lst xs)->VRs Γ μ H xs ds->VR Γ μ H (.ref a) (.lst m ds)
 |ref {i:Nat} {v:V}:i<μ.length->(∀a,μ[i]?=some (some a)->v=.ref a/\IsL H a)->VR Γ μ H v (.ref i)
 |dref {i:Nat} {v:V}:i<μ.length->(∀a,μ[i]?=some (some a)->v=.ref a/\IsK H a)->VR Γ μ H v (.dref i)
 |dcf {a:Addr} {kvs:DK}:Γ.Ok false a->¬Cj μ a->H a=some (hoD kvs)->VR Γ μ H (.ref a) (.dcf kvs)
 |scrK {a:Addr} {ns:List Int}:(∀H',SqL Γ.K H' a (ns.map V.int))->VR Γ μ H (.ref a) (.scr ns)
 |scrR {a:Addr} {ns:List Int} {o:Obj}:¬Cj μ a->H a=some (.frz o (.lst (ns.map V.int)))->VR Γ μ H (.ref a) (.scr ns)
 |emp {a:Addr}:Γ.Ok false a->¬Cj μ a->H a=some (.dK [])->VR Γ μ H (.ref a) .emp
 |dbx {a p:Addr} {b:List (Int×Int)}:Γ.Ok false a->¬Cj μ a->H a=some (.dK [(.inl 1,.ref p)])->Ua H p b->VR Γ μ H (.ref a) (.dbx b)
 |exc {a C:Addr} {n:Nat} {o:Obj}:Jen o C->¬Cj μ a->H a=some (Jfl o)->VR Γ μ H (.ref a) (.exc C n)
inductive VRs (Γ:Fr) (μ:Mu) (H:Hp):List V->List D->Prop
 |nil:VRs Γ μ H [] []
 |cons {x:V} {d:D} {xs:List V} {ds:List D}:VR Γ μ H x d->VRs Γ μ H xs ds->VRs Γ μ H (x::xs) (d::ds)
end
def vrI(Γ:Fr)(μ:Mu)(H:Hp)(v:V):D->Prop
 |.non=>v=.non
 |.bl b=>v=.bl b
 |.int i=>v=.int i
 |.str x=>v=.str x
 |.ty n=>v=.ty n
 |.fn a _=>v=.ref a
 |.tup ds=>∃a xs,v=.ref a/\H a=some (.tup xs)/\VRs Γ μ H xs ds
 |.lst m ds=>∃a xs,v=.ref a/\Γ.Ok m a/\¬Cj μ a/\H a=some (.lst xs)/\VRs Γ μ H xs ds
 |_=>True
def VR.inv(h:VR Γ μ H v d):vrI Γ μ H v d:=by
 cases h
 all_goals first|rfl|trivial|exact⟨_,_,rfl,‹_›,‹_›⟩|exact⟨_,_,rfl,‹_›,‹_›,‹_›,‹_›⟩
structure Ext(μ:Mu)(H:Hp)(μ':Mu)(H':Hp):Prop where
 keep:∀a o,H a=some o->¬Cj μ a->H' a=some o/\¬Cj μ' a
 tups:∀a xs,H a=some (.tup xs)->H' a=some (.tup xs)
 none:∀a,H' a=none->H a=none
 ids:∀(i:Nat)(a:Addr),i<μ.length->μ'[i]?=some (some a)->μ[i]?=some (some a)
 len:μ.length<=μ'.length
 isl:∀a,Cj μ a->IsL H a->IsL H' a
 isk:∀a,Cj μ a->IsK H a->IsK H' a
def Ext.refl(μ:Mu)(H:Hp):Ext μ H μ H:=⟨λ_ _ h n=>⟨h,n⟩,λ_ _ h=>h,λ_ h=>h,λ_ _ _ h=>h,U0o _,λ_ _ h=>h,λ_ _ h=>h⟩
def Ext.trans(a:Ext μ H μ1 H1)(b:Ext μ1 H1 μ2 H2):Ext μ H μ2 H2:=
 ⟨λc o h n=>let ⟨x,y⟩:=a.keep c o h n;b.keep c o x y,λc xs h=>b.tups c xs (a.tups c xs h),λc h=>a.none c (b.none c h),λi c hi h=>a.ids i c hi (b.ids i c (U0w hi a.len) h),U01 a.len b.len,
  λc l h=>by
  by_cases z:Cj μ1 c
  .exact b.isl c z (a.isl c l h)
  .obtain⟨xs,e⟩:=a.isl c l h;exact⟨xs,(b.keep c _ e z).1⟩,
  λc l h=>by
  by_cases z:Cj μ1 c
  .exact b.isk c z (a.isk c l h)
  .exact(a.isk c l h).to λo e=>(b.keep c _ e z).1⟩
section
variable{Γ:Fr}{μ μ':Mu}{H H':Hp}
mutual
theorem VR.ext(e:Ext μ H μ' H')(r:VR Γ μ H v d):VR Γ μ' H' v d:=by
 cases r with
 |non=>exact .non
 |bl b=>exact .bl b
 |int i=>exact .int i
 |str x=>exact .str x
 |ty n=>exact .ty n
 |fn a n=>exact .fn a n
 |lent n h t=>exact .lent (e.keep _ _ h n).2 (e.keep _ _ h n).1 (VRs.ext e t)
 |tup h t=>exact .tup (e.tups _ _ h) (VRs.ext e t)
 |lst o n h t=>exact .lst o (e.keep _ _ h n).2 (e.keep _ _ h n).1 (VRs.ext e t)
 |ref hi f=>exact .ref (U0w hi e.len) λa q=>have z:=e.ids _ _ hi q;⟨(f a z).1,e.isl a (U00 z) (f a z).2⟩
 |dref hi f=>exact .dref (U0w hi e.len) λa q=>have z:=e.ids _ _ hi q;⟨(f a z).1,e.isk a (U00 z) (f a z).2⟩
 |dcf o n h=>exact .dcf o (e.keep _ _ h n).2 (e.keep _ _ h n).1
 |scrK h=>exact .scrK h
 |scrR n h=>exact .scrR (e.keep _ _ h n).2 (e.keep _ _ h n).1
 |exc x n h=>exact .exc x (e.keep _ _ h n).2 (e.keep _ _ h n).1
 |dbx o n h b=>exact .dbx o (e.keep _ _ h n).2 (e.keep _ _ h n).1 (b.keep e.tups)
 |emp o n h=>exact .emp o (e.keep _ _ h n).2 (e.keep _ _ h n).1
theorem VRs.ext(e:Ext μ H μ' H'):∀{vs:List V} {ds:List D},VRs Γ μ H vs ds->VRs Γ μ' H' vs ds
 |_,_,.nil=>.nil
 |_,_,.cons r t=>.cons (VR.ext e r) (VRs.ext e t)
end
theorem VRs.length:∀{xs:List V} {ds:List D},VRs Γ μ H xs ds->xs.length=ds.length
 |_,_,.nil=>rfl
 |_,_,.cons _ t=>by rw[U0f,U0f,VRs.length t]
theorem VRs.append:∀{xs ys:List V} {ds es:List D},VRs Γ μ H xs ds->VRs Γ μ H ys es->VRs Γ μ H (xs++ys) (ds++es)
 |_,_,_,_,.nil,t=>t
 |_,_,_,_,.cons r s,t=>.cons r (VRs.append s t)
theorem VRs.take:∀{xs:List V} {ds:List D} (n:Nat),VRs Γ μ H xs ds->VRs Γ μ H (xs.take n) (ds.take n)
 |_,_,0,_=>.nil
 |_,_,_+1,.nil=>.nil
 |_,_,n+1,.cons r t=>.cons r (VRs.take n t)
theorem VRs.drop:∀{xs:List V} {ds:List D} (n:Nat),VRs Γ μ H xs ds->VRs Γ μ H (xs.drop n) (ds.drop n)
 |_,_,0,r=>r
 |_,_,_+1,.nil=>.nil
 |_,_,n+1,.cons _ t=>VRs.drop n t
theorem VRs.get:∀{xs:List V} {ds:List D} {i:Nat} {d:D},VRs Γ μ H xs ds->ds[i]?=some d->∃x,xs[i]?=some x/\VR Γ μ H x d
 |_,_,_,_,.nil,h=>by simp at h
 |_,_,0,_,.cons r _,h=>by simp at h;subst h;exact⟨_,rfl,r⟩
 |_,_,i+1,d,.cons _ t,h=>by obtain⟨x,h1,h2⟩:=VRs.get (i:=i) (d:=d) t (by simpa using h);exact⟨x,by simpa using h1,h2⟩
theorem VRs.set(r:VR Γ μ H x d):∀{xs:List V} {ds:List D} (i:Nat),VRs Γ μ H xs ds->VRs Γ μ H (xs.set i x) (ds.set i d)
 |_,_,_,.nil=>.nil
 |_,_,0,.cons _ t=>.cons r t
 |_,_,i+1,.cons q t=>.cons q (VRs.set r i t)
theorem VRs.reverse:∀{xs:List V} {ds:List D},VRs Γ μ H xs ds->VRs Γ μ H xs.reverse ds.reverse
 |_,_,.nil=>.nil
 |_,_,.cons r t=>by rw[U6a,U6a];exact(VRs.reverse t).append (.cons r .nil)
theorem VRs.rep(h:VRs Γ μ H xs ds):∀n:Nat,VRs Γ μ H (U06 n xs).flatten (U06 n ds).flatten
 |0=>.nil
 |n+1=>by rw[U0p,U0p,U35,U35];exact h.append (VRs.rep h n)
theorem VRs.ints:∀(ns:List Int),VRs Γ μ H (ns.map V.int) (ns.map D.int)
 |[]=>.nil
 |n::r=>.cons (.int n) (VRs.ints r)
theorem VRs.RQ:∀{xs:List V} {ns:List Int},VRs Γ μ H xs (ns.map D.int)->xs=ns.map V.int
 |_,[],.nil=>rfl
 |_,n::r,.cons q t=>by cases q;rw[U0j,VRs.RQ t]
end
abbrev Env:=List (Option D)
abbrev Store:=List (Option (List D))
def Cell(Γ:Fr)(μ:Mu)(H:Hp)(a:Addr)(ds:List D):Prop:=(∃xs,H a=some (.lst xs)/\VRs Γ μ H xs ds)∨∃kvs,ds=[.dcm kvs]/\H a=some (hoD kvs)
structure Rep(Γ:Fr)(μ:Mu)(Z3:St)(H:Hp)(env:Env)(S:Store):Prop where
 vals:∀(i:Nat)(d:D),env[i]?=some (some d)->∃v,Z3[i]?=some (some v)/\VR Γ μ H v d
 len:Z3.length=env.length
 sto:∀(i:Nat)(ds:List D),S[i]?=some (some ds)->∃a,μ[i]?=some (some a)/\Cell Γ μ H a ds
 liv:∀(i:Nat)(a:Addr),μ[i]?=some (some a)->∃ds,S[i]?=some (some ds)
 inj:∀(i j:Nat)(a:Addr),μ[i]?=some (some a)->μ[j]?=some (some a)->i=j
 slen:S.length=μ.length
 ent:Ext (Γ.m0.map some) Γ.H0 μ H
 new:∀(i:Nat)(a:Addr),Γ.m0.length<=i->μ[i]?=some (some a)->Γ.H0 a=none
section
variable{Γ:Fr}{μ μ':Mu}{Z3 ZY:St}{H H':Hp}{env env2:Env}{S S':Store}
def Cell.kind(c:Cell Γ μ H a ds):IsL H a∨IsK H a:=by
 rcases c with ⟨xs,h,_⟩|⟨kvs,_,h⟩
 .exact .inl ⟨xs,h⟩
 .exact .inr (.of h)
def Cell.list(c:Cell Γ μ H a ds)(l:IsL H a):∃xs,H a=some (.lst xs)/\VRs Γ μ H xs ds:=by
 obtain⟨ys,q⟩:=l;rcases c with z|⟨kvs,_,h⟩
 .exact z
 .exact(IsK.not (.of h) q (.inl ⟨_,rfl⟩)).elim
def Cell.dict(c:Cell Γ μ H a [.dcm kvs])(l:IsK H a):H a=some (hoD kvs):=by
 rcases c with ⟨xs,h,_⟩|⟨_,q,h⟩
 .exact(l.not h (.inl ⟨_,rfl⟩)).elim
 .cases q;exact h
def Cell.to(c:Cell Γ μ H a ds)(x:Ext μ H μ' H')(e:∀o,H a=some o->H' a=some o):Cell Γ μ' H' a ds:=by
 rcases c with ⟨xs,h,r⟩|⟨kvs,q,h⟩
 .exact .inl ⟨xs,e _ h,r.ext x⟩
 .exact .inr ⟨kvs,q,e _ h⟩
def Rep.live(R:Rep Γ μ Z3 H env S)(h:Cj μ a):IsL H a∨IsK H a:=by obtain⟨i,hi⟩:=U26.mp h;obtain⟨ds,hs⟩:=R.liv i a hi;obtain⟨b,h1,h2⟩:=R.sto i ds hs;rw[hi]at h1;cases h1;exact h2.kind
def Rep.dead(R:Rep Γ μ Z3 H env S)(h:H p=none):¬Cj μ p:=λz=>by rcases R.live z with ⟨xs,e⟩|⟨o,e,_⟩<;>(rw[h]at e;cases e)
def Rep.fresh(R:Rep Γ μ Z3 H env S)(h:H p=none):Γ.H0 p=none:=R.ent.none p h
def Rep.ok(R:Rep Γ μ Z3 H env S)(h:H p=none)(m:Bool):Γ.Ok m p:=⟨λ_=>R.fresh h,.inr (R.fresh h)⟩
def Rep.grow(R:Rep Γ μ Z3 H env S)(e:Same H H'):Rep Γ μ Z3 H' env S/\Ext μ H μ H':=by
 have x:Ext μ H μ H':=⟨λa o h n=>⟨e a o h,n⟩,λa xs h=>e a _ h,λa h=>e.free h,λ_ _ _ h=>h,U0o _,λa _ ⟨xs,h⟩=>⟨xs,e a _ h⟩,λa _ h=>h.to (e a)⟩;refine⟨⟨λi d h=>?_,R.len,λi ds h=>?_,R.liv,R.inj,R.slen,R.ent.trans x,R.new⟩,x⟩
 .obtain⟨v,h1,h2⟩:=R.vals i d h;exact⟨v,h1,h2.ext x⟩
 .obtain⟨a,h1,h2⟩:=R.sto i ds h;exact⟨a,h1,h2.to x λo q=>e _ _ q⟩
def Rep.back(R:Rep Γ μ Z3 H env S)(x:Ext μ H μ' H')(R2:Rep Γ μ' ZY H' env2 S'):Rep Γ μ' Z3 H' env S':=
 ⟨λi d h=>let ⟨v,h1,h2⟩:=R.vals i d h;⟨v,h1,h2.ext x⟩,R.len,R2.sto,R2.liv,R2.inj,R2.slen,R2.ent,R2.new⟩
def Rep.pO(R:Rep Γ μ Z3 H env S)(i:Nat)(r:VR Γ μ H v d):Rep Γ μ (Z3.set i (some v)) H (env.set i (some d)) S:=by
 refine⟨λj e h=>?_,by rw[U3p,U3p];exact R.len,R.sto,R.liv,R.inj,R.slen,R.ent,R.new⟩;by_cases hj:i=j
 .subst hj;have hl:i<env.length:=by have:=(U0l.mp h).1;rw[U3p]at this;exact this
  rw[U2p hl]at h;cases h;exact⟨v,U2p (by rw[R.len];exact hl),r⟩
 .rw[U2i hj]at h ⊢;exact R.vals j e h
theorem Rep.uf(R:Rep Γ μ Z3 H env S)(hp:H p=none)(r:∀μ' H',Ext μ H μ' H'->H' p=some o->Cell Γ μ' H' p ds) :
  Rep Γ (μ++[some p]) Z3 (upd H p o) env (S++[some ds])/\Ext μ H (μ++[some p]) (upd H p o):=by
 have ne:∀a o,H a=some o->a≠p:=λa o h z=>by rw[z,hp]at h;cases h
 have x:Ext μ H (μ++[some p]) (upd H p o):=by
  refine⟨λa o h n=>⟨by rw[Bt (ne a o h)];exact h,λz=>?_⟩,λa ys h=>by rw[Bt (ne a _ h)];exact h,λa h=>?_,λi a hi h=>?_,by rw[U0n];exact ar9,λa _ ⟨ys,h⟩=>⟨ys,by rw[Bt (ne a _ h)];exact h⟩,λa _ h=>h.to λo q=>by rw[Bt (ne a _ q)];exact q⟩
  .rcases U0x.mp z with z|z
   .exact n z
   .have z':a=p:=by simpa using z
    exact ne a o h z'
  .by_cases ha:a=p
   .rw[ha,CT]at h;cases h
   .rw[Bt ha]at h;exact h
  .rw[U1e hi]at h;exact h
 have idx:∀i a,(μ++[some p])[i]?=some (some a)->(i<μ.length/\μ[i]?=some (some a))∨(i=μ.length/\a=p):=λi a h=>by
  by_cases hi:i<μ.length
  .rw[U1e hi]at h;exact .inl ⟨hi,h⟩
  .rw[U2f (Ny hi)]at h;have hl:=(U0l.mp h).1;have hi':i=μ.length:=by simp at hl;lia
   subst hi';simp at h;exact .inr ⟨rfl,h.symm⟩
 have no:∀a,μ[a]?=some (some p)->False:=λi h=>R.dead hp (U00 h);refine⟨⟨λi d h=>?_,R.len,λi es h=>?_,λi a h=>?_,λi j a h1 h2=>?_,by rw[U0n,U0n,R.slen];rfl,R.ent.trans x,λi a hi h=>?_⟩,x⟩
 .obtain⟨v,h1,h2⟩:=R.vals i d h;exact⟨v,h1,h2.ext x⟩
 .by_cases hi:i<S.length
  .rw[U1e hi]at h;obtain⟨a,h1,h2⟩:=R.sto i es h;exact⟨a,by rw[U1e (by rw[←R.slen];exact hi)];exact h1,h2.to x λo q=>by rw[Bt (ne a _ q)];exact q⟩
  .rw[U2f (Ny hi)]at h;have hl:=(U0l.mp h).1;have hi':i=S.length:=by simp at hl;lia
   subst hi';simp at h;subst h;exact⟨p,by rw[R.slen];simp,r _ _ x CT⟩
 .rcases idx i a h with ⟨hi,h⟩|⟨rfl,rfl⟩
  .obtain⟨ds',q⟩:=R.liv i a h;exact⟨ds',by rw[U1e (by rw[R.slen];exact hi)];exact q⟩
  .exact⟨ds,by rw[←R.slen];simp⟩
 .rcases idx i a h1 with ⟨_,g1⟩|⟨e1,e2⟩
  .rcases idx j a h2 with ⟨_,g2⟩|⟨e3,e4⟩
   .exact R.inj i j a g1 g2
   .exact(no i (e4 ▸ g1)).elim
  .rcases idx j a h2 with ⟨_,g2⟩|⟨e3,_⟩
   .exact(no j (e2 ▸ g2)).elim
   .rw[e1,e3]
 .rcases idx i a h with ⟨_,h⟩|⟨rfl,rfl⟩
  .exact R.new i a hi h
  .exact R.fresh hp
def Rep.laid(R:Rep Γ μ Z3 H env S)(hp:H p=none)(r:VRs Γ μ H xs ds) :
  Rep Γ (μ++[some p]) Z3 (upd H p (.lst xs)) env (S++[some ds])/\Ext μ H (μ++[some p]) (upd H p (.lst xs)):=R.uf hp λ_ _ x q=>.inl ⟨xs,q,r.ext x⟩
def Rep.zj(R:Rep Γ μ Z3 H env S)(hi:μ[i]?=some (some a))(k1:IsL H a->IsL (upd H a o) a)(k2:IsK H a->IsK (upd H a o) a)(r:∀H',Ext μ H μ H'->H' a=some o->Cell Γ μ H' a ds) :
  Rep Γ μ Z3 (upd H a o) env (S.set i (some ds))/\Ext μ H μ (upd H a o):=by
 have hl:Cj μ a:=U00 hi;have hy:=R.live hl;have x:Ext μ H μ (upd H a o):=by
  refine⟨λb o h n=>⟨?_,n⟩,λb zs h=>?_,λb h=>?_,λ_ _ _ h=>h,U0o _,λb _ h=>?_,λb _ h=>?_⟩
  .rw[Bt (λz=>n (by rw[z];exact hl))];exact h
  .rw[Bt (λz=>by
    rw[z]at h;rcases hy with ⟨_,q⟩|q
    .rw[q]at h;cases h
    .exact q.not h (.inr ⟨_,rfl⟩))];exact h
  .by_cases hb:b=a
   .rw[hb,CT]at h;cases h
   .rw[Bt hb]at h;exact h
  .by_cases hb:b=a
   .subst hb;exact k1 h
   .obtain⟨ys,h⟩:=h;exact⟨ys,by rw[Bt hb];exact h⟩
  .by_cases hb:b=a
   .subst hb;exact k2 h
   .exact h.to λo q=>by rw[Bt hb];exact q
 have hiS:i<S.length:=by rw[R.slen];exact(U0l.mp hi).1
 refine⟨⟨λj d h=>?_,R.len,λj es h=>?_,λj b h=>?_,R.inj,by rw[U3p];exact R.slen,R.ent.trans x,R.new⟩,x⟩
 .obtain⟨v,h1,h2⟩:=R.vals j d h;exact⟨v,h1,h2.ext x⟩
 .by_cases hj:i=j
  .subst hj;rw[U2p hiS]at h;cases h;exact⟨a,hi,r _ x CT⟩
  .rw[U2i hj]at h;obtain⟨b,h1,h2⟩:=R.sto j es h;refine⟨b,h1,h2.to x λo q=>?_⟩;rw[Bt (λz=>hj (R.inj i j a hi (by rw[←z];exact h1)))];exact q
 .by_cases hj:i=j
  .subst hj;exact⟨ds,U2p hiS⟩
  .rw[U2i hj];exact R.liv j b h
def Rep.put(R:Rep Γ μ Z3 H env S)(hi:μ[i]?=some (some a))(hx:IsL H a)(r:VRs Γ μ H xs ds) :
  Rep Γ μ Z3 (upd H a (.lst xs)) env (S.set i (some ds))/\Ext μ H μ (upd H a (.lst xs)):=
 R.zj hi (λ_=>⟨xs,CT⟩) (λq=>by obtain⟨_,p⟩:=hx;exact(q.not p (.inl ⟨_,rfl⟩)).elim) λ_ x q=>.inl ⟨xs,q,r.ext x⟩
end
abbrev Bh:=Env->Store->Option (D×Store)
abbrev CQ:=Env->Store->Option (List D×Store)
abbrev Gf:=Env->Store->Option (Bool×Store)
abbrev VG:=Env->Store->Option (Option Int×Store)
inductive Fl where|nx|brk|cnt|ret (d:D)
abbrev BP:=Env->Store->Option (Fl×Env×Store)
abbrev Nz:=Env->Store->Option ((List D×List (Nat×List D))×Store)
abbrev VH:=D->Env->Option Env
def Ab(i:Nat):Bh:=λenv S=>(env[i]?.join).map λd=>(d,S)
def eC(d:D):Bh:=λ_ S=>some (d,S)
def eOp(g:Store->D->D->Option D)(a b:Bh):Bh:=λenv S=>(a env S).bind λp=>(b env p.2).bind λq=>(g q.2 p.1 q.1).map λd=>(d,q.2)
def eUn(g:Store->D->Option D)(a:Bh):Bh:=λenv S=>(a env S).bind λp=>(g p.2 p.1).map λd=>(d,p.2)
def Af:CQ:=λ_ S=>some ([],S)
def Aa(a:Bh)(r:CQ):CQ:=λenv S=>(a env S).bind λp=>(r env p.2).bind λq=>some (p.1::q.1,q.2)
def eCB(g:Store->List D->Option D)(a:CQ):Bh:=λenv S=>(a env S).bind λp=>(g p.2 p.1).map λd=>(d,p.2)
def Nv(a b:Bh):Bh:=λenv S=>(a env S).bind λp=>match p.1 with|.bl true=>b env p.2|.bl false=>some (.bl false,p.2)|_=>none
def gZ(a:Bh):Bh:=λenv S=>(a env S).bind λp=>match p.1 with|.bl c=>some (.bl (!c),p.2)|_=>none
def eIf(c:Gf)(a b:Bh):Bh:=λenv S=>(c env S).bind λp=>if p.1=true then a env p.2 else b env p.2
def PN(g g':Store->D->D->Option D)(a b c:Bh):Bh:=λenv S=>(a env S).bind λp=>(b env p.2).bind λq=>(g q.2 p.1 q.1).bind λz=>match z with
 |.bl true=>(c env q.2).bind λr=>(g' r.2 q.1 r.1).map λd=>(d,r.2)
 |.bl false=>some (.bl false,q.2)
 |_=>none
def BX(a:Bh):Gf:=λenv S=>(a env S).bind λp=>match p.1 with|.bl c=>some (c,p.2)|_=>none
def Nu(a b:Gf):Gf:=λenv S=>(a env S).bind λp=>if p.1=true then b env p.2 else some (false,p.2)
def tOr(a b:Gf):Gf:=λenv S=>(a env S).bind λp=>if p.1=true then some (true,p.2) else b env p.2
def G7(a:Gf):Gf:=λenv S=>(a env S).bind λp=>some (!p.1,p.2)
def FN:VG:=λ_ S=>some (none,S)
def FJ(a:Bh):VG:=λenv S=>(a env S).bind λp=>match p.1 with|.int i=>some (some i,p.2)|_=>none
def eSl(g:Store->D->Option Int->Option Int->Option D)(a:Bh)(l h:VG):Bh:=λenv S=>(a env S).bind λp=>(l env p.2).bind λq=>(h env q.2).bind λr=>(g r.2 p.1 q.1 r.1).map λd=>(d,r.2)
def BZ(a b:BP):BP:=λenv S=>(a env S).bind λp=>match p.1 with|.nx=>b p.2.1 p.2.2|f=>some (f,p.2.1,p.2.2)
def Dp:BP:=λenv S=>some (.nx,env,S)
def Qt:BP:=λ_ _=>none
def Ci(i:Nat)(a:Bh):BP:=λenv S=>(a env S).bind λp=>some (.nx,env.set i (some p.1),p.2)
def Sq(a:Bh)(g:VH):BP:=λenv S=>(a env S).bind λp=>(g p.1 env).bind λe=>some (.nx,e,p.2)
def Ge(a:Bh):BP:=λenv S=>(a env S).bind λp=>some (.nx,env,p.2)
def CN(a:Bh):BP:=λenv S=>(a env S).bind λp=>some (.ret p.1,env,p.2)
def sIf(c:Gf)(a b:BP):BP:=λenv S=>(c env S).bind λp=>if p.1=true then a env p.2 else b env p.2
inductive Pat where
 |nm (i:Nat)|tp (ps:List Pat)
mutual
def Pat.sem:Pat->D->Env->Option Env
 |.nm i,d,env=>some (env.set i (some d))
 |.tp ps,.tup ds,env=>Ik ps ds env
 |.tp _,_,_=>none
def Ik:List Pat->List D->Env->Option Env
 |[],[],env=>some env
 |p::ps,d::ds,env=>(Pat.sem p d env).bind λe=>Ik ps ds e
 |_,_,_=>none
end
mutual
def Pat.raw(K:U0e):Pat->TG
 |.nm i=>ZF i
 |.tp ps=>pY K ps.length (Kg K ps)
def Kg(K:U0e):List Pat->TGs
 |[]=>pZ
 |p::ps=>iZ (Pat.raw K p) (Kg K ps)
end
mutual
def Pat.low(k:Nat):Pat->Bool
 |.nm i=>decide (i<k)
 |.tp ps=>gY k ps
def gY(k:Nat):List Pat->Bool
 |[]=>true
 |p::ps=>Pat.low k p&&gY k ps
end
mutual
theorem Pat.mono(K:U0e):∀(p:Pat)(x:V)(Z3:St)(H:Hp)(Q Q':St->Hp->Prop),(∀ZZ H',Q ZZ H'->Q' ZZ H')->p.raw K x Z3 H Q->p.raw K x Z3 H Q'
 |.nm i,x,Z3,H,Q,Q',f,h=>by rw[Pat.raw]at h ⊢;exact f _ _ h
 |.tp ps,x,Z3,H,Q,Q',f,h=>by rw[Pat.raw]at h ⊢;obtain⟨a,xs,e,hs,hl,q⟩:=h;exact⟨a,xs,e,hs,hl,iR K ps xs Z3 H Q Q' f q⟩
theorem iR(K:U0e):∀(ps:List Pat)(x:List V)(Z3:St)(H:Hp)(Q Q':St->Hp->Prop),(∀ZZ H',Q ZZ H'->Q' ZZ H')->Kg K ps x Z3 H Q->Kg K ps x Z3 H Q'
 |[],x,Z3,H,Q,Q',f,h=>by rw[Kg]at h ⊢;exact⟨h.1,f _ _ h.2⟩
 |p::ps,x,Z3,H,Q,Q',f,h=>by rw[Kg]at h ⊢;obtain⟨v,r,e,q⟩:=h;exact⟨v,r,e,Pat.mono K p v Z3 H _ _ (λZT H1 z=>iR K ps r ZT H1 Q Q' f z) q⟩
end
mutual
theorem Pat.iV(K:U0e):∀(p:Pat),p.low k=true->Low k (p.raw K)
 |.nm i,h=>by rw[Pat.raw];rw[Pat.low]at h;exact rM (of_decide_eq_true h)
 |.tp ps,h=>by rw[Pat.raw];rw[Pat.low]at h;exact xO (lK K ps h)
theorem lK(K:U0e):∀(ps:List Pat),gY k ps=true->Za k (Kg K ps)
 |[],_=>by rw[Kg];exact xP
 |p::ps,h=>by rw[Kg];rw[gY,U1a]at h;exact rO (Pat.iV K p h.1) (lK K ps h.2) (Pat.mono K p) (iR K ps)
end
theorem aX:∀{ps:List Pat} {ds:List D} {env env':Env},Ik ps ds env=some env'->ds.length=ps.length
 |[],[],_,_,_=>rfl
 |[],_::_,_,_,h=>by simp[Ik]at h
 |_::_,[],_,_,h=>by simp[Ik]at h
 |p::ps,d::ds,env,env',h=>by
  rw[Ik]at h;cases e1:p.sem d env with
  |none=>rw[e1]at h;cases h
  |some env1=>
   rw[e1]at h;rw[U0f,U0f,aX (show Ik ps ds env1=some env' from h)]
mutual
theorem Pat.run(K:U0e):∀(p:Pat){v:V}{d:D}{Z3:St}{env env':Env}{Q:St->Hp->Prop},Rep Γ μ Z3 H env S->VR Γ μ H v d->p.sem d env=some env'->(∀ZZ,Rep Γ μ ZZ H env' S->Q ZZ H)->p.raw K v Z3 H Q
 |.nm i,v,d,Z3,env,env',Q,R,r,e,q=>by rw[Pat.raw];rw[Pat.sem]at e;cases e;exact q _ (R.pO i r)
 |.tp ps,v,d,Z3,env,env',Q,R,r,e,q=>by
  rw[Pat.raw];cases r with
  |@tup b xs ds hb rs=>
   rw[Pat.sem]at e;obtain⟨hl,w⟩:=zP K ps R rs e q;exact⟨b,xs,rfl,SqT.of hb,hl,w⟩
  |_=>simp[Pat.sem]at e
theorem zP(K:U0e):∀(ps:List Pat){vs:List V}{ds:List D}{Z3:St}{env env':Env}{Q:St->Hp->Prop},Rep Γ μ Z3 H env S->VRs Γ μ H vs ds->Ik ps ds env=some env'->(∀ZZ,Rep Γ μ ZZ H env' S->Q ZZ H)->vs.length=ps.length/\Kg K ps vs Z3 H Q
 |[],vs,ds,Z3,env,env',Q,R,r,e,q=>by
  rw[Kg];cases r with
  |nil=>rw[Ik]at e;cases e;exact⟨rfl,rfl,q Z3 R⟩
  |cons _ _=>simp[Ik]at e
 |p::ps,vs,ds,Z3,env,env',Q,R,r,e,q=>by
  rw[Kg];cases r with
  |nil=>simp[Ik]at e
  |@cons y d ys ds' r1 r2=>
   rw[Ik]at e;cases e1:p.sem d env with
   |none=>rw[e1]at e;cases e
   |some env1=>
    rw[e1]at e;have e':Ik ps ds' env1=some env':=e;have hl:ys.length=ps.length:=by rw[r2.length];exact aX e'
    exact⟨by rw[U0f,U0f,hl],y,ys,rfl,Pat.run K p R r1 e1 λZT R1=>(zP K ps R1 r2 e' q).2⟩
end
def calm(w:List (Nat×List D))(S:Store):Prop:=∀p∈w,S[p.1]?=some (some p.2)
open Classical in
def loop(w:List (Nat×List D))(g:VH)(b:BP):List D->BP
 |[],env,S=>if calm w S then some (.nx,env,S) else none
 |d::r,env,S=>if calm w S then (g d env).bind λe=>(b e S).bind λp=>match p.1 with
   |.nx=>loop w g b r p.2.1 p.2.2
   |.cnt=>loop w g b r p.2.1 p.2.2
   |.brk=>some (.nx,p.2.1,p.2.2)
   |.ret d=>some (.ret d,p.2.1,p.2.2)
  else none
def K4(it:Nz)(g:VH)(b:BP):BP:=λenv S=>(it env S).bind λp=>loop p.1.2 g b p.1.1 env p.2
def Ew(k:Nat)(caps:List Nat)(env:Env):Env:=U06 k none++caps.map λj=>(env[j]?).join
open Classical in
def Gn(w:List (Nat×List D))(e0:Env)(g:VH)(t:Gf)(e:Bh):List D->List D->Store->Option (List D×Store)
 |[],ys,S=>if calm w S/\ys.length<=1000000 then some (ys,S) else none
 |d::r,ys,S=>if calm w S/\ys.length<=1000000 then (g d e0).bind λe1=>(t e1 S).bind λp=>
   if p.1=true then (e e1 p.2).bind λq=>Gn w e0 g t e r (ys++[q.1]) q.2 else Gn w e0 g t e r ys p.2
  else none
def Ck(k:Nat)(caps:List Nat)(it:Nz)(g:VH)(t:Gf)(e:Bh):CQ:=λenv S=>(it env S).bind λp=>Gn p.1.2 (Ew k caps env) g t e p.1.1 [] p.2
def Fd:Gf:=λ_ S=>some (true,S)
def Bk(a:CQ):Bh:=λenv S=>(a env S).bind λp=>some (.lst true p.1,p.2)
def Ld(a:CQ):Bh:=λenv S=>(a env S).bind λp=>some (.ref p.2.length,p.2++[some p.1])
def Di(a:CQ):Bh:=λenv S=>(a env S).bind λp=>some (.tup p.1,p.2)
inductive WE (K:U0e) (f:Bh) (Z3:St) (H:Hp) (Q:VK):Prop
 |mk (Γ:Fr) (μ:Mu) (env:Env) (S:Store) (d:D) (S':Store):Γ.K=K->Rep Γ μ Z3 H env S->f env S=some (d,S')->(∀v μ' H',Ext μ H μ' H'->Rep Γ μ' Z3 H' env S'->VR Γ μ' H' v d->Q v H')->WE K f Z3 H Q
def wpE(K:U0e)(f:Bh):TE:=WE K f
inductive WA (K:U0e) (f:CQ) (Z3:St) (H:Hp) (Q:List V->Hp->Prop):Prop
 |mk (Γ:Fr) (μ:Mu) (env:Env) (S:Store) (d:List D) (S':Store):Γ.K=K->Rep Γ μ Z3 H env S->f env S=some (d,S')->(∀v μ' H',Ext μ H μ' H'->Rep Γ μ' Z3 H' env S'->VRs Γ μ' H' v d->Q v H')->WA K f Z3 H Q
def wpA(K:U0e)(f:CQ):TA:=WA K f
inductive WT {Zp:Type} (K:U0e) (f:Env->Store->Option (Zp×Store)) (Z3:St) (H:Hp) (Q:Zp->Hp->Prop):Prop
 |mk (Γ:Fr) (μ:Mu) (env:Env) (S:Store) (b:Zp) (S':Store):Γ.K=K->Rep Γ μ Z3 H env S->f env S=some (b,S')->(∀μ' H',Ext μ H μ' H'->Rep Γ μ' Z3 H' env S'->Q b H')->WT K f Z3 H Q
def wpT(K:U0e)(f:Gf):TT:=WT K f
def wpO(K:U0e)(f:VG):TO:=WT K f
def FlQ(Γ:Fr)(μ:Mu)(E:Ends)(Z3:St)(H:Hp):Fl->Prop
 |.nx=>E.nx Z3 H
 |.brk=>E.bk Z3 H
 |.cnt=>E.ct Z3 H
 |.ret d=>∀v,VR Γ μ H v d->E.rt v H
inductive WS (K:U0e) (f:BP) (E:Ends) (Z3:St) (H:Hp):Prop
 |mk (Γ:Fr) (μ:Mu) (env:Env) (S:Store) (fl:Fl) (env':Env) (S':Store):Γ.K=K->Rep Γ μ Z3 H env S->f env S=some (fl,env',S')->(∀μ' ZZ H',Ext μ H μ' H'->Rep Γ μ' ZZ H' env' S'->FlQ Γ μ' E ZZ H' fl)->WS K f E Z3 H
def wpS(K:U0e)(f:BP):TS:=WS K f
structure Zb(Γ:Fr)(μ:Mu)(H:Hp)(J:It)(ds:List D)(w:List (Nat×List D)):Prop where
 step:∀(i:Nat)(d:D)(μ':Mu)(H':Hp)(ZZ:St)(env':Env)(S':Store),ds[i]?=some d->Ext μ H μ' H'->Rep Γ μ' ZZ H' env' S'->calm w S'->J.go i H'/\∀x H'',J.yld i H' x H''->Same H' H''/\VR Γ μ' H'' x d
 stop:∀(μ':Mu)(H':Hp)(ZZ:St)(env':Env)(S':Store),Ext μ H μ' H'->Rep Γ μ' ZZ H' env' S'->calm w S'->J.stop ds.length H'
inductive WI (K:U0e) (f:Nz) (Z3:St) (H:Hp) (R:It->Hp->Prop):Prop
 |mk (Γ:Fr) (μ:Mu) (env:Env) (S:Store) (ds:List D) (w:List (Nat×List D)) (S':Store):Γ.K=K->Rep Γ μ Z3 H env S->f env S=some ((ds,w),S')->(∀J μ' H',Ext μ H μ' H'->Rep Γ μ' Z3 H' env S'->Zb Γ μ' H' J ds w->R J H')->WI K f Z3 H R
def wpI(K:U0e)(f:Nz):TI:=WI K f
structure JE(X:Cx)(e:Expr)(f:Bh):Prop where
 pe:PE X e (wpE X.K f)
structure JA(X:Cx)(es:List Expr)(f:CQ):Prop where
 pa:PA X es (wpA X.K f)
structure JT(X:Cx)(e:Expr)(f:Gf):Prop where
 pt:PT X e (wpT X.K f)
structure JW(X:Cx)(e:Expr)(f:Gf):Prop where
 pw:PW X e (wpT X.K f)
structure JO(X:Cx)(e:Option Expr)(f:VG):Prop where
 po:PO X e (wpO X.K f)
structure JS(X:Cx)(st:Stmt)(f:BP):Prop where
 ps:PS X st (wpS X.K f)
structure JSs(X:Cx)(sts:List Stmt)(f:BP):Prop where
 ps:PSs X sts (wpS X.K f)
structure JI(X:Cx)(tg e:Expr)(f:Nz):Prop where
 pi:PI X tg e (wpI X.K f)
structure JG(X:Cx)(tg:Expr)(p:Pat):Prop where
 pg:PG X tg (p.raw X.K)
structure JGs(X:Cx)(tgs:List Expr)(ps:List Pat):Prop where
 pg:PGs X tgs (Kg X.K ps)
structure JTs(X:Cx)(es:List Expr)(f:Gf):Prop where
 pt:PTs X es (wpT X.K f)
section
variable{X:Cx}
def PE.imp(h:PE X e t)(k:∀Z3 H Q,t' Z3 H Q->t Z3 H Q):PE X e t':=λpins s Z3 H Q I q=>h pins s Z3 H Q I (k Z3 H Q q)
def PT.imp(h:PT X e t)(k:∀Z3 H Q,t' Z3 H Q->t Z3 H Q):PT X e t':=λpins s Z3 H Q I q=>h pins s Z3 H Q I (k Z3 H Q q)
def PW.imp(h:PW X e t)(k:∀Z3 H Q,t' Z3 H Q->t Z3 H Q):PW X e t':=λw pins s Z3 H Q I q=>h w pins s Z3 H Q I (k Z3 H Q q)
def PTs.imp(h:PTs X e t)(k:∀Z3 H Q,t' Z3 H Q->t Z3 H Q):PTs X e t':=λpins s Z3 H Q I q=>h pins s Z3 H Q I (k Z3 H Q q)
def PA.imp(h:PA X e t)(k:∀Z3 H Q,t' Z3 H Q->t Z3 H Q):PA X e t':=λp pins s Z3 H Q I q=>h p pins s Z3 H Q I (k Z3 H Q q)
def PO.imp(h:PO X e t)(k:∀Z3 H Q,t' Z3 H Q->t Z3 H Q):PO X e t':=λpins s Z3 H Q I q=>h pins s Z3 H Q I (k Z3 H Q q)
def PS.imp(h:PS X e t)(k:∀E Z3 H,t' E Z3 H->t E Z3 H):PS X e t':=λpins s Z3 H E I q=>h pins s Z3 H E I (k E Z3 H q)
def PSs.imp(h:PSs X e t)(k:∀E Z3 H,t' E Z3 H->t E Z3 H):PSs X e t':=λpins s Z3 H E I q=>h pins s Z3 H E I (k E Z3 H q)
def PI.imp(h:PI X tg e t)(k:∀Z3 H R,t' Z3 H R->t Z3 H R):PI X tg e t':=λpins s Z3 H R I q=>h pins s Z3 H R I (k Z3 H R q)
def bind_some{Zp Zl:Type}{a:Option Zp}{f:Zp->Option Zl}{b:Zl}(h:a.bind f=some b):∃x,a=some x/\f x=some b:=by
 cases a with
 |none=>cases h
 |some x=>exact⟨x,rfl,h⟩
def map_some{Zp Zl:Type}{a:Option Zp}{f:Zp->Zl}{b:Zl}(h:a.map f=some b):∃x,a=some x/\f x=b:=by
 cases a with
 |none=>cases h
 |some x=>exact⟨x,rfl,U08 h⟩
def G8(K:U0e)(r:R2)(g:Store->D->D->Option D):Prop:=∀(Γ:Fr)(μ:Mu)(Z3:St)(H:Hp)(env:Env)(S:Store)(x y:V)(dx dy d:D),Γ.K=K->Rep Γ μ Z3 H env S->VR Γ μ H x dx->VR Γ μ H y dy->g S dx dy=some d ->
 ∀Q:VK,(∀v H',Same H H'->VR Γ μ H' v d->Q v H')->r x y H Q
def Jag(K:U0e)(r:V->Hp->VK->Prop)(g:Store->D->Option D):Prop:=∀(Γ:Fr)(μ:Mu)(Z3:St)(H:Hp)(env:Env)(S:Store)(x:V)(dx d:D),Γ.K=K->Rep Γ μ Z3 H env S->VR Γ μ H x dx->g S dx=some d ->
 ∀Q:VK,(∀v H',Same H H'->VR Γ μ H' v d->Q v H')->r x H Q
def Lg(K:U0e)(r:List V->Hp->VK->Prop)(g:Store->List D->Option D):Prop:=∀(Γ:Fr)(μ:Mu)(Z3:St)(H:Hp)(env:Env)(S:Store)(xs:List V)(ds:List D)(d:D),Γ.K=K->Rep Γ μ Z3 H env S->VRs Γ μ H xs ds->g S ds=some d ->
 ∀Q:VK,(∀v H',Same H H'->VR Γ μ H' v d->Q v H')->r xs H Q
def uq(K:U0e)(r:V->Option Int->Option Int->Hp->VK->Prop)(g:Store->D->Option Int->Option Int->Option D):Prop:=∀(Γ:Fr)(μ:Mu)(Z3:St)(H:Hp)(env:Env)(S:Store)(x:V)(dx d:D)(l h:Option Int),Γ.K=K->Rep Γ μ Z3 H env S->VR Γ μ H x dx->g S dx l h=some d ->
 ∀Q:VK,(∀v H',Same H H'->VR Γ μ H' v d->Q v H')->r x l h H Q
def Z8{K:U0e}{r:R2}{g:Store->D->D->Option D}{fa fb:Bh}(hs:G8 K r g){Z3:St}{H:Hp}{Q:VK}(h:wpE K (eOp g fa fb) Z3 H Q):tOp r (wpE K fa) (wpE K fb) Z3 H Q:=by exact`zb;exact`zd;obtain⟨⟨y,S2⟩,e2,e⟩:=bind_some e;obtain⟨z,e3,e⟩:=map_some e;cases e;exact`ze;exact`zw;refine hs Γ μ2 Z3 H2 env S2 v1 v2 x y _ hK R2 (r1.ext x2) r2 e3 Q λv H' sm rv=>?_;obtain⟨R3,x3⟩:=R2.grow sm;exact q v μ2 H' (x1.trans (x2.trans x3)) R3 rv
def BL(ho:OpR X (binaryOp op) r)(hs:G8 X.K r g)(ha:JE X a fa)(hb:JE X b fb):JE X (.BinOp a op b pos) (eOp g fa fb):=
 ⟨PE.imp (Jdy ho ha.pe hb.pe) λ_ _ _ h=>Z8 hs h⟩
def Jh(ho:OpR X (compareOp op) r)(hs:G8 X.K r g)(ha:JE X a fa)(hb:JE X b fb)(hm:behindInMarks op b=false):JE X (.Compare a [op] [b] pos) (eOp g fa fb):=
 ⟨PE.imp (fL ho ha.pe hb.pe hm) λ_ _ _ h=>Z8 hs h⟩
def Bl(ho:IxR X r)(hs:G8 X.K r g)(ha:JE X a fa)(hb:JE X b fb)(hp:Um b):JE X (.Subscript a b pos) (eOp g fa fb):=
 ⟨PE.imp (Jdz ho ha.pe hb.pe hp) λ_ _ _ h=>Z8 hs h⟩
def Q8{op:UnaryOp}{r:V->Hp->VK->Prop}{g:Store->D->Option D}{a:Expr}{fa:Bh}{pos:Pos}(ho:UnR X (unaryOp op) r)(hs:Jag X.K r g)(ha:JE X a fa):JE X (.UnaryOp op a pos) (eUn g fa):=
 ⟨PE.imp (uX ho ha.pe) λZ3 H Q h=>by
  exact`zb;exact`zd;obtain⟨z,e3,e⟩:=map_some e;cases e;exact`ze;refine hs Γ μ1 Z3 H1 env S1 v1 x _ hK R1 r1 e3 Q λv H' sm rv=>?_;obtain⟨R3,x3⟩:=R1.grow sm;exact q v μ1 H' (x1.trans x3) R3 rv⟩
def Ac(i:Nat){x:Str}{pos:Pos}(hN:X.N[i]?=some x:=by rfl)(hv:Vis X.env.scope x:=by first|exact U8q rfl|exact U7t (U8q rfl)|exact U7t (U7t rfl))(hd:(x==("__debug__":Str))=false:=by decide)
  (hcd:(x==("__classdict__":Str))=false:=by decide):JE X (.Name x pos) (Ab i):=
 ⟨PE.imp (kW hN hv hd hcd) λZ3 H Q h=>by
  exact`zb;obtain⟨d',e1,e⟩:=map_some e;cases e;have e1':env[i]?=some (some d):=by
   cases h:env[i]? with
   |none=>rw[h]at e1;cases e1
   |some o=>rw[h]at e1;exact congrArg some e1
  obtain⟨v,h1,h2⟩:=R.vals i d e1';exact⟨v,h1,q v μ H (Ext.refl _ _) R h2⟩⟩
def pN(h:∀Γ μ H,VR Γ μ H v d)(w:wpE K (eC d) Z3 H Q):tC v Z3 H Q:=by obtain⟨Γ,μ,env,S,d',S',hK,R,e,q⟩:=w;cases e;exact q v μ H (Ext.refl _ _) R (h Γ μ H)
def Ah{i j pos}:JE X (.Constant (.int i) j pos) (eC (.int i)):=⟨PE.imp kZ λ_ _ _=>pN λ_ _ _=>.int i⟩
def HY{b j pos}:JE X (.Constant (.bool b) j pos) (eC (.bl b)):=⟨PE.imp Jd1 λ_ _ _=>pN λ_ _ _=>.bl b⟩
def Q9(hg:Gl X x)(hm:X.mg x=none)(hv:bootBuiltins x=some (.type n))(hn:x≠"__name__":=by decide)(hd:(x==("__debug__":Str))=false:=by decide):JE X (.Name x pos) (eC (.ty n)):=
 ⟨PE.imp (wY (v:=.ty n) hg hm hv rfl hn hd) λ_ _ _=>pN λ_ _ _=>.ty n⟩
def Ag:JA X [] Af:=⟨PA.imp Sx λZ3 H Q h=>by
 exact`zb;cases e;exact q [] μ H (Ext.refl _ _) R .nil⟩
def Ad{e:Expr}{es:List Expr}{f:Bh}{r:CQ}(ha:JE X e f)(hr:JA X es r)(hs:starEach (e::es) X.env=(false,eval e X.env)::starEach es X.env:=by rfl):JA X (e::es) (Aa f r):=
 ⟨PA.imp (Qy ha.pe hr.pa hs) λZ3 H Q h=>by
  exact`zb;exact`zd;obtain⟨⟨y,S2⟩,e2,e⟩:=bind_some e;cases e;exact`ze;exact`zw;exact q _ μ2 H2 (x1.trans x2) R2 (.cons (r1.ext x2) r2)⟩
def big{n:Nat}(h:n<=1000000):n<sizeLine:=U4g h (by decide)
def Jam{K:U0e}{f:CQ}{Z3:St}{H:Hp}{Q:VK}(hl:∀env S p,f env S=some p->p.1.length<=1000000)(h:wpE K (Di f) Z3 H Q):zK (wpA K f) Z3 H Q:=by exact`zb;exact`zd;cases e;refine⟨Γ,μ,env,S,x,S1,hK,R,e1,λvs μ1 H1 x1 R1 r1=>⟨by rw[r1.length];exact U2o (big (hl _ _ _ e1)),λp hp=>?_⟩⟩;have sm:=DY hp (.tup vs);obtain⟨R2,x2⟩:=R1.grow sm;exact q _ μ1 _ (x1.trans x2) R2 (.tup CT (r1.ext x2))
def Few(n:Nat)(f:CQ):Prop:=∀env S p,f env S=some p->p.1.length<=n
def BW:Few 0 Af:=λenv S p h=>by cases h;exact U0o _
def Ao{n:Nat}{f:Bh}{r:CQ}(h:Few n r):Few (n+1) (Aa f r):=λenv S p e=>by exact`zd;obtain⟨⟨y,S2⟩,e2,e⟩:=bind_some e;cases e;have:=h _ _ _ e2;show(x::y).length<=n+1;rw[U0f];exact Nat.succ_le_succ this
def Dj(h:JA X es f)(hf:Few n f)(hn:n<=1000000:=by decide):JE X (.Tuple es x1 pos) (Di f):=⟨PE.imp (Jbc h.pa) λ_ _ _ w=>Jam (λenv S p e=>U01 (hf env S p e) hn) w⟩
def EY{es:List Expr}{f:CQ}{pos:Pos}{n:Nat}(h:JA X es f)(hf:Few n f)(hn:n<=1000000:=by decide):JE X (.List es pos) (Bk f):=⟨PE.imp (kY h.pa) λZ3 H Q w=>by
 obtain⟨Γ,μ,env,S,d,S',hK,R,e,q⟩:=w;exact`zd;cases e;refine⟨Γ,μ,env,S,x,S1,hK,R,e1,λvs μ1 H1 x1 R1 r1=>⟨by rw[r1.length];exact U2o (big (U01 (hf _ _ _ e1) hn)),λp hp=>?_⟩⟩;obtain⟨R2,x2⟩:=R1.grow (DY hp (.lst vs));exact q _ μ1 _ (x1.trans x2) R2 (.lst (R1.ok hp true) (R1.dead hp) CT (r1.ext x2))⟩
def Oq{es:List Expr}{f:CQ}{pos:Pos}{n:Nat}(h:JA X es f)(hf:Few n f)(hn:n<=1000000:=by decide):JE X (.List es pos) (Ld f):=⟨PE.imp (kY h.pa) λZ3 H Q w=>by
 obtain⟨Γ,μ,env,S,d,S',hK,R,e,q⟩:=w;exact`zd;cases e;refine⟨Γ,μ,env,S,x,S1,hK,R,e1,λvs μ1 H1 x1 R1 r1=>⟨by rw[r1.length];exact U2o (big (U01 (hf _ _ _ e1) hn)),λp hp=>?_⟩⟩;obtain⟨R2,x2⟩:=R1.laid hp r1;exact q _ _ _ (x1.trans x2) R2 (.ref (by rw[U0n,R1.slen];simp) λa h=>by
  rw[R1.slen]at h;simp at h;rw[←h];exact⟨rfl,⟨_,CT⟩⟩)⟩
end
section
variable{X:Cx}{a b c:Expr}{fa fb fc:Bh}{pos:Pos}{rest:List Expr}
def Qu{op}(h:JE X a fa):JE X (.BoolOp op [a] pos) fa:=⟨Jbd h.pe⟩
def PK(ha:JE X a fa)(hb:JE X (.BoolOp .And (b::rest) pos) fb):JE X (.BoolOp .And (a::b::rest) pos) (Nv fa fb):=⟨PE.imp (Jbf ha.pe hb.pe) λZ3 H Q h=>by
 exact`zb;exact`zd;exact`ze;exact`qc;split at e
 .obtain rfl:=r1.inv;exact⟨true,rfl,by rw[if_pos rfl];exact⟨Γ,μ1,env,S1,d,S',hK,R1,e,λv μ' H' x' R' r'=>q v μ' H' (x1.trans x') R' r'⟩⟩
 .obtain rfl:=r1.inv;cases e;exact⟨false,rfl,by rw[if_neg U05];exact q _ μ1 H1 x1 R1 (.bl false)⟩
 .cases e⟩
def lG(ha:JE X a fa):JE X (.UnaryOp .Not a pos) (gZ fa):=⟨PE.imp (Jbe ha.pe) λZ3 H Q h=>by
 exact`zb;exact`zd;exact`ze;exact`qc;split at e
 .rename_i c;obtain rfl:=r1.inv;cases e;exact⟨c,rfl,q _ μ1 H1 x1 R1 (.bl _)⟩
 .cases e⟩
def Gd(h:JE X e fa)(he:∀whole,isTrue e X.env whole=(do let v ←whole;standAt e.pos;holding [v] (truthy v)):=by intro _;rfl):JT X e (BX fa):=⟨PT.imp (Ja4 h.pe he) λZ3 H Q h=>by
 exact`zb;exact`zd;exact`ze;exact`qc;split at e
 .rename_i c;obtain rfl:=r1.inv;cases e;exact⟨_,rfl,q μ1 H1 x1 R1⟩
 .cases e⟩
def dz(ht:∀Z3 H Q,wpE K f Z3 H Q->t Z3 H Q){Q:Bool->Hp->Prop}(h:wpT K (BX f) Z3 H Q):iH t Z3 H Q:=by
 exact`zb;exact`zd;refine ht Z3 H _ ⟨Γ,μ,env,S,x,S1,hK,R,e1,λv1 μ1 H1 x1 R1 r1=>?_⟩;exact`qc;split at e
 .obtain rfl:=r1.inv;cases e;exact⟨_,rfl,q μ1 H1 x1 R1⟩
 .cases e
def Cm(ho:OpR X (compareOp op) r)(hs:G8 X.K r g)(ha:JE X a fa)(hb:JE X b fb)(hm:behindInMarks op b=false):JT X (.Compare a [op] [b] pos) (BX (eOp g fa fb)):=
 ⟨PT.imp (wF ho ha.pe hb.pe hm) λZ3 H Q h=>dz (λ_ _ _=>Z8 hs) h⟩
def aD(hs:G8 K r g)(hs':G8 K r' g')(h:wpE K (PN g g' fa fb fc) Z3 H Q):Zi r r' (wpE K fa) (wpE K fb) (wpE K fc) Z3 H Q:=by
 exact`zb;exact`zd;obtain⟨⟨y,S2⟩,e2,e⟩:=bind_some e;obtain⟨z,e3,e⟩:=bind_some e;exact`ze;exact`zw;refine hs Γ μ2 Z3 H2 env S2 v1 v2 x y _ hK R2 (r1.ext x2) r2 e3 _ λv H3 sm rv=>?_;obtain⟨R3,x3⟩:=R2.grow sm;exact`qc;split at e
 .obtain rfl:=rv.inv;refine⟨true,rfl,?_⟩;rw[if_pos rfl];obtain⟨⟨u,S3⟩,e4,e⟩:=bind_some e;obtain⟨w,e5,e⟩:=map_some e;cases e;refine⟨Γ,μ2,env,S2,u,S3,hK,R3,e4,λv4 μ4 H4 x4 R4 r4=>?_⟩;refine hs' Γ μ4 Z3 H4 env S3 v2 v4 y u _ hK R4 (r2.ext (x3.trans x4)) r4 e5 _ λv5 H5 sm5 rv5=>?_;obtain⟨R5,x5⟩:=R4.grow sm5;exact q v5 μ4 H5 (x1.trans (x2.trans (x3.trans (x4.trans x5)))) R5 rv5
 .obtain rfl:=rv.inv;cases e;refine⟨false,rfl,?_⟩;rw[if_neg U05];exact q _ μ2 H3 (x1.trans (x2.trans x3)) R3 (.bl false)
 .cases e
def sY(ho:OpR X (compareOp op) r)(hs:G8 X.K r g)(ho':OpR X (compareOp op') r')(hs':G8 X.K r' g')(ha:JE X a fa)(hb:JE X b fb)(hc:JE X c fc)
  (hm:lastMarks [op,op'] [b,c]=false:=by with_unfolding_all rfl):JE X (.Compare a [op,op'] [b,c] pos) (PN g g' fa fb fc):=⟨PE.imp (rF ho ho' ha.pe hb.pe hc.pe hm) λ_ _ _ h=>aD hs hs' h⟩
def bF(ho:OpR X (compareOp op) r)(hs:G8 X.K r g)(ho':OpR X (compareOp op') r')(hs':G8 X.K r' g')(ha:JE X a fa)(hb:JE X b fb)(hc:JE X c fc)
  (hm:lastMarks [op,op'] [b,c]=false:=by with_unfolding_all rfl):JT X (.Compare a [op,op'] [b,c] pos) (BX (PN g g' fa fb fc)):=⟨PT.imp (qt ho ho' ha.pe hb.pe hc.pe hm) λ_ _ _ h=>dz (λ_ _ _=>aD hs hs') h⟩
variable{ta tb:Gf}
def Hw(h:JW X a ta):JT X a ta:=⟨h.pw.pt⟩
def Xp(ha:JT X a ta):JW X (.BoolOp .And [a] pos) ta:=⟨vp ha.pt⟩
def Hl(ha:JT X a ta):JW X (.BoolOp .Or [a] pos) ta:=⟨Ja2 ha.pt⟩
def W6(ha:JT X a ta)(hb:JW X (.BoolOp .And (b::rest) pos) tb):JW X (.BoolOp .And (a::b::rest) pos) (Nu ta tb):=⟨PW.imp (Ja3 ha.pt hb.pw) λZ3 H Q h=>by
 exact`zb;exact`zd;refine⟨Γ,μ,env,S,x,S1,hK,R,e1,fun μ1 H1 x1 R1=>?_⟩;exact`qc;by_cases hx:x=true
 .rw[if_pos hx]at e ⊢;exact⟨Γ,μ1,env,S1,d,S',hK,R1,e,fun μ' H' x' R'=>q μ' H' (x1.trans x') R'⟩
 .rw[if_neg hx]at e ⊢;cases e;exact q μ1 H1 x1 R1⟩
def HX(ha:JT X a ta)(hb:JW X (.BoolOp .Or (b::rest) pos) tb):JW X (.BoolOp .Or (a::b::rest) pos) (tOr ta tb):=⟨PW.imp (Jdw ha.pt hb.pw) λZ3 H Q h=>by
 exact`zb;exact`zd;refine⟨Γ,μ,env,S,x,S1,hK,R,e1,fun μ1 H1 x1 R1=>?_⟩;exact`qc;by_cases hx:x=true
 .rw[if_pos hx]at e ⊢;cases e;exact q μ1 H1 x1 R1
 .rw[if_neg hx]at e ⊢;exact⟨Γ,μ1,env,S1,d,S',hK,R1,e,fun μ' H' x' R'=>q μ' H' (x1.trans x') R'⟩⟩
def Ho(ha:JT X a ta):JT X (.UnaryOp .Not a pos) (G7 ta):=⟨PT.imp (Ja5 ha.pt) λZ3 H Q h=>by
 exact`zb;exact`zd;cases e;exact⟨Γ,μ,env,S,x,S1,hK,R,e1,fun μ1 H1 x1 R1=>q μ1 H1 x1 R1⟩⟩
def sV(hc:JT X c ta)(ha:JE X a fa)(hb:JE X b fb):JE X (.IfExp c a b pos) (eIf ta fa fb):=⟨PE.imp (rC hc.pt ha.pe hb.pe) λZ3 H Q h=>by
 exact`zb;exact`zd;refine⟨Γ,μ,env,S,x,S1,hK,R,e1,fun μ1 H1 x1 R1=>?_⟩;exact`qc;by_cases hx:x=true
 .rw[if_pos hx]at e ⊢;exact⟨Γ,μ1,env,S1,d,S',hK,R1,e,λv μ' H' x' R' r=>q v μ' H' (x1.trans x') R' r⟩
 .rw[if_neg hx]at e ⊢;exact⟨Γ,μ1,env,S1,d,S',hK,R1,e,λv μ' H' x' R' r=>q v μ' H' (x1.trans x') R' r⟩⟩
def Et:JTs X [] Fd:=⟨PTs.imp wD λZ3 H Q h=>by
 exact`zb;cases e;exact q μ H (Ext.refl _ _) R⟩
def R0(h:JT X c ta):JTs X [c] ta:=⟨wC h.pt⟩
variable{lo hi:Option Expr}{ol oh:VG}{p2:Pos}
def Gy:JO X none FN:=⟨PO.imp wN λZ3 H Q h=>by
 exact`zb;cases e;exact q μ H (Ext.refl _ _) R⟩
def Gx(h:JE X a fa):JO X (some a) (FJ fa):=⟨PO.imp (wM h.pe) λZ3 H Q h=>by
 exact`zb;exact`zd;exact`ze;exact`qc;split at e
 .obtain rfl:=r1.inv;cases e;exact⟨_,rfl,q μ1 H1 x1 R1⟩
 .cases e⟩
def GJ{r:V->Option Int->Option Int->Hp->VK->Prop}(hr:SlR X r)(hs:uq X.K r g)(ha:JE X a fa)(hl:JO X lo ol)(hh:JO X hi oh) :
  JE X (.Subscript a (.Slice lo hi none p2) pos) (eSl g fa ol oh):=⟨PE.imp (rA hr ha.pe hl.po hh.po) λZ3 H Q h=>by
 exact`zb;exact`zd;obtain⟨⟨l,S2⟩,e2,e⟩:=bind_some e;obtain⟨⟨u,S3⟩,e3,e⟩:=bind_some e;obtain⟨z,e4,e⟩:=map_some e;cases e;exact`ze;refine⟨Γ,μ1,env,S1,l,S2,hK,R1,e2,fun μ2 H2 x2 R2=>?_⟩;refine⟨Γ,μ2,env,S2,u,S3,hK,R2,e3,fun μ3 H3 x3 R3=>?_⟩;refine hs Γ μ3 Z3 H3 env S3 v1 x _ l u hK R3 (r1.ext (x2.trans x3)) e4 Q λv H' sm rv=>?_;obtain⟨R4,x4⟩:=R3.grow sm;exact q v μ3 H' (x1.trans (x2.trans (x3.trans x4))) R4 rv⟩
def uI{r:List V->Hp->VK->Prop}(hs:Lg K r g)(h:wpE K (eCB g f) Z3 H Q):tCB r (wpA K f) Z3 H Q:=by exact`zb;exact`zd;obtain⟨z,e4,e⟩:=map_some e;cases e;exact`ze;refine hs Γ μ1 Z3 H1 env S1 v1 x _ hK R1 r1 e4 Q λv H' sm rv=>?_;obtain⟨R4,x4⟩:=R1.grow sm;exact q v μ1 H' (x1.trans x4) R4 rv
variable{x:Str}{p:Pos}{e:Expr}{es:List Expr}{id T:String}{f:CQ}
def Bw{r:List V->Hp->VK->Prop}(hc:Eh X (.builtin id) r)(hsm:Lg X.K r g)(hg:Gl X x)(hm:X.mg x=none)(hv:bootBuiltins x=some (.builtin id))(ha:JA X (e::es) f)(hn:x≠"__name__":=by decide)(hdb:(x==("__debug__":Str))=false:=by decide)
  (he:starEach (e::es) X.env=(false,eval e X.env)::starEach es X.env:=by rfl) (hpl:(backTo pos (starEach es X.env)).any (·.1)=false:=by rfl):JE X (.Call (.Name x p) (e::es) [] pos) (eCB g f):=
 ⟨PE.imp (VL hc hg hm hv ha.pa hn hdb he hpl) λ_ _ _ h=>uI hsm h⟩
def Lb{r:List V->Hp->VK->Prop}(hc:Eh X (.type T) r)(hsm:Lg X.K r g)(hg:Gl X x)(hm:X.mg x=none)(hv:bootBuiltins x=some (.type T))(ha:JA X (e::es) f)(hn:x≠"__name__":=by decide)(hdb:(x==("__debug__":Str))=false:=by decide)
  (he:starEach (e::es) X.env=(false,eval e X.env)::starEach es X.env:=by rfl) (hpl:(backTo pos (starEach es X.env)).any (·.1)=false:=by rfl):JE X (.Call (.Name x p) (e::es) [] pos) (eCB g f):=
 ⟨PE.imp (QK hc hg hm hv ha.pa hn hdb he hpl) λ_ _ _ h=>uI hsm h⟩
end
section
variable{X:Cx}{st:Stmt}{sts:List Stmt}{f g:BP}{fa:Bh}{a:Expr}{pos:Pos}{K:U0e}
def Jdi(h:wpS K (λenv S=>some (fl,env,S)) E Z3 H):∃Γ μ,FlQ Γ μ E Z3 H fl:=by obtain⟨Γ,μ,env,S,fl',env',S',hK,R,e,q⟩:=h;cases e;exact⟨Γ,μ,q μ Z3 H (Ext.refl _ _) R⟩
def Cw:JSs X [] Dp:=⟨PSs.imp wH λE Z3 H h=>let ⟨_,_,q⟩:=Jdi (fl:=.nx) h;q⟩
def Rg:JS X st Qt:=⟨PS.imp qw λE Z3 H h=>by obtain⟨_,_,_,_,_,_,_,_,_,e,_⟩:=h;cases e⟩
def Aj(h1:JS X st f)(h2:JSs X sts g):JSs X (st::sts) (BZ f g):=⟨PSs.imp (qu h1.ps h2.ps) λE Z3 H h=>by
 exact`zr;obtain⟨⟨fl1,env1,S1⟩,e1,e⟩:=bind_some e;refine⟨Γ,μ,env,S,fl1,env1,S1,hK,R,e1,fun μ1 ZT H1 x1 R1=>?_⟩;exact`qc;cases fl1 with
 |nx=>exact⟨Γ,μ1,env1,S1,fl,env',S',hK,R1,e,fun μ' ZZ H' x' R'=>q μ' ZZ H' (x1.trans x') R'⟩
 |brk=>cases e;exact q μ1 ZT H1 x1 R1
 |cnt=>cases e;exact q μ1 ZT H1 x1 R1
 |ret d=>cases e;exact q μ1 ZT H1 x1 R1⟩
def Aq(h1:JS X st f):JSs X [st] f:=⟨wG h1.ps⟩
def Gq(he:JE X a fa)(hs:swapsWith a none pos.line X.env=pure false:=by rfl):JS X (.Expr a pos) (Ge fa):=⟨PS.imp (wJ he.pe hs) λE Z3 H h=>by
 exact`zr;exact`zd;cases e;exact⟨Γ,μ,env,S,x,S1,hK,R,e1,λv1 μ1 H1 x1 R1 r1=>q μ1 Z3 H1 x1 R1⟩⟩
def Bb(he:JE X a fa):JS X (.Return (some a) pos) (CN fa):=⟨PS.imp (Ja7 he.pe) λE Z3 H h=>by
 exact`zr;exact`zd;cases e;exact⟨Γ,μ,env,S,x,S1,hK,R,e1,λv1 μ1 H1 x1 R1 r1=>q μ1 Z3 H1 x1 R1 v1 r1⟩⟩
def Dw(hc:JT X c tc)(ha:JSs X A f)(hb:JSs X B g):JS X (.If c A B pos) (sIf tc f g):=⟨PS.imp (Jdx hc.pt ha.ps hb.ps) λE Z3 H h=>by
 exact`zr;exact`zd;refine⟨Γ,μ,env,S,x,S1,hK,R,e1,fun μ1 H1 x1 R1=>?_⟩;exact`qc;by_cases hx:x=true
 .rw[if_pos hx]at e ⊢;exact⟨Γ,μ1,env,S1,fl,env',S',hK,R1,e,fun μ' ZZ H' x' R'=>q μ' ZZ H' (x1.trans x') R'⟩
 .rw[if_neg hx]at e ⊢;exact⟨Γ,μ1,env,S1,fl,env',S',hK,R1,e,fun μ' ZZ H' x' R'=>q μ' ZZ H' (x1.trans x') R'⟩⟩
theorem Cu(hN:X.N.Nodup)(he:JE X a fa)(hi:X.N[i]?=some x:=by rfl)(hx:Loc X.env.scope x:=by first|exact U8q rfl|exact U7t rfl)(hs:swapsWith a (some (.Name x pos')) pos.line X.env=pure false:=by rfl)
  (hf:X.fn x=true∨X.env.scope.names.lookup x=some .local:=by first|exact .inl rfl|exact .inr rfl|assumption):JS X (.Assign [.Name x pos'] a pos) (Ci i fa):=⟨PS.imp (Ja6 hN hi hx he.pe hs hf) λE Z3 H h=>by
 exact`zr;obtain⟨⟨y,S1⟩,e1,e⟩:=bind_some e;cases e;exact⟨Γ,μ,env,S,y,S1,hK,R,e1,λv1 μ1 H1 x1 R1 r1=>q μ1 _ H1 x1 (R1.pO i r1)⟩⟩
theorem BR(hN:X.N.Nodup)(hi:X.N[i]?=some x:=by rfl)(hx:Loc X.env.scope x:=by first|exact U8q rfl|exact U7t rfl)
  (hf:X.fn x=true∨X.env.scope.names.lookup x=some .local:=by first|exact .inl rfl|exact .inr rfl|assumption):JG X (.Name x pos) (.nm i):=⟨by rw[Pat.raw];exact wU hN hi hx hf⟩
def Fi:JGs X [] []:=⟨by rw[Kg];exact wR⟩
def CV(h1:JG X e t)(h2:JGs X es u)
  (hs:(assignEach (e::es) X.env).map (·.2)=assign e X.env::(assignEach es X.env).map (·.2):=by rfl):JGs X (e::es) (t::u):=⟨by rw[Kg];exact qz h1.pg h2.pg hs⟩
def GC(hc:X.calm=true)(h:JGs X es gs)(hn:(assignEach es X.env).length=gs.length:=by rfl)(hst:(assignEach es X.env).findIdx? (·.1)=none:=by rfl):JG X (.Tuple es k pos) (.tp gs):=
 ⟨by rw[Pat.raw];exact Jba hc h.pg hn hst⟩
def Zv(he:JE X a fa)(hg:JG X tg gg)(hs:swapsWithSole [tg] a pos.line X.env=pure false:=by rfl)(hw:swappedStores [tg] a X.env=pure none:=by rfl)
  (h1:(assignEach [tg] X.env).map (·.2)=[assign tg X.env]:=by rfl):JS X (.Assign [tg] a pos) (Sq fa gg.sem):=⟨PS.imp (kJ he.pe hg.pg hs hw h1) λE Z3 H h=>by
 exact`zr;obtain⟨⟨y,S1⟩,e1,e⟩:=bind_some e;obtain⟨env1,e2,e⟩:=bind_some e;cases e;exact⟨Γ,μ,env,S,y,S1,hK,R,e1,λv1 μ1 H1 x1 R1 r1=>gg.run X.K R1 r1 e2 λZZ R'=>q μ1 ZZ H1 x1 R'⟩⟩
theorem Ih(hc:X.calm=true)(hi:JI X tg iter it)(hg:JG X tg gg)(hb:JSs X body f)(hp:PassesOwn (model X.prog X.w) X.A X.env X.xe)
  (hs:∀x,foldedSetIterable iter X.env x=pure x:=by intro _;rfl):JS X (.For tg iter body [] pos) (K4 it gg.sem f):=⟨PS.imp (Ja8 hp hc hi.pi hg.pg hb.ps hs) λE Z3 H h=>by
 exact`zr;obtain⟨⟨⟨ds,w⟩,S1⟩,e1,e⟩:=bind_some e;refine⟨Γ,μ,env,S,ds,w,S1,hK,R,e1,λJ μ1 H1 x1 R1 ok=>?_⟩;refine⟨λi m ZY H2=>∃μ2 env2 S2,m=ds.length-i/\i<=ds.length/\Ext μ1 H1 μ2 H2/\Rep Γ μ2 ZY H2 env2 S2/\loop w gg.sem f (ds.drop i) env2 S2=some (fl,env',S'),⟨ds.length,μ1,env,S1,rfl,U3 _,Ext.refl _ _,R1,by rw[U7m];exact e⟩,?_⟩;rintro i m ZY H2 ⟨μ2,env2,S2,rfl,hi,x2,R2,el⟩;by_cases hlt:i<ds.length
 .rw[U21 hlt]at el;unfold loop at el;by_cases hcm:calm w S2
  .rw[if_pos hcm]at el;obtain⟨env3,e3,el⟩:=bind_some el;obtain⟨⟨fl4,env4,S4⟩,e4,el⟩:=bind_some el;obtain⟨go,yl⟩:=ok.step i ds[i] μ2 H2 ZY env2 S2 (U0v hlt) x2 R2 hcm;refine .inr ⟨go,λZE H5=>∃μ5 env5 S5,Ext μ1 H1 μ5 H5/\Rep Γ μ5 ZE H5 env5 S5/\loop w gg.sem f (ds.drop (i+1)) env5 S5=some (fl,env',S'),λZE H5 ⟨μ5,env5,S5,x5,R5,e5⟩=>⟨ds.length-(i+1),iB hlt,μ5,env5,S5,rfl,hlt,x5,R5,e5⟩,λx H3 y=>?_⟩;obtain⟨sm,rx⟩:=yl x H3 y;obtain⟨R3,x3⟩:=R2.grow sm;refine gg.run X.K R3 rx e3 λZO R3'=>?_;refine⟨Γ,μ2,env3,S2,fl4,env4,S4,hK,R3',e4,fun μ4 ZH H4 x4 R4=>?_⟩;have x14:=x2.trans (x3.trans x4);dsimp only at el;cases fl4 with
   |nx=>exact⟨μ4,env4,S4,x14,R4,el⟩
   |cnt=>exact⟨μ4,env4,S4,x14,R4,el⟩
   |brk=>cases el;exact q μ4 ZH H4 (x1.trans x14) R4
   |ret d=>cases el;exact q μ4 ZH H4 (x1.trans x14) R4
  .rw[if_neg hcm]at el;cases el
 .have hi':i=ds.length:=by omega
  subst hi';rw[U8a]at el;unfold loop at el;by_cases hcm:calm w S2
  .rw[if_pos hcm]at el;cases el;exact .inl ⟨ok.stop μ2 H2 ZY _ _ x2 R2 hcm,q μ2 ZY H2 (x1.trans x2) R2⟩
  .rw[if_neg hcm]at el;cases el⟩
end
def Rep.cap(R:Rep Γ μ Z3 H env S)(k:Nat)(caps:List Nat):Rep Γ μ (Jb k caps Z3) H (Ew k caps env) S:=by
 refine⟨λi d h=>?_,?_,R.sto,R.liv,R.inj,R.slen,R.ent,R.new⟩
 .unfold Ew at h;by_cases hi:i<k
  .rw[U1e (by simpa using hi),U42,if_pos hi]at h;cases h
  .rw[U2f (by simpa using hi),U2b,U0z]at h;cases e:caps[i-k]? with
   |none=>rw[e]at h;cases h
   |some a=>
    rw[e]at h;have h':(env[a]?).join=some d:=U08 h;have h2:env[a]?=some (some d):=by
     cases q:env[a]? with
     |none=>rw[q]at h';cases h'
     |some o=>rw[q]at h';exact congrArg some h'
    obtain⟨v,h3,h4⟩:=R.vals a d h2;refine⟨v,?_,h4⟩;unfold Jb;rw[U2f (by simpa using hi),U2b,U0z,e];show some (Z3[a]?).join=some (some v);rw[h3];rfl
 .unfold Jb Ew;rw[U0n,U0n,U0i,U0i,U2b,U2b]
section
variable{X:Cx}
theorem eE{K:U0e}{k:Nat}{caps:List Nat}{it:Nz}{p:Pat}{t:Gf}{f:Bh}{Z3:St}{H:Hp}{Q:VK} (h:∃Γ μ env S ys S',Γ.K=K/\Rep Γ μ Z3 H env S/\Ck k caps it p.sem t f env S=some (ys,S') /\
  ∀xs μ' H',Ext μ H μ' H'->Rep Γ μ' Z3 H' env S'->VRs Γ μ' H' xs ys->∀q,H' q=none->Q (.ref q) (upd H' q (.lst xs))):iI k caps (wpI K it) (p.raw K) (wpT K t) (wpE K f) Z3 H Q:=by
 obtain⟨Γ,μ,env,S,ys,S',hK,R,e,q⟩:=h;obtain⟨⟨⟨ds,w⟩,S1⟩,e1,e⟩:=bind_some e;refine⟨Γ,μ,env,S,ds,w,S1,hK,R,e1,λJ μ1 H1 x1 R1 ok=>?_⟩;refine⟨λi m zs H2=>∃μ2 S2 dzs,m=ds.length-i/\i<=ds.length/\Ext μ1 H1 μ2 H2/\Rep Γ μ2 Z3 H2 env S2/\VRs Γ μ2 H2 zs dzs/\Gn w (Ew k caps env) p.sem t f (ds.drop i) dzs S2=some (ys,S'),
  ⟨ds.length,μ1,S1,[],rfl,U3 _,Ext.refl _ _,R1,.nil,by rw[U7m];exact e⟩,?_⟩
 rintro i m zs H2 ⟨μ2,S2,dzs,rfl,hi,x2,R2,rz,el⟩;by_cases hlt:i<ds.length
 .rw[U21 hlt]at el;unfold Gn at el;by_cases hcm:calm w S2/\dzs.length<=1000000
  .rw[if_pos hcm]at el;obtain⟨env3,e3,el⟩:=bind_some el;obtain⟨⟨b,S4⟩,e4,el⟩:=bind_some el;have R2c:=R2.cap k caps;obtain⟨go,yl⟩:=ok.step i ds[i] μ2 H2 _ _ S2 (U0v hlt) x2 R2c hcm.1;refine .inr ⟨go,by rw[rz.length];exact big hcm.2,λx H3 y=>?_⟩;obtain⟨sm,rx⟩:=yl x H3 y;obtain⟨R3,x3⟩:=R2c.grow sm;obtain⟨R3o,_⟩:=R2.grow sm;refine p.run K R3 rx e3 λZO R3'=>?_;refine⟨Γ,μ2,env3,S2,b,S4,hK,R3',e4,fun μ4 H4 x4 R4=>?_⟩;dsimp only at el;by_cases hb:b=true
   .rw[if_pos hb]at el ⊢;obtain⟨⟨d5,S5⟩,e5,el⟩:=bind_some el;refine⟨Γ,μ4,env3,S4,d5,S5,hK,R4,e5,λv μ5 H5 x5 R5 r5=>?_⟩;exact⟨ds.length-(i+1),iB hlt,μ5,S5,dzs++[d5],rfl,hlt,x2.trans (x3.trans (x4.trans x5)),R3o.back (x4.trans x5) R5,((rz.ext (x3.trans (x4.trans x5)))).append (.cons r5 .nil),el⟩
   .rw[if_neg hb]at el ⊢;exact⟨ds.length-(i+1),iB hlt,μ4,S4,dzs,rfl,hlt,x2.trans (x3.trans x4),R3o.back x4 R4,rz.ext (x3.trans x4),el⟩
  .rw[if_neg hcm]at el;cases el
 .have hi':i=ds.length:=by omega
  subst hi';rw[U8a]at el;unfold Gn at el;by_cases hcm:calm w S2/\dzs.length<=1000000
  .rw[if_pos hcm]at el;cases el;exact .inl ⟨ok.stop μ2 H2 Z3 env _ x2 R2 hcm.1,λp hp=>q zs μ2 H2 (x1.trans x2) R2 rz p hp⟩
  .rw[if_neg hcm]at el;cases el
structure JC(X:Cx)(N2:List Str)(scope:Scope)(tg:Expr)(ifs:List Expr)(elt:Expr)(p:Pat)(t:Gf)(f:Bh):Prop where
 all:∀(cl:List (Str×Addr))(C:Addr)(s:Shared)(H:Hp)(ex:List Addr),JG (Eo X N2 scope cl C s H ex) tg p/\JTs (Eo X N2 scope cl C s H ex) ifs t/\JE (Eo X N2 scope cl C s H ex) elt f
def Ef
  (hc:X.calm=true) (hS:Dl X.env.scope X.N N2 k caps scope) (hlow:p.low k=true) (hi:JI X tg iter it) (hb:JC X N2 scope tg ifs elt p t f)
  (hs:∀x,foldedSetIterable iter X.env x=pure x:=by intro _;rfl):JE X (.ListComp elt [⟨tg,iter,ifs,0⟩] scope pos) (Bk (Ck k caps it p.sem t f)):=
 ⟨PE.imp (wW hc hS (p.iV X.K hlow) hi.pi (λcl C s H ex=>let ⟨a,b,c⟩:=hb.all cl C s H ex;⟨a.pg,b.pt,c.pe⟩) hs) λZ3 H Q h=>by
  exact`zb;obtain⟨⟨ys,S1⟩,e1,e⟩:=bind_some e;cases e;refine eE ⟨Γ,μ,env,S,ys,S1,hK,R,e1,λxs μ1 H1 x1 R1 r1 z hz=>?_⟩;obtain⟨R2,x2⟩:=R1.grow (DY hz (.lst xs));exact q _ μ1 _ (x1.trans x2) R2 (.lst (R1.ok hz true) (R1.dead hz) CT (r1.ext x2))⟩
def KD
  (hc:X.calm=true) (hN:X.N.Nodup) (hS:Dl X.env.scope X.N N2 k caps scope) (hlow:p.low k=true) (hi:JI X tg iter it) (hb:JC X N2 scope tg ifs elt p t f) (hi':X.N[i]?=some y:=by rfl)
  (hx:X.env.scope.names.lookup y=some .local:=by rfl) (hsw:swapsWith (.ListComp elt [⟨tg,iter,ifs,0⟩] scope pos) (some (.Name y py)) spos.line X.env=pure true:=by rfl)
  (hs:∀x,foldedSetIterable iter X.env x=pure x:=by intro _;rfl):JS X (.Assign [.Name y py] (.ListComp elt [⟨tg,iter,ifs,0⟩] scope pos) spos) (Ci i (Bk (Ck k caps it p.sem t f))):=
 ⟨PS.imp (wI hc hN hi' hS (p.iV X.K hlow) hi.pi (λcl C s H ex=>let ⟨a,b,c⟩:=hb.all cl C s H ex;⟨a.pg,b.pt,c.pe⟩) hx hsw hs) λE Z3 H h=>by
  exact`zr;obtain⟨⟨d,S1⟩,e1,e⟩:=bind_some e;cases e;obtain⟨⟨ys,S2⟩,e2,e1⟩:=bind_some e1;cases e1;refine eE ⟨Γ,μ,env,S,ys,_,hK,R,e2,λxs μ1 H1 x1 R1 r1 z hz=>?_⟩;obtain⟨R2,x2⟩:=R1.grow (DY hz (.lst xs));exact q μ1 _ _ (x1.trans x2) (R2.pO i (.lst (R1.ok hz true) (R1.dead hz) CT (r1.ext x2)))⟩
end
def listOf(S:Store):D->Option (List D)
 |.lst _ ds=>some ds
 |.lent ds=>some ds
 |.ref i=>(S[i]?).join
 |_=>none
def Bj(S:Store):D->Option (List D)
 |.tup ds=>some ds
 |.scr ns=>some (ns.map .int)
 |d=>listOf S d
def idOf(ds:List D):D->List (Nat×List D)
 |.ref i=>[(i,ds)]
 |_=>[]
section
variable{Γ:Fr}{μ:Mu}{Z3:St}{H:Hp}{env:Env}{S:Store}{v:V}{d:D}{ds:List D}
def join_some{Zp:Type}{a:Option (Option Zp)}{b:Zp}(h:a.join=some b):a=some (some b):=by
 cases a with
 |none=>cases h
 |some o=>exact congrArg some h
theorem VR.list(R:Rep Γ μ Z3 H env S)(r:VR Γ μ H v d)(h:listOf S d=some ds):∃a xs,v=.ref a/\H a=some (.lst xs)/\VRs Γ μ H xs ds:=by
 cases r with
 |lst o n hb rs=>cases h;exact⟨_,_,rfl,hb,rs⟩
 |lent n hb rs=>cases h;exact⟨_,_,rfl,hb,rs⟩
 |@ref i v hi f=>
  obtain⟨a,h1,hc⟩:=R.sto i ds (join_some h);obtain⟨f1,f2⟩:=f a h1;obtain⟨xs,h2,h3⟩:=hc.list f2;exact⟨a,xs,f1,h2,h3⟩
 |_=>cases h
def VR.seq(hK:Γ.K=K)(R:Rep Γ μ Z3 H env S)(r:VR Γ μ H v d)(h:Bj S d=some ds):∃a xs,v=.ref a/\(SqL K H a xs∨SqT K H a xs)/\VRs Γ μ H xs ds:=by
 subst hK;cases d with
 |tup es=>cases r with|tup hb rs=>cases h;exact⟨_,_,rfl,.inr (SqT.of hb),rs⟩
 |scr ns=>
  cases h;cases r with
  |scrK hk=>exact⟨_,_,rfl,.inl (hk H),VRs.ints ns⟩
  |scrR n hb=>exact⟨_,_,rfl,.inl (.inl (.inr ⟨_,hb⟩)),VRs.ints ns⟩
 |lst m es=>obtain⟨a,xs,e1,e2,e3⟩:=VR.list R r h;exact⟨a,xs,e1,.inl (SqL.of e2),e3⟩
 |lent es=>obtain⟨a,xs,e1,e2,e3⟩:=VR.list R r h;exact⟨a,xs,e1,.inl (SqL.of e2),e3⟩
 |ref i=>obtain⟨a,xs,e1,e2,e3⟩:=VR.list R r h;exact⟨a,xs,e1,.inl (SqL.of e2),e3⟩
 |_=>cases h
end
def Cz(a:Bh):Nz:=λenv S=>(a env S).bind λp=>(Bj p.2 p.1).map λds=>((ds,idOf ds p.1),p.2)
section
variable{X:Cx}{tg:Expr}
def Jdk(K:U0e)(tl:TE):TI:=λZ3 H R=>tl Z3 H λx H1=>∃a,x=.ref a/\(((∃xs,SqL K H1 a xs)/\R (Itl K a) H1)∨((∃xs,SqT K H1 a xs)/\R (Itt K a) H1))
def Ja9(hl:PE X l tl):PI X tg l (Jdk X.K tl):=by
 intro pins s Z3 H R I h;refine thn (hl pins s Z3 H _ I h) λv s1 ⟨x,H1,I1,r1,q1⟩=>?_;obtain⟨a,e,⟨⟨xs,hq⟩,q⟩|⟨⟨xs,hq⟩,q⟩⟩:=q1
 .subst e;cases r1;obtain⟨its,rv,p,hz⟩:=I1.list hq;refine U4o p.isList ?_;refine⟨s1.heap.objs.size,[s1.heap.objs.size],_,_,H1,rfl,I1.kept (t':=s1.toks) λb o e=>U0a _ e,mH a _,⟨_,U0s _ rfl,rfl,rfl⟩,λb hb=>?_,q⟩;have e:b=s1.heap.objs.size:=by simpa using hb
  subst e;exact I1.Xa (U0o _) (I1.hok.fresh (U0o _))
 .subst e;cases r1;obtain⟨its,rv,p,hz⟩:=I1.tuple hq;refine U54 (show s1.heap.IsTuple a its.toArray from p) ?_;refine⟨s1.heap.objs.size,[s1.heap.objs.size],_,_,H1,rfl,I1.kept (t':=s1.toks) λb o e=>U0a _ e,j7 a _,⟨_,U0s _ rfl,rfl,rfl⟩,λb hb=>?_,q⟩;have e:b=s1.heap.objs.size:=by simpa using hb
  subst e;exact I1.Xa (U0o _) (I1.hok.fresh (U0o _))
def mY(h:Bj S d=some ds)(c:calm (idOf ds d) S'):Bj S' d=some ds:=by
 cases d with
 |ref i=>
  have c':S'[i]?=some (some ds):=c (i,ds) (U0r.mpr rfl);show(S'[i]?).join=some ds;rw[c'];rfl
 |_=>exact h
def VR.ZL(hK:Γ.K=K)(R:Rep Γ μ Z3 H env S)(r:VR Γ μ H v d)(h:Bj S d=some ds):(∃es,d=.tup es)∨∃a xs,v=.ref a/\SqL K H a xs/\VRs Γ μ H xs ds:=by
 subst hK;cases d with
 |tup es=>exact .inl ⟨es,rfl⟩
 |scr ns=>
  cases h;cases r with
  |scrK hk=>exact .inr ⟨_,_,rfl,hk H,VRs.ints ns⟩
  |scrR n hb=>exact .inr ⟨_,_,rfl,.inl (.inr ⟨_,hb⟩),VRs.ints ns⟩
 |lst m es=>obtain⟨a,xs,e1,e2,e3⟩:=VR.list R r h;exact .inr ⟨a,xs,e1,SqL.of e2,e3⟩
 |lent es=>obtain⟨a,xs,e1,e2,e3⟩:=VR.list R r h;exact .inr ⟨a,xs,e1,SqL.of e2,e3⟩
 |ref i=>obtain⟨a,xs,e1,e2,e3⟩:=VR.list R r h;exact .inr ⟨a,xs,e1,SqL.of e2,e3⟩
 |_=>cases h
def xg(hr:∀μ' H' ZZ env' S',Ext μ H μ' H'->Rep Γ μ' ZZ H' env' S'->calm w S'->∃xs,SqL K H' a xs/\VRs Γ μ' H' xs ds):Zb Γ μ H (Itl K a) ds w:=by
 exact`zI
 .obtain⟨xs,h1,h2⟩:=hr μ' H' ZZ env' S' x R c;obtain⟨y,e1,e2⟩:=h2.get hi;refine⟨⟨xs,y,h1,e1⟩,λz H'' yl=>?_⟩;obtain⟨e,f⟩:=yl;subst e;have:=f xs h1;rw[e1]at this;cases this;exact⟨Same.refl _,e2⟩
 .obtain⟨xs,h1,h2⟩:=hr μ' H' ZZ env' S' x R c;exact⟨xs,h1,by rw[h2.length];exact U0o _⟩
def lH(hr:∀μ' H' ZZ env' S',Ext μ H μ' H'->Rep Γ μ' ZZ H' env' S'->calm w S'->∃xs,SqT K H' a xs/\VRs Γ μ' H' xs ds):Zb Γ μ H (Itt K a) ds w:=by
 exact`zI
 .obtain⟨xs,h1,h2⟩:=hr μ' H' ZZ env' S' x R c;obtain⟨y,e1,e2⟩:=h2.get hi;refine⟨⟨xs,y,h1,e1⟩,λz H'' yl=>?_⟩;obtain⟨e,f⟩:=yl;subst e;have:=f xs h1;rw[e1]at this;cases this;exact⟨Same.refl _,e2⟩
 .obtain⟨xs,h1,h2⟩:=hr μ' H' ZZ env' S' x R c;exact⟨xs,h1,by rw[h2.length];exact U0o _⟩
def Dv(hl:JE X l f):JI X tg l (Cz f):=⟨PI.imp (Ja9 hl.pe) λZ3 H Q h=>by
 obtain⟨Γ,μ,env,S,ds,w,S',hK,R,e,q⟩:=h;obtain⟨⟨d,S1⟩,e1,e⟩:=bind_some e;obtain⟨ds',e2,e⟩:=map_some e;cases e;refine⟨Γ,μ,env,S,d,S1,hK,R,e1,λv μ1 H1 x1 R1 r1=>?_⟩;rcases VR.ZL hK R1 r1 e2 with ⟨es,rfl⟩|⟨a,xs,rfl,hq,rs⟩
 .cases r1 with
  |@tup a xs _ hb rs=>
   refine⟨a,rfl,.inr ⟨⟨xs,SqT.of hb⟩,q _ μ1 H1 x1 R1 (lH fun μ' H' ZZ env' S' x' R' c=>?_)⟩⟩;have e2':es=ds:=U08 e2;subst e2';exact⟨xs,SqT.of (x'.tups _ _ hb),rs.ext x'⟩
 .by_cases ht:∃es,d=.tup es
  .obtain⟨es,rfl⟩:=ht;cases r1 with
   |@tup b ys _ hb rs'=>
    refine⟨a,rfl,.inr ⟨⟨ys,SqT.of hb⟩,q _ μ1 H1 x1 R1 (lH fun μ' H' ZZ env' S' x' R' c=>?_)⟩⟩;have e2':es=ds:=U08 e2;subst e2';exact⟨ys,SqT.of (x'.tups _ _ hb),rs'.ext x'⟩
  .refine⟨a,rfl,.inl ⟨⟨xs,hq⟩,q _ μ1 H1 x1 R1 (xg fun μ' H' ZZ env' S' x' R' c=>?_)⟩⟩;rcases VR.ZL hK R' (r1.ext x') (mY e2 c) with z|⟨b,ys,e,h1,h2⟩
   .exact absurd z ht
   .cases e;exact⟨ys,h1,h2⟩⟩
def upD(lo:Int)(n:Nat):List D:=(U07 n).map λ(i:Nat)=>.int (lo+i)
def tE(lo:Int)(n:Nat):Zb Γ μ H (Itr lo n) (upD lo n) []:=by
 have len:(upD lo n).length=n:=by unfold upD;rw[U0i,U5i]
 exact`zI
 .have hi':i<n:=by rw[←len];exact(U0l.mp hi).1
  refine⟨hi',λy H'' yl=>?_⟩;obtain⟨e1,e2⟩:=yl;subst e1 e2;unfold upD at hi;rw[U0z,List.getElem?_range hi']at hi;cases hi;exact⟨Same.refl _,.int _⟩
 .show n<=(upD lo n).length;rw[len];exact U0o _
def r62(j:Int):Prop:=-(2^62)<=j/\j<2^62
instance(j:Int):Decidable (r62 j):=by unfold r62;infer_instance
def Fz(a:CQ):Nz:=λenv S=>(a env S).bind λp=>match p.1 with|[.int j]=>if r62 j then some ((upD 0 j.toNat,[]),p.2) else none|_=>none
def VRs.one(h:VRs Γ μ H vs [d]):∃v,vs=[v]/\VR Γ μ H v d:=by cases h with|cons r t=>cases t;exact⟨_,rfl,r⟩
def VRs.two(h:VRs Γ μ H vs [d,e]):∃v u,vs=[v,u]/\VR Γ μ H v d/\VR Γ μ H u e:=by cases h with|cons r t=>cases t with|cons r' t=>cases t;exact⟨_,_,rfl,r,r'⟩
def Jm(hg:Gl X "range")(hm:X.mg "range"=none)(ha:JA X [a] f)(hs:starEach [a] X.env=[(false,eval a X.env)]:=by rfl):JI X tg (.Call (.Name "range" p) [a] [] pos) (Fz f):=
 ⟨PI.imp (nO hg hm ha.pa hs) λZ3 H Q h=>by
  obtain⟨Γ,μ,env,S,ds,w,S',hK,R,e,q⟩:=h;obtain⟨⟨d,S1⟩,e1,e⟩:=bind_some e;refine⟨Γ,μ,env,S,d,S1,hK,R,e1,λv μ1 H1 x1 R1 r1=>?_⟩;exact`qc;split at e
  .rename_i j;by_cases hj:r62 j
   .rw[if_pos hj]at e;cases e;obtain⟨v,rfl,r⟩:=r1.one;obtain rfl:=r.inv;exact⟨j,rfl,hj.1,hj.2,q _ μ1 H1 x1 R1 (tE 0 _)⟩
   .rw[if_neg hj]at e;cases e
  .cases e⟩
end
section
variable{X:Cx}{tg:Expr}
def Ek:List D->List D->List D
 |x::xs,y::ys=>.tup [x,y]::Ek xs ys
 |_,_=>[]
theorem aC:∀{xs ys:List D} {i:Nat} {d:D},(Ek xs ys)[i]?=some d->∃x y,xs[i]?=some x/\ys[i]?=some y/\d=.tup [x,y]
 |[],_,_,_,h=>by simp[Ek]at h
 |_::_,[],_,_,h=>by simp[Ek]at h
 |x::xs,y::ys,0,d,h=>by simp[Ek]at h;exact⟨x,y,rfl,rfl,h.symm⟩
 |x::xs,y::ys,i+1,d,h=>by simp[Ek]at h;obtain⟨a,b,h1,h2,h3⟩:=aC h;exact⟨a,b,by simpa using h1,by simpa using h2,h3⟩
theorem aB:∀(xs ys:List D),((Ek xs ys).length=xs.length/\xs.length<=ys.length)∨((Ek xs ys).length<xs.length/\(Ek xs ys).length=ys.length)
 |[],_=>.inl ⟨rfl,U3 _⟩
 |_::_,[]=>.inr ⟨by simp[Ek],rfl⟩
 |x::xs,y::ys=>by
  rcases aB xs ys with ⟨h1,h2⟩|⟨h1,h2⟩
  .left;simp[Ek];lia
  .right;simp[Ek];lia
def ZD(a:CQ):Nz:=λenv S=>(a env S).bind λp=>match p.1 with
 |[.tup xs,.tup ys]=>some ((Ek xs ys,[]),p.2)
 |[x,.tup ys]=>(listOf p.2 x).bind λxs=>some ((Ek xs ys,idOf xs x),p.2)
 |[x,y]=>(listOf p.2 x).bind λxs=>(listOf p.2 y).bind λys=>some ((Ek xs ys,idOf xs x++idOf ys y),p.2)
 |_=>none
def Lx(h:listOf S d=some ds)(c:calm (idOf ds d) S'):listOf S' d=some ds:=by
 cases d with
 |ref i=>
  have c':S'[i]?=some (some ds):=c (i,ds) (U0r.mpr rfl);show(S'[i]?).join=some ds;rw[c'];rfl
 |_=>exact h
def Zx(hr:∀μ' H' ZZ env' S',Ext μ H μ' H'->Rep Γ μ' ZZ H' env' S'->calm w S'->∃us vs,H' a=some (HB L us)/\VRs Γ μ' H' us xs/\H' b=some (HB M vs)/\VRs Γ μ' H' vs ys) :
  Zb Γ μ H (Itz L M a b) (Ek xs ys) w:=by
 exact`zI
 .obtain⟨us,vs,h1,h2,h3,h4⟩:=hr μ' H' ZZ env' S' x R c;obtain⟨p,q,e1,e2,e3⟩:=aC hi;obtain⟨u,f1,f2⟩:=h2.get e1;obtain⟨v,g1,g2⟩:=h4.get e2;refine⟨⟨us,vs,u,v,h1,h3,f1,g1⟩,λz H'' yl=>?_⟩;obtain⟨t,u',v',ht,rfl,rfl,k1,k2⟩:=yl;have k1':=k1 us h1;have k2':=k2 vs h3;rw[f1]at k1';cases k1';rw[g1]at k2';cases k2';subst e3;have sm:=DY ht (.tup [u,v]);obtain⟨_,x2⟩:=R.grow sm;exact⟨sm,.tup CT (.cons (f2.ext x2) (.cons (g2.ext x2) .nil))⟩
 .obtain⟨us,vs,h1,h2,h3,h4⟩:=hr μ' H' ZZ env' S' x R c;refine⟨us,vs,h1,h3,?_⟩;rw[h2.length,h4.length];rcases aB xs ys with z|z
  .exact .inl z.1
  .exact .inr z
def PI.or(h:PI X tg e t)(k:PI X tg e u):PI X tg e (λZ3 H R=>t Z3 H R∨u Z3 H R):=λpins s Z3 H R I q=>q.elim (λz=>h pins s Z3 H R I z) λz=>k pins s Z3 H R I z
def Jb5(hg:Gl X "zip")(hm:X.mg "zip"=none)(ha:JA X [a,b] f)(hs:starEach [a,b] X.env=[(false,eval a X.env),(false,eval b X.env)]:=by rfl)(hs2:starEach [b] X.env=[(false,eval b X.env)]:=by rfl) :
  JI X (.Tuple elts x1 tpos) (.Call (.Name "zip" p) [a,b] [] pos) (ZD f):=
 ⟨PI.imp (PI.or (Zn true true (.inl rfl) hg hm ha.pa hs hs2) (PI.or (Zn false false (.inl rfl) hg hm ha.pa hs hs2) (Zn true false (.inr ⟨rfl,rfl⟩) hg hm ha.pa hs hs2))) λZ3 H Q h=>by
  obtain⟨Γ,μ,env,S,ds,w,S',hK,R,e,q⟩:=h;obtain⟨⟨d,S1⟩,e1,e⟩:=bind_some e;exact`qc;split at e
  .rename_i xs ys;cases e;refine .inr (.inl ⟨Γ,μ,env,S,_,_,hK,R,e1,λv μ1 H1 x1 R1 r1=>?_⟩);obtain⟨u,v,rfl,r,r'⟩:=r1.two;cases r with
   |@tup a us _ ha ra=>
    cases r' with
    |@tup b vs _ hb rb=>
     exact⟨a,b,us,vs,rfl,ha,hb,q _ μ1 H1 x1 R1 (Zx fun μ' H' ZZ env' S' x' R' c=>⟨us,vs,x'.tups _ _ ha,ra.ext x',x'.tups _ _ hb,rb.ext x'⟩)⟩
  .rename_i x ys _;obtain⟨xs,e2,e⟩:=bind_some e;cases e;refine .inr (.inr ⟨Γ,μ,env,S,_,_,hK,R,e1,λv μ1 H1 x1 R1 r1=>?_⟩);obtain⟨u,v,rfl,r,r'⟩:=r1.two;obtain⟨a,us,rfl,ha,ra⟩:=VR.list R1 r e2;cases r' with
   |@tup b vs _ hb rb=>
    refine⟨a,b,us,vs,rfl,ha,hb,q _ μ1 H1 x1 R1 (Zx fun μ' H' ZZ env' S' x' R' c=>?_)⟩;obtain⟨a',us',e4,ha',ra'⟩:=VR.list R' (r.ext x') (Lx e2 c);cases e4;exact⟨us',vs,ha',ra',x'.tups _ _ hb,rb.ext x'⟩
  .rename_i x y _ _;obtain⟨xs,e2,e⟩:=bind_some e;obtain⟨ys,e3,e⟩:=bind_some e;cases e;refine .inl ⟨Γ,μ,env,S,_,_,hK,R,e1,λv μ1 H1 x1 R1 r1=>?_⟩;obtain⟨u,v,rfl,r,r'⟩:=r1.two;obtain⟨a,us,rfl,ha,ra⟩:=VR.list R1 r e2;obtain⟨b,vs,rfl,hb,rb⟩:=VR.list R1 r' e3;refine⟨a,b,us,vs,rfl,ha,hb,q _ μ1 H1 x1 R1 (Zx fun μ' H' ZZ env' S' x' R' c=>?_)⟩;obtain⟨a',us',e4,ha',ra'⟩:=VR.list R' (r.ext x') (Lx e2 λp hp=>c p (U10 _ hp));obtain⟨b',vs',e5,hb',rb'⟩:=VR.list R' (r'.ext x') (Lx e3 λp hp=>c p (U04 _ hp));cases e4;cases e5;exact⟨us',vs',ha',ra',hb',rb'⟩
  .cases e⟩
def KJ(n:Nat):List D->List D
 |[]=>[]
 |x::xs=>.tup [.int n,x]::KJ (n+1) xs
theorem Yi:∀{xs:List D} {n i:Nat} {d:D},(KJ n xs)[i]?=some d->∃x,xs[i]?=some x/\d=.tup [.int ((n+i:Nat):Int),x]
 |[],_,_,_,h=>by simp[KJ]at h
 |x::xs,n,0,d,h=>by simp[KJ]at h;exact⟨x,rfl,h.symm⟩
 |x::xs,n,i+1,d,h=>by simp[KJ]at h;obtain⟨y,h1,h2⟩:=Yi h;exact⟨y,by simpa using h1,by rw[h2,show n+1+i=n+(i+1) by lia]⟩
theorem Yh:∀(xs:List D)(n:Nat),(KJ n xs).length=xs.length
 |[],_=>rfl
 |_::xs,n=>by rw[KJ,U0f,U0f,Yh xs]
def W7(a:CQ):Nz:=λenv S=>(a env S).bind λp=>match p.1 with
 |[x]=>(listOf p.2 x).bind λxs=>some ((KJ 0 xs,idOf xs x),p.2)
 |_=>none
def xW(hg:Gl X "enumerate")(hm:X.mg "enumerate"=none)(ha:JA X [a] f)(hs:starEach [a] X.env=[(false,eval a X.env)]:=by rfl) :
  JI X (.Tuple elts x1 tpos) (.Call (.Name "enumerate" p) [a] [] pos) (W7 f):=
 ⟨PI.imp (wO hg hm ha.pa hs) λZ3 H Q h=>by
  obtain⟨Γ,μ,env,S,ds,w,S',hK,R,e,q⟩:=h;obtain⟨⟨d,S1⟩,e1,e⟩:=bind_some e;exact`qc;split at e
  .rename_i x;obtain⟨xs,e2,e⟩:=bind_some e;cases e;refine⟨Γ,μ,env,S,_,_,hK,R,e1,λv μ1 H1 x1 R1 r1=>?_⟩;obtain⟨u,rfl,r⟩:=r1.one;obtain⟨a,us,rfl,ha,ra⟩:=VR.list R1 r e2;refine⟨a,rfl,⟨us,SqL.of ha⟩,q _ μ1 H1 x1 R1 ⟨λi d μ' H' ZZ env' S' hi x' R' c=>?_,fun μ' H' ZZ env' S' x' R' c=>?_⟩⟩
   .obtain⟨a',us',e4,ha',ra'⟩:=VR.list R' (r.ext x') (Lx e2 c);cases e4;obtain⟨y,f1,rfl⟩:=Yi hi;obtain⟨z,g1,g2⟩:=ra'.get f1;refine⟨⟨us',z,SqL.of ha',g1⟩,λy' H'' yl=>?_⟩;obtain⟨t,z',ht,rfl,rfl,k⟩:=yl;have k':=k us' (SqL.of ha');rw[g1]at k';cases k';have sm:=DY ht (.tup [.int i,z]);obtain⟨_,x2⟩:=R'.grow sm;refine⟨sm,.tup CT (.cons ?_ (.cons (g2.ext x2) .nil))⟩;rw[U51];exact .int _
   .obtain⟨a',us',e4,ha',ra'⟩:=VR.list R' (r.ext x') (Lx e2 c);cases e4;exact⟨us',SqL.of ha',by rw[ra'.length,Yh];exact U0o _⟩
  .cases e⟩
def iD(K:U0e)(r:V->List V->Hp->VK->Prop)(g:Store->D->List D->Option (D×Store)):Prop:=∀(Γ:Fr)(μ:Mu)(Z3:St)(H:Hp)(env:Env)(S:Store)(x:V)(xs:List V)(dx:D)(ds:List D)(d:D)(S':Store),Γ.K=K->Rep Γ μ Z3 H env S->VR Γ μ H x dx->VRs Γ μ H xs ds->g S dx ds=some (d,S') ->
 ∀Q:VK,(∀v μ' H',Ext μ H μ' H'->Rep Γ μ' Z3 H' env S'->VR Γ μ' H' v d->Q v H')->r x xs H Q
def Jv(g:Store->D->List D->Option (D×Store))(o:Bh)(a:CQ):Bh:=λenv S=>(o env S).bind λp=>if (listOf p.2 p.1).isSome then (a env p.2).bind λq=>g q.2 p.1 q.1 else none
def v7{r:V->List V->Hp->VK->Prop}(hs:iD K r g)(h:wpE K (Jv g o a) Z3 H Q):tBM K "list" r (wpE K o) (wpA K a) Z3 H Q:=by
 exact`zb;exact`zd;exact`ze;exact`qc;by_cases hl:(listOf S1 x).isSome=true
 .rw[if_pos hl]at e;obtain⟨⟨ds,S2⟩,e2,e⟩:=bind_some e;obtain⟨xs,hx⟩:=U31.mp hl;obtain⟨b,us,rfl,hb,rb⟩:=VR.list R1 r1 hx;refine⟨.inl ⟨rfl,us,SqL.of hb⟩,Γ,μ1,env,S1,ds,S2,hK,R1,e2,λvs μ2 H2 x2 R2 r2=>?_⟩;exact hs Γ μ2 Z3 H2 env S2 _ vs x ds d S' hK R2 (r1.ext x2) r2 e Q λv μ' H' x' R' rv=>q v μ' H' (x1.trans (x2.trans x')) R' rv
 .rw[if_neg hl]at e;cases e
variable{o e:Expr}{es:List Expr}{fo:Bh}{fa:CQ}{name:Str}{apos cpos:Pos}{id:String}{r:V->List V->Hp->VK->Prop}{g:Store->D->List D->Option (D×Store)}
def Oo(pa:PlainAttrs "list")(slot:Slot "list" name id)(hty:typeOf (.builtin id)=pure (.type "method_descriptor"))(hm:MtR X id r)(hsm:iD X.K r g)(ho:JE X o fo)(ha:JA X (e::es) fa)
  (hbase:attributeBase o name X.env (eval o X.env)=eval o X.env:=by rfl)
  (hfew:((backTo cpos (starEach (e::es) X.env)).all (λx=>!x.1)&&(backToKw cpos (keywordEach [] X.env)).all (λx=>x.1.isSome)
   && decide ((e::es).length+([]:List Keyword).length+(if ([]:List Keyword).isEmpty then 0 else 1)<30))=true:=by rfl)
  (hline:(apos.endLine==cpos.line)=true:=by rfl) (hs:starEach (e::es) X.env=(false,eval e X.env)::starEach es X.env:=by rfl) (hplain:(backTo cpos (starEach es X.env)).any (·.1)=false:=by rfl) :
  JE X (.Call (.Attribute o name apos) (e::es) [] cpos) (Jv g fo fa):=
 ⟨PE.imp (Jd0 pa slot hty hm ho.pe ha.pa hbase hfew hline hs hplain) λ_ _ _ h=>v7 hsm h⟩
def VR.ZM(R:Rep Γ μ Z3 H env S)(r:VR Γ μ H v (.ref i))(h:S[i]?=some (some ds)):∃a xs,v=.ref a/\μ[i]?=some (some a)/\H a=some (.lst xs)/\VRs Γ μ H xs ds:=by
 cases r with
 |ref hi f=>
  obtain⟨a,h1,hc⟩:=R.sto i ds h;obtain⟨f1,f2⟩:=f a h1;obtain⟨xs,h2,h3⟩:=hc.list f2;exact⟨a,xs,f1,h1,h2,h3⟩
def Hh(S:Store):D->List D->Option (D×Store)
 |.ref i,[d]=>match S[i]? with
  |some (some ds)=>if ds.length<1000000 then some (.non,S.set i (some (ds++[d]))) else none
  |_=>none
 |_,_=>none
def Nm:iD K fD Hh:=by
 intro Γ μ Z3 H env S x xs dx ds d S' hK R rx rs e Q q;unfold Hh at e;split at e
 .rename_i i d1;split at e
  .rename_i es he;by_cases hl:es.length<1000000
   .rw[if_pos hl]at e;cases e;obtain⟨a,us,rfl,h1,h2,h3⟩:=VR.ZM R rx he;obtain⟨y,rfl,ry⟩:=rs.one;obtain⟨R2,x2⟩:=R.put h1 ⟨_,h2⟩ (h3.append (.cons ry .nil));exact⟨a,us,y,rfl,rfl,h2,by rw[h3.length];exact big (U2o hl),q _ μ _ x2 R2 .non⟩
   .rw[if_neg hl]at e;cases e
  .cases e
 .cases e
def Qz(S:Store):D->List D->Option (D×Store)
 |.ref i,[y]=>match S[i]?,listOf S y with
  |some (some ds),some es=>if ds.length+es.length<=1000000 then some (.non,S.set i (some (ds++es))) else none
  |_,_=>none
 |_,_=>none
def mV:iD K fC Qz:=by
 intro Γ μ Z3 H env S x xs dx ds d S' hK R rx rs e Q q;unfold Qz at e;split at e
 .rename_i i y;split at e
  .rename_i es gs he hg;by_cases hl:es.length+gs.length<=1000000
   .rw[if_pos hl]at e;cases e;obtain⟨a,us,rfl,h1,h2,h3⟩:=VR.ZM R rx he;obtain⟨y,rfl,ry⟩:=rs.one;obtain⟨b,vs,rfl,hb,rb⟩:=VR.list R ry hg;obtain⟨R2,x2⟩:=R.put h1 ⟨_,h2⟩ (h3.append rb);exact⟨a,b,us,vs,rfl,rfl,h2,hb,by rw[h3.length,rb.length];exact U2o (big hl),q _ μ _ x2 R2 .non⟩
   .rw[if_neg hl]at e;cases e
  .cases e
 .cases e
def Jgh(S:Store):D->List D->Option (D×Store)
 |.ref i,[.int k]=>match S[i]? with
  |some (some ds)=>if -(2^63)<=k/\k<2^63 then (PySem.seqIndex? k ds.length).bind λj=>(ds[j]?).bind λd=>some (d,S.set i (some (ds.eraseIdx j))) else none
  |_=>none
 |_,_=>none
def Qs(v o i:Bh):BP:=λenv S=>(v env S).bind λp=>(o env p.2).bind λq=>(i env q.2).bind λr=>match q.1,r.1 with
 |.ref j,.int k=>(match r.2[j]? with
  |some (some ds)=>(ixN ds.length k).bind λn=>some (.nx,env,r.2.set j (some (ds.set n p.1)))
  |_=>none)
 |_,_=>none
def Vc(he:JE X a fv)(ho:JE X o fo)(hi:JE X i fi)
  (ha:∀v,assign (.Subscript o i tpos) X.env v=(do
   let ov ←holding [v] (eval o X.env);let iv ←holding [v,ov] (eval i X.env)
   standAt tpos
   holding [v,ov,iv] (setItem ov iv v)
   release [v,ov,iv] []):=by intro _;rfl)
  (hs:swapsWithSole [.Subscript o i tpos] a pos.line X.env=pure false:=by rfl) (hw:swappedStores [.Subscript o i tpos] a X.env=pure none:=by rfl)
  (h1:(assignEach [.Subscript o i tpos] X.env).map (·.2)=[assign (.Subscript o i tpos) X.env]:=by rfl):JS X (.Assign [.Subscript o i tpos] a pos) (Qs fv fo fi):=
 ⟨PS.imp (kJ he.pe (Jbb ho.pe hi.pe set_list ha) hs hw h1) λE Z3 H h=>by
  exact`zr;exact`zd;obtain⟨⟨y,S2⟩,e2,e⟩:=bind_some e;obtain⟨⟨z,S3⟩,e3,e⟩:=bind_some e;exact`ze;exact`zw;refine⟨Γ,μ2,env,S2,z,S3,hK,R2,e3,λv3 μ3 H3 x3 R3 r3=>?_⟩;exact`qc;split at e
  .rename_i j k;split at e
   .rename_i ds hd;obtain⟨n,e4,e⟩:=bind_some e;cases e;obtain⟨b,us,rfl,g1,g2,g3⟩:=VR.ZM R3 (r2.ext x3) hd;obtain rfl:=r3.inv;have r1':=r1.ext (x2.trans x3);obtain⟨R4,x4⟩:=R3.put g1 ⟨_,g2⟩ (g3.set r1' n);exact⟨b,us,_,n,rfl,rfl,g2,by rw[g3.length];exact e4,q μ3 Z3 _ (x1.trans (x2.trans (x3.trans x4))) R4⟩
   .cases e
  .cases e⟩
end
mutual
def Aw:D->Bool
 |.ref _=>false
 |.dref _=>false
 |.dcm _=>false
 |.lent _=>false
 |.tup ds=>Av ds
 |.lst _ ds=>Av ds
 |_=>true
def Av:List D->Bool
 |[]=>true
 |d::r=>Aw d&&Av r
end
mutual
def Cd:D->Bool
 |.ref _=>false
 |.dref _=>false
 |.dcf _=>false
 |.dcm _=>false
 |.lent _=>false
 |.lst _ _=>false
 |.scr _=>false
 |.exc _ _=>false
 |.dbx _=>false
 |.emp=>false
 |.tup ds=>Fg ds
 |_=>true
def Fg:List D->Bool
 |[]=>true
 |d::r=>Cd d&&Fg r
end
mutual
def newD:D->Bool
 |.ref _=>false
 |.dref _=>false
 |.dcf _=>false
 |.dcm _=>false
 |.lent _=>false
 |.lst m ds=>m&&newL ds
 |.scr _=>false
 |.exc _ _=>false
 |.dbx _=>false
 |.emp=>false
 |.tup ds=>newL ds
 |_=>true
def newL:List D->Bool
 |[]=>true
 |d::r=>newD d&&newL r
end
def Qf(k:Nat)(S:Store)(d:D):Option D:=match d with
 |.ref j=>if j<k then none else match S[j]? with|some (some ds)=>if Av ds=true then some (.lst true ds) else none|_=>none
 |d=>if Aw d=true then some d else none
def QB(k:Nat)(S:Store):List D->Option (List D)
 |[]=>some []
 |d::r=>(Qf k S d).bind λx=>(QB k S r).bind λxs=>some (x::xs)
mutual
def den(k:Nat)(S:Store):D->Option D
 |.tup ds=>(Cp k S ds).map .tup
 |.lst m ds=>(Cp k S ds).map (.lst m)
 |.ref i=>if i<k then none else match S[i]? with|some (some ds)=>if Av ds=true then some (.lst true ds) else (QB k S ds).map (.lst true)|_=>none
 |.non=>some .non
 |.bl b=>some (.bl b)
 |.int i=>some (.int i)
 |.str x=>some (.str x)
 |.ty n=>some (.ty n)
 |.fn a n=>some (.fn a n)
 |.scr ns=>some (.scr ns)
 |.exc a n=>some (.exc a n)
 |.dbx b=>some (.dbx b)
 |.emp=>some .emp
 |.dref i=>if i<k then none else match S[i]? with|some (some [.dcm kvs])=>some (.dcf kvs)|_=>none
 |.dcf kvs=>some (.dcf kvs)
 |.dcm _=>none
 |.lent _=>none
def Cp(k:Nat)(S:Store):List D->Option (List D)
 |[]=>some []
 |d::r=>(den k S d).bind λx=>(Cp k S r).bind λxs=>some (x::xs)
end
mutual
def age:D->D
 |.tup ds=>.tup (Bf ds)
 |.lst _ ds=>.lst false (Bf ds)
 |.ref i=>.ref i
 |.non=>.non
 |.bl b=>.bl b
 |.int i=>.int i
 |.str x=>.str x
 |.ty n=>.ty n
 |.fn a n=>.fn a n
 |.scr ns=>.scr ns
 |.exc a n=>.exc a n
 |.dbx b=>.dbx b
 |.emp=>.emp
 |.dref i=>.dref i
 |.dcf kvs=>.dcf kvs
 |.dcm kvs=>.dcm kvs
 |.lent ds=>.lent ds
def Bf:List D->List D
 |[]=>[]
 |d::r=>age d::Bf r
end
mutual
theorem GQ:∀{d:D},Cd d=true->Aw d=true
 |.ref _,h=>by simp[Cd]at h
 |.lst _ _,h=>by simp[Cd]at h
 |.scr _,h=>by simp[Cd]at h
 |.exc _ _,h=>by simp[Cd]at h
 |.dbx _,h=>by simp[Cd]at h
 |.emp,h=>by simp[Cd]at h
 |.dref _,h=>by simp[Cd]at h
 |.dcf _,h=>by simp[Cd]at h
 |.dcm _,h=>by simp[Cd]at h
 |.lent _,h=>by simp[Cd]at h
 |.tup ds,h=>by rw[Cd]at h;rw[Aw];exact Bv h
 |.non,_=>rfl
 |.bl _,_=>rfl
 |.int _,_=>rfl
 |.str _,_=>rfl
 |.ty _,_=>rfl
 |.fn _ _,_=>rfl
theorem Bv:∀{ds:List D},Fg ds=true->Av ds=true
 |[],_=>rfl
 |d::r,h=>by rw[Fg,U1a]at h;rw[Av,GQ h.1,Bv h.2];rfl
end
mutual
theorem Vi:∀{d:D},Cd d=true->newD d=true
 |.ref _,h=>by simp[Cd]at h
 |.lst _ _,h=>by simp[Cd]at h
 |.scr _,h=>by simp[Cd]at h
 |.exc _ _,h=>by simp[Cd]at h
 |.dbx _,h=>by simp[Cd]at h
 |.emp,h=>by simp[Cd]at h
 |.dref _,h=>by simp[Cd]at h
 |.dcf _,h=>by simp[Cd]at h
 |.dcm _,h=>by simp[Cd]at h
 |.lent _,h=>by simp[Cd]at h
 |.tup ds,h=>by rw[Cd]at h;rw[newD];exact QS h
 |.non,_=>rfl
 |.bl _,_=>rfl
 |.int _,_=>rfl
 |.str _,_=>rfl
 |.ty _,_=>rfl
 |.fn _ _,_=>rfl
theorem QS:∀{ds:List D},Fg ds=true->newL ds=true
 |[],_=>rfl
 |d::r,h=>by rw[Fg,U1a]at h;rw[newL,Vi h.1,QS h.2];rfl
end
mutual
theorem Jj(k:Nat)(S:Store):∀{d:D},Aw d=true->den k S d=some d
 |.ref _,h=>by simp[Aw]at h
 |.lst m ds,h=>by rw[Aw]at h;rw[den,Dn k S h];rfl
 |.tup ds,h=>by rw[Aw]at h;rw[den,Dn k S h];rfl
 |.non,_=>by rw[den]
 |.bl _,_=>by rw[den]
 |.int _,_=>by rw[den]
 |.str _,_=>by rw[den]
 |.ty _,_=>by rw[den]
 |.fn _ _,_=>by rw[den]
 |.scr _,_=>by rw[den]
 |.exc _ _,_=>by rw[den]
 |.dbx _,_=>by rw[den]
 |.emp,_=>by rw[den]
 |.dref _,h=>by simp[Aw]at h
 |.dcf _,_=>by rw[den]
 |.dcm _,h=>by simp[Aw]at h
 |.lent _,h=>by simp[Aw]at h
theorem Dn(k:Nat)(S:Store):∀{ds:List D},Av ds=true->Cp k S ds=some ds
 |[],_=>by rw[Cp]
 |d::r,h=>by rw[Av,U1a]at h;rw[Cp,Jj k S h.1,Dn k S h.2];rfl
end
mutual
theorem Im:∀{d:D},Cd d=true->age d=d
 |.ref _,h=>by simp[Cd]at h
 |.lst _ _,h=>by simp[Cd]at h
 |.scr _,h=>by simp[Cd]at h
 |.exc _ _,h=>by simp[Cd]at h
 |.dbx _,h=>by simp[Cd]at h
 |.emp,h=>by simp[Cd]at h
 |.dref _,h=>by simp[Cd]at h
 |.dcf _,h=>by simp[Cd]at h
 |.dcm _,h=>by simp[Cd]at h
 |.lent _,h=>by simp[Cd]at h
 |.tup ds,h=>by rw[Cd]at h;rw[age,Dg h]
 |.non,_=>by rw[age]
 |.bl _,_=>by rw[age]
 |.int _,_=>by rw[age]
 |.str _,_=>by rw[age]
 |.ty _,_=>by rw[age]
 |.fn _ _,_=>by rw[age]
theorem Dg:∀{ds:List D},Fg ds=true->Bf ds=ds
 |[],_=>by rw[Bf]
 |d::r,h=>by rw[Fg,U1a]at h;rw[Bf,Im h.1,Dg h.2]
end
section
variable{Γ Γ':Fr}{μ μ':Mu}{H:Hp}
mutual
theorem VR.age(hK:Γ'.K=Γ.K)(hN:∀a,¬Cj μ a->Γ.N a∨Γ.H0 a=none->Γ'.N a)(hl:∀a o,H a=some o->¬Cj μ a->¬Cj μ' a)(h:Aw d=true)(r:VR Γ μ H v d):VR Γ' μ' H v (VS.age d):=by
 cases r with
 |non=>rw[VS.age];exact .non
 |bl b=>rw[VS.age];exact .bl b
 |int i=>rw[VS.age];exact .int i
 |str x=>rw[VS.age];exact .str x
 |ty n=>rw[VS.age];exact .ty n
 |fn a n=>rw[VS.age];exact .fn a n
 |tup hb t=>rw[Aw]at h;rw[VS.age];exact .tup hb (VRs.age hK hN hl h t)
 |lst o n hb t=>rw[Aw]at h;rw[VS.age];exact .lst ⟨λz=>(by cases z),.inl (hN _ n o.2)⟩ (hl _ _ hb n) hb (VRs.age hK hN hl h t)
 |ref _ _=>simp[Aw]at h
 |scrK k=>rw[VS.age];exact .scrK (by rw[hK];exact k)
 |scrR n hb=>rw[VS.age];exact .scrR (hl _ _ hb n) hb
 |exc x n hb=>rw[VS.age];exact .exc x (hl _ _ hb n) hb
 |emp o n hb=>rw[VS.age];exact .emp ⟨λz=>(by cases z),.inl (hN _ n o.2)⟩ (hl _ _ hb n) hb
 |dbx o n hb bx=>rw[VS.age];exact .dbx ⟨λz=>(by cases z),.inl (hN _ n o.2)⟩ (hl _ _ hb n) hb bx
 |dref _ _=>simp[Aw]at h
 |lent _ _ _=>simp[Aw]at h
 |dcf o n hb=>rw[VS.age];exact .dcf ⟨λz=>(by cases z),.inl (hN _ n o.2)⟩ (hl _ _ hb n) hb
theorem VRs.age(hK:Γ'.K=Γ.K)(hN:∀a,¬Cj μ a->Γ.N a∨Γ.H0 a=none->Γ'.N a)(hl:∀a o,H a=some o->¬Cj μ a->¬Cj μ' a):∀{v:List V} {d:List D},Av d=true->VRs Γ μ H v d->VRs Γ' μ' H v (Bf d)
 |_,_,_,.nil=>by rw[Bf];exact .nil
 |_,_,h,.cons r t=>by rw[Av,U1a]at h;rw[Bf];exact .cons (VR.age hK hN hl h.1 r) (VRs.age hK hN hl h.2 t)
end
mutual
theorem VR.pure(hK:Γ'.K=Γ.K)(hN:∀m a xs,¬Cj μ a->Γ.Ok m a->H a=some xs->Γ'.Ok m a/\¬Cj μ' a)(ho:∀a o,H a=some o->¬Cj μ a->(∀xs,o≠.lst xs)->¬Dy o->¬Cj μ' a)(h:Aw d=true)(r:VR Γ μ H v d):VR Γ' μ' H v d:=by
 cases r with
 |non=>exact .non
 |bl b=>exact .bl b
 |int i=>exact .int i
 |str x=>exact .str x
 |ty n=>exact .ty n
 |fn a n=>exact .fn a n
 |tup hb t=>rw[Aw]at h;exact .tup hb (VRs.pure hK hN ho h t)
 |lst o n hb t=>rw[Aw]at h;exact .lst (hN _ _ _ n o hb).1 (hN _ _ _ n o hb).2 hb (VRs.pure hK hN ho h t)
 |ref _ _=>simp[Aw]at h
 |scrK k=>exact .scrK (by rw[hK];exact k)
 |scrR n hb=>exact .scrR (ho _ _ hb n (λ_ z=>by cases z) λ⟨k,z⟩=>by rcases z with z|⟨_,z⟩<;>cases k<;>cases z) hb
 |exc x n hb=>exact .exc x (ho _ _ hb n (λ_ z=>by cases z) λ⟨k,z⟩=>by rcases z with z|⟨_,z⟩<;>cases k<;>cases z) hb
 |emp o n hb=>exact .emp (hN _ _ _ n o hb).1 (hN _ _ _ n o hb).2 hb
 |dbx o n hb bx=>exact .dbx (hN _ _ _ n o hb).1 (hN _ _ _ n o hb).2 hb bx
 |dref _ _=>simp[Aw]at h
 |lent _ _ _=>simp[Aw]at h
 |dcf o n hb=>exact .dcf (hN _ _ _ n o hb).1 (hN _ _ _ n o hb).2 hb
theorem VRs.pure(hK:Γ'.K=Γ.K)(hN:∀m a xs,¬Cj μ a->Γ.Ok m a->H a=some xs->Γ'.Ok m a/\¬Cj μ' a)(ho:∀a o,H a=some o->¬Cj μ a->(∀xs,o≠.lst xs)->¬Dy o->¬Cj μ' a):∀{v:List V} {d:List D},Av d=true->VRs Γ μ H v d->VRs Γ' μ' H v d
 |_,_,_,.nil=>.nil
 |_,_,h,.cons r t=>by rw[Av,U1a]at h;exact .cons (VR.pure hK hN ho h.1 r) (VRs.pure hK hN ho h.2 t)
end
theorem VR.Qf(R:Rep Γ μ Z3 H env S)(hK:Γ'.K=Γ.K)(h0:∀(i:Nat)(ds:List D)(a:Addr),k<=i->S0[i]?=some (some ds)->S[i]?=some (some ds)/\(μ[i]?=some (some a)->¬Cj μ' a/\Γ'.Ok true a))
  (hN:∀m a,¬Cj μ a->Γ.Ok m a->Γ'.Ok m a) (hl:∀a o,H a=some o->¬Cj μ a->¬Cj μ' a) {v:V} {d e:D} (r:VR Γ μ H v d) (h:VS.Qf k S0 d=some e):VR Γ' μ' H v e:=by
 unfold VS.Qf at h;split at h
 .rename_i i;by_cases hk:i<k
  .rw[if_pos hk]at h;cases h
  .rw[if_neg hk]at h;split at h
   .rename_i ds hd;by_cases hp:Av ds=true
    .rw[if_pos hp]at h;cases h;have hS:=(h0 i ds 0 (Ny hk) hd).1;obtain⟨a,h1,hc⟩:=R.sto i ds hS;cases r with
     |ref hi f=>
      obtain⟨hv,f2⟩:=f a h1;obtain⟨xs,h2,h3⟩:=hc.list f2;subst hv;obtain⟨z1,z2⟩:=(h0 i ds a (Ny hk) hd).2 h1;exact .lst z2 z1 h2 (VRs.pure hK (λm b ys n o hb=>⟨hN m b n o,hl b _ hb n⟩) (λb o hb n _ _=>hl b o hb n) hp h3)
    .rw[if_neg hp]at h;cases h
   .cases h
 .by_cases hp:Aw d=true
  .rw[if_pos hp]at h;cases h;exact VR.pure hK (λm b ys n o hb=>⟨hN m b n o,hl b _ hb n⟩) (λb o hb n _ _=>hl b o hb n) hp r
  .rw[if_neg hp]at h;cases h
theorem VRs.Qf(R:Rep Γ μ Z3 H env S)(hK:Γ'.K=Γ.K)(h0:∀(i:Nat)(ds:List D)(a:Addr),k<=i->S0[i]?=some (some ds)->S[i]?=some (some ds)/\(μ[i]?=some (some a)->¬Cj μ' a/\Γ'.Ok true a))
  (hN:∀m a,¬Cj μ a->Γ.Ok m a->Γ'.Ok m a) (hl:∀a o,H a=some o->¬Cj μ a->¬Cj μ' a):∀{v:List V} {d e:List D},VRs Γ μ H v d->VS.QB k S0 d=some e->VRs Γ' μ' H v e
 |_,_,_,.nil,h=>by rw[VS.QB]at h;cases h;exact .nil
 |_,_,_,.cons r t,h=>by rw[VS.QB]at h;obtain⟨x,e1,h⟩:=bind_some h;obtain⟨xs,e2,h⟩:=bind_some h;cases h;exact .cons (VR.Qf R hK h0 hN hl r e1) (VRs.Qf R hK h0 hN hl t e2)
def p7(h:Qf k S d=some e):Aw e=true:=by
 unfold Qf at h;split at h
 .split at h
  .cases h
  .split at h
   .split at h
    .rename_i hp;cases h;rw[Aw];exact hp
    .cases h
   .cases h
 .split at h
  .rename_i hp;cases h;exact hp
  .cases h
theorem Wo:∀{d e:List D},QB k S d=some e->Av e=true
 |[],e,h=>by rw[QB]at h;cases h;rfl
 |d::r,e,h=>by rw[QB]at h;obtain⟨x,e1,h⟩:=bind_some h;obtain⟨xs,e2,h⟩:=bind_some h;cases h;rw[Av,p7 e1,Wo e2];rfl
mutual
theorem VR.den(R:Rep Γ μ Z3 H env S)(hK:Γ'.K=Γ.K)(h0:∀(i:Nat)(ds:List D)(a:Addr),k<=i->S0[i]?=some (some ds)->S[i]?=some (some ds)/\(μ[i]?=some (some a)->¬Cj μ' a/\Γ'.Ok true a))
  (hN:∀m a,¬Cj μ a->Γ.Ok m a->Γ'.Ok m a) (hl:∀a o,H a=some o->¬Cj μ a->¬Cj μ' a):∀{v:V} {d e:D},VR Γ μ H v d->VS.den k S0 d=some e->VR Γ' μ' H v e
 |_,_,_,.non,h=>by rw[VS.den]at h;cases h;exact .non
 |_,_,_,.bl b,h=>by rw[VS.den]at h;cases h;exact .bl b
 |_,_,_,.int i,h=>by rw[VS.den]at h;cases h;exact .int i
 |_,_,_,.str x,h=>by rw[VS.den]at h;cases h;exact .str x
 |_,_,_,.ty n,h=>by rw[VS.den]at h;cases h;exact .ty n
 |_,_,_,.fn a n,h=>by rw[VS.den]at h;cases h;exact .fn a n
 |_,_,_,.tup hb t,h=>by rw[VS.den]at h;obtain⟨es,e1,e2⟩:=map_some h;subst e2;exact .tup hb (VRs.den R hK h0 hN hl t e1)
 |_,_,_,.lst o n hb t,h=>by rw[VS.den]at h;obtain⟨es,e1,e2⟩:=map_some h;subst e2;exact .lst (hN _ _ n o) (hl _ _ hb n) hb (VRs.den R hK h0 hN hl t e1)
 |_,.ref i,_,.ref hi f,h=>by
  rw[VS.den]at h;by_cases hk:i<k
  .rw[if_pos hk]at h;cases h
  .rw[if_neg hk]at h;split at h
   .rename_i ds hd;by_cases hp:Av ds=true
    .rw[if_pos hp]at h;cases h;have hS:=(h0 i ds 0 (Ny hk) hd).1;obtain⟨a,h1,hc⟩:=R.sto i ds hS;obtain⟨hv,f2⟩:=f a h1;obtain⟨xs,h2,h3⟩:=hc.list f2;subst hv;obtain⟨z1,z2⟩:=(h0 i ds a (Ny hk) hd).2 h1;exact .lst z2 z1 h2 (VRs.pure hK (λm b ys n o hb=>⟨hN m b n o,hl b _ hb n⟩) (λb o hb n _ _=>hl b o hb n) hp h3)
    .rw[if_neg hp]at h;obtain⟨es,e1,rfl⟩:=map_some h;have hS:=(h0 i ds 0 (Ny hk) hd).1;obtain⟨a,h1,hc⟩:=R.sto i ds hS;obtain⟨hv,f2⟩:=f a h1;obtain⟨xs,h2,h3⟩:=hc.list f2;subst hv;obtain⟨z1,z2⟩:=(h0 i ds a (Ny hk) hd).2 h1;exact .lst z2 z1 h2 (VRs.Qf R hK h0 hN hl h3 e1)
   .cases h
 |_,_,_,.scrK k,h=>by rw[VS.den]at h;cases h;exact .scrK (by rw[hK];exact k)
 |_,_,_,.scrR n hb,h=>by rw[VS.den]at h;cases h;exact .scrR (hl _ _ hb n) hb
 |_,_,_,.exc x n hb,h=>by rw[VS.den]at h;cases h;exact .exc x (hl _ _ hb n) hb
 |_,_,_,.emp o n hb,h=>by rw[VS.den]at h;cases h;exact .emp (hN _ _ n o) (hl _ _ hb n) hb
 |_,_,_,.dbx o n hb bx,h=>by rw[VS.den]at h;cases h;exact .dbx (hN _ _ n o) (hl _ _ hb n) hb bx
 |_,_,_,.lent _ _ _,h=>by rw[VS.den]at h;cases h
 |_,.dref i,_,.dref hi f,h=>by
  rw[VS.den]at h;by_cases hk:i<k
  .rw[if_pos hk]at h;cases h
  .rw[if_neg hk]at h;split at h
   .rename_i kvs hd;cases h;have hS:=(h0 i _ 0 (Ny hk) hd).1;obtain⟨a,h1,hc⟩:=R.sto i _ hS;obtain⟨hv,f2⟩:=f a h1;have h2:=hc.dict f2;subst hv;have z:=(h0 i _ a (Ny hk) hd).2 h1;exact .dcf ⟨λz=>(by cases z),z.2.2⟩ z.1 h2
   .cases h
 |_,_,_,.dcf o n hb,h=>by rw[VS.den]at h;cases h;exact .dcf (hN _ _ n o) (hl _ _ hb n) hb
theorem VRs.den(R:Rep Γ μ Z3 H env S)(hK:Γ'.K=Γ.K)(h0:∀(i:Nat)(ds:List D)(a:Addr),k<=i->S0[i]?=some (some ds)->S[i]?=some (some ds)/\(μ[i]?=some (some a)->¬Cj μ' a/\Γ'.Ok true a))
  (hN:∀m a,¬Cj μ a->Γ.Ok m a->Γ'.Ok m a) (hl:∀a o,H a=some o->¬Cj μ a->¬Cj μ' a):∀{v:List V} {d e:List D},VRs Γ μ H v d->VS.Cp k S0 d=some e->VRs Γ' μ' H v e
 |_,_,_,.nil,h=>by rw[Cp]at h;cases h;exact .nil
 |_,_,_,.cons r t,h=>by rw[Cp]at h;obtain⟨x,e1,h⟩:=bind_some h;obtain⟨xs,e2,h⟩:=bind_some h;cases h;exact .cons (VR.den R hK h0 hN hl r e1) (VRs.den R hK h0 hN hl t e2)
end
mutual
theorem VR.new(hN:∀a xs,¬Cj μ a->Γ.Ok true a->H a=some (.lst xs)->Γ'.Ok true a/\¬Cj μ' a)(h:newD d=true)(r:VR Γ μ H v d):VR Γ' μ' H v d:=by
 cases r with
 |non=>exact .non
 |bl b=>exact .bl b
 |int i=>exact .int i
 |str x=>exact .str x
 |ty n=>exact .ty n
 |fn a n=>exact .fn a n
 |tup hb t=>rw[newD]at h;exact .tup hb (VRs.new hN h t)
 |lst o n hb t=>
  rw[newD,U1a]at h;obtain⟨rfl,h⟩:=h;exact .lst (hN _ _ n o hb).1 (hN _ _ n o hb).2 hb (VRs.new hN h t)
 |ref _ _=>simp[newD]at h
 |scrK _=>simp[newD]at h
 |scrR _ _=>simp[newD]at h
 |exc _ _ _=>simp[newD]at h
 |dbx _ _ _ _=>simp[newD]at h
 |emp _ _ _=>simp[newD]at h
 |dref _ _=>simp[newD]at h
 |lent _ _ _=>simp[newD]at h
 |dcf _ _ _=>simp[newD]at h
theorem VRs.new(hN:∀a xs,¬Cj μ a->Γ.Ok true a->H a=some (.lst xs)->Γ'.Ok true a/\¬Cj μ' a):∀{v:List V} {d:List D},newL d=true->VRs Γ μ H v d->VRs Γ' μ' H v d
 |_,_,_,.nil=>.nil
 |_,_,h,.cons r t=>by rw[newL,U1a]at h;exact .cons (VR.new hN h.1 r) (VRs.new hN h.2 t)
end
mutual
theorem VR.flat(h:Cd d=true)(r:VR Γ μ H v d):VR Γ' μ' H v d:=by
 cases r with
 |non=>exact .non
 |bl b=>exact .bl b
 |int i=>exact .int i
 |str x=>exact .str x
 |ty n=>exact .ty n
 |fn a n=>exact .fn a n
 |tup hb t=>rw[Cd]at h;exact .tup hb (VRs.flat h t)
 |lst _ _ _ _=>simp[Cd]at h
 |ref _ _=>simp[Cd]at h
 |scrK _=>simp[Cd]at h
 |scrR _ _=>simp[Cd]at h
 |exc _ _ _=>simp[Cd]at h
 |dbx _ _ _ _=>simp[Cd]at h
 |emp _ _ _=>simp[Cd]at h
 |dref _ _=>simp[Cd]at h
 |lent _ _ _=>simp[Cd]at h
 |dcf _ _ _=>simp[Cd]at h
theorem VRs.flat:∀{v:List V} {d:List D},Fg d=true->VRs Γ μ H v d->VRs Γ' μ' H v d
 |_,_,_,.nil=>.nil
 |_,_,h,.cons r t=>by rw[Fg,U1a]at h;exact .cons (VR.flat h.1 r) (VRs.flat h.2 t)
end
mutual
theorem Vk:∀{d e:D},den k S d=some e->Aw e=true
 |.tup ds,e,h=>by rw[den]at h;obtain⟨es,e1,e2⟩:=map_some h;subst e2;rw[Aw];exact QV e1
 |.lst m ds,e,h=>by rw[den]at h;obtain⟨es,e1,e2⟩:=map_some h;subst e2;rw[Aw];exact QV e1
 |.ref i,e,h=>by
  rw[den]at h;by_cases hk:i<k
  .rw[if_pos hk]at h;cases h
  .rw[if_neg hk]at h;split at h
   .rename_i ds hd;by_cases hp:Av ds=true
    .rw[if_pos hp]at h;cases h;rw[Aw];exact hp
    .rw[if_neg hp]at h;obtain⟨es,e1,rfl⟩:=map_some h;rw[Aw];exact Wo e1
   .cases h
 |.non,e,h=>by rw[den]at h;cases h;rfl
 |.bl _,e,h=>by rw[den]at h;cases h;rfl
 |.int _,e,h=>by rw[den]at h;cases h;rfl
 |.str _,e,h=>by rw[den]at h;cases h;rfl
 |.ty _,e,h=>by rw[den]at h;cases h;rfl
 |.fn _ _,e,h=>by rw[den]at h;cases h;rfl
 |.scr _,e,h=>by rw[den]at h;cases h;rfl
 |.exc _ _,e,h=>by rw[den]at h;cases h;rfl
 |.dbx _,e,h=>by rw[den]at h;cases h;rfl
 |.emp,e,h=>by rw[den]at h;cases h;rfl
 |.dref i,e,h=>by
  rw[den]at h;by_cases hk:i<k
  .rw[if_pos hk]at h;cases h
  .rw[if_neg hk]at h;split at h
   .cases h;rfl
   .cases h
 |.dcf _,e,h=>by rw[den]at h;cases h;rfl
 |.dcm _,e,h=>by rw[den]at h;cases h
 |.lent _,e,h=>by rw[den]at h;cases h
theorem QV:∀{d e:List D},Cp k S d=some e->Av e=true
 |[],e,h=>by rw[Cp]at h;cases h;rfl
 |d::r,e,h=>by rw[Cp]at h;obtain⟨x,e1,h⟩:=bind_some h;obtain⟨xs,e2,h⟩:=bind_some h;cases h;rw[Av,Vk e1,QV e2];rfl
end
end
abbrev Ca:=List D->Option D
abbrev Li:=List Int->List D->Option (D×List Int)
def intsOf:List D->Option (List Int)
 |[]=>some []
 |.int i::r=>(intsOf r).map (i::·)
 |_=>none
theorem JX:∀{ds:List D} {ns:List Int},intsOf ds=some ns->ds=ns.map D.int
 |[],_,h=>by cases h;rfl
 |.int i::r,ns,h=>by obtain⟨ms,e1,e2⟩:=map_some h;subst e2;rw[U0j,JX e1]
 |.non::_,_,h=>by cases h
 |.bl _::_,_,h=>by cases h
 |.str _::_,_,h=>by cases h
 |.ty _::_,_,h=>by cases h
 |.fn _ _::_,_,h=>by cases h
 |.tup _::_,_,h=>by cases h
 |.lst _ _::_,_,h=>by cases h
 |.ref _::_,_,h=>by cases h
 |.scr _::_,_,h=>by cases h
 |.emp::_,_,h=>by cases h
 |.dref _::_,_,h=>by cases h
 |.dcf _::_,_,h=>by cases h
 |.dcm _::_,_,h=>by cases h
 |.lent _::_,_,h=>by cases h
 |.exc _ _::_,_,h=>by cases h
 |.dbx _::_,_,h=>by cases h
@[simp] theorem Ly(ns:List Int):intsOf (ns.map D.int)=some ns:=by
 induction ns with
 |nil=>rfl
 |cons n r ih=>rw[U0j,intsOf,ih];rfl
def Dr(np n:Nat)(f:BP):Ca:=λds=>if ds.length=np then (f (ds.map some++U06 (n-ds.length) none) []).bind λp=>match p.1 with|.ret d=>den 0 p.2.2 d|.nx=>some .non|_=>none else none
def runM(np n:Nat)(f:BP):Li:=λns ds=>if ds.length+1=np then (f (some (.ref 0)::(ds.map some++U06 (n-1-ds.length) none)) [some (ns.map D.int)]).bind λp=>match p.2.2[0]? with
 |some (some cs)=>(intsOf cs).bind λms=>(match p.1 with|.ret d=>(den 1 p.2.2 d).map λr=>(r,ms)|.nx=>some (.non,ms)|_=>none)
 |_=>none
 else none
def spP(K:U0e)(sem:Ca)(n:Nat):Sp:=λvs H Q _=>∃(N:Addr->Prop)(ds:List D)(r:D),vs.length=n/\VRs ⟨K,H,N,[]⟩ [] H vs ds/\sem ds=some r/\∀v H',Same H H'->VR ⟨K,H,N,[]⟩ [] H' v r->Q v H'
def spM(K:U0e)(sem:Li)(n:Nat):Sp:=λvs H Q _=>∃(N:Addr->Prop)(a:Addr)(us:List V)(ns:List Int)(ds:List D)(r:D)(ms:List Int),vs=.ref a::us/\vs.length=n/\H a=some (.lst (ns.map V.int))/\VRs ⟨K,H,N,[a]⟩ [some a] H us ds/\sem ns ds=some (r,ms) /\
 ∀v H',(∀b o,b≠a->H b=some o->H' b=some o)->H' a=some (.lst (ms.map V.int))->VR ⟨K,H,N,[a]⟩ [some a] H' v r->Q v H'
section
variable{P:Program}{w:World}{K:U0e}{mg:Str->Option Value}{base:Heap}
def YD{N:List Str}{vs:List V}{ds:List D}{Γ:Fr}{μ:Mu}{H:Hp}(r:VRs Γ μ H vs ds){i:Nat}{d:D}{n:Nat}(h:(ds.map some++U06 n none:Env)[i]?=some (some d)):∃v,(vs.map some++U06 (N.length-vs.length) none:St)[i]?=some (some v)/\VR Γ μ H v d:=by
 have hi:i<ds.length:=by
  by_cases hi:i<ds.length
  .exact hi
  .rw[U2f (by simpa using hi),U42]at h;split at h<;>cases h
 rw[U1e (by simpa using hi),U0z]at h;have h2:ds[i]?=some d:=by
  cases q:ds[i]? with
  |none=>rw[q]at h;cases h
  |some e=>rw[q]at h;cases h;rfl
 obtain⟨v,e1,e2⟩:=r.get h2;refine⟨v,?_,e2⟩;rw[U1e (by rw[U0i,r.length];exact hi),U0z,e1];rfl
def HJ:¬Cj [] a:=λz=>by simp[Cj]at z
def Rf:Cj [some b] a↔a=b:=by simp[Cj]
def fnP{x qual:Str}{st:Stmt}{f:Addr}{fd:FuncData}{N ps:List Str}{k:Nat}{fs:BP}(F:Fun K x qual st f fd)(Sc:Ov N ps (Br st))
  (hb:∀(cdv:Value)(A:Around)(outer:List PySem.Env)(s:Shared)(H:Hp)(E:XK),FZ k (A.deeper (U7 qual (Br st) s.heap.objs.size f cdv))->JSs (RN CX0 P w K mg base N qual (Br st) f cdv A outer s H E).nox (J4 st) fs) :
  Hj P w K mg base CX0 (k+1) f fd ps (spP K (Dr ps.length N.length fs) ps.length):=by
 refine F.ok Sc (λvs H Q E h=>?_) (λcdv A outer s H vs Q E hr h=>?_)
 .obtain⟨_,_,_,hl,_⟩:=h;exact hl
 obtain⟨Nn,ds,r,hl,rs,e,q⟩:=h;refine⟨_,(hb cdv A outer s H E hr).ps,?_⟩;have hdl:=rs.length;unfold Dr at e;rw[if_pos (by lia)]at e;obtain⟨⟨fl,env',S'⟩,e1,e⟩:=bind_some e;have hpl:ps.length<=N.length:=by have:=congrArg U4t Sc.pre;rw[U2e]at this;exact qG this
 refine⟨⟨K,H,Nn,[]⟩,[],_,[],fl,env',S',rfl,⟨λi d h=>YD rs h,?_,λi ds h=>by simp at h,λi a h=>by simp at h,λi j a h=>by simp at h,rfl,Ext.refl _ _,λi a _ h=>by simp at h⟩,e1,fun μ' ZZ H' x' R'=>?_⟩
 .unfold L2.start;rw[U0n,U0i,U2b,U0n,U0i,U2b,hdl]
 have sm:Same H H':=λb o hb=>(x'.keep b o hb HJ).1;exact`qc;cases fl with
 |nx=>cases e;exact q _ H' sm .non
 |brk=>cases e
 |cnt=>cases e
 |ret d=>
  intro v rv;refine q v H' sm (VR.den R' rfl (λi ds a _ hs=>⟨hs,λhm=>⟨HJ,?_⟩⟩) (λm a _ o=>o) (λa o _ _=>HJ) rv e);have hn:=R'.new i a (U3 _) hm;exact⟨λ_=>hn,.inr hn⟩
def fnM{x qual:Str}{st:Stmt}{f:Addr}{fd:FuncData}{N ps:List Str}{k:Nat}{fs:BP}(F:Fun K x qual st f fd)(Sc:Ov N ps (Br st))
  (hb:∀(cdv:Value)(A:Around)(outer:List PySem.Env)(s:Shared)(H:Hp)(E:XK),FZ k (A.deeper (U7 qual (Br st) s.heap.objs.size f cdv))->JSs (RN CX0 P w K mg base N qual (Br st) f cdv A outer s H E).nox (J4 st) fs) :
  Hj P w K mg base CX0 (k+1) f fd ps (spM K (runM ps.length N.length fs) ps.length):=by
 refine F.ok Sc (λvs H Q E h=>?_) (λcdv A outer s H vs Q E hr h=>?_)
 .obtain⟨_,_,_,_,_,_,_,_,hl,_⟩:=h;exact hl
 obtain⟨Nn,a,us,ns,ds,r,ms,rfl,hl,ha,rs,e,q⟩:=h;refine⟨_,(hb cdv A outer s H E hr).ps,?_⟩;have hdl:=rs.length;rw[U0f]at hl;unfold runM at e;rw[if_pos (by lia)]at e;obtain⟨⟨fl,env',S'⟩,e1,e⟩:=bind_some e;have hpl:ps.length<=N.length:=by have:=congrArg U4t Sc.pre;rw[U2e]at this;exact qG this
 refine⟨⟨K,H,Nn,[a]⟩,[some a],_,[some (ns.map D.int)],fl,env',S',rfl,⟨λi d h=>?_,?_,λi es h=>?_,λi b h=>?_,λi j b h1 h2=>?_,rfl,Ext.refl _ _,λi b hi h=>?_⟩,e1,fun μ' ZZ H' x' R'=>?_⟩
 .cases i with
  |zero=>
   simp at h;subst h;refine⟨.ref a,by simp[L2.start],.ref (by simp) λb hb=>?_⟩;simp at hb;rw[←hb];exact⟨rfl,⟨_,ha⟩⟩
  |succ i=>
   rw[U44]at h;obtain⟨v,e1,e2⟩:=YD (N:=U06 (N.length-1) "") rs h;refine⟨v,?_,e2⟩;unfold L2.start;rw[U0j,U16,U44,U0f];rw[U2b]at e1;rw[show N.length-(us.length+1)=N.length-1-us.length by exact ar8];exact e1
 .unfold L2.start;rw[U0n,U0i,U2b,U0f,U0f,U0n,U0i,U2b,hdl];exact ar6
 .cases i with
  |zero=>simp at h;subst h;exact⟨a,by simp,.inl ⟨_,ha,VRs.ints ns⟩⟩
  |succ i=>simp at h
 .cases i with
  |zero=>exact⟨_,rfl⟩
  |succ i=>simp at h
 .cases i with
  |zero=>cases j with
   |zero=>rfl
   |succ j=>simp at h2
  |succ i=>simp at h1
 .cases i with
  |zero=>simp at hi
  |succ i=>simp at h
 have sm:∀b o,b≠a->H b=some o->H' b=some o:=λb o hb h=>(x'.keep b o h λz=>hb (Rf.mp z)).1;exact`qc;split at e
 .rename_i cs hc;obtain⟨ms',e3,e5⟩:=bind_some e;clear e;obtain⟨a',g1,gc⟩:=R'.sto 0 cs hc;obtain⟨xs',g2,g3⟩:∃xs,H' a'=some (.lst xs)/\VRs _ μ' H' xs cs:=by
   rcases gc with z|⟨kvs,q,_⟩
   .exact z
   .rw[q]at e3;cases e3
  have ea:a'=a:=by have:=x'.ids 0 a' (by simp) g1;simp at this;exact this.symm
  subst ea;have ec:=JX e3;subst ec;have ex:=g3.RQ;subst ex;cases fl with
  |nx=>cases e5;exact q _ H' sm g2 .non
  |brk=>cases e5
  |cnt=>cases e5
  |ret d=>
   intro v rv;dsimp only at e5;obtain⟨r',e4,e6⟩:=map_some e5;cases e6;refine q v H' sm g2 (VR.den R' rfl (λi es b hi hs=>⟨hs,λhm=>⟨λz=>?_,?_⟩⟩) (λm b _ o=>o) (λb o _ n z=>n ?_) rv e4)
   .have:b=a':=Rf.mp z;subst this;have:=R'.inj 0 i b g1 hm;lia
   .have hn:=R'.new i b hi hm;exact⟨λ_=>hn,.inr hn⟩
   .have:b=a':=Rf.mp z;subst this;exact U00 g1
 .cases e
end
def vg(h:Dr np n f ds=some r):ds.length=np/\Aw r=true:=by
 unfold Dr at h;by_cases hl:ds.length=np
 .rw[if_pos hl]at h;obtain⟨⟨fl,env',S'⟩,e1,e⟩:=bind_some h;refine⟨hl,?_⟩;exact`qc;cases fl with
  |nx=>cases e;rfl
  |brk=>cases e
  |cnt=>cases e
  |ret d=>exact Vk e
 .rw[if_neg hl]at h;cases h
def vh(h:runM np n f ns ds=some r):ds.length+1=np/\Aw r.1=true:=by
 unfold runM at h;by_cases hl:ds.length+1=np
 .rw[if_pos hl]at h;obtain⟨⟨fl,env',S'⟩,e1,e⟩:=bind_some h;refine⟨hl,?_⟩;exact`qc;split at e
  .rename_i cs hc;obtain⟨ms',e3,e⟩:=bind_some e;cases fl with
   |nx=>cases e;rfl
   |brk=>cases e
   |cnt=>cases e
   |ret d=>
    exact`qc;obtain⟨r',e4,e⟩:=map_some e;cases e;exact Vk e4
  .cases e
 .rw[if_neg hl]at h;cases h
structure Dm(P:Program)(w:World)(K:U0e)(mg:Str->Option Value)(base:Heap)(x:Str)(k:Nat)(sem:Ca):Prop where
 cal:∃ps,Cal P w K mg base x k ps (spP K sem ps.length)/\∀ds r,sem ds=some r->ds.length=ps.length/\Aw r=true
structure Qh(P:Program)(w:World)(K:U0e)(mg:Str->Option Value)(base:Heap)(x:Str)(k:Nat)(sem:Li):Prop where
 cal:∃ps,Cal P w K mg base x k ps (spM K sem ps.length)/\∀ns ds r,sem ns ds=some r->ds.length+1=ps.length/\Aw r.1=true
def Am(sem:Ca)(a:CQ):Bh:=λenv S=>(a env S).bind λp=>(Cp 0 p.2 p.1).bind λds=>(sem (Bf ds)).bind λr=>if (Av p.1||newD r)=true then some (r,p.2) else none
def Bq(sem:Li)(a:CQ):Bh:=λenv S=>(a env S).bind λp=>match p.1 with
 |.ref i::rest=>(match p.2[i]? with
  |some (some cs)=>(intsOf cs).bind λns=>(Cp 0 (p.2.set i none) rest).bind λds=>(sem ns (Bf ds)).bind λr=>if (Av rest||newD r.1)=true then some (r.1,p.2.set i (some (r.2.map D.int))) else none
  |_=>none)
 |_=>none
def Z9(n:Nat):List D->Option (List D×List D)
 |[]=>none
 |d::r=>if Cd d=true then (Z9 n r).map λp=>(d::p.1,p.2) else match d with
  |.lst true ds=>if (Fg ds&&Fg r)=true then some (.ref n::r,ds) else none
  |_=>none
def XH(n:Nat):D->Option (D×List D)
 |.lst true ds=>if Fg ds=true then some (.ref n,ds) else none
 |.tup es=>(Z9 n es).map λp=>(.tup p.1,p.2)
 |_=>none
def T4(sem:Ca)(a:CQ):Bh:=λenv S=>(Am sem a env S).bind λp=>(XH p.2.length p.1).bind λq=>some (q.1,p.2++[some q.2])
section
variable{Γ:Fr}{μ:Mu}{Z3:St}{H H':Hp}{env:Env}{S:Store}
def lend(hK:Γ.K=K)(R:Rep Γ μ Z3 H env S)(r:VRs Γ μ H vs ds)(e:Cp 0 S0 ds=some es)(h0:∀(i:Nat)(ds:List D)(a:Addr),S0[i]?=some (some ds)->S[i]?=some (some ds)/\(μ[i]?=some (some a)->¬Cj (m0.map some) a))(hm:∀a∈m0,Cj μ a)
  (c:Bool) (hc:(Av ds||c)=true):∃N:Addr->Prop,VRs ⟨K,H,N,m0⟩ (m0.map some) H vs (Bf es)/\(c=true∨∀a,N a->¬Cj μ a/\(Γ.N a∨Γ.H0 a=none)):=by
 subst hK;have hl:∀a o,H a=some o->¬Cj μ a->¬Cj (m0.map some) a:=λa o _ n z=>n (hm a (by simpa [Cj] using z));by_cases hp:Av ds=true
 .rw[Dn 0 S0 hp]at e;cases e;exact⟨λa=>¬Cj μ a/\(Γ.N a∨Γ.H0 a=none),VRs.age (Γ:=Γ) (Γ':=⟨Γ.K,H,λa=>¬Cj μ a/\(Γ.N a∨Γ.H0 a=none),m0⟩) rfl (λa n o=>⟨n,o⟩) hl hp r,.inr λa z=>z⟩
 .have hc':c=true:=by simpa [hp] using hc
  refine⟨λ_=>True,?_,.inl hc'⟩;have r1:VRs ⟨Γ.K,λ_=>none,λ_=>True,m0⟩ (m0.map some) H vs es:=VRs.den (Γ':=⟨Γ.K,λ_=>none,λ_=>True,m0⟩) R rfl (λi ds a _ hs=>⟨(h0 i ds a hs).1,λz=>⟨(h0 i ds a hs).2 z,⟨λ_=>rfl,.inl trivial⟩⟩⟩) (λm a _ _=>⟨λ_=>rfl,.inl trivial⟩) hl r e;exact VRs.age (Γ:=⟨Γ.K,λ_=>none,λ_=>True,m0⟩) (Γ':=⟨Γ.K,H,λ_=>True,m0⟩) (μ:=m0.map some) rfl (λa _ _=>trivial) (λa o _ n=>n) (QV e) r1
def home(hK:Γ.K=K)(R:Rep Γ μ Z3 H env S){N:Addr->Prop}(lv:∀a,Cj μ a->IsL H' a∨IsK H' a)(hp:Aw r=true)(c:newD r=true∨∀a,N a->¬Cj μ a/\(Γ.N a∨Γ.H0 a=none))
  (rv:VR ⟨K,H,N,m0⟩ (m0.map some) H' v r):VR Γ μ H' v r:=by
 subst hK;rcases c with c|c
 .exact VR.new (λa xs n o hb=>⟨R.ok (o.1 rfl) true,R.dead (o.1 rfl)⟩) c rv
 .refine VR.pure (Γ:=⟨Γ.K,H,N,m0⟩) (Γ':=Γ) rfl (λm a xs n o hb=>?_) (λa o hb n hx hy z=>?_) hp rv
  .rcases o.2 with z|z
   .refine⟨⟨λhm=>R.fresh (o.1 hm),(c a z).2⟩,(c a z).1⟩
   .exact⟨R.ok z m,R.dead z⟩
  .rcases lv a z with ⟨xs,q⟩|⟨xs,q⟩
   .rw[q]at hb;exact hx xs (U08 hb).symm
   .rw[q.1]at hb;cases hb;exact hy q.2
def Rep.adopt(R:Rep Γ μ Z3 H env S)(sm:Same H H')(hn:H a=none)(ha:H' a=some (.lst xs))(hf:Fg ds=true)(rs:VRs Γ' μ' H' xs ds) :
  Rep Γ (μ++[some a]) Z3 H' env (S++[some ds])/\Ext μ H (μ++[some a]) H':=by
 have ne:∀b o,H b=some o->b≠a:=λb o h z=>by rw[z,hn]at h;cases h
 have x:Ext μ H (μ++[some a]) H':=by
  refine⟨λb o h n=>⟨sm b o h,λz=>?_⟩,λb ys h=>sm b _ h,λb h=>sm.free h,λi b hi h=>?_,by rw[U0n];exact ar9,λb _ ⟨ys,h⟩=>⟨ys,sm b _ h⟩,λb _ h=>h.to (sm b)⟩
  .rcases U0x.mp z with z|z
   .exact n z
   .have z':b=a:=by simpa using z
    exact ne b o h z'
  .rw[U1e hi]at h;exact h
 have idx:∀i b,(μ++[some a])[i]?=some (some b)->(i<μ.length/\μ[i]?=some (some b))∨(i=μ.length/\b=a):=λi b h=>by
  by_cases hi:i<μ.length
  .rw[U1e hi]at h;exact .inl ⟨hi,h⟩
  .rw[U2f (Ny hi)]at h;have hl:=(U0l.mp h).1;have hi':i=μ.length:=by simp at hl;lia
   subst hi';simp at h;exact .inr ⟨rfl,h.symm⟩
 have no:∀i,μ[i]?=some (some a)->False:=λi h=>R.dead hn (U00 h);refine⟨⟨λi d h=>?_,R.len,λi es h=>?_,λi b h=>?_,λi j b h1 h2=>?_,by rw[U0n,U0n,R.slen];rfl,R.ent.trans x,λi b hi h=>?_⟩,x⟩
 .obtain⟨v,h1,h2⟩:=R.vals i d h;exact⟨v,h1,h2.ext x⟩
 .by_cases hi:i<S.length
  .rw[U1e hi]at h;obtain⟨b,h1,h2⟩:=R.sto i es h;exact⟨b,by rw[U1e (by rw[←R.slen];exact hi)];exact h1,h2.to x λo q=>sm _ _ q⟩
  .rw[U2f (Ny hi)]at h;have hl:=(U0l.mp h).1;have hi':i=S.length:=by simp at hl;lia
   subst hi';simp at h;subst h;exact⟨a,by rw[R.slen];simp,.inl ⟨xs,ha,VRs.flat hf rs⟩⟩
 .rcases idx i b h with ⟨hi,h⟩|⟨rfl,rfl⟩
  .obtain⟨ds',q⟩:=R.liv i b h;exact⟨ds',by rw[U1e (by rw[R.slen];exact hi)];exact q⟩
  .exact⟨ds,by rw[←R.slen];simp⟩
 .rcases idx i b h1 with ⟨_,g1⟩|⟨e1,e2⟩
  .rcases idx j b h2 with ⟨_,g2⟩|⟨e3,e4⟩
   .exact R.inj i j b g1 g2
   .exact(no i (e4 ▸ g1)).elim
  .rcases idx j b h2 with ⟨_,g2⟩|⟨e3,_⟩
   .exact(no j (e2 ▸ g2)).elim
   .rw[e1,e3]
 .rcases idx i b h with ⟨_,h⟩|⟨rfl,rfl⟩
  .exact R.new i b hi h
  .exact R.fresh hn
end
theorem aO:∀{vs:List V} {ds:List D} {p:List D×List D},Z9 n ds=some p->VRs Γ μ H vs ds ->
  ∃a xs,Γ.Ok true a/\H a=some (.lst xs)/\VRs Γ μ H xs p.2/\Fg p.2=true/\∀(Γ':Fr)(μ':Mu),μ'[n]?=some (some a)->VRs Γ' μ' H vs p.1
 |_,[],_,h,_=>by cases h
 |_,d::r,p,h,.cons (xs:=vr) rd rr=>by
  unfold Z9 at h;by_cases hf:Cd d=true
  .rw[if_pos hf]at h;obtain⟨q,e1,e2⟩:=map_some h;subst e2;obtain⟨a,xs,h1,h2,h3,h4,h5⟩:=aO e1 rr;exact⟨a,xs,h1,h2,h3,h4,fun Γ' μ' z=>.cons (VR.flat hf rd) (h5 Γ' μ' z)⟩
  .rw[if_neg hf]at h;split at h
   .rename_i ds;by_cases hg:(Fg ds&&Fg r)=true
    .rw[if_pos hg]at h;cases h;rw[U1a]at hg;cases rd with
     |@lst _ a xs _ o nl hb t=>
      refine⟨a,xs,o,hb,t,hg.1,fun Γ' μ' z=>.cons (.ref (U0l.mp z).1 λb hb'=>?_) (VRs.flat hg.2 rr)⟩;rw[z]at hb';cases hb';exact⟨rfl,⟨_,hb⟩⟩
    .rw[if_neg hg]at h;cases h
   .cases h
def vH(h:XH n d=some p)(r:VR Γ μ H v d) :
  ∃a xs,Γ.Ok true a/\H a=some (.lst xs)/\VRs Γ μ H xs p.2/\Fg p.2=true/\∀(Γ':Fr)(μ':Mu),μ'[n]?=some (some a)->VR Γ' μ' H v p.1:=by
 unfold XH at h;split at h
 .rename_i ds;by_cases hg:Fg ds=true
  .rw[if_pos hg]at h;cases h;cases r with
   |@lst _ a xs _ o nl hb t=>
    refine⟨a,xs,o,hb,t,hg,fun Γ' μ' z=>.ref (U0l.mp z).1 λb hb'=>?_⟩;rw[z]at hb';cases hb';exact⟨rfl,⟨_,hb⟩⟩
  .rw[if_neg hg]at h;cases h
 .rename_i es;obtain⟨q,e1,e2⟩:=map_some h;subst e2;cases r with
  |@tup b xs _ hb t=>
   obtain⟨a,ys,h1,h2,h3,h4,h5⟩:=aO e1 t;exact⟨a,ys,h1,h2,h3,h4,fun Γ' μ' z=>.tup hb (h5 Γ' μ' z)⟩
 .cases h
section
variable{X:Cx}{x:Str}{k k':Nat}{e:Expr}{es:List Expr}{f:CQ}{p pos:Pos}
def Ax(c:Dm X.prog X.w X.K X.mg X.base x k sem)(hr:FZ k' X.A)(hk:k<=k')(hg:Gl X x)(ha:JA X (e::es) f)
  (hdb:(x==("__debug__":Str))=false:=by decide) (he:starEach (e::es) X.env=(false,eval e X.env)::starEach es X.env:=by rfl) (hpl:(backTo pos (starEach es X.env)).any (·.1)=false:=by rfl) :
  JE X (.Call (.Name x p) (e::es) [] pos) (Am sem f):=by
 obtain⟨ps,c,hok⟩:=c.cal;refine⟨PE.imp (Rb c hr hk hg ha.pa hdb he hpl) λZ3 H Q h=>?_⟩;exact`zb;obtain⟨⟨as,S1⟩,e1,e⟩:=bind_some e;obtain⟨ds,e2,e⟩:=bind_some e;obtain⟨r,e3,e⟩:=bind_some e;refine⟨Γ,μ,env,S,as,S1,hK,R,e1,λvs μ1 H1 x1 R1 r1=>?_⟩;show spP X.K sem ps.length (vs++[]) H1 Q E0;rw[U17];dsimp only at e e2;by_cases hc:(Av as||newD r)=true
 .rw[if_pos hc]at e;cases e;obtain⟨hl,hp⟩:=hok _ _ e3;obtain⟨N,rs,cN⟩:=lend hK R1 (m0:=[]) r1 e2 (λi ds a hs=>⟨hs,λ_=>HJ⟩) (λa z=>by simp at z) (newD d) hc;refine⟨N,_,d,?_,rs,e3,λv H' sm rv=>?_⟩
  .rw[rs.length,hl]
  obtain⟨R2,x2⟩:=R1.grow sm;exact q v μ1 H' (x1.trans x2) R2 (home hK R1 (λa z=>R2.live z) hp cN rv)
 .rw[if_neg hc]at e;cases e
def sJ(c:Dm X.prog X.w X.K X.mg X.base x k sem)(hr:FZ k' X.A)(hk:k<=k')(hg:Gl X x)(ha:JA X (e::es) f)
  (hdb:(x==("__debug__":Str))=false:=by decide) (he:starEach (e::es) X.env=(false,eval e X.env)::starEach es X.env:=by rfl) (hpl:(backTo pos (starEach es X.env)).any (·.1)=false:=by rfl) :
  JE X (.Call (.Name x p) (e::es) [] pos) (T4 sem f):=by
 obtain⟨ps,c,hok⟩:=c.cal;refine⟨PE.imp (Rb c hr hk hg ha.pa hdb he hpl) λZ3 H Q h=>?_⟩;exact`zb;obtain⟨⟨d0,S0⟩,e0,e⟩:=bind_some e;obtain⟨t,et,e⟩:=bind_some e;cases e;obtain⟨⟨as,S1⟩,e1,e⟩:=bind_some e0;obtain⟨ds,e2,e⟩:=bind_some e;obtain⟨r,e3,e⟩:=bind_some e;refine⟨Γ,μ,env,S,as,S1,hK,R,e1,λvs μ1 H1 x1 R1 r1=>?_⟩;show spP X.K sem ps.length (vs++[]) H1 Q E0;rw[U17];dsimp only at e e2;by_cases hc:(Av as||newD r)=true
 .rw[if_pos hc]at e;cases e;obtain⟨hl,hp⟩:=hok _ _ e3;obtain⟨N,rs,cN⟩:=lend hK R1 (m0:=[]) r1 e2 (λi ds a hs=>⟨hs,λ_=>HJ⟩) (λa z=>by simp at z) (newD d0) hc;refine⟨N,_,d0,?_,rs,e3,λv H' sm rv=>?_⟩
  .rw[rs.length,hl]
  obtain⟨a,xs,h1,h2,h3,h4,h5⟩:=vH et rv;obtain⟨R2,x2⟩:=R1.adopt sm (h1.1 rfl) h2 h4 h3;exact q v _ H' (x1.trans x2) R2 (h5 _ _ (by rw[R1.slen];simp))
 .rw[if_neg hc]at e;cases e
def DG(c:Qh X.prog X.w X.K X.mg X.base x k sem)(hr:FZ k' X.A)(hk:k<=k')(hg:Gl X x)(ha:JA X (e::es) f)
  (hdb:(x==("__debug__":Str))=false:=by decide) (he:starEach (e::es) X.env=(false,eval e X.env)::starEach es X.env:=by rfl) (hpl:(backTo pos (starEach es X.env)).any (·.1)=false:=by rfl) :
  JE X (.Call (.Name x p) (e::es) [] pos) (Bq sem f):=by
 obtain⟨ps,c,hok⟩:=c.cal;refine⟨PE.imp (Rb c hr hk hg ha.pa hdb he hpl) λZ3 H Q h=>?_⟩;exact`zb;obtain⟨⟨as,S1⟩,e1,e⟩:=bind_some e;refine⟨Γ,μ,env,S,as,S1,hK,R,e1,λvs μ1 H1 x1 R1 r1=>?_⟩;show spM X.K sem ps.length (vs++[]) H1 Q E0;rw[U17];exact`qc;split at e
 .rename_i i rest;split at e
  .rename_i cs hcs;obtain⟨ns,e4,e⟩:=bind_some e;obtain⟨ds,e2,e⟩:=bind_some e;obtain⟨⟨r,ms⟩,e3,e⟩:=bind_some e;exact`qc;by_cases hc:(Av rest||newD r)=true
   .rw[if_pos hc]at e;cases e;obtain⟨hl,hp⟩:=hok _ _ _ e3;have ecs:=JX e4;subst ecs;cases r1 with
    |@cons v0 _ us _ r0 rr=>
     obtain⟨a,xs,rfl,h1,h2,h3⟩:=VR.ZM R1 r0 hcs;have ex:=h3.RQ;subst ex;have hi:i<S1.length:=(U0l.mp hcs).1;obtain⟨N,rs,cN⟩:=lend hK R1 (S0:=S1.set i none) (m0:=[a]) rr e2 (λj es b hs=>by
      have hj:i≠j:=λz=>by subst z;rw[U2p hi]at hs;cases hs
      rw[U2i hj]at hs;exact⟨hs,λhm z=>hj (R1.inj i j a h1 (by rw[show a=b from (Rf.mp z).symm];exact hm))⟩) (λb z=>by
       have:b=a:=by simpa using z
       rw[this];exact U00 h1) (newD d) hc
     refine⟨N,a,us,ns,_,d,ms,rfl,?_,h2,rs,e3,λv H' sm ha' rv=>?_⟩
     .rw[U0f,rs.length,hl]
     obtain⟨R2,x2⟩:=R1.put h1 ⟨_,h2⟩ (VRs.ints ms);have sm2:Same (upd H1 a (.lst (ms.map V.int))) H':=λb o hb=>by
      by_cases z:b=a
      .rw[z,CT]at hb;cases hb;rw[z];exact ha'
      .rw[Bt z]at hb;exact sm b o z hb
     obtain⟨R3,x3⟩:=R2.grow sm2;exact q v μ1 H' (x1.trans (x2.trans x3)) R3 (home hK R1 (λa z=>R3.live z) hp cN rv)
   .rw[if_neg hc]at e;cases e
  .cases e
 .cases e
end
def OpR.or(h:OpR X f r)(h':OpR X f r'):OpR X f (λx y H Q=>r x y H Q∨r' x y H Q):=λpins s Z3 H x y v u Q I rx ry q=>q.elim (λz=>h pins s Z3 H x y v u Q I rx ry z) λz=>h' pins s Z3 H x y v u Q I rx ry z
def Eh.or{r r':List V->Hp->VK->Prop}(h:Eh X f r)(h':Eh X f r'):Eh X f (λxs H Q=>r xs H Q∨r' xs H Q):=λpins s Z3 H xs us Q I rs q=>q.elim (λz=>h pins s Z3 H xs us Q I rs z) λz=>h' pins s Z3 H xs us Q I rs z
def oI(c:Int->Int->Bool)(g:Int->Int->D)(_:Store):D->D->Option D
 |.int i,.int j=>if c i j=true then some (g i j) else none
 |_,_=>none
def FQ(_ _:Int):Bool:=true
def iJ{C:Int->Int->Prop}(g:Int->Int->Int)(hc:∀i j,c i j=true->C i j):G8 K (rI C λi j=>.int (g i j)) (oI c λi j=>.int (g i j)):=by
 exact`zl;unfold oI at e;split at e
 .rename_i i j;by_cases h:c i j=true
  .rw[if_pos h]at e;cases e;obtain rfl:=rx.inv;obtain rfl:=ry.inv;exact⟨i,j,rfl,rfl,hc i j h,q _ H (Same.refl H) (.int _)⟩
  .rw[if_neg h]at e;cases e
 .cases e
def Jay(g:Int->Int->Int):G8 K (rI0 λi j=>.int (g i j)) (oI FQ λi j=>.int (g i j)):=by
 exact`zl;unfold oI at e;split at e
 .rename_i i j;rw[if_pos (show FQ i j=true from rfl)]at e;cases e;obtain rfl:=rx.inv;obtain rfl:=ry.inv;exact⟨i,j,rfl,rfl,q _ H (Same.refl H) (.int _)⟩
 .cases e
def W3(g:Int->Int->Bool):G8 K (rI0 λi j=>.bl (g i j)) (oI FQ λi j=>.bl (g i j)):=by
 exact`zl;unfold oI at e;split at e
 .rename_i i j;rw[if_pos (show FQ i j=true from rfl)]at e;cases e;obtain rfl:=rx.inv;obtain rfl:=ry.inv;exact⟨i,j,rfl,rfl,q _ H (Same.refl H) (.bl _)⟩
 .cases e
def G6:=oI FQ λi j=>.int (i-j)
def MN(i j:Int):Bool:=(decide (-(2^64)<i)&&decide (i<2^64))||(decide (-(2^64)<j)&&decide (j<2^64))
def ZV(_ j:Int):Bool:=decide (0<j)&&decide (j<2^64)
def ZR(_ j:Int):Bool:=decide (0<j)
def Kh(i j:Int):Bool:=decide (0<=j)&&decide (j<=1000000)&&decide (i.natAbs<2^64)
def oDiv:=oI ZV λi j=>.int (i/j)
def oMod:=oI ZR λi j=>.int (i%j)
def Fq:=oI Kh λi j=>.int (i^j.toNat)
def oLt:=oI FQ λi j=>.bl (decide (i<j))
def oLe:=oI FQ λi j=>.bl (decide (i<=j))
def oGt:=oI FQ λi j=>.bl (decide (j<i))
def oGe:=oI FQ λi j=>.bl (decide (j<=i))
def Gw:G8 K (rI0 λi j=>.int (i-j)) G6:=Jay _
def Xh:G8 K (rI (λ_ j=>0<j/\j<2^64) λi j=>.int (i/j)) oDiv:=iJ _ λi j h=>by simpa [ZV] using h
def Ma:G8 K (rI (λ_ j=>0<j) λi j=>.int (i%j)) oMod:=iJ _ λi j h=>by simpa [ZR] using h
def Hg:G8 K (rI qL λi j=>.int (i^j.toNat)) Fq:=iJ _ λi j h=>by simpa [Kh,qL,and_assoc] using h
def Lq:G8 K (rI0 λi j=>.bl (decide (i<j))) oLt:=W3 _
def W2:G8 K (rI0 λi j=>.bl (decide (i<=j))) oLe:=W3 _
def Ng:G8 K (rI0 λi j=>.bl (decide (j<i))) oGt:=W3 _
def Zj:G8 K (rI0 λi j=>.bl (decide (j<=i))) oGe:=W3 _
def HS(_:Store):D->Option D
 |.int i=>some (.int (-i))
 |_=>none
def Ky:Jag K (rU λi=>.int (-i)) HS:=by
 intro Γ μ Z3 H env S x dx d hK R rx e Q q;unfold HS at e;split at e
 .cases e;obtain rfl:=rx.inv;exact⟨_,rfl,q _ H (Same.refl H) (.int _)⟩
 .cases e
def Bo(S:Store):D->D->Option D
 |.int i,.int j=>some (.int (i+j))
 |.tup a,.tup b=>if a.length+b.length<=1000000 then some (.tup (a++b)) else none
 |.str x,.str y=>if x.length+y.length<=1000000 then some (.str (x++y)) else none
 |x,y=>(listOf S x).bind λa=>(listOf S y).bind λb=>if a.length+b.length<=1000000 then some (.lst true (a++b)) else none
def uV:R2:=λx y H Q=>∃(a b:Addr)(xs ys:List V),x=.ref a/\y=.ref b/\H a=some (.tup xs)/\H b=some (.tup ys)/\xs.length+ys.length<=sizeLine/\∀p H',Same H H'->H' p=some (.tup (xs++ys))->Q (.ref p) H'
def Jdv:R2:=λx y H Q=>∃i j,x=.str i/\y=.str j/\i.length+j.length<=sizeLine/\Q (.str (i++j)) H
def uW:R2:=λx y H Q=>(rI0 λi j=>.int (i+j)) x y H Q∨uV x y H Q∨Jdv x y H Q∨zf x y H Q
def CK:OpR X (binaryOp .Add) uW:=OpR.or Jbm (OpR.or wu (OpR.or jG Jbl))
def CJ:G8 K uW Bo:=by
 exact`zl;unfold Bo at e;split at e
 .cases e;obtain rfl:=rx.inv;obtain rfl:=ry.inv;exact .inl ⟨_,_,rfl,rfl,q _ H (Same.refl H) (.int _)⟩
 .rename_i a b;by_cases h:a.length+b.length<=1000000
  .rw[if_pos h]at e;cases e;cases rx with
   |@tup p xs _ hp rp=>
    cases ry with
    |@tup p2 ys _ hp2 rp2=>
     refine .inr (.inl ⟨p,p2,xs,ys,rfl,rfl,hp,hp2,by rw[rp.length,rp2.length];exact U2o (big h),λt H' sm ht=>?_⟩);obtain⟨R2,x2⟩:=R.grow sm;exact q _ H' sm (.tup ht ((rp.append rp2).ext x2))
  .rw[if_neg h]at e;cases e
 .rename_i a b;by_cases h:a.length+b.length<=1000000
  .rw[if_pos h]at e;cases e;obtain rfl:=rx.inv;obtain rfl:=ry.inv;exact .inr (.inr (.inl ⟨_,_,rfl,rfl,U2o (big h),q _ H (Same.refl H) (.str _)⟩))
  .rw[if_neg h]at e;cases e
 .obtain⟨a,e1,e⟩:=bind_some e;obtain⟨b,e2,e⟩:=bind_some e;by_cases h:a.length+b.length<=1000000
  .rw[if_pos h]at e;cases e;obtain⟨p,xs,rfl,hp,rp⟩:=VR.list R rx e1;obtain⟨p2,ys,rfl,hp2,rp2⟩:=VR.list R ry e2;refine .inr (.inr (.inr ⟨p,p2,xs,ys,rfl,rfl,hp,hp2,by rw[rp.length,rp2.length];exact U2o (big h),λt ht=>?_⟩));obtain⟨R2,x2⟩:=R.grow (DY ht (.lst (xs++ys)));exact q _ _ (DY ht _) (.lst (R.ok ht true) (R.dead ht) CT ((rp.append rp2).ext x2))
  .rw[if_neg h]at e;cases e
def Hx(S:Store):D->D->Option D
 |.int i,.int j=>if MN i j=true then some (.int (i*j)) else none
 |.tup a,.int k=>if a≠[]/\1<=k/\k<2^60/\a.length*k.toNat<=1000000 then some (.tup (U06 k.toNat a).flatten) else none
 |x,.int k=>(listOf S x).bind λa=>if -(2^63)<=k/\k<2^63/\a.length*k.toNat<=1000000 then some (.lst true (U06 k.toNat a).flatten) else none
 |_,_=>none
def uU:R2:=λx y H Q=>(rI Ze λi j=>.int (i*j)) x y H Q∨uT x y H Q∨zV x y H Q
def LK:OpR X (binaryOp .Mult) uU:=OpR.or Jbi (OpR.or wZ Jbg)
def Kz:G8 K uU Hx:=by
 exact`zl;unfold Hx at e;split at e
 .rename_i i j;by_cases h:MN i j=true
  .rw[if_pos h]at e;cases e;obtain rfl:=rx.inv;obtain rfl:=ry.inv;exact .inl ⟨_,_,rfl,rfl,by simpa [MN,Ze] using h,q _ H (Same.refl H) (.int _)⟩
  .rw[if_neg h]at e;cases e
 .rename_i a k;by_cases h:a≠[]/\1<=k/\k<2^60/\a.length*k.toNat<=1000000
  .rw[if_pos h]at e;cases e;obtain rfl:=ry.inv;cases rx with
   |@tup p xs _ hp rp=>
    have hl:=rp.length;refine .inr (.inl ⟨p,k,xs,rfl,rfl,hp,λz=>h.1 (U1z.mp (by rw[←hl,z];rfl)),h.2.1,h.2.2.1,by rw[hl];exact U2o (big h.2.2.2),λt H' sm ht=>?_⟩);obtain⟨R2,x2⟩:=R.grow sm;exact q _ H' sm (.tup ht ((rp.rep _).ext x2))
  .rw[if_neg h]at e;cases e
 .rename_i k _ _;obtain⟨a,e1,e⟩:=bind_some e;by_cases h:-(2^63)<=k/\k<2^63/\a.length*k.toNat<=1000000
  .rw[if_pos h]at e;cases e;obtain rfl:=ry.inv;obtain⟨p,xs,rfl,hp,rp⟩:=VR.list R rx e1;refine .inr (.inr ⟨p,k,xs,rfl,rfl,hp,h.1,h.2.1,by rw[rp.length];exact U2o (big h.2.2),λt ht=>?_⟩);obtain⟨R2,x2⟩:=R.grow (DY ht (.lst (U06 k.toNat xs).flatten));exact q _ _ (DY ht _) (.lst (R.ok ht true) (R.dead ht) CT ((rp.rep _).ext x2))
  .rw[if_neg h]at e;cases e
 .cases e
def oIx(S:Store):D->D->Option D
 |x,.int i=>(Bj S x).bind λds=>atI ds i
 |_,_=>none
def yX(r:VRs Γ μ H xs ds)(h:atI ds i=some d):∃x,atI xs i=some x/\VR Γ μ H x d:=by unfold atI at h ⊢;obtain⟨j,e1,e2⟩:=bind_some h;obtain⟨x,f1,f2⟩:=r.get e2;exact⟨x,by rw[r.length,e1];exact f1,f2⟩
def BJ:G8 K (rIx K) oIx:=by
 exact`zl;unfold oIx at e;split at e
 .rename_i i;obtain⟨ds,e1,e⟩:=bind_some e;obtain rfl:=ry.inv;obtain⟨a,xs,rfl,hq,rs⟩:=VR.seq hK R rx e1;obtain⟨v,f1,f2⟩:=yX rs e;rcases hq with hq|hq
  .exact .inl ⟨a,xs,i,v,rfl,rfl,hq,f1,q _ H (Same.refl H) f2⟩
  .exact .inr (.inl ⟨a,xs,i,v,rfl,rfl,hq,f1,q _ H (Same.refl H) f2⟩)
 .cases e
def cut(xs:List D)(lo hi:Option Int):List D:=(xs.drop (HT.sIx xs.length 0 lo)).take (HT.sIx xs.length xs.length hi-HT.sIx xs.length 0 lo)
def oSl(S:Store)(x:D)(lo hi:Option Int):Option D:=match x with
 |.tup ds=>some (.tup (cut ds lo hi))
 |x=>(Bj S x).map λds=>.lst true (cut ds lo hi)
def zT:V->Option Int->Option Int->Hp->VK->Prop:=λx lo hi H Q=>∃(a:Addr)(xs:List V),x=.ref a/\H a=some (.tup xs)/\∀p H',Same H H'->H' p=some (.tup (Le xs lo hi))->Q (.ref p) H'
def zU(K:U0e):V->Option Int->Option Int->Hp->VK->Prop:=λx lo hi H Q=>zT x lo hi H Q∨zR K x lo hi H Q
def Ib:SlR X (zU X.K):=SlR.or vR vU
def Ie:uq K (zU K) oSl:=by
 intro Γ μ Z3 H env S x dx d l h hK R rx e Q q;have key:∀{xs:List V} {ds:List D} {H':Hp},VRs Γ μ H' xs ds->VRs Γ μ H' (Le xs l h) (cut ds l h):=λr=>by unfold Le cut;rw[r.length];exact(r.drop _).take _
 unfold oSl at e;split at e
 .cases e;cases rx with
  |@tup p xs _ hp rp=>
   refine .inl ⟨p,xs,rfl,hp,λt H' sm ht=>?_⟩;obtain⟨R2,x2⟩:=R.grow sm;exact q _ H' sm (.tup ht (key (rp.ext x2)))
 .rename_i ht;obtain⟨ds,e1,e2⟩:=map_some e;subst e2;rcases VR.ZL hK R rx e1 with ⟨es,z⟩|⟨a,xs,rfl,hq,rs⟩
  .exact absurd z (ht es)
  .refine .inr ⟨a,xs,rfl,hq,λt htt=>?_⟩;obtain⟨R2,x2⟩:=R.grow (DY htt (.lst (Le xs l h)));exact q _ _ (DY htt _) (.lst (R.ok htt true) (R.dead htt) CT (key (rs.ext x2)))
def DQ(S:Store):List D->Option D
 |[x]=>(Bj S x).map λds=>.int ds.length
 |_=>none
def FW:Lg K (Jfa K) DQ:=by
 exact`zn;unfold DQ at e;split at e
 .obtain⟨es,e1,e2⟩:=map_some e;subst e2;obtain⟨v,rfl,r⟩:=rs.one;obtain⟨a,xs,rfl,hq,rx⟩:=VR.seq hK R r e1;refine⟨a,xs,rfl,hq,?_⟩;rw[rx.length];exact q _ H (Same.refl H) (.int _)
 .cases e
def Lf(S:Store):List D->Option D
 |[x]=>(Bj S x).map λds=>.tup ds
 |_=>none
def QG:Lg K (qm K) Lf:=by
 exact`zn;unfold Lf at e;split at e
 .rename_i x;obtain⟨es,e1,e2⟩:=map_some e;subst e2;obtain⟨v,rfl,r⟩:=rs.one;rcases VR.ZL hK R r e1 with ⟨fs,rfl⟩|⟨a,xs,rfl,hq,rx⟩
  .cases r with
   |@tup p xs _ hp rp=>cases e1;exact⟨p,xs,rfl,.inr ⟨SqT.of hp,q _ H (Same.refl H) (.tup hp rp)⟩⟩
  .refine⟨a,xs,rfl,.inl ⟨hq,λl hl=>?_⟩⟩;obtain⟨R2,x2⟩:=R.grow (DY hl (.tup xs));exact q _ _ (DY hl _) (.tup CT (rx.ext x2))
 .cases e
def Il(S:Store):List D->Option D
 |[x]=>(listOf S x).bind λds=>(boolsOf ds).map λbs=>.bl (bs.all id)
 |_=>none
where boolsOf:List D->Option (List Bool)
 |[]=>some []
 |.bl b::r=>(boolsOf r).map (b::·)
 |_=>none
@[simp] theorem V4(bs:List Bool):Il.boolsOf (bs.map D.bl)=some bs:=by
 induction bs with
 |nil=>rfl
 |cons b r ih=>rw[U0j,Il.boolsOf,ih];rfl
theorem V3:∀{xs:List V} {ds:List D} {bs:List Bool},VRs Γ μ H xs ds->Il.boolsOf ds=some bs->xs=bs.map V.bl
 |_,[],_,.nil,h=>by cases h;rfl
 |_,.bl b::r,bs,.cons q t,h=>by rw[Il.boolsOf]at h;obtain⟨cs,e1,e2⟩:=map_some h;subst e2;cases q;rw[U0j,V3 t e1]
 |_,.non::_,_,_,h=>by cases h
 |_,.int _::_,_,_,h=>by cases h
 |_,.str _::_,_,_,h=>by cases h
 |_,.ty _::_,_,_,h=>by cases h
 |_,.fn _ _::_,_,_,h=>by cases h
 |_,.lent _::_,_,_,h=>by cases h
 |_,.exc _ _::_,_,_,h=>by cases h
 |_,.dbx _::_,_,_,h=>by cases h
 |_,.tup _::_,_,_,h=>by cases h
 |_,.lst _ _::_,_,_,h=>by cases h
 |_,.ref _::_,_,_,h=>by cases h
 |_,.scr _::_,_,_,h=>by cases h
 |_,.emp::_,_,_,h=>by cases h
def Jfd(K:U0e):List V->Hp->VK->Prop:=λxs H Q=>∃(p:Addr)(bs:List Bool),xs=[.ref p]/\SqL K H p (bs.map V.bl)/\Q (.bl (bs.all id)) H
def Qx:Lg K (Jfd K) Il:=by
 exact`zn;unfold Il at e;split at e
 .obtain⟨es,e1,e⟩:=bind_some e;obtain⟨bs,e2,e3⟩:=map_some e;subst e3;obtain⟨v,rfl,r⟩:=rs.one;obtain⟨a,xs,rfl,ha,rx⟩:=VR.list R r e1;have:=V3 rx e2;subst this;exact⟨a,bs,rfl,SqL.of ha,q _ H (Same.refl H) (.bl _)⟩
 .cases e
def RX(_:Store):List D->Option D
 |[.int i,.int j]=>some (.int (if j>i then j else i))
 |_=>none
def RW(_:Store):List D->Option D
 |[.int i,.int j]=>some (.int (if j<i then j else i))
 |_=>none
def VF(_:Store):List D->Option D
 |[.int i]=>some (.int (if i<0 then -i else i))
 |_=>none
def ZX(_:Store):List D->Option D
 |[.int i]=>some (.int i)
 |[.bl k]=>some (.int (if k then 1 else 0))
 |_=>none
def aW:Lg K (λxs H Q=>∃i j,xs=[.int i,.int j]/\Q (.int (if j>i then j else i)) H) RX:=by
 exact`zn;unfold RX at e;split at e
 .cases e;obtain⟨v,u,rfl,r1,r2⟩:=rs.two;obtain rfl:=r1.inv;obtain rfl:=r2.inv;exact⟨_,_,rfl,q _ H (Same.refl H) (.int _)⟩
 .cases e
def aV:Lg K (λxs H Q=>∃i j,xs=[.int i,.int j]/\Q (.int (if j<i then j else i)) H) RW:=by
 exact`zn;unfold RW at e;split at e
 .cases e;obtain⟨v,u,rfl,r1,r2⟩:=rs.two;obtain rfl:=r1.inv;obtain rfl:=r2.inv;exact⟨_,_,rfl,q _ H (Same.refl H) (.int _)⟩
 .cases e
def eZ:Lg K (λxs H Q=>∃i,xs=[.int i]/\Q (.int (if i<0 then -i else i)) H) VF:=by
 exact`zn;unfold VF at e;split at e
 .cases e;obtain⟨v,rfl,r1⟩:=rs.one;obtain rfl:=r1.inv;exact⟨_,rfl,q _ H (Same.refl H) (.int _)⟩
 .cases e
def vd:Lg K (λxs H Q=>(∃i,xs=[.int i]/\Q (.int i) H)∨∃k,xs=[.bl k]/\Q (.int (if k then 1 else 0)) H) ZX:=by
 exact`zn;unfold ZX at e;split at e
 .cases e;obtain⟨v,rfl,r1⟩:=rs.one;obtain rfl:=r1.inv;exact .inl ⟨_,rfl,q _ H (Same.refl H) (.int _)⟩
 .cases e;obtain⟨v,rfl,r1⟩:=rs.one;obtain rfl:=r1.inv;exact .inr ⟨_,rfl,q _ H (Same.refl H) (.int _)⟩
 .cases e
def pW:List Int->Option Int
 |[]=>none
 |n::r=>some (r.foldl (λa b=>if a<b then b else a) n)
def yM(r:List Int):∀n:Int,(r.foldl (λa b=>if a<b then b else a) n=n∨r.foldl (λa b=>if a<b then b else a) n∈r)/\n<=r.foldl (λa b=>if a<b then b else a) n/\∀m∈r,m<=r.foldl (λa b=>if a<b then b else a) n:=by
 induction r with
 |nil=>intro n;exact⟨.inl rfl,U30 _,λm h=>by simp at h⟩
 |cons x r ih=>
  intro n;rw[U2l];by_cases h:n<x
  .rw[if_pos h];obtain⟨h1,h2,h3⟩:=ih x;refine⟨.inr (by rcases h1 with z|z;(rw[z];exact U0h);exact U0k _ z),by lia,λm hm=>?_⟩;rcases U0q.mp hm with z|z
   .rw[z];exact h2
   .exact h3 m z
  .rw[if_neg h];obtain⟨h1,h2,h3⟩:=ih n;refine⟨by rcases h1 with z|z;exact .inl z;exact .inr (U0k _ z),h2,λm hm=>?_⟩;rcases U0q.mp hm with z|z
   .rw[z];lia
   .exact h3 m z
def fW(h:pW ns=some m):m∈ns/\∀n∈ns,n<=m:=by
 cases ns with
 |nil=>cases h
 |cons x r=>
  cases h;obtain⟨h1,h2,h3⟩:=yM r x;refine⟨by rcases h1 with z|z;(rw[z];exact U0h);exact U0k _ z,λn hn=>?_⟩;rcases U0q.mp hn with z|z
  .rw[z];exact h2
  .exact h3 n z
def UW(S:Store):List D->Option D
 |[x]=>(listOf S x).bind λds=>(intsOf ds).bind λns=>(pW ns).map .int
 |_=>none
def qZ:Lg K (λxs H Q=>∃(p:Addr)(ns:List Int),xs=[.ref p]/\SqL K H p (ns.map V.int)/\ns≠[]/\∀m,m∈ns->(∀n∈ns,n<=m)->Q (.int m) H) UW:=by
 exact`zn;unfold UW at e;split at e
 .obtain⟨es,e1,e⟩:=bind_some e;obtain⟨ns,e2,e⟩:=bind_some e;obtain⟨m,e3,e4⟩:=map_some e;subst e4;obtain⟨v,rfl,r⟩:=rs.one;obtain⟨a,xs,rfl,ha,rx⟩:=VR.list R r e1;have:=JX e2;subst this;have:=rx.RQ;subst this;refine⟨a,ns,rfl,SqL.of ha,(λz=>by rw[z]at e3;cases e3),λm' h1 h2=>?_⟩;obtain⟨g1,g2⟩:=fW e3;have:m'=m:=U64 (g2 _ h1) (h2 _ g1);rw[this];exact q _ H (Same.refl H) (.int _)
 .cases e
mutual
def toP:D->Option PyData
 |.non=>some .none
 |.bl b=>some (.bool b)
 |.int i=>some (.int i)
 |.str x=>some (.str x)
 |.tup ds=>(K3 ds).map .tuple
 |.lst _ ds=>(K3 ds).map .list
 |.emp=>some (.dict [])
 |.ref _=>none
 |.scr _=>none
 |.ty _=>none
 |.fn _ _=>none
 |.dref _=>none
 |.dcf _=>none
 |.dcm _=>none
 |.lent _=>none
 |.exc _ _=>none
 |.dbx b=>some (.dict [(.int 1,.tuple (b.map λx=>.tuple [.int x.1,.int x.2]))])
def K3:List D->Option (List PyData)
 |[]=>some []
 |d::r=>(toP d).bind λx=>(K3 r).bind λxs=>some (x::xs)
end
theorem lq:∀{qs:List Addr} {b:List (Int×Int)},qs.length=b.length->(∀(i:Nat)(q:Addr)(x:Int×Int),qs[i]?=some q->b[i]?=some x->H q=some (.tup [.int x.1,.int x.2]))->KN (λ_=>True) H (qs.map V.ref) (b.map λx=>.tuple [.int x.1,.int x.2])
 |[],[],_,_=>.nil
 |q::qs,x::b,hl,h=>.cons (.tup trivial (h 0 q x rfl rfl) (.cons (.int _) (.cons (.int _) .nil))) (lq (by simpa using hl) λi q' x' e1 e2=>h (i+1) q' x' (by simpa using e1) (by simpa using e2))
 |[],_::_,hl,_=>by simp at hl
 |_::_,[],hl,_=>by simp at hl
def Ua.tr(h:Ua H p b):Tr (λ_=>True) H (.ref p) (.tuple (b.map λx=>.tuple [.int x.1,.int x.2])):=by obtain⟨qs,h1,h2,h3⟩:=h;exact .tup trivial h2 (lq h1 h3)
mutual
theorem VR.tr(r:VR Γ μ H v d)(h:toP d=some p):Tr (λ_=>True) H v p:=by
 cases r with
 |non=>rw[toP]at h;cases h;exact .non
 |bl b=>rw[toP]at h;cases h;exact .bl b
 |int i=>rw[toP]at h;cases h;exact .int i
 |str x=>rw[toP]at h;cases h;exact .str x
 |ty _=>rw[toP]at h;cases h
 |fn _ _=>rw[toP]at h;cases h
 |tup hb t=>
  rw[toP]at h;obtain⟨ps,e1,e2⟩:=map_some h;subst e2;exact .tup trivial hb (VRs.tr t e1)
 |lst _ _ hb t=>
  rw[toP]at h;obtain⟨ps,e1,e2⟩:=map_some h;subst e2;exact .lst trivial hb (VRs.tr t e1)
 |ref _ _=>rw[toP]at h;cases h
 |scrK _=>rw[toP]at h;cases h
 |scrR _ _=>rw[toP]at h;cases h
 |emp _ _ hb=>rw[toP]at h;cases h;exact .dct trivial hb
 |dref _ _=>rw[toP]at h;cases h
 |lent _ _ _=>rw[toP]at h;cases h
 |exc _ _ _=>rw[toP]at h;cases h
 |dbx _ _ hb bx=>rw[toP]at h;cases h;exact .dc1 trivial hb bx.tr
 |dcf _ _ _=>rw[toP]at h;cases h
theorem VRs.tr:∀{v:List V} {d:List D} {p:List PyData},VRs Γ μ H v d->K3 d=some p->KN (λ_=>True) H v p
 |_,_,_,.nil,h=>by rw[K3]at h;cases h;exact .nil
 |_,_,_,.cons r t,h=>by rw[K3]at h;obtain⟨x,e1,h⟩:=bind_some h;obtain⟨xs,e2,h⟩:=bind_some h;cases h;exact .cons (VR.tr r e1) (VRs.tr t e2)
end
def El(S:Store)(d:D):Option PyData:=(den 0 S d).bind toP
def VR.see(R:Rep Γ μ Z3 H env S)(r:VR Γ μ H v d)(h:El S d=some p):Tr (λ_=>True) H v p:=by obtain⟨e,e1,e2⟩:=bind_some h;have r1:VR ⟨Γ.K,λ_=>none,λ_=>True,[]⟩ [] H v e:=VR.den (Γ':=⟨Γ.K,λ_=>none,λ_=>True,[]⟩) R rfl (λi ds a _ hs=>⟨hs,λz=>⟨HJ,⟨λ_=>rfl,.inl trivial⟩⟩⟩) (λm a _ _=>⟨λ_=>rfl,.inl trivial⟩) (λa o _ _=>HJ) r e1;exact r1.tr e2
def eqP(neg:Bool)(S:Store)(x y:D):Option D:=(El S x).bind λp=>(El S y).bind λq=>if (U2r p&&U2r q)=true then some (.bl (neg ^^ U5a p q)) else none
def oEq(neg:Bool)(S:Store):D->D->Option D
 |.int i,.int j=>some (.bl (neg ^^ decide (i=j)))
 |x,y=>eqP neg S x y
def Jfc:R2:=λx y H Q=>∃(N N':Addr->Prop)(d e:PyData),Tr N H x d/\Tr N' H y e/\U2r d=true/\U2r e=true/\Q (.bl (U5a d e)) H
def Je9:R2:=λx y H Q=>∃(N N':Addr->Prop)(d e:PyData),Tr N H x d/\Tr N' H y e/\U2r d=true/\U2r e=true/\Q (.bl (!PyData.eqv d e)) H
def zc:R2:=λx y H Q=>rEq x y H Q∨Jfc x y H Q
def zW:R2:=λx y H Q=>rNe x y H Q∨Je9 x y H Q
def Gb(hr:FZ k X.A):OpR X (compareOp .Eq) zc:=OpR.or Jd3 (Jbk hr)
def Ga(hr:FZ k X.A):OpR X (compareOp .NotEq) zW:=OpR.or Jd2 (Jbh hr)
def GZ:G8 K zc (oEq false):=by
 exact`zl;unfold oEq at e;split at e
 .rename_i i j;cases e;obtain rfl:=rx.inv;obtain rfl:=ry.inv;refine .inl ⟨rfl,?_⟩;have:decide (V.int i=V.int j)=decide (i=j):=by simp
  rw[this];exact q _ H (Same.refl H) (by simpa using VR.bl (decide (i=j)))
 .unfold eqP at e;obtain⟨p,e1,e⟩:=bind_some e;obtain⟨p2,e2,e⟩:=bind_some e;by_cases h:(U2r p&&U2r p2)=true
  .rw[if_pos h]at e;cases e;rw[U1a]at h;exact .inr ⟨_,_,p,p2,rx.see R e1,ry.see R e2,h.1,h.2,q _ H (Same.refl H) (by simpa using VR.bl (U5a p p2))⟩
  .rw[if_neg h]at e;cases e
def GX:G8 K zW (oEq true):=by
 exact`zl;unfold oEq at e;split at e
 .rename_i i j;cases e;obtain rfl:=rx.inv;obtain rfl:=ry.inv;refine .inl ⟨rfl,?_⟩;have:decide (V.int i=V.int j)=decide (i=j):=by simp
  rw[this];exact q _ H (Same.refl H) (by simpa using VR.bl (!decide (i=j)))
 .unfold eqP at e;obtain⟨p,e1,e⟩:=bind_some e;obtain⟨p2,e2,e⟩:=bind_some e;by_cases h:(U2r p&&U2r p2)=true
  .rw[if_pos h]at e;cases e;rw[U1a]at h;exact .inr ⟨_,_,p,p2,rx.see R e1,ry.see R e2,h.1,h.2,q _ H (Same.refl H) (by simpa using VR.bl (!PyData.eqv p p2))⟩
  .rw[if_neg h]at e;cases e
def ug(S:Store):D->Option Bool
 |.non=>some true
 |.ref i=>((S[i]?).join).map λ_=>false
 |.int _=>some false
 |.bl _=>some false
 |.str _=>some false
 |.tup _=>some false
 |.lst _ _=>some false
 |.exc _ _=>some false
 |_=>none
def gU(neg:Bool)(S:Store)(x y:D):Option D:=match y with
 |.non=>(ug S x).map λb=>.bl (neg ^^ b)
 |.bl b=>match x with
  |.bl a=>some (.bl (neg ^^ decide (a=b)))
  |_=>none
 |_=>none
def kE:R2:=λx y H Q=>(y=.non/\Q (.bl (!decide (x=.non))) H)∨∃(c d:Bool),x=.bl c/\y=.bl d/\Q (.bl (!decide (c=d))) H
def rG:OpR X (compareOp .IsNot) kE:=OpR.or wg cj
def tH(R:Rep Γ μ Z3 H env S)(rx:VR Γ μ H x d)(e:ug S d=some b):decide (x=.non)=b:=by
 cases d with
 |non=>cases e;obtain rfl:=rx.inv;rfl
 |ref i=>
  obtain⟨ds,e1,e2⟩:=map_some e;subst e2;obtain⟨a,xs,rfl,_⟩:=VR.ZM R rx (join_some e1);rfl
 |int i=>cases e;obtain rfl:=rx.inv;rfl
 |bl i=>cases e;obtain rfl:=rx.inv;rfl
 |str i=>cases e;obtain rfl:=rx.inv;rfl
 |tup i=>cases e;cases rx;rfl
 |lst m i=>cases e;cases rx;rfl
 |exc c i=>cases e;cases rx;rfl
 |_=>cases e
def Jb9(R:Rep Γ μ Z3 H env S)(rx:VR Γ μ H x dx)(ry:VR Γ μ H y dy)(e:gU neg S dx dy=some d):(y=.non/\d=.bl (neg ^^ decide (x=.non)))∨∃(a b:Bool),x=.bl a/\y=.bl b/\d=.bl (neg ^^ decide (a=b)):=by
 cases dy with
 |non=>
  obtain⟨b,e1,e2⟩:=map_some e;obtain rfl:=ry.inv;exact .inl ⟨rfl,by rw[tH R rx e1,e2]⟩
 |bl b=>
  cases dx with
  |bl a=>cases e;obtain rfl:=rx.inv;obtain rfl:=ry.inv;exact .inr ⟨a,b,rfl,rfl,rfl⟩
  |_=>cases e
 |_=>cases e
def qb:G8 K kE (gU true):=by
 exact`zl;have z:=Jb9 R rx ry e;simp only[Bool.true_xor]at z;rcases z with ⟨e1,rfl⟩|⟨a,b,e1,e2,rfl⟩
 .exact .inl ⟨e1,q _ H (Same.refl H) (.bl _)⟩
 .exact .inr ⟨a,b,e1,e2,q _ H (Same.refl H) (.bl _)⟩
def ZP(D:List (PyData×PyData))(_:Store):VS.D->Option VS.D
 |.int i=>some (.bl (lookup (.int i) D).isSome)
 |_=>none
def W4(D:List (PyData×PyData))(_:Store):VS.D->Option VS.D
 |.int i=>match lookup (.int i) D with|some (.int j)=>some (.int j)|_=>none
 |_=>none
section
variable{X:Cx}{a:Expr}{fa:Bh}{x:Str}{p pos:Pos}{dM:Addr}{D:List (PyData×PyData)}
def Jao(h:wpE K (eUn (ZP D) fa) Z3 H Q):tOp (λx y H Q=>∃(i:Int),x=.int i/\y=.ref dM/\Q (.bl (lookup (.int i) D).isSome) H) (wpE K fa) (tC (.ref dM)) Z3 H Q:=by
 exact`zb;obtain⟨⟨y,S1⟩,e1,e⟩:=bind_some e;obtain⟨z,e3,e⟩:=map_some e;cases e;refine⟨Γ,μ,env,S,y,S1,hK,R,e1,λv1 μ1 H1 x1 R1 r1=>?_⟩;dsimp only at e3;unfold ZP at e3;split at e3
 .cases e3;obtain rfl:=r1.inv;exact⟨_,rfl,rfl,q _ μ1 H1 x1 R1 (.bl _)⟩
 .cases e3
def sU(hT:∀h,X.K.In h->U7a X.prog X.w h dM D)(ha:JE X a fa)(hg:Gl X x)(hm:X.mg x=some (.ref dM))(hk:behindInMarks .In (.Name x p)=false:=by with_unfolding_all rfl)(hd:(x==("__debug__":Str))=false:=by decide):JE X (.Compare a [.In] [.Name x p] pos) (eUn (ZP D) fa):=
 ⟨PE.imp (fL (rH hT) ha.pe (fK (v:=.ref dM) hg hm rfl hd) hk) λ_ _ _ h=>Jao h⟩
def sS(hT:∀h,X.K.In h->U7a X.prog X.w h dM D)(hb:JE X a fa)(hg:Gl X x)(hm:X.mg x=some (.ref dM))(hs:Um a)(hd:(x==("__debug__":Str))=false:=by decide)
  (hgo:∀r,letTemporaryGo (.Name x p) (.ref dM) r=pure ():=by intro _;with_unfolding_all rfl):JE X (.Subscript (.Name x p) a pos) (eUn (W4 D) fa):=
 ⟨PE.imp (rB hT (fK (v:=.ref dM) hg hm rfl hd) hb.pe hs hgo) λZ3 H Q h=>by
  exact`zb;obtain⟨⟨y,S1⟩,e1,e⟩:=bind_some e;obtain⟨z,e3,e⟩:=map_some e;cases e;refine⟨Γ,μ,env,S,y,S1,hK,R,e1,λv1 μ1 H1 x1 R1 r1=>?_⟩;dsimp only at e3;unfold W4 at e3;split at e3
  .split at e3
   .rename_i hl;cases e3;obtain rfl:=r1.inv;exact⟨_,_,rfl,rfl,hl,q _ μ1 H1 x1 R1 (.int _)⟩
   .cases e3
  .cases e3⟩
end
def isT(T:String)(d:PyData):Bool:=match T with
 |"str"=>(match d with|.str _=>true|_=>false)
 |T=>XQ T d
def xU(d:PyData):U3m K (.type (tyName d)) (.type "str")=some (isT "str" d):=by
 cases d with
 |none=>exact Dd (a:="NoneType") (r:=false) (by decide +kernel)
 |bool _=>exact Dd (a:="bool") (r:=false) (by decide +kernel)
 |int _=>exact Dd (a:="int") (r:=false) (by decide +kernel)
 |str _=>exact Dd (a:="str") (r:=true) (by decide +kernel)
 |list _=>exact Dd (a:="list") (r:=false) (by decide +kernel)
 |tuple _=>exact Dd (a:="tuple") (r:=false) (by decide +kernel)
 |dict _=>exact Dd (a:="dict") (r:=false) (by decide +kernel)
def Jc(S:Store):List D->Option D
 |[x,.ty n]=>if n∈["int","bool","tuple","list","str"] then (El S x).map λp=>.bl (isT n p) else none
 |[x,.tup [.ty a,.ty b]]=>if a="tuple"/\b="list" then (El S x).bind λp=>if noDict p=true then some (.bl (isSeq p)) else none else none
 |_=>none
def Jfb(K:U0e):List V->Hp->VK->Prop:=λxs H Q=>∃(x:V)(T:String)(t:Value)(b:Bool),xs=[x,.ty T]/\Kl K H x t/\U3m K t (.type T)=some b/\Q (.bl b) H
def Jdt:List V->Hp->VK->Prop:=λxs H Q=>∃(N:Addr->Prop)(x:V)(d:PyData)(p:Addr),xs=[x,.ref p]/\H p=some (.tup [.ty "tuple",.ty "list"])/\Tr N H x d/\noDict d=true/\Q (.bl (isSeq d)) H
def iK(K:U0e):List V->Hp->VK->Prop:=λxs H Q=>Jfb K xs H Q∨Jdt xs H Q
def Jk:Eh X (.builtin "isinstance") (iK X.K):=Eh.or dI Z6
def LC:Lg K (iK K) Jc:=by
 exact`zn;have go:∀(T:String)(x:D),(∀p:PyData,U3m K (.type (tyName p)) (.type T)=some (isT T p))->ds=[x,.ty T]->((El S x).map λp=>D.bl (isT T p))=some d->iK K xs H Q:=λT x hk hd e'=>by subst hd;obtain⟨p,e1,e2⟩:=map_some e';subst e2;obtain⟨v,u,rfl,r1,r2⟩:=rs.two;obtain rfl:=r2.inv;exact .inl ⟨v,T,_,_,rfl,(r1.see R e1).ty,hk p,q _ H (Same.refl H) (.bl _)⟩
 unfold Jc at e;split at e
 .rename_i x n;split at e
  .rename_i hn;simp only[U0q,U1s,or_false]at hn;rcases hn with rfl|rfl|rfl|rfl|rfl
   .exact go "int" _ xV rfl e
   .exact go "bool" _ rY rfl e
   .exact go "tuple" _ kit_tuple rfl e
   .exact go "list" _ rW rfl e
   .exact go "str" _ xU rfl e
  .cases e
 .split at e
  .obtain⟨rfl,rfl⟩:=‹_/\_›;obtain⟨p,e1,e⟩:=bind_some e;by_cases h:noDict p=true
   .rw[if_pos h]at e;cases e;obtain⟨v,u,rfl,r1,r2⟩:=rs.two;cases r2 with
    |@tup a ys _ ha ry=>
     cases ry with
     |cons q1 t1=>
      cases t1 with
      |cons q2 t2=>
       cases t2;cases q1;cases q2;exact .inr ⟨_,v,p,a,rfl,ha,r1.see R e1,h,q _ H (Same.refl H) (.bl _)⟩
   .rw[if_neg h]at e;cases e
  .cases e
 .cases e
def Ep(ns:List Int):List Int:=(SetP.once ns).mergeSort λa b=>decide (a<=b)
def WX(h:ms.Perm (SetP.once ns))(s:ms.Pairwise (·<=·)):ms=Ep ns:=by
 have h2:(Ep ns).Perm (SetP.once ns):=U41 _ _;have s2:(Ep ns).Pairwise (·<=·):=by have:=U6 (le:=λa b:Int=>decide (a<=b)) (by intro a b c h1 h2;simp at *;lia) (by intro a b;simp;lia) (SetP.once ns);exact this.imp λh=>by simpa using h
 exact U48.eq_of_pairwise (λa b _ _ h1 h2=>U64 h1 h2) s s2 (h.trans h2.symm)
def Rj(a:Bh):Bh:=λenv S=>(a env S).bind λp=>(listOf p.2 p.1).bind λds=>(intsOf ds).bind λns=>if ns.length<1000/\(SetP.once ns).length<64 then some (.lst true ((Ep ns).map .int),p.2) else none
def Wb(hc:X.calm=true)(ha:JE X a f)(hg:Gl X "sorted")(hm:X.mg "sorted"=none)(hg2:Gl X "set")(hm2:X.mg "set"=none)
  (he:starEach [a] X.env=[(false,eval a X.env)]:=by rfl) (he2:starEach [.Call (.Name "set" p2) [a] [] pos2] X.env=[(false,eval (.Call (.Name "set" p2) [a] [] pos2) X.env)]:=by rfl):JE X (.Call (.Name "sorted" p) [.Call (.Name "set" p2) [a] [] pos2] [] pos) (Rj f):=
 ⟨PE.imp (VL (Y4 hc) hg hm Yr (Qy (QK (u6 hc) hg2 hm2 Jcr (Qy ha.pe Sx he) (he:=he) (hpl:=rfl)) Sx he2) (he:=he2) (hpl:=rfl)) λZ3 H Q h=>by
  exact`zb;obtain⟨⟨y,S1⟩,e1,e⟩:=bind_some e;obtain⟨ds,e2,e⟩:=bind_some e;obtain⟨ns,e3,e⟩:=bind_some e;by_cases hl:ns.length<1000/\(SetP.once ns).length<64
  .rw[if_pos hl]at e;cases e;refine⟨Γ,μ,env,S,y,_,hK,R,e1,λv1 μ1 H1 x1 R1 r1=>?_⟩;obtain⟨b,xs,rfl,hb,rb⟩:=VR.list R1 r1 e2;have:=JX e3;subst this;have:=rb.RQ;subst this;refine⟨b,ns,rfl,SqL.of hb,(by have:=hl.2;lia),λs hs=>?_⟩;obtain⟨R2,x2⟩:=R1.grow (DY hs (ZK X.prog X.w s (SetP.once ns)));refine⟨s,_,rfl,CT,hl.2,λl ms hl' hp hsrt=>?_⟩;have:=WX hp hsrt;subst this;obtain⟨R3,x3⟩:=R2.grow (DY hl' (.lst ((Ep ns).map V.int)));exact q _ μ1 _ (x1.trans (x2.trans x3)) R3 (.lst (R2.ok hl' true) (R2.dead hl') CT (VRs.ints _))
  .rw[if_neg hl]at e;cases e⟩
def Ii(a:CQ):Bh:=λenv S=>(a env S).bind λp=>match p.1 with
 |[.int j]=>if r62 j/\j.toNat<=100000 then some (.lst true (upD 0 j.toNat),p.2) else none
 |[.int i,.int j]=>if r62 i/\r62 j/\(j-i).toNat<=100000 then some (.lst true (upD i (j-i).toNat),p.2) else none
 |_=>none
def vD(lo:Int)(n:Nat):VRs Γ μ H ((upTo lo n).map V.int) (upD lo n):=by
 have:upD lo n=(upTo lo n).map D.int:=by unfold upD L2.upTo;rw[U0d];rfl
 rw[this];exact VRs.ints _
def aZ:List V->Hp->VK->Prop:=λxs H Q=>(∃(n:Int),xs=[.int n]/\∀p,H p=none->Q (.ref p) (upd H p (.rng 0 n)))∨∃(a b:Int),xs=[.int a,.int b]/\∀p,H p=none->Q (.ref p) (upd H p (.rng a b))
def cR:Eh X (.type "range") aZ:=Eh.or dH dG
def cC (h:∃Γ μ env S ds S',Γ.K=K/\Rep Γ μ Z3 H env S/\f env S=some (ds,S')/\∃lo n,((∃j,ds=[.int j]/\r62 j/\j.toNat<=100000/\lo=0/\n=j.toNat)∨∃i j,ds=[.int i,.int j]/\r62 i/\r62 j/\(j-i).toNat<=100000/\lo=i/\n=(j-i).toNat) /\
   ∀μ' H',Ext μ H μ' H'->Rep Γ μ' Z3 H' env S'->∀l,H' l=none->Q (.ref l) (upd H' l (.lst ((upTo lo n).map V.int)))) :
  tCB (λxs H Q=>∃(r:Addr)(lo hi:Int),xs=[.ref r]/\H r=some (.rng lo hi)/\-(2^62)<=lo/\lo<2^62/\-(2^62)<=hi/\hi<2^62/\(hi-lo).toNat<=100000/\∀l,H l=none->Q (.ref l) (upd H l (.lst ((upTo lo (hi-lo).toNat).map V.int)))) (uN (tCB aZ (wpA K f)) zL) Z3 H Q:=by
 obtain⟨Γ,μ,env,S,ds,S',hK,R,e1,lo,n,hc,q⟩:=h;refine⟨Γ,μ,env,S,ds,S',hK,R,e1,λvs μ1 H1 x1 R1 r1=>?_⟩;rcases hc with ⟨j,rfl,h1,h2,rfl,rfl⟩|⟨i,j,rfl,h1,h2,h3,rfl,rfl⟩
 .obtain⟨v,rfl,r⟩:=r1.one;obtain rfl:=r.inv;refine .inl ⟨j,rfl,λp hp=>⟨p,0,j,rfl,CT,by decide,by decide,h1.1,h1.2,by simpa using h2,λl hl=>?_⟩⟩;obtain⟨R2,x2⟩:=R1.grow (DY hp (.rng 0 j));have:=q μ1 _ (x1.trans x2) R2 l hl;simpa using this
 .obtain⟨v,u,rfl,r,r'⟩:=r1.two;obtain rfl:=r.inv;obtain rfl:=r'.inv;refine .inr ⟨lo,j,rfl,λp hp=>⟨p,lo,j,rfl,CT,h1.1,h1.2,h2.1,h2.2,h3,λl hl=>?_⟩⟩;obtain⟨R2,x2⟩:=R1.grow (DY hp (.rng lo j));exact q μ1 _ (x1.trans x2) R2 l hl
section
variable{X:Cx}{a:Expr}{as:List Expr}{f:CQ}{p p2 pos pos2:Pos}
def M6(hc:X.calm=true)(ha:JA X (a::as) f)(hg:Gl X "list")(hm:X.mg "list"=none)(hg2:Gl X "range")(hm2:X.mg "range"=none)
  (he:starEach (a::as) X.env=(false,eval a X.env)::starEach as X.env:=by rfl) (hpl:(backTo pos2 (starEach as X.env)).any (·.1)=false:=by rfl) (he2:starEach [.Call (.Name "range" p2) (a::as) [] pos2] X.env=[(false,eval (.Call (.Name "range" p2) (a::as) [] pos2) X.env)]:=by rfl) :
  JE X (.Call (.Name "list" p) [.Call (.Name "range" p2) (a::as) [] pos2] [] pos) (Ii f):=
 ⟨PE.imp (QK (Y5 hc) hg hm Xv (Qy (QK cR hg2 hm2 uD ha.pa (he:=he) (hpl:=hpl)) Sx he2) (he:=he2) (hpl:=rfl)) λZ3 H Q h=>by
  exact`zb;obtain⟨⟨ds,S1⟩,e1,e⟩:=bind_some e;refine cC ⟨Γ,μ,env,S,ds,S1,hK,R,e1,?_⟩;have fin:∀lo n,d=.lst true (upD lo n)->S1=S'->∀μ' H',Ext μ H μ' H'->Rep Γ μ' Z3 H' env S1->∀l,H' l=none->Q (.ref l) (upd H' l (.lst ((upTo lo n).map V.int))):=λlo n hd hs μ' H' x' R' l hl=>by subst hd hs;obtain⟨R2,x2⟩:=R'.grow (DY hl (.lst ((upTo lo n).map V.int)));exact q _ μ' _ (x'.trans x2) R2 (.lst (R'.ok hl true) (R'.dead hl) CT (vD lo n))
  exact`qc;split at e
  .rename_i j;by_cases hj:r62 j/\j.toNat<=100000
   .rw[if_pos hj]at e;cases e;exact⟨0,_,.inl ⟨j,rfl,hj.1,hj.2,rfl,rfl⟩,fin _ _ rfl rfl⟩
   .rw[if_neg hj]at e;cases e
  .rename_i i j;by_cases hj:r62 i/\r62 j/\(j-i).toNat<=100000
   .rw[if_pos hj]at e;cases e;exact⟨i,_,.inr ⟨i,j,rfl,hj.1,hj.2.1,hj.2.2,rfl,rfl⟩,fin _ _ rfl rfl⟩
   .rw[if_neg hj]at e;cases e
  .cases e⟩
end
def W0(K:U0e):Sp:=λvs H Q _=>∃(l:Addr)(ns:List Int),vs=[.ref l]/\Only H/\ns.length<=63/\SqL K H l (ns.map V.int)/\∀H',Q (.bl true) H'
def Jbz(h:∀ns:List Int,ns.length<=63->sem [.scr ns]=some (.bl true)):∀vs H Q E,W0 K vs H Q E->spP K sem 1 vs H Q E:=by
 intro vs H Q E ⟨l,ns,e,hO,hl,hq,q⟩;subst e;refine⟨λ_=>False,[.scr ns],.bl true,rfl,.cons ?_ .nil,h ns hl,λv H' sm rv=>?_⟩
 .rcases hq with hq|hq
  .rcases hq with hq|⟨o,hq⟩
   .rcases hO l with z|⟨o,xs,z⟩
    .rw[z]at hq;cases hq
    .rw[z]at hq;cases hq
   .exact .scrR HJ hq
  .exact .scrK λH'=>.inr hq
 .obtain rfl:=rv.inv;exact q H'
def fu(hn:n=ps.length):Hj P w K mg base CX0 k f fd ps (spP K (λ_=>none) n):=
 ⟨λvs H Q E ⟨_,_,_,hl,_⟩=>hl.trans hn,λA outer s H args us vs Q E hr e0 hb hv ⟨_,_,_,_,_,e,_⟩=>by cases e⟩
structure DA(K:U0e)(x:Str)(st:Stmt)(f:Addr):Prop where
 ns:U8b K mainGlobals x=some (some (.ref f))
 ex:∃fd,Fun K x x st f fd
def DA.of{K:U0e}{x:Str}{st:Stmt}{f:Addr}{oc:Value}{od an:Option Addr}{osl:Array (Option Value)}{kV doc pm cdv ct:Value}(a:U8b K mainGlobals x=some (some (.ref f)))(l:K.lookup f=some ⟨oc,od,.func (U4e x x (Mf st) (J4 st) (Br st) .none kV doc pm an cdv ct),osl⟩)
  (c:U7i K cdv x=true) (k:U4a K (.ref f)=true):DA K x st f:=⟨a,_,Jci l c k⟩
def J5(x:Str)(st:Stmt)(ps:List Str):Prop:=∀(kV doc pm:Value)(an:Option Addr)(cdv ct:Value)(us:List Value),us.length=ps.length->bindArgs (U4e x x (Mf st) (J4 st) (Br st) .none kV doc pm an cdv ct) ⟨us,[]⟩=pure (ps.zip us)
section
variable{P:Program}{w:World}{K:U0e}{mg:Str->Option Value}{base h:Heap}{x:Str}{st:Stmt}{f:Addr}{k:Nat}{ps:List Str}
def DA.qC(d:DA K x st f)(X:K.In h)(G:h.Ns mainGlobals mg)(b:J5 x st ps)(ok:∀fd,Fun K x x st f fd->Hj P w K mg base CX0 k f fd ps (spP K sem ps.length))(hok:∀ds r,sem ds=some r->ds.length=ps.length/\Aw r=true):Dm P w K mg base x k sem:=by obtain⟨fd,F⟩:=d.ex;exact⟨ps,⟨f,fd,ok fd F,F.binds b,F.kp,U6q X G d.ns⟩,hok⟩
def DA.Jfo(d:DA K x st f)(X:K.In h)(G:h.Ns mainGlobals mg)(b:J5 x st ps)(ok:∀fd,Fun K x x st f fd->Hj P w K mg base CX0 k f fd ps (spM K sem ps.length))(hok:∀ns ds r,sem ns ds=some r->ds.length+1=ps.length/\Aw r.1=true):Qh P w K mg base x k sem:=by obtain⟨fd,F⟩:=d.ex;exact⟨ps,⟨f,fd,ok fd F,F.binds b,F.kp,U6q X G d.ns⟩,hok⟩
end
def DAs(tp:Nat->Stmt)(K:U0e):List (Str×Nat)->List Addr->Prop
 |p::r,f::fs=>DA K p.1 (tp p.2) f/\DAs tp K r fs
 |[],_=>True
 |_::_,[]=>False
theorem DAs.get:∀{L:List (Str×Nat)} {fs:List Addr},DAs tp K L fs->∀{i:Nat} {x:Str} {j:Nat},L[i]?=some (x,j)->∃f,DA K x (tp j) f
 |p::r,f::fs,h,0,x,j,e=>by cases e;exact⟨f,h.1⟩
 |p::r,f::fs,h,i+1,x,j,e=>DAs.get (L:=r) h.2 e
 |[],_,_,_,_,_,e=>by cases e
 |_::_,[],h,_,_,_,_=>h.elim
def Zs(K:U0e):List Str->Prop
 |x::r=>U8b K mainGlobals x=some none/\Zs K r
 |[]=>True
theorem Zs.no(X:K.In h)(G:h.Ns mainGlobals mg):∀{l:List Str},Zs K l->∀x∈l,mg x=none
 |y::r,z,x,hx=>by
  rcases U0q.mp hx with e|hx
  .rw[e];exact PySem.W.mg_none_of X G z.1
  .exact Zs.no X G z.2 x hx
def gQ(N ps:List Str)(sc:Scope):Bool:=decide (sc.kind=.function)&&!sc.isCoroutine&&!sc.isGenerator&&decide N.Nodup&&decide (N.take ps.length=ps)&&ps.all (λx=>decide (sc.names.lookup x=some .local∨sc.names.lookup x=some .cell))&&sc.names.all λy=>decide (y.2≠.free)
def Vx(h:gQ N ps sc=true):Ov N ps sc:=by unfold gQ at h;simp only[U1a,decide_eq_true_eq,U3k,Bool.not_eq_true']at h;obtain⟨⟨⟨⟨⟨⟨a,b⟩,c⟩,d⟩,e⟩,f⟩,g⟩:=h;exact⟨a,b,c,d,e,f,g⟩
structure Tp(tp:Nat->Stmt)(K:U0e)(mg:Str->Option Value)(L:List (Str×Nat))(zs:List Str):Prop where
 X:∃h,K.In h/\h.Ns mainGlobals mg
 D:∃fs,DAs tp K L fs
 B:Blt mg
 Z:∀x∈zs,mg x=none
section
variable{tp:Nat->Stmt}{P:Program}{w:World}{K:U0e}{mg:Str->Option Value}{base:Heap}{L:List (Str×Nat)}{zs:List Str}{x:Str}{j k:Nat}{N ps:List Str}{fs:BP}
def Tp.is(t:Tp tp K mg L zs)(i:Nat)(hi:L[i]?=some (x,j)):∃f,mg x=some (.ref f):=by obtain⟨h,X,G⟩:=t.X;obtain⟨_,D⟩:=t.D;obtain⟨f,d⟩:=D.get hi;exact⟨f,U6q X G d.ns⟩
abbrev Bi(x:Str)(st:Stmt)(ps:List Str)(us:List Value):Prop:=∀(kV doc pm:Value)(an:Option Addr)(cdv ct:Value),bindArgs (U4e x x (Mf st) (J4 st) (Br st) .none kV doc pm an cdv ct) ⟨us,[]⟩=pure (ps.zip us)
abbrev Bd(P:Program)(w:World)(K:U0e)(mg:Str->Option Value)(base:Heap)(x:Str)(st:Stmt)(N:List Str)(k:Nat)(fs:BP):Prop:=∀{f:Addr} {cdv:Value} {A:Around} {outer:List PySem.Env} {s:Shared} {H:Hp} {E:XK},N.Nodup->FZ k (A.deeper (U7 x (Br st) s.heap.objs.size f cdv))->JSs (RN CX0 P w K mg base N x (Br st) f cdv A outer s H E).nox (J4 st) fs
def Tp.cP(t:Tp tp K mg L zs)(i n:Nat)(hi:L[i]?=some (x,j))(sc:gQ N (N.take n) (Br (tp j))=true)(b:J5 x (tp j) (N.take n))(hb:Bd P w K mg base x (tp j) N k fs):Dm P w K mg base x (k+1) (Dr (N.take n).length N.length fs):=by obtain⟨h,X,G⟩:=t.X;obtain⟨_,D⟩:=t.D;obtain⟨f,d⟩:=D.get hi;exact d.qC X G b (λfd F=>fnP F (Vx sc) λcdv A outer s H E hr=>hb (Vx sc).nd hr) λds r h=>vg h
def Tp.cM(t:Tp tp K mg L zs)(i n:Nat)(hi:L[i]?=some (x,j))(sc:gQ N (N.take n) (Br (tp j))=true)(b:J5 x (tp j) (N.take n))(hb:Bd P w K mg base x (tp j) N k fs):Qh P w K mg base x (k+1) (runM (N.take n).length N.length fs):=by obtain⟨h,X,G⟩:=t.X;obtain⟨_,D⟩:=t.D;obtain⟨f,d⟩:=D.get hi;exact d.Jfo X G b (λfd F=>fnM F (Vx sc) λcdv A outer s H E hr=>hb (Vx sc).nd hr) λns ds r h=>vh h
end
def tgN:Nat->Expr->List Str
 |n+1,.Tuple es _ _=>es.flatMap (tgN n)
 |_,.Name x _=>[x]
 |_,_=>[]
def n2(tg:Expr)(N:List Str)(caps:List Nat):List Str:=tgN 3 tg++caps.map λi=>N.getD i ""
section
variable{tp:Nat->Stmt}{P:Program}{w:World}{K:U0e}{mg:Str->Option Value}{base:Heap}{L:List (Str×Nat)}{zs:List Str}{x:Str}{j k:Nat}{N ps:List Str}{fs:BP}{st:Stmt}
def bn1(e:ps.length=1)(h:∀a0,Bi x st ps [a0]):J5 x st ps:=λ_ _ _ _ _ _ us hl=>match us,hl.trans e with|[a0],_=>h _ _ _ _ _ _ _
def bn2(e:ps.length=2)(h:∀a0 a1,Bi x st ps [a0,a1]):J5 x st ps:=λ_ _ _ _ _ _ us hl=>match us,hl.trans e with|[a0,a1],_=>h _ _ _ _ _ _ _ _
def bn3(e:ps.length=3)(h:∀a0 a1 a2,Bi x st ps [a0,a1,a2]):J5 x st ps:=λ_ _ _ _ _ _ us hl=>match us,hl.trans e with|[a0,a1,a2],_=>h _ _ _ _ _ _ _ _ _
end
end VS
end
section
namespace VS
open PySem L2
def Fx(a b:BP)(env:VS.Env)(S:Store):VS.BZ a b env S=(a env S).bind λp=>match p.1 with|.nx=>b p.2.1 p.2.2|f=>some (f,p.2.1,p.2.2):=rfl
def DW(i:Nat)(a:Bh)(env:VS.Env)(S:Store):VS.Ci i a env S=(a env S).bind λp=>some (.nx,env.set i (some p.1),p.2):=rfl
def CW(a:Bh)(env:VS.Env)(S:Store):VS.CN a env S=(a env S).bind λp=>some (.ret p.1,env,p.2):=rfl
def Em(c:Gf)(a b:BP)(env:VS.Env)(S:Store):VS.sIf c a b env S=(c env S).bind λp=>if p.1=true then a env p.2 else b env p.2:=rfl
def Xi(a:Bh)(g:VH)(env:VS.Env)(S:Store):VS.Sq a g env S=(a env S).bind λp=>(g p.1 env).bind λe=>some (.nx,e,p.2):=rfl
def Fy(a:Bh)(env:VS.Env)(S:Store):VS.Ge a env S=(a env S).bind λp=>some (.nx,env,p.2):=rfl
def Ei(env:VS.Env)(S:Store):VS.Dp  env S=some (.nx,env,S):=rfl
def YG(env:VS.Env)(S:Store):VS.Qt  env S=none:=rfl
def Gg(it:Nz)(g:VH)(b:BP)(env:VS.Env)(S:Store):VS.K4 it g b env S=(it env S).bind λp=>loop p.1.2 g b p.1.1 env p.2:=rfl
def TQ(v o i:Bh)(env:VS.Env)(S:Store):VS.Qs v o i env S=(v env S).bind λp=>(o env p.2).bind λq=>(i env q.2).bind λr=>match q.1,r.1 with
 |.ref j,.int k=>(match r.2[j]? with
  |some (some ds)=>(ixN ds.length k).bind λn=>some (.nx,env,r.2.set j (some (ds.set n p.1)))
  |_=>none)
 |_,_=>none:=rfl
def Ak(i:Nat)(env:VS.Env)(S:Store):VS.Ab i env S=(env[i]?.join).map λd=>(d,S):=rfl
def Cr(d:D)(env:VS.Env)(S:Store):VS.eC d env S=some (d,S):=rfl
def Bg(g:Store->D->D->Option D)(a b:Bh)(env:VS.Env)(S:Store):VS.eOp g a b env S=(a env S).bind λp=>(b env p.2).bind λq=>(g q.2 p.1 q.1).map λd=>(d,q.2):=rfl
def Nj(g:Store->D->Option D)(a:Bh)(env:VS.Env)(S:Store):VS.eUn g a env S=(a env S).bind λp=>(g p.2 p.1).map λd=>(d,p.2):=rfl
def Ay(env:VS.Env)(S:Store):VS.Af  env S=some ([],S):=rfl
def Al(a:Bh)(r:CQ)(env:VS.Env)(S:Store):VS.Aa a r env S=(a env S).bind λp=>(r env p.2).bind λq=>some (p.1::q.1,q.2):=rfl
def Dk(g:Store->List D->Option D)(a:CQ)(env:VS.Env)(S:Store):VS.eCB g a env S=(a env S).bind λp=>(g p.2 p.1).map λd=>(d,p.2):=rfl
def R7(a b:Bh)(env:VS.Env)(S:Store):VS.Nv a b env S=(a env S).bind λp=>match p.1 with|.bl true=>b env p.2|.bl false=>some (.bl false,p.2)|_=>none:=rfl
def yO(a:Bh)(env:VS.Env)(S:Store):VS.gZ a env S=(a env S).bind λp=>match p.1 with|.bl c=>some (.bl (!c),p.2)|_=>none:=rfl
def Jcl(c:Gf)(a b:Bh)(env:VS.Env)(S:Store):VS.eIf c a b env S=(c env S).bind λp=>if p.1=true then a env p.2 else b env p.2:=rfl
def Tf(g g':Store->D->D->Option D)(a b c:Bh)(env:VS.Env)(S:Store):VS.PN g g' a b c env S=(a env S).bind λp=>(b env p.2).bind λq=>(g q.2 p.1 q.1).bind λz=>match z with
 |.bl true=>(c env q.2).bind λr=>(g' r.2 q.1 r.1).map λd=>(d,r.2)
 |.bl false=>some (.bl false,q.2)
 |_=>none:=rfl
def DP(a:Bh)(env:VS.Env)(S:Store):VS.BX a env S=(a env S).bind λp=>match p.1 with|.bl c=>some (c,p.2)|_=>none:=rfl
def Kw(a b:Gf)(env:VS.Env)(S:Store):VS.Nu a b env S=(a env S).bind λp=>if p.1=true then b env p.2 else some (false,p.2):=rfl
def K8(a b:Gf)(env:VS.Env)(S:Store):VS.tOr a b env S=(a env S).bind λp=>if p.1=true then some (true,p.2) else b env p.2:=rfl
def MP(a:Gf)(env:VS.Env)(S:Store):VS.G7 a env S=(a env S).bind λp=>some (!p.1,p.2):=rfl
def au(env:VS.Env)(S:Store):VS.FN  env S=some (none,S):=rfl
def aq(a:Bh)(env:VS.Env)(S:Store):VS.FJ a env S=(a env S).bind λp=>match p.1 with|.int i=>some (some i,p.2)|_=>none:=rfl
def W8(g:Store->D->Option Int->Option Int->Option D)(a:Bh)(l h:VG)(env:VS.Env)(S:Store):VS.eSl g a l h env S=(a env S).bind λp=>(l env p.2).bind λq=>(h env q.2).bind λr=>(g r.2 p.1 q.1 r.1).map λd=>(d,r.2):=rfl
def Cq(a:CQ)(env:VS.Env)(S:Store):VS.Bk a env S=(a env S).bind λp=>some (.lst true p.1,p.2):=rfl
def R6(a:CQ)(env:VS.Env)(S:Store):VS.Ld a env S=(a env S).bind λp=>some (.ref p.2.length,p.2++[some p.1]):=rfl
def Hz(a:CQ)(env:VS.Env)(S:Store):VS.Di a env S=(a env S).bind λp=>some (.tup p.1,p.2):=rfl
def Fp(sem:Ca)(a:CQ)(env:VS.Env)(S:Store):VS.Am sem a env S=(a env S).bind λp=>(Cp 0 p.2 p.1).bind λds=>(sem (Bf ds)).bind λr=>if (Av p.1||newD r)=true then some (r,p.2) else none:=rfl
def Dh(sem:Li)(a:CQ)(env:VS.Env)(S:Store):VS.Bq sem a env S=(a env S).bind λp=>match p.1 with
 |.ref i::rest=>(match p.2[i]? with
  |some (some cs)=>(intsOf cs).bind λns=>(Cp 0 (p.2.set i none) rest).bind λds=>(sem ns (Bf ds)).bind λr=>if (Av rest||newD r.1)=true then some (r.1,p.2.set i (some (r.2.map D.int))) else none
  |_=>none)
 |_=>none:=rfl
def oX(sem:Ca)(a:CQ)(env:VS.Env)(S:Store):VS.T4 sem a env S=(Am sem a env S).bind λp=>(XH p.2.length p.1).bind λq=>some (q.1,p.2++[some q.2]):=rfl
def Pk(g:Store->D->List D->Option (D×Store))(o:Bh)(a:CQ)(env:VS.Env)(S:Store):VS.Jv g o a env S=(o env S).bind λp=>if (listOf p.2 p.1).isSome then (a env p.2).bind λq=>g q.2 p.1 q.1 else none:=rfl
def Ia(a:CQ)(env:VS.Env)(S:Store):VS.Ii a env S=(a env S).bind λp=>match p.1 with
 |[.int j]=>if r62 j/\j.toNat<=100000 then some (.lst true (upD 0 j.toNat),p.2) else none
 |[.int i,.int j]=>if r62 i/\r62 j/\(j-i).toNat<=100000 then some (.lst true (upD i (j-i).toNat),p.2) else none
 |_=>none:=rfl
def Ja(a:Bh)(env:VS.Env)(S:Store):VS.Rj a env S=(a env S).bind λp=>(listOf p.2 p.1).bind λds=>(intsOf ds).bind λns=>if ns.length<1000/\(SetP.once ns).length<64 then some (.lst true ((Ep ns).map .int),p.2) else none:=rfl
def Ea(a:Bh)(env:VS.Env)(S:Store):VS.Cz a env S=(a env S).bind λp=>(Bj p.2 p.1).map λds=>((ds,idOf ds p.1),p.2):=rfl
def tL(a:CQ)(env:VS.Env)(S:Store):VS.ZD a env S=(a env S).bind λp=>match p.1 with
 |[.tup xs,.tup ys]=>some ((Ek xs ys,[]),p.2)
 |[x,.tup ys]=>(VS.listOf p.2 x).bind λxs=>some ((Ek xs ys,VS.idOf xs x),p.2)
 |[x,y]=>(listOf p.2 x).bind λxs=>(listOf p.2 y).bind λys=>some ((Ek xs ys,idOf xs x++idOf ys y),p.2)
 |_=>none:=rfl
def oM(a:CQ)(env:VS.Env)(S:Store):VS.W7 a env S=(a env S).bind λp=>match p.1 with
 |[x]=>(listOf p.2 x).bind λxs=>some ((KJ 0 xs,idOf xs x),p.2)
 |_=>none:=rfl
def Cv(np n:Nat)(f:BP)(ds:List D):VS.Dr np n f ds=if ds.length=np then (f (ds.map some++U06 (n-ds.length) none) []).bind λp=>match p.1 with|.ret d=>den 0 p.2.2 d|.nx=>some .non|_=>none else none:=rfl
def Hy(np n:Nat)(f:BP)(ns:List Int)(ds:List D):VS.runM np n f ns ds=if ds.length+1=np then (f (some (.ref 0)::(ds.map some++U06 (n-1-ds.length) none)) [some (ns.map D.int)]).bind λp=>match p.2.2[0]? with
 |some (some cs)=>(intsOf cs).bind λms=>(match p.1 with|.ret d=>(den 1 p.2.2 d).map λr=>(r,ms)|.nx=>some (.non,ms)|_=>none)
 |_=>none
 else none:=rfl
def Eb(i:Nat)(d:D)(env:VS.Env):Pat.sem (.nm i) d env=some (env.set i (some d)):=by rw[Pat.sem]
def Iz(ps:List Pat)(ds:List D)(env:VS.Env):Pat.sem (.tp ps) (.tup ds) env=Ik ps ds env:=by rw[Pat.sem]
def Gi(env:VS.Env):Ik [] [] env=some env:=by rw[Ik]
def G3(p:Pat)(ps:List Pat)(d:D)(ds:List D)(env:VS.Env):Ik (p::ps) (d::ds) env=(Pat.sem p d env).bind λe=>Ik ps ds e:=by rw[Ik]
@[simp] theorem Jf6(S:Store):calm [] S=True:=by simp[calm]
@[simp] theorem Jf5(i:Nat)(ds:List D)(S:Store):calm [(i,ds)] S=(S[i]?=some (some ds)):=by simp[calm]
@[simp] theorem Jgi{Zp:Type}(S:List Zp)(a:Zp):(S++[a])[S.length]?=some a:=by simp
@[simp] theorem Jge{Zp:Type}(S:List Zp)(a b:Zp):(S++[a]).set S.length b=S++[b]:=by simp
def Uh(h:k<n):ixN n (k:Int)=some k:=by unfold ixN;rw[if_pos (by lia),if_pos (by lia)];simp
@[simp] theorem Jd9:ixN (n+1) 0=some 0:=Uh (k:=0) (by lia)
@[simp] theorem Jd8:ixN (n+2) 1=some 1:=Uh (k:=1) (by lia)
@[simp] theorem Jd7:ixN (n+3) 2=some 2:=Uh (k:=2) (by lia)
@[simp] theorem Jd6:ixN (n+4) 3=some 3:=Uh (k:=3) (by lia)
@[simp] theorem Jgo{Zp:Type}(a:Zp)(l:List Zp):atI (a::l) 0=some a:=by unfold atI;rw[U0f,Jd9];rfl
@[simp] theorem Jgn{Zp:Type}(a b:Zp)(l:List Zp):atI (a::b::l) 1=some b:=by unfold atI;rw[U0f,U0f,Jd8];rfl
@[simp] theorem Jgm{Zp:Type}(a b c:Zp)(l:List Zp):atI (a::b::c::l) 2=some c:=by unfold atI;rw[U0f,U0f,U0f,Jd7];rfl
@[simp] theorem Jgl{Zp:Type}(a b c d:Zp)(l:List Zp):atI (a::b::c::d::l) 3=some d:=by unfold atI;rw[U0f,U0f,U0f,U0f,Jd6];rfl
def fX(I:Nat->Env->Store->Prop)(R:D->Store->Prop)(h0:I 0 env S)(hc:∀i env S,I i env S->calm w S)
  (step:∀i d env S,ds[i]?=some d->I i env S->∃env1,g d env=some env1/\((∃env2 S2,(b env1 S=some (.nx,env2,S2)∨b env1 S=some (.cnt,env2,S2))/\I (i+1) env2 S2)∨∃r env2 S2,b env1 S=some (.ret r,env2,S2)/\R r S2)) :
  (∃env' S',loop w g b ds env S=some (.nx,env',S')/\I ds.length env' S')∨∃r env' S',loop w g b ds env S=some (.ret r,env',S')/\R r S':=by
 have key:∀(l:List D)(i:Nat)(env:Env)(S:Store),ds.drop i=l->i<=ds.length->I i env S->(∃env' S',loop w g b l env S=some (.nx,env',S')/\I ds.length env' S')∨∃r env' S',loop w g b l env S=some (.ret r,env',S')/\R r S':=by
  intro l;induction l with
  |nil=>
   intro i env S hd hi h;have:i=ds.length:=by have:=congrArg U4t hd;simp at this;lia
   subst this;exact .inl ⟨env,S,by unfold loop;rw[if_pos (hc _ _ _ h)],h⟩
  |cons d r ih=>
   intro i env S hd hi h;have hlt:i<ds.length:=by have:=congrArg U4t hd;simp at this;exact gq this
   have e:ds[i]?=some d:=by rw[U21 hlt]at hd;rw[U0v hlt,(U7v hd).1]
   have hr:ds.drop (i+1)=r:=by rw[U21 hlt]at hd;exact(U7v hd).2
   obtain⟨env1,e1,q⟩:=step i d env S e h;rcases q with ⟨env2,S2,e2,q⟩|⟨v,env2,S2,e2,q⟩
   .have e3:loop w g b (d::r) env S=loop w g b r env2 S2:=by rcases e2 with e2|e2<;>(rw[loop,if_pos (hc _ _ _ h),e1];show(b env1 S).bind _=_;rw[e2];rfl)
    rw[e3];exact ih (i+1) env2 S2 hr hlt q
   .refine .inr ⟨v,env2,S2,?_,q⟩;rw[loop,if_pos (hc _ _ _ h),e1];show(b env1 S).bind _=_;rw[e2];rfl
 exact key ds 0 env S (by simp) (U3 _) h0
def Gj(I:Nat->Env->Store->Prop)(h0:I 0 env S)(hc:∀i env S,I i env S->calm w S)
  (step:∀i d env S,ds[i]?=some d->I i env S->∃env1,g d env=some env1/\∃env2 S2,b env1 S=some (.nx,env2,S2)/\I (i+1) env2 S2) :
  ∃env' S',loop w g b ds env S=some (.nx,env',S')/\I ds.length env' S':=by
 rcases fX I (λ_ _=>False) h0 hc (λi d env S e h=>by
  obtain⟨env1,e1,env2,S2,e2,q⟩:=step i d env S e h;exact⟨env1,e1,.inl ⟨env2,S2,.inl e2,q⟩⟩) with h|⟨_,_,_,_,h⟩
 .exact h
 .exact h.elim
theorem comp_map(hc:calm w S)(p:D->Bool)(F:D->D):∀(ds ys:List D),ys.length+ds.length<=1000000 ->
  (∀d∈ds,∃e1,g d e0=some e1/\t e1 S=some (p d,S)/\(p d=true->f e1 S=some (F d,S)))->Gn w e0 g t f ds ys S=some (ys++(ds.filter p).map F,S)
 |[],ys,hl,_=>by unfold Gn;rw[if_pos ⟨hc,by simpa using hl⟩];simp
 |d::r,ys,hl,h=>by
  rw[U0f]at hl;obtain⟨e1,h1,h2,h3⟩:=h d U0h;unfold Gn;rw[if_pos ⟨hc,by lia⟩,h1];show(t e1 S).bind _=_;rw[h2];show(if p d=true then _ else _)=_;have hr:∀x∈r,_:=λx hx=>h x (U0k _ hx);by_cases hp:p d=true
  .rw[if_pos hp,h3 hp];show Gn w e0 g t f r (ys++[F d]) S=_;rw[comp_map hc p F r (ys++[F d]) (by rw[U0n];simp;lia) hr,List.filter_cons_of_pos hp];simp
  .rw[if_neg hp,List.filter_cons_of_neg hp];exact comp_map hc p F r ys (by lia) hr
def Rn(hc:calm w S)(F:D->D)(ds:List D)(hl:ds.length<=1000000)(h:∀d∈ds,∃e1,g d e0=some e1/\f e1 S=some (F d,S)):Gn w e0 g Fd f ds [] S=some (ds.map F,S):=by have:=comp_map (t:=Fd) hc (λ_=>true) F ds [] (by simpa using hl) (λd hd=>let ⟨e1,h1,h2⟩:=h d hd;⟨e1,h1,rfl,λ_=>h2⟩);rw[this,U1i,U7b.mpr (by simp)]
def Rm(I:Nat->List D->Store->Prop)(h0:I 0 [] S)(hc:∀i ys S,I i ys S->calm w S/\ys.length<=1000000)
  (step:∀i d ys S,ds[i]?=some d->I i ys S->∃e1 y S2,g d e0=some e1/\f e1 S=some (y,S2)/\I (i+1) (ys++[y]) S2):∃ys S',Gn w e0 g Fd f ds [] S=some (ys,S')/\I ds.length ys S':=by
 have key:∀(l:List D)(i:Nat)(ys:List D)(S:Store),ds.drop i=l->i<=ds.length->I i ys S->∃ys' S',Gn w e0 g Fd f l ys S=some (ys',S')/\I ds.length ys' S':=by
  intro l;induction l with
  |nil=>
   intro i ys S hd hi h;have:i=ds.length:=by have:=congrArg U4t hd;simp at this;lia
   subst this;exact⟨ys,S,by unfold Gn;rw[if_pos (hc _ _ _ h)],h⟩
  |cons d r ih=>
   intro i ys S hd hi h;have hlt:i<ds.length:=by have:=congrArg U4t hd;simp at this;exact gq this
   have e:ds[i]?=some d:=by rw[U21 hlt]at hd;rw[U0v hlt,(U7v hd).1]
   have hr:ds.drop (i+1)=r:=by rw[U21 hlt]at hd;exact(U7v hd).2
   obtain⟨e1,y,S2,h1,h2,h3⟩:=step i d ys S e h;obtain⟨ys',S',h4,h5⟩:=ih (i+1) (ys++[y]) S2 hr hlt h3;refine⟨ys',S',?_,h5⟩;unfold Gn;rw[if_pos (hc _ _ _ h),h1];simp only[U0g,Fd,if_true,h2];exact h4
 exact key ds 0 [] S (by simp) (U3 _) h0
theorem LQ{Zp:Type}(hc:calm w S)(enc:Zp->D)(p:Zp->Bool)(F:Zp->D):∀(l:List Zp)(ys:List D),ys.length+l.length<=1000000 ->
  (∀a∈l,∃e1,g (enc a) e0=some e1/\t e1 S=some (p a,S)/\(p a=true->f e1 S=some (F a,S)))->Gn w e0 g t f (l.map enc) ys S=some (ys++(l.filter p).map F,S)
 |[],ys,hl,_=>by rw[U09,Gn,if_pos ⟨hc,by simpa using hl⟩];simp
 |d::r,ys,hl,h=>by
  rw[U0f]at hl;obtain⟨e1,h1,h2,h3⟩:=h d U0h;have hr:∀x∈r,_:=λx hx=>h x (U0k _ hx);rw[U0j,Gn,if_pos ⟨hc,by lia⟩,h1];simp only[U0g,h2];by_cases hp:p d=true
  .simp only[hp,if_true,h3 hp,U0g];rw[LQ hc enc p F r (ys++[F d]) (by rw[U0n];simp;lia) hr,List.filter_cons_of_pos hp];simp
  .rw[if_neg hp,List.filter_cons_of_neg hp];exact LQ hc enc p F r ys (by lia) hr
def IK{Zp:Type}(hc:calm w S)(enc F:Zp->D)(l:List Zp)(hl:l.length<=1000000)(h:∀a∈l,∃e1,g (enc a) e0=some e1/\f e1 S=some (F a,S)):Gn w e0 g VS.Fd f (l.map enc) [] S=some (l.map F,S):=by have:=LQ (t:=VS.Fd) hc enc (λ_=>true) F l [] (by simpa using hl) (λd hd=>let ⟨e1,h1,h2⟩:=h d hd;⟨e1,h1,rfl,λ_=>h2⟩);rw[this,U1i,U7b.mpr (by simp)]
def Oj(lo:Int)(n:Nat):(upD lo n).length=n:=by unfold upD;rw[U0i,U5i]
def Ol(h:(upD lo n)[i]?=some d):i<n/\d=.int (lo+i):=by
 have hi:i<n:=by rw[←Oj lo n];exact(U0l.mp h).1
 unfold upD at h;rw[U0z,List.getElem?_range hi]at h;cases h;exact⟨hi,rfl⟩
def nF(h0:-1000000<=j)(h1:j<=1000000):r62 j:=⟨Int.le_trans (by decide) h0,Int.lt_of_le_of_lt h1 (by decide)⟩
def P0(n:Nat)(hf:f env S=some ([.int j],S'))(hn:j.toNat=n)(h0:-1000000<=j)(h1:j<=1000000):Fz f env S=some ((upD 0 n,[]),S'):=by unfold Fz;rw[hf,U0g];show(if r62 j then some ((upD 0 j.toNat,([]:List (Nat×List D))),S') else none)=_;rw[if_pos (nF h0 h1),hn]
def Ti(h:Fg ds=true):Cp 0 S ds=some ds:=Dn 0 S (Bv h)
def QT{Zp:Type}{F:Zp->D}(l:List Zp)(h:∀a∈l,Cd (F a)=true):Fg (l.map F)=true:=by
 induction l with
 |nil=>rfl
 |cons a r ih=>rw[U0j,Fg,h a U0h,ih λb hb=>h b (U0k _ hb)];rfl
def aN{Zp:Type}{F:Zp->D}{G:Zp->PyData}(l:List Zp)(h:∀a∈l,toP (F a)=some (G a)):K3 (l.map F)=some (l.map G):=by
 induction l with
 |nil=>rw[U09,K3];rfl
 |cons a r ih=>rw[U0j,K3,h a U0h,ih λb hb=>h b (U0k _ hb)];rfl
abbrev St2:=Int×Int
def Bm(p:St2):D:=.tup [.int p.1,.int p.2]
def Ae(b:List St2):D:=.tup (b.map Bm)
def Ai(m:Bool)(n:Nat)(bs:List (List St2)):D:=.tup [.int n,.lst m (bs.map Ae)]
@[simp] theorem Jo(p:St2):Cd (Bm p)=true:=rfl
@[simp] theorem Fo(b:List St2):Cd (Ae b)=true:=by rw[Ae,Cd];exact QT b λp _=>Jo p
def Az(bs:List (List St2)):Fg (bs.map Ae)=true:=QT bs λb _=>Fo b
def pS(p:St2):PyData:=.tuple [.int p.1,.int p.2]
def pB(b:List St2):PyData:=.tuple (b.map pS)
def aK(p:St2):toP (Bm p)=some (pS p):=by simp[Bm,toP,K3,pS]
def aL(b:List St2):toP (Ae b)=some (pB b):=by rw[Ae,toP,aN b λp _=>aK p];rfl
def jA(bs:List (List St2)):K3 (bs.map Ae)=some (bs.map pB):=aN bs λb _=>aL b
@[simp] theorem Jf9(S:Store)(x:D):Jc S [x,.ty "int"]=(El S x).map λp=>.bl (isT "int" p):=rfl
@[simp] theorem Jc4:isT "int" (.none)=false:=rfl
@[simp] theorem Jc7(b:Bool):isT "int" (.bool b)=true:=rfl
@[simp] theorem Jdd(i:Int):isT "int" (.int i)=true:=rfl
@[simp] theorem Jdc(s:Str):isT "int" (.str s)=false:=rfl
@[simp] theorem Jc5(l:List PyData):isT "int" (.list l)=false:=rfl
@[simp] theorem zE(l:List PyData):isT "int" (.tuple l)=false:=rfl
@[simp] theorem Jc6(l:List (PyData×PyData)):isT "int" (.dict l)=false:=rfl
@[simp] theorem Jew(S:Store)(x:D):Jc S [x,.ty "bool"]=(El S x).map λp=>.bl (isT "bool" p):=rfl
@[simp] theorem zF:isT "bool" (.none)=false:=rfl
@[simp] theorem zJ(b:Bool):isT "bool" (.bool b)=true:=rfl
@[simp] theorem Jc9(i:Int):isT "bool" (.int i)=false:=rfl
@[simp] theorem Jc8(s:Str):isT "bool" (.str s)=false:=rfl
@[simp] theorem zG(l:List PyData):isT "bool" (.list l)=false:=rfl
@[simp] theorem yq(l:List PyData):isT "bool" (.tuple l)=false:=rfl
@[simp] theorem zH(l:List (PyData×PyData)):isT "bool" (.dict l)=false:=rfl
@[simp] theorem Jeq(S:Store)(x:D):Jc S [x,.ty "tuple"]=(El S x).map λp=>.bl (isT "tuple" p):=rfl
@[simp] theorem yd:isT "tuple" (.none)=false:=rfl
@[simp] theorem yj(b:Bool):isT "tuple" (.bool b)=false:=rfl
@[simp] theorem yt(i:Int):isT "tuple" (.int i)=false:=rfl
@[simp] theorem yr(s:Str):isT "tuple" (.str s)=false:=rfl
@[simp] theorem yg(l:List PyData):isT "tuple" (.list l)=false:=rfl
@[simp] theorem ur(l:List PyData):isT "tuple" (.tuple l)=true:=rfl
@[simp] theorem yh(l:List (PyData×PyData)):isT "tuple" (.dict l)=false:=rfl
@[simp] theorem Jev(S:Store)(x:D):Jc S [x,.ty "list"]=(El S x).map λp=>.bl (isT "list" p):=rfl
@[simp] theorem yw:isT "list" (.none)=false:=rfl
@[simp] theorem zB(b:Bool):isT "list" (.bool b)=false:=rfl
@[simp] theorem Jc3(i:Int):isT "list" (.int i)=false:=rfl
@[simp] theorem Jc2(s:Str):isT "list" (.str s)=false:=rfl
@[simp] theorem yx(l:List PyData):isT "list" (.list l)=true:=rfl
@[simp] theorem yp(l:List PyData):isT "list" (.tuple l)=false:=rfl
@[simp] theorem zA(l:List (PyData×PyData)):isT "list" (.dict l)=false:=rfl
@[simp] theorem Jf7(S:Store)(x:D):Jc S [x,.ty "str"]=(El S x).map λp=>.bl (isT "str" p):=rfl
@[simp] theorem Jcy:isT "str" (.none)=false:=rfl
@[simp] theorem Jc1(b:Bool):isT "str" (.bool b)=false:=rfl
@[simp] theorem Jdb(i:Int):isT "str" (.int i)=false:=rfl
@[simp] theorem Jda(s:Str):isT "str" (.str s)=true:=rfl
@[simp] theorem Jcz(l:List PyData):isT "str" (.list l)=false:=rfl
@[simp] theorem yu(l:List PyData):isT "str" (.tuple l)=false:=rfl
@[simp] theorem Jc0(l:List (PyData×PyData)):isT "str" (.dict l)=false:=rfl
@[simp] theorem Jf8(S:Store)(x:D):Jc S [x,.tup [.ty "tuple",.ty "list"]]=(El S x).bind λp=>if noDict p=true then some (.bl (isSeq p)) else none:=rfl
@[simp] theorem Jfy(S:Store)(i:Int):El S (.int i)=some (.int i):=by simp[El,den,toP]
@[simp] theorem Jgf(S:Store)(b:Bool):El S (.bl b)=some (.bool b):=by simp[El,den,toP]
@[simp] theorem Jfx(S:Store):El S .non=some .none:=by simp[El,den,toP]
@[simp] theorem Jfw(S:Store)(x:Str):El S (.str x)=some (.str x):=by simp[El,den,toP]
@[simp] theorem mq(S:Store)(p:St2):El S (Bm p)=some (pS p):=by rw[El,Jj 0 S (GQ (Jo p))];exact aK p
@[simp] theorem n6(S:Store)(b:List St2):El S (Ae b)=some (pB b):=by rw[El,Jj 0 S (GQ (Fo b))];exact aL b
def JK(S:Store)(m:Bool)(bs:List (List St2)):El S (.lst m (bs.map Ae))=some (.list (bs.map pB)):=by rw[El,den,Ti (Az bs)];show toP (.lst m (bs.map Ae))=_;rw[toP,jA];rfl
def mz(S:Store)(m:Bool)(n:Nat)(bs:List (List St2)):El S (Ai m n bs)=some (.tuple [.int n,.list (bs.map pB)]):=by have h:=JK S m bs;rw[El,den,Ti (Az bs)]at h;have h':toP (.lst m (bs.map Ae))=some (.list (bs.map pB)):=h;simp[El,Ai,den,Cp,Ti (Az bs),toP,K3];rw[toP]at h';obtain⟨ps,e1,e2⟩:=map_some h';rw[e1];cases e2;rfl
@[simp] theorem Oh(ns:List Int):Fg (ns.map D.int)=true:=QT ns λ_ _=>rfl
@[simp] theorem ou(k:Nat)(S:Store)(ns:List Int):Cp k S (ns.map D.int)=some (ns.map D.int):=Dn k S (Bv (Oh ns))
@[simp] theorem Yx(ns:List Int):Bf (ns.map D.int)=ns.map D.int:=Dg (Oh ns)
@[simp] theorem Oc(ns:List Int):Av (ns.map D.int)=true:=Bv (Oh ns)
@[simp] theorem Jeu(ns:List Int):newL (ns.map D.int)=true:=QS (Oh ns)
def Pb(lo:Int)(n:Nat):upD lo n=((U07 n).map λ(i:Nat)=>lo+(i:Int)).map D.int:=by unfold upD;rw[U0d];rfl
@[simp] theorem Jf4(k:Nat)(S:Store)(lo:Int)(n:Nat):Cp k S (upD lo n)=some (upD lo n):=by rw[Pb];exact ou ..
@[simp] theorem Jet(lo:Int)(n:Nat):Av (upD lo n)=true:=by rw[Pb];exact Oc _
@[simp] theorem jX(k:Nat)(S:Store)(bs:List (List St2)):Cp k S (bs.map Ae)=some (bs.map Ae):=Dn k S (Bv (Az bs))
@[simp] theorem jt(bs:List (List St2)):Bf (bs.map Ae)=bs.map Ae:=Dg (Az bs)
@[simp] theorem Us(bs:List (List St2)):Av (bs.map Ae)=true:=Bv (Az bs)
@[simp] theorem Jep(bs:List (List St2)):newL (bs.map Ae)=true:=QS (Az bs)
@[simp] theorem Jde(bs:List (List St2)):Fg (bs.map Ae)=true:=Az bs
@[simp] theorem Jf1(k:Nat)(S:Store)(p:St2):den k S (Bm p)=some (Bm p):=Jj k S (GQ (Jo p))
@[simp] theorem Jf3(k:Nat)(S:Store)(b:List St2):den k S (Ae b)=some (Ae b):=Jj k S (GQ (Fo b))
@[simp] theorem Jgb(p:St2):age (Bm p)=Bm p:=Im (Jo p)
@[simp] theorem Jgd(b:List St2):age (Ae b)=Ae b:=Im (Fo b)
@[simp] theorem Jer(p:St2):Aw (Bm p)=true:=GQ (Jo p)
@[simp] theorem YJ(b:List St2):Aw (Ae b)=true:=GQ (Fo b)
@[simp] theorem Jfz(p:St2):newD (Bm p)=true:=Vi (Jo p)
@[simp] theorem Jf0(b:List St2):newD (Ae b)=true:=Vi (Fo b)
@[simp] theorem Jf2(k:Nat)(S:Store)(m:Bool)(n:Nat)(bs:List (List St2)):den k S (Ai m n bs)=some (Ai m n bs):=by simp[Ai,den,Cp,Dn k S (Bv (Az bs))]
@[simp] theorem Jgc(m:Bool)(n:Nat)(bs:List (List St2)):age (Ai m n bs)=Ai false n bs:=by simp[Ai,age,Bf,Dg (Az bs)]
@[simp] theorem Jes(m:Bool)(n:Nat)(bs:List (List St2)):Aw (Ai m n bs)=true:=by simp[Ai,Aw,Av,Bv (Az bs)]
structure Good(n:Nat)(bs:List (List St2)):Prop where
 ways:n=1∨n=2∨n=3
 most:bs.length<=[0,20,10,6].getD n 0
 box:∀b∈bs,b.length=n/\∀p∈b,p.1<p.2/\-1000000000<=p.1/\p.2<=1000000000
def Good.n3(g:Good n bs):1<=n/\n<=3:=by have:=g.ways;lia
def Good.few(g:Good n bs):bs.length<=20:=by have:=g.most;rcases g.ways with h|h|h<;>subst h<;>simp at this<;>lia
def Jct{Zp:Type}{l:List Zp}{i:Int}{j:Nat}(e:i=(j:Int))(h:j<l.length):atI l i=some l[j]:=by subst e;exact LR (U0v h)
def Mg{Zp Zl:Type}{F:Zp->Zl}{l:List Zp}{i:Int}(h0:0<=i)(h1:i<l.length):∃a,atI (l.map F) i=some (F a)/\l[i.toNat]?=some a:=by
 have hj:i.toNat<l.length:=by lia
 refine⟨l[i.toNat],?_,U0v hj⟩;rw[Jct (j:=i.toNat) (by lia) (by simpa using hj)];simp
def aY{n d:Nat}{a:Int}(h0:0<=a)(h1:a<=n):HT.sIx n d (some a)=a.toNat:=by
 show(if a<0 then (a+(n:Int)).toNat else min a.toNat n)=a.toNat
 rw[if_neg (by lia)];lia
def lU{xs:List D}{a:Int}(h0:0<=a)(h1:a<=xs.length):cut xs none (some a)=xs.take a.toNat:=by unfold cut;rw[aY h0 h1];simp[HT.sIx]
def Vm{xs:List D}{a:Int}(h0:0<=a)(h1:a<=xs.length):cut xs (some a) none=xs.drop a.toNat:=by unfold cut;rw[aY h0 h1];simp only[HT.sIx];rw[U3f];simp
def lev:Nat->PyData->Bool
 |_,.none=>true
 |_,.bool _=>true
 |_,.int _=>true
 |k+1,.list xs=>xs.all (lev k)
 |k+1,.tuple xs=>xs.all (lev k)
 |_,_=>false
theorem Xl(ih:∀d,lev k d=true->U4w d=true/\d.depth<=k):∀xs:List PyData,xs.all (lev k)=true->U6d xs=true/\U62 xs<=k
 |[],_=>⟨by rw[U6d],by rw[U62];lia⟩
 |x::xs,h=>by rw[U7w,U1a]at h;obtain⟨h1,h2⟩:=ih x h.1;obtain⟨h3,h4⟩:=Xl ih xs h.2;exact⟨by rw[U6d,h1,h3];rfl,by rw[U62];lia⟩
theorem Zr:∀(k:Nat)(d:PyData),lev k d=true->U4w d=true/\d.depth<=k
 |k,.none,_=>⟨by rw[U4w],by rw[U65];lia⟩
 |k,.bool _,_=>⟨by rw[U4w],by rw[U65];lia⟩
 |k,.int _,_=>⟨by rw[U4w],by rw[U65];lia⟩
 |0,.list _,h=>by simp[lev]at h
 |0,.tuple _,h=>by simp[lev]at h
 |k,.str _,h=>by cases k<;>simp[lev]at h
 |k,.dict _,h=>by cases k<;>simp[lev]at h
 |k+1,.list xs,h=>by rw[lev]at h;obtain⟨h1,h2⟩:=Xl (Zr k) xs h;exact⟨by rw[U4w];exact h1,by rw[U65];lia⟩
 |k+1,.tuple xs,h=>by rw[lev]at h;obtain⟨h1,h2⟩:=Xl (Zr k) xs h;exact⟨by rw[U4w];exact h1,by rw[U65];lia⟩
def Ru(h:lev k d=true)(hk:k<=60):U2r d=true:=by obtain⟨h1,h2⟩:=Zr k d h;unfold U2r;rw[h1,U5v];exact decide_eq_true (by lia)
def gB(k:Nat)(hx:El S x=some (.list l))(h:lev k (.list l)=true)(hk:k<=60):eqP neg S x (.lst m [])=some (.bl (neg ^^ l.isEmpty)):=by
 unfold eqP;have hy:El S (.lst m [])=some (.list []):=by simp[El,den,Cp,toP,K3]
 rw[hx,hy];simp only[U0g];rw[Ru h hk];cases l with
 |nil=>rfl
 |cons a r=>rfl
def Jbx(k:Nat)(p:St2):lev (k+1) (pS p)=true:=by simp[pS,lev]
def Jby(k:Nat)(b:List St2):lev (k+2) (pB b)=true:=by rw[pB,lev,U8z,U3k];exactλp _=>Jbx k p
def QM(k:Nat)(bs:List (List St2)):lev (k+3) (.list (bs.map pB))=true:=by rw[lev,U8z,U3k];exactλp _=>Jby k p
def qd{S:Store}{i:Nat}{bs:List (List St2)}(h:S[i]?=some (some (bs.map Ae))):El S (.ref i)=some (.list (bs.map pB)):=by have:=JK S true bs;rw[El,den,jX]at this;rw[El,den,if_neg (by lia),h];simp only[Us,if_true];exact this
def Bp(h:a env S=some (.nx,env1,S1)):BZ a b env S=b env1 S1:=by rw[Fx,h];rfl
def Qw(h:a env S=some (.ret d,env1,S1)):BZ a b env S=some (.ret d,env1,S1):=by rw[Fx,h];rfl
def T3(h:c env S=some (true,S1)):sIf c a b env S=a env S1:=by rw[Em,h];rfl
def RT(h:c env S=some (false,S1)):sIf c a b env S=b env S1:=by rw[Em,h];rfl
end VS
end
section
namespace VS
open PySem PySem.Spec L2
end VS
namespace HT
open PySem PySem.Spec PyProof PyProof.Rows
def Z0(xs:Array Value):slicePick xs none none (some (-1))=xs.toList.reverse.toArray:=by
 have b:sliceBounds none none (some (-1)) xs.size=((xs.size:Int)-1,-1,-1):=by simp[sliceBounds]
 have c:sliceRange ((xs.size:Int)-1) (-1) (-1)=(U07 xs.size).map λ(m:Nat)=>(((xs.size:Int)-1)+(m:Int)*(-1)).toNat:=by
  unfold sliceRange;simp only[show ¬((-1:Int)>0) by decide,if_false];have e:(if (xs.size:Int)-1>-1 then ((xs.size:Int)-1 - -1 - -1-1)/(- -1) else 0).toNat=xs.size:=by have e1:(- -1:Int)=1:=rfl;rw[e1,U8v];split<;>lia
  rw[e];refine U7c λm _=>?_;congr 1;lia
 unfold slicePick;rw[b,c,List.filterMap_map,←ak];rfl
end HT
namespace L2
open PySem PySem.Spec PyProof PyProof.Rows
def wV(he:PE X e te):PE X (.Subscript e (.Slice none none (some (.UnaryOp .USub (.Constant (.int 1) j p0) p1)) p2) pos)
  (λZ3 H Q=>te Z3 H λx H1=>∃(a:Addr)(xs:List V),x=.ref a/\((H1 a=some (.tup xs)/\∀p,H1 p=none->Q (.ref p) (upd H1 p (.tup xs.reverse)))∨(SqL X.K H1 a xs/\∀p,H1 p=none->Q (.ref p) (upd H1 p (.lst xs.reverse))))):=by
 exact`zt;refine Subscript_ (thn (he pins s Z3 H _ I h) λv s1 ⟨x,H1,I1,r1,q1⟩=>?_);obtain⟨a,xs,rfl,q⟩:=q1;cases r1;refine wpAny_Slice ?_;rw[evalPart_none];refine U0c (U0c ?_);rw[evalPart_some];refine thn (uX Lp kZ pins s1 Z3 H1 (λx H2=>x=.int (-1)/\H2=H1) I1 ⟨1,rfl,rfl,rfl⟩) λu s2 ⟨y,H2,I2,r2,e1,e2⟩=>?_;subst e1 e2;obtain⟨t0,rfl⟩:=(show ∃t,u=U2v (-1) t from r2);have I4:Inv X pins Z3 H2 { s2 with heap:=s2.heap.push { cls:=.type "slice",data:=.fields #[.none,.none,.int (-1) t0] } }:=I2.kept (t':=s2.toks) λb ob q=>U0a _ q;show wpAny (model X.prog X.w) X.A (subscriptTail e (.Slice none none (some (.UnaryOp .USub (.Constant (.int 1) j p0) p1)) p2) (.ref a) (.ref s2.heap.objs.size)) (EP X pins Z3 Q) X.xe { s2 with heap:=s2.heap.push { cls:=.type "slice",data:=.fields #[.none,.none,.int (-1) t0] } };rcases q with ⟨ha,q⟩|⟨ha,q⟩
 .obtain⟨its,rv,ht,hz⟩:=I4.tuple (SqT.of ha);have hlen:=rv.length;refine tail_any (ops:=[.ref a,.ref s2.heap.objs.size]) ht.typeIs U12.lookup ?_ (by with_unfolding_all rfl);refine HT.mW ht (U7r ..) (by rw[U0t,←hlen];exact hz) ?_;refine⟨.ref _,_,I4.laid (t':=s2.toks) (o:=.tup xs.reverse) (λb ob q=>U0a _ q) (U0o _) ?_,rfl,q _ (I4.hok.fresh (U0o _))⟩;exact⟨by rw[U7d];exact hz,its.reverse,rv.reverse,by rw[show its.reverse.toArray=its.toArray.toList.reverse.toArray by simp];exact U7s _ _⟩
 .obtain⟨its,rv,ht,hz⟩:=I4.list ha;have hlen:=rv.length;refine tail_any (ops:=[.ref a,.ref s2.heap.objs.size]) ht.isList.typeIs slot_list_getitem.lookup ?_ (by with_unfolding_all rfl);refine wpAny_getItem_list_slice ht.isList (U7r ..) .none .none (.int (-1) t0) (by simp) ?_ (by rw[U0t,←hlen];exact hz);rw[HT.Z0];refine⟨.ref _,_,I4.laid (t':=s2.toks) (o:=.lst xs.reverse) (λb ob q=>U0a _ q) (U0o _) ?_,rfl,q _ (I4.hok.fresh (U0o _))⟩;exact⟨by rw[U7d];exact hz,its.reverse,0,rv.reverse,by rw[show its.reverse.toArray=its.toArray.toList.reverse.toArray by simp];exact U0s _ rfl⟩
end L2
namespace VS
open PySem PySem.Spec L2
def Vy(S:Store):D->Option D
 |.tup ds=>some (.tup ds.reverse)
 |x=>(Bj S x).map λds=>.lst true ds.reverse
def xX(he:JE X e f):JE X (.Subscript e (.Slice none none (some (.UnaryOp .USub (.Constant (.int 1) j p0) p1)) p2) pos) (eUn Vy f):=
 ⟨PE.imp (wV he.pe) λZ3 H Q h=>by
  exact`zb;exact`zd;obtain⟨z,e3,e⟩:=map_some e;cases e;exact`ze;dsimp only at e3;unfold Vy at e3;split at e3
  .cases e3;cases r1 with
   |@tup p xs _ hp rp=>
    refine⟨p,xs,rfl,.inl ⟨hp,λt ht=>?_⟩⟩;obtain⟨R2,x2⟩:=R1.grow (DY ht (.tup xs.reverse));exact q _ μ1 _ (x1.trans x2) R2 (.tup CT ((rp.reverse).ext x2))
  .rename_i ht;obtain⟨ds,e4,e5⟩:=map_some e3;subst e5;rcases VR.ZL hK R1 r1 e4 with ⟨es,z⟩|⟨a,xs,rfl,hq,rs⟩
   .exact absurd z (ht es)
   .refine⟨a,xs,rfl,.inr ⟨hq,λt htt=>?_⟩⟩;obtain⟨R2,x2⟩:=R1.grow (DY htt (.lst xs.reverse));exact q _ μ1 _ (x1.trans x2) R2 (.lst (R1.ok htt true) (R1.dead htt) CT (rs.reverse.ext x2))⟩
end VS
end
section
set_option maxRecDepth 100000
namespace HT
open PySem PySem.Spec PyProof.Rows
section
variable{prog:Program}{w:World}{A:Around}{E:Value->Shared->Prop}{s:Shared}
def cV{Q:Option Obj->Shared->Prop}(e:s.heap.get? a=some o)(q:Q (some o) s):wpAny (model prog w) A (loadIfAlive a) Q E s:=by intro Γ p _;unfold loadIfAlive;rw[Sem.wp_loadIfAlive,e];exact(Sem.wp_pure ..).mpr q
abbrev Pa(h:Heap)(z TI TO T:Addr)(c:Bool):Prop:=h.get? z=some { cls:=.type "zip",dict:=none,data:=.fields #[rawInt T,.bool c,.bool false,.ref TI,.ref TO],slots:=#[] }
variable{z TI TO i1 i2 T:Addr}{fp1 fp2:List Addr}{n1 n2 k:Nat}{P1 P2:Nat->Value->Prop}{S1 S2:Nat->Heap->Prop}{c:Bool}
def dg{Q:Bool->Shared->Prop}(hZ:Pa s.heap z TI TO T c)(hT:∃o,s.heap.get? T=some o)(q:∀h',Pa h' z TI TO T true->U02 z s.heap h'->Q false { s with heap:=h' }) :
  wpAny (model prog w) A (U11 (.ref z)) Q E s:=by
 obtain⟨o,hT⟩:=hT;unfold U11;refine U0 (U1v hZ rfl (x:=rawInt T) rfl ?_);show wpAny _ _ (loadIfAlive (Int.toNat (T:Int)) >>= _) _ _ _;rw[U2t];refine U0 (cV hT ?_);simp only[Option.isNone_some,U18,if_false];refine U0 (U1v hZ rfl (x:=.bool c) rfl ?_);cases c with
 |false=>
  rw[if_pos (by decide)];refine U0 (U2k hZ (by simp) λg z' m=>?_);exact U0c (q g z' m)
 |true=>
  rw[if_neg (by decide)];exact U0c (q s.heap hZ (U76 ..))
def Jex{Q:Value->Shared->Prop}(D1:Draws prog w A i1 fp1 n1 P1 S1)(D2:Draws prog w A i2 fp2 n2 P2 S2)(D:Apart z TI TO i1 i2 fp1 fp2)(hZ:Pa s.heap z TI TO T c)(hI:IsPair s.heap TI (.ref i1) (.ref i2))(hT:∃o,s.heap.get? T=some o)
  (s1:S1 k s.heap) (s2:S2 k s.heap) (k1:k<n1) (k2:k<n2)
  (q:∀x y h' tk,P1 k x->P2 k y->Pa h' z TI TO T true->S1 (k+1) h'->S2 (k+1) h'->IsPair h' s.heap.objs.size x y->h'.objs.size=s.heap.objs.size+1 ->
   (∀c o,c≠z->c≠i1->c≠i2->s.heap.get? c=some o->h'.get? c=some o)->Q (.ref s.heap.objs.size) { s with heap:=h',toks:=tk }) :
  wpAny (model prog w) A (Builtin.«zip.__next__» ⟨[.ref z],[]⟩) (λfin s'=>∃v,fin=.done (.ret v)/\Q v s') E s:=by
 obtain⟨hp,g,d,tk0,os⟩:=s;exact`zC;exact`zv;refine(show wpAny _ _ (U11 (.ref z) >>= _) _ _ _ from U0 (dg hZ hT λg1 z1 m1=>?_));replace m1:U02 z hp g1:=m1;simp only[U18,if_false];exact`qa;exact`zS;refine U0 ?_;simp only[List.forIn_toArray,U4i,U58];refine U0 (U0 (U1u (show wpAny _ _ (U1h (.ref i1) >>= _) _ _ _ from U0 (D1.item k ⟨g1,g,d,tk0,os⟩ _ _ k1 t1 λx g2 tk1 px t2 m2=>U0c ?_))));replace m2:U02 i1 g1 g2:=m2;have u2:S2 k g2:=D2.frame _ _ _ u1 λc hc o e=>m2.extBut _ _ (D.b2 c hc).2.2 e;refine U0c ?_;refine U0 (U0 (U1u (show wpAny _ _ (U1h (.ref i2) >>= _) _ _ _ from U0 (D2.item k ⟨g2,g,d,tk1,os⟩ _ _ k2 u2 λy g3 tk2 py u3 m3=>U0c ?_))));replace m3:U02 i2 g2 g3:=m3;refine U0c (U0c ?_);refine U0 (U7n ?_ (by simp[sizeLine]));have sz:g3.objs.size=hp.objs.size:=by rw[m3.1,m2.1,m1.1]
 refine U0c ⟨_,rfl,?_⟩;show Q (.ref g3.objs.size) _;have z3:Pa g3 z TI TO T true:=m3.extBut _ _ (U1n D.c2.1) (m2.extBut _ _ (U1n D.c1.1) z1);have q3:=q x y (g3.push { cls:=.type "tuple",data:=.seq #[x,y] }) tk2 px py (U0a _ z3)
  (D1.frame _ _ _ t2 λc hc o e=>U0a _ (m3.extBut _ _ (D.b1 c hc).2.2 e)) (D2.frame _ _ _ u3 λc hc o e=>U0a _ e)
  (by show IsPair _ hp.objs.size x y;rw[←sz];exact U0s _ rfl) (by rw[U2c,sz])
  λc o n1 n3 n4 e=>U0a _ (m3.extBut _ _ n4 (m2.extBut _ _ n3 (m1.extBut _ _ n1 e)))
 rw[sz];exact q3
def Jdf{Q:PySem.Fin->Shared->Prop}(D1:Draws prog w A i1 fp1 n1 P1 S1)(D2:Draws prog w A i2 fp2 n2 P2 S2)(D:Apart z TI TO i1 i2 fp1 fp2)(hZ:Pa s.heap z TI TO T c)(hI:IsPair s.heap TI (.ref i1) (.ref i2))(hT:∃o,s.heap.get? T=some o)
  (s1:S1 k s.heap) (s2:S2 k s.heap) (ke:k=n1∨(k<n1/\k=n2))
  (q:∀h' e tk,(∀c o,c≠z->c≠i1->c≠i2->s.heap.get? c=some o->h'.get? c=some o)->(∃o,h'.get? e=some o/\o.cls=.type "StopIteration")->E (.ref e) { s with heap:=h',toks:=tk }) :
  wpAny (model prog w) A (Builtin.«zip.__next__» ⟨[.ref z],[]⟩) Q E s:=by
 obtain⟨hp,g,d,tk0,os⟩:=s;exact`zC;exact`zv;refine(show wpAny _ _ (U11 (.ref z) >>= _) _ _ _ from U0 (dg hZ hT λg1 z1 m1=>?_));replace m1:U02 z hp g1:=m1;simp only[U18,if_false];exact`qa;exact`zS;refine U0 ?_;simp only[List.forIn_toArray,U4i,U58];rcases ke with ke|⟨k1,ke⟩
 .subst ke;refine U0 (U0 (U1u (show wpAny _ _ (U1h (.ref i1) >>= _) _ _ _ from U0 (D1.done ⟨g1,g,d,tk0,os⟩ _ _ t1 λg2 e m2 he=>?_))));replace m2:U4u i1 g1 g2:=m2;exact q g2 e tk0 (λc o n1 n3 _ x=>m2 _ _ n3 (m1.extBut _ _ n1 x)) he
 .refine U0 (U0 (U1u (show wpAny _ _ (U1h (.ref i1) >>= _) _ _ _ from U0 (D1.item k ⟨g1,g,d,tk0,os⟩ _ _ k1 t1 λx g2 tk1 px t2 m2=>U0c ?_))));replace m2:U02 i1 g1 g2:=m2;have u2:S2 k g2:=D2.frame _ _ _ u1 λc hc o e=>m2.extBut _ _ (D.b2 c hc).2.2 e;rw[ke]at u2;refine U0c ?_;refine U0 (U0 (U1u (show wpAny _ _ (U1h (.ref i2) >>= _) _ _ _ from U0 (D2.done ⟨g2,g,d,tk1,os⟩ _ _ u2 λg3 e m3 he=>?_))));replace m3:U4u i2 g2 g3:=m3;exact q g3 e tk1 (λc o n1 n3 n4 x=>m3 _ _ n4 (m2.extBut _ _ n3 (m1.extBut _ _ n1 x))) he
def ZS(z TI TO i1 i2:Addr)(S1 S2:Nat->Heap->Prop)(k:Nat)(h:Heap):Prop:=
 IsPair h TI (.ref i1) (.ref i2)/\S1 k h/\S2 k h/\((∃a b,IsZip h z TI TO .none/\IsPair h TO a b)∨∃T c o,Pa h z TI TO T c/\h.get? T=some o/\T≠z/\T≠i1/\T≠i2)
def ZS.type(st:ZS z TI TO i1 i2 S1 S2 k s.heap):s.TypeIs (.ref z) "zip":=by
 obtain⟨_,_,_,⟨_,_,h,_⟩|⟨_,_,_,h,_⟩⟩:=st
 .exact⟨_,h,rfl⟩
 .exact⟨_,h,rfl⟩
def ZS.lt(st:ZS z TI TO i1 i2 S1 S2 k h):z<h.objs.size:=by
 obtain⟨_,_,_,⟨_,_,h,_⟩|⟨_,_,_,h,_⟩⟩:=st
 .exact U0m h
 .exact U0m h
theorem ZS.frame(D1:Draws prog w A i1 fp1 n1 P1 S1)(D2:Draws prog w A i2 fp2 n2 P2 S2)(st:ZS z TI TO i1 i2 S1 S2 k h)(f1:S ∉ fp1)(f2:S ∉ fp2)(n1:S≠z)(n2:S≠TI)(n3:S≠TO)(lv:∃o,h'.get? S=some o)(m:∀c o,c≠S->h.get? c=some o->h'.get? c=some o):ZS z TI TO i1 i2 S1 S2 k h':=by
 obtain⟨a1,a2,a3,a4⟩:=st;refine⟨m _ _ (U1n n2) a1,D1.frame _ _ _ a2 λc hc o e=>m c o (λq=>f1 (q ▸ hc)) e,D2.frame _ _ _ a3 λc hc o e=>m c o (λq=>f2 (q ▸ hc)) e,?_⟩;rcases a4 with ⟨a,b,b1,b2⟩|⟨T,c,o,b1,b2,b3⟩
 .exact .inl ⟨a,b,m _ _ (U1n n1) b1,m _ _ (U1n n3) b2⟩
 .by_cases q:T=S
  .obtain⟨o',e⟩:=lv;exact .inr ⟨T,c,o',m _ _ (U1n n1) b1,q ▸ e,b3⟩
  .exact .inr ⟨T,c,o,m _ _ (U1n n1) b1,m _ _ q b2,b3⟩
def Jai{Q:Option Value->Shared->Prop}(D1:Draws prog w A.in1 i1 fp1 n1 P1 S1)(D2:Draws prog w A.in1 i2 fp2 n2 P2 S2)(D:Apart z TI TO i1 i2 fp1 fp2)(st:ZS z TI TO i1 i2 S1 S2 k s.heap)(k1:k<n1)(k2:k<n2)
  (q:∀x y h' tk,P1 k x->P2 k y->ZS z TI TO i1 i2 S1 S2 (k+1) h'->IsPair h' s.heap.objs.size x y->h'.objs.size=s.heap.objs.size+1->(∀c o,c≠z->c≠TO->c≠i1->c≠i2->s.heap.get? c=some o->h'.get? c=some o)->Q (some (.ref s.heap.objs.size)) { s with heap:=h',toks:=tk }) :
  wpAny (model prog w) A (pyNext (.ref z)) Q E s:=by
 have T:=st.type;have lz:=st.lt;obtain⟨a1,a2,a3,a4⟩:=st;obtain⟨_,l1⟩:=D1.live _ _ a2;obtain⟨_,l2⟩:=D2.live _ _ a3;rcases a4 with ⟨a,b,b1,b2⟩|⟨T',c,o,b1,b2,b3,b4,b5⟩
 .refine dZ D1 D2 D b1 a1 b2 a2 a3 k1 k2 λx y h' tk p1 p2 c1 c2 c3 c4 c5 c6 c7=>q x y h' tk p1 p2 ⟨c7 _ _ D.a1 D.a3 (U1n D.c1.2.2) (U1n D.c2.2.2) a1,c3,c4,.inr ⟨_,false,_,c1,c5,U1r lz,U1r (U0m l1),U1r (U0m l2)⟩⟩ c5 c6 c7
 .unfold pyNext;refine U0 (U3t (wpAny_callSpecial?_slot (name:=U2w "__next__") T U2s (U1o U2s T U5g (Jex D1 D2 D b1 a1 ⟨o,b2⟩ a2 a3 k1 k2 λx y h' tk p1 p2 c1 c3 c4 c5 c6 c7=>U0c (q x y h' tk p1 p2 ?_ c5 c6 λc o n1 _ n3 n4 e=>c7 c o n1 n3 n4 e)) (U43 _))));exact⟨c7 _ _ D.a1 (U1n D.c1.2.2) (U1n D.c2.2.2) a1,c3,c4,.inr ⟨T',true,o,c1,c7 _ _ b3 b4 b5 b2,b3,b4,b5⟩⟩
def uw{Q:Option Value->Shared->Prop}(D1:Draws prog w A.in1 i1 fp1 n1 P1 S1)(D2:Draws prog w A.in1 i2 fp2 n2 P2 S2)(D:Apart z TI TO i1 i2 fp1 fp2)(st:ZS z TI TO i1 i2 S1 S2 k s.heap)(ke:k=n1∨(k<n1/\k=n2))
  (q:∀h' tk,(∀c o,c≠z->c≠TO->c≠i1->c≠i2->s.heap.get? c=some o->h'.get? c=some o)->Q none { s with heap:=h',toks:=tk }):wpAny (model prog w) A (pyNext (.ref z)) Q E s:=by
 have T:=st.type;obtain⟨a1,a2,a3,a4⟩:=st;rcases a4 with ⟨a,b,b1,b2⟩|⟨T',c,o,b1,b2,b3,b4,b5⟩
 .exact dY D1 D2 D b1 a1 b2 a2 a3 ke q
 .unfold pyNext;refine U0 (U3t (wpAny_callSpecial?_slot (name:=U2w "__next__") T U2s (U1o U2s T U5g (Jdf D1 D2 D b1 a1 ⟨o,b2⟩ a2 a3 ke λh' e tk kk he=>?_) (U43 _))));obtain⟨o,e1,e2⟩:=he;exact U0 (U4c (T:="StopIteration") (b:=true) ⟨o,e1,e2⟩ isSubtype_stop (U0c (q h' tk λc o n1 _ n3 n4 e=>kk c o n1 n3 n4 e)))
def Laid(P1 P2:Nat->Value->Prop)(t0 k:Nat)(h:Heap):Prop:=∀j,j<k->∃x y,P1 j x/\P2 j y/\IsPair h (t0+j) x y
theorem uz{R:Result->Shared->Prop}(D1:Draws prog w A.in1.in1 i1 fp1 n1 P1 S1)(D2:Draws prog w A.in1.in1 i2 fp2 n2 P2 S2)(D:Apart z TI TO i1 i2 fp1 fp2)(hm:∀k,k<m->k<n1/\k<n2)(he:m=n1∨(m<n1/\m=n2))(hs:m<=1000000)(S:Addr)(f1:S ∉ fp1)(f2:S ∉ fp2)(e1:S≠z)(e2:S≠TI)(e3:S≠TO)(e4:S≠i1)(e5:S≠i2)(e6:S<t0)
  (far:z<t0/\TO<t0/\i1<t0/\i2<t0) (res:Value) :
  ∀(j k:Nat)(s:Shared)(acc:Array Value)(c:Nat),m-k=j->k<=m->ZS z TI TO i1 i2 S1 S2 k s.heap->s.heap.get? S=some { cls:=.type "list",dict:=none,data:=.seq acc c,slots:=#[] }->acc=((U07 k).map λj=>U1c (t0+j)).toArray->s.heap.objs.size=t0+k->Laid P1 P2 t0 k s.heap ->
  (∀h' tk c',(∀b o,b≠z->b≠TO->b≠i1->b≠i2->b≠S->s.heap.get? b=some o->h'.get? b=some o)->h'.get? S=some { cls:=.type "list",dict:=none,data:=.seq ((U07 m).map λj=>U1c (t0+j)).toArray c',slots:=#[] }->Laid P1 P2 t0 m h'->R (.ok (.ret res)) { s with heap:=h',toks:=tk }) ->
  codeAny (model prog w) A (.builtin "list.extend.loop" ⟨[.ref S,.ref z,res],[]⟩) R s:=by
 have aw:∀j:Nat,t0+j≠z/\t0+j≠TO/\t0+j≠i1/\t0+j≠i2/\t0+j≠S:=λj=>⟨U1r (U0w far.1 (U1p _ _)),U1r (U0w far.2.1 (U1p _ _)),U1r (U0w far.2.2.1 (U1p _ _)),U1r (U0w far.2.2.2 (U1p _ _)),U1r (U0w e6 (U1p _ _))⟩;have hs2:m<=sizeLine:=U01 hs (by decide);intro j;induction j with
 |zero=>
  intro k s acc c hj hk st hS ha hz hl q;have hkm:k=m:=by lia
  subst hkm;refine codeAny_builtin PySem.F.entry_extend_loop ?_;rw[U2x U4s _];show wpAny _ A.in1 (pyNext (.ref z) >>= _) _ _ s;refine U0 (uw D1 D2 D st he λh' tk kk=>U0c (q h' tk c (λb o n1 n2 n3 n4 _ e=>kk b o n1 n2 n3 n4 e) ?_ ?_))
  .rw[←ha];exact kk _ _ e1 e3 e4 e5 hS
  .intro j hj;obtain⟨x,y,p1,p2,t⟩:=hl j hj;exact⟨x,y,p1,p2,kk _ _ (aw j).1 (aw j).2.1 (aw j).2.2.1 (aw j).2.2.2.1 t⟩
 |succ j ih=>
  intro k s acc c hj hk st hS ha hz hl q;have hlt:k<m:=gq hj;refine codeAny_builtin PySem.F.entry_extend_loop ?_;rw[U2x U4s _];show wpAny _ A.in1 (pyNext (.ref z) >>= _) _ _ s;refine U0 (Jai D1 D2 D st (hm k hlt).1 (hm k hlt).2 λx y h' tk p1 p2 st' tp sz kk=>?_);have hS':=kk _ _ e1 e3 e4 e5 hS;have hlen:acc.size=k:=by rw[ha];simp
  show wpAny _ A.in1 (updateSeq S (·.push (.ref s.heap.objs.size)) >>= _) _ _ _;refine U0 ?_;have oth:∀b o,b≠S->h'.get? b=some o->(h'.update S (U1m (·.push (U1c s.heap.objs.size)))).get? b=some o:=λb o n e=>(U1f _ _ (U1n n)).trans e;have hS2:=U2g (U1m (·.push (U1c s.heap.objs.size))) hS' rfl;have szu:(h'.update S (U1m (·.push (U1c s.heap.objs.size)))).objs.size=h'.objs.size:=(U1x ..).1;refine U49 hS' rfl (U0c ⟨plainId_quiet U4s _,ih (k+1) _ (acc.push (.ref s.heap.objs.size)) _ (Jad hj) hlt (ZS.frame D1 D2 st' f1 f2 e1 e2 e3 ⟨_,hS2⟩ oth) hS2 ?_ ?_ ?_ λh'' tk'' c'' kk2 hS3 hl3=>?_⟩)
   (by rw[hlen];lia) (by show(acc.push _).size<=sizeLine+1;rw[Array.size_push,hlen];lia)
  .rw[ha,hz,List.range_succ];simp
  .rw[show(U7q _).objs.size=_ from szu,sz,hz];lia
  .intro j hj;by_cases q':j=k
   .subst q';refine⟨x,y,p1,p2,oth _ _ (aw _).2.2.2.2 ?_⟩;rw[←hz];exact tp
   .obtain⟨x',y',r1,r2,t⟩:=hl j (Jae hj q');exact⟨x',y',r1,r2,oth _ _ (aw j).2.2.2.2 (kk _ _ (aw j).1 (aw j).2.1 (aw j).2.2.1 (aw j).2.2.2.1 t)⟩
  .exact q h'' tk'' c'' (λb o n1 n2 n3 n4 n5 e=>kk2 b o n1 n2 n3 n4 n5 (oth b o n5 (kk b o n1 n2 n3 n4 e))) hS3 hl3
def qM:typeLookup (.type "zip") "__len__"=pure none:=by rw[typeLookup_type,builtinLookup_eq_fast];kernel_rfl
def mG:typeLookup (.type "zip") "__length_hint__"=pure none:=by rw[typeLookup_type,builtinLookup_eq_fast];kernel_rfl
theorem ZS.push(D1:Draws prog w A i1 fp1 n1 P1 S1)(D2:Draws prog w A i2 fp2 n2 P2 S2)(st:ZS z TI TO i1 i2 S1 S2 k h)(o:Obj):ZS z TI TO i1 i2 S1 S2 k (h.push o):=by
 obtain⟨a1,a2,a3,a4⟩:=st;refine⟨U0a _ a1,D1.frame _ _ _ a2 λc hc o e=>U0a _ e,D2.frame _ _ _ a3 λc hc o e=>U0a _ e,?_⟩;rcases a4 with ⟨a,b,b1,b2⟩|⟨T,c,o,b1,b2,b3⟩
 .exact .inl ⟨a,b,U0a _ b1,U0a _ b2⟩
 .exact .inr ⟨T,c,o,U0a _ b1,U0a _ b2,b3⟩
def xZ{Q:Value->Shared->Prop}(T:s.TypeIs (.ref z) "zip")(q:Q (.ref z) s):wpAny (model prog w) A (pyIter (.ref z)) Q E s:=
 U6c T PySem.F.slot_zip_iter (U1o PySem.F.slot_zip_iter T PySem.F.entry_zip_iter (show wpAny _ _ (ret (.ref z)) _ _ s from U0c ⟨_,rfl,"zip",_,T,U2s.lookup,q⟩) (PySem.F.args_zip_iter_1 _))
def xQ{Q:Value->Shared->Prop}(D1:Draws prog w A.in1.in1.in1 i1 fp1 n1 P1 S1)(D2:Draws prog w A.in1.in1.in1 i2 fp2 n2 P2 S2)(D:Apart z TI TO i1 i2 fp1 fp2)(hm:∀k,k<m->k<n1/\k<n2)(he:m=n1∨(m<n1/\m=n2))(hs:m<=1000000)(st:ZS z TI TO i1 i2 S1 S2 0 s.heap)
  (l1:∀b∈fp1,b<s.heap.objs.size) (l2:∀b∈fp2,b<s.heap.objs.size) (l3:z<s.heap.objs.size/\TI<s.heap.objs.size/\TO<s.heap.objs.size/\i1<s.heap.objs.size/\i2<s.heap.objs.size)
  (q:∀h' tk c',(∀b o,b≠z->b≠TO->b≠i1->b≠i2->s.heap.get? b=some o->h'.get? b=some o)->h'.get? s.heap.objs.size=some { cls:=.type "list",dict:=none,data:=.seq ((U07 m).map λj=>U1c (s.heap.objs.size+1+j)).toArray c',slots:=#[] } ->
   Laid P1 P2 (s.heap.objs.size+1) m h'->Q (.ref s.heap.objs.size) { s with heap:=h',toks:=tk }):wpAny (model prog w) A (call (.type "list") [.ref z]) Q E s:=by
 refine callType_codes (Q₁:=λobj s₁=>obj=.ref s.heap.objs.size/\s₁={ s with heap:=s.heap.push { cls:=.type "list",data:=.seq #[] } }) PySem.F.called_list (PySem.F.typeCall_list_1 _) PySem.F.entry_list_init (code_list_new _ ⟨rfl,rfl⟩) λobj s₁ h₁=>?_;obtain⟨rfl,rfl⟩:=h₁;have g0:(s.heap.push { cls:=.type "list",data:=.seq #[] }).get? s.heap.objs.size=some { cls:=.type "list",data:=.seq #[] }:=U0s _ rfl;refine⟨⟨_,g0,rfl⟩,PySem.F.args_list_init_2 _ _,?_⟩;generalize hS:s.heap.objs.size=S at *
 have st0:=ZS.push D1 D2 st { cls:=.type "list",data:=.seq #[] };have sz0:(s.heap.push { cls:=.type "list",data:=.seq #[] }).objs.size=S+1:=by rw[U2c,hS]
 have k0:∀b o,s.heap.get? b=some o->(s.heap.push { cls:=.type "list",data:=.seq #[] }).get? b=some o:=λb o e=>U0a _ e;generalize s.heap.push { cls:=.type "list",data:=.seq #[] }=h0 at *
 have ne1:S≠z:=U1r l3.1;have ne2:S≠TI:=U1r l3.2.1;have ne3:S≠TO:=U1r l3.2.2.1;have ne4:S≠i1:=U1r l3.2.2.2.1;have ne5:S≠i2:=U1r l3.2.2.2.2;have nf1:S ∉ fp1:=λz=>U3s _ (l1 _ z);have nf2:S ∉ fp2:=λz=>U3s _ (l2 _ z);have wr:∀(h:Heap)(f:Array Value->Array Value)(xs:Array Value)(c:Nat),h.get? S=some { cls:=.type "list",data:=.seq xs c }->(∀b o,b≠S->h.get? b=some o->(h.update S (U1m f)).get? b=some o)/\(h.update S (U1m f)).objs.size=h.objs.size:=λh f xs c e=>⟨λb o n e=>(U1f _ _ (U1n n)).trans e,(U1x ..).1⟩;refine(show wpAny _ _ (do let old ←Builtin.List.listItems (.ref S);Builtin.List.listUpdate (.ref S) (λ_=>#[]);letGo old.toList.reverse;U3q (.ref S) (.ref z) .none) _ _ _ from U0 ?_);unfold Builtin.List.listItems;refine U0 (U2q g0 rfl (U0c (show wpAny _ _ (updateSeq S (λ_=>#[]) >>= λ_=>letGo (#[]:Array Value).toList.reverse >>= λ_=>U3q (.ref S) (.ref z) .none) _ _ _ from U0 (U49 g0 rfl (U0 (U7p ?_))))));have g1:=U2g (U1m (λ_=>(#[]:Array Value))) g0 rfl;obtain⟨o1,z1⟩:=wr h0 (λ_=>#[]) _ _ g0;have st1:=ZS.frame D1 D2 st0 nf1 nf2 ne1 ne2 ne3 ⟨_,g1⟩ o1;unfold U3q;refine U0 (U4f (st1.type (s:={ s with heap:=_ })) ?_);have b1:U40 (.ref S) (.ref z)=false:=by simp[U40,ne1]
 rw[if_neg (by rw[b1];decide)];have ty1:U4l { s with heap:=h0.update S (U1m (λ_=>(#[]:Array Value))) } (.ref z) "zip":=st1.type (s:={ s with heap:=_ });refine U0 (xZ ty1 ?_);refine U0 (U1u ?_);unfold U5n;refine U0 (U8h ty1 qM ?_);refine(show wpAny _ _ (specialOf (U1c z) (U2w "__length_hint__") >>= _) _ _ _ from U0 (U8h ty1 mG (U0c ?_)));refine(show wpAny _ _ (rule "list.extend.makes-room" >>= λ_=>Builtin.List.listTouch (.ref S) >>= λ_=>again (.builtin "list.extend.loop" ⟨[.ref S,.ref z,.none],[]⟩)) _ _ _ from U0 (U4r (U0 ?_)));refine(show wpAny _ _ (updateSeq S (·.push .none) >>= λ_=>updateSeq S (·.pop)) _ _ _ from U0 (U49 g1 rfl ?_));have g2:=U2g (U1m (·.push U2d)) g1 rfl;obtain⟨o2,z2⟩:=wr _ (·.push U2d) _ _ g1;have g3:=U2g (U1m (·.pop)) g2 rfl;obtain⟨o3,z3⟩:=wr _ (·.pop) _ _ g2;refine U49 (hz:=by seq_fits) g2 rfl ?_;have st3:=ZS.frame D1 D2 (ZS.frame D1 D2 st1 nf1 nf2 ne1 ne2 ne3 ⟨_,g2⟩ o2) nf1 nf2 ne1 ne2 ne3 ⟨_,g3⟩ o3;refine U0c ⟨plainId_quiet U4s _,uz D1 D2 D (t0:=S+1) hm he hs S nf1 nf2 ne1 ne2 ne3 ne4 ne5 (U5p _) ⟨U2u l3.1,U2u l3.2.2.1,U2u l3.2.2.2.1,U2u l3.2.2.2.2⟩ _ m 0 _ _ _ rfl (U3 _) st3 g3 ?_ ?_ (λj hj=>absurd hj (U8g _)) λh' tk c' kk hS' hl=>⟨rfl,q h' tk c' (λb o n1 n2 n3 n4 e=>?_) hS' hl⟩⟩
 .simp
 .show(Heap.update _ _ _).objs.size=_;rw[z3,z2,z1,sz0]
 .have nb:b≠S:=U0u (hS ▸ U0m e);exact kk b o n1 n2 n3 n4 nb (o3 b o nb (o2 b o nb (o1 b o nb (k0 b o e))))
end
end HT
end
section
namespace L2
open PySem PySem.Spec PyProof.Rows
section
variable{X:Cx}{pins:List (Addr×Obj)}{Z3:St}{H:Hp}{s:Shared}
def Inv.Jd5(I:Inv X pins Z3 H s)(k:∀b u,s.heap.get? b=some u->h'.get? b=some u)(old:∀b,b<s.heap.objs.size->H' b=H b)(ext:∀b o,H b=some o->H' b=some o)
  (new:∀b o,H' b=some o->H b=none->Df X.prog X.w H' h' b o):Inv X pins Z3 H' { s with heap:=h',drawn:=d',toks:=t' }:=by
 refine I.step (g':=s.gens) (ch:=[]) (λ_ z=>nomatch z) (λb u _ _ _ e _=>k b u e) (λb u _ _ _ e _=>⟨u.slots,k b u e⟩) (λb u _ e n=>by rw[old b (U0m e)];exact n) (λb u _ e=>⟨u,k b u e⟩)
  (λb xs e=>ext _ _ e) (λb u xs e=>ext _ _ e) (λb ps e=>⟨#[],by rw[ext _ _ e];simp⟩) (λm hm=>?_) (λb u e=>?_) I.bare (λn v q=>n v (by rw[old _ I.gn]at q;exact q))
 .obtain⟨ob,es,ep,e,r⟩:=hm;exact⟨ob,es,ep,k _ _ e,r⟩
 .cases q:H b with
  |none=>exact new b u e q
  |some o=>
   have:=ext b o q;rw[this]at e;cases e;exact(I.hok b _ q).stay (λc v _ q=>k c v q) (λc q=>ext _ _ q) λc xs q=>ext _ _ q
end
def qX(L:Bool)(ta:TA):TE:=λZ3 H Q=>ta Z3 H λvs H1=>∃a b xs ys,vs=[.ref a,.ref b]/\H1 a=some (HB L xs)/\H1 b=some (HB L ys)/\(xs.zip ys).length<=1000000 /\
 ∀l t0 H2,H1 l=none->(∀c o,H1 c=some o->H2 c=some o)->H2 l=some (.lst ((U07 (xs.zip ys).length).map λj=>V.ref (t0+j)))->(∀j p,(xs.zip ys)[j]?=some p->H2 (t0+j)=some (.tup [p.1,p.2]))->Q (.ref l) H2
section
variable{X:Cx}
def jF(L:Bool)(hc:X.calm=true)(hg:Gl X "list")(hm:X.mg "list"=none)(hg2:Gl X "zip")(hm2:X.mg "zip"=none)(ha:PA X [a,b] ta)(hs:starEach [a,b] X.env=[(false,eval a X.env),(false,eval b X.env)]:=by rfl)(hs2:starEach [b] X.env=[(false,eval b X.env)]:=by rfl)
  (he2:starEach [.Call (.Name "zip" p2) [a,b] [] pos2] X.env=[(false,eval (.Call (.Name "zip" p2) [a,b] [] pos2) X.env)]:=by rfl):PE X (.Call (.Name "list" p) [.Call (.Name "zip" p2) [a,b] [] pos2] [] pos) (qX L ta):=by
 exact`zt;refine U46 (Ni I hg hm (by decide +kernel:bootBuiltins "list"=some (.type "list")) (U3a ?_ he2 rfl));rw[he2];refine(show wpAny _ _ (spliced ((false,eval (.Call (.Name "zip" p2) [a,b] [] pos2) X.env)::backTo pos (starEach [] X.env))) _ _ s from U5z ?_);refine Call_ (Ni I hg2 hm2 (by decide +kernel:bootBuiltins "zip"=some (.type "zip")) (U3a (thn (ha pos2 pins s Z3 H _ I h) λus s1 ⟨vs,H1,I1,r1,q1⟩=>?_) (by rw[hs,hs2]) (by rw[hs2];rfl)));obtain⟨l,m,xs,ys,e,e1,e2,hl,q⟩:=q1;subst e;obtain⟨us1,us2⟩:us=[.ref l,.ref m]/\True:=by
  cases r1 with
  |cons r rr=>
   cases rr with
   |cons r' rr=>
    cases rr;cases r;cases r';exact⟨rfl,trivial⟩
 subst us1;obtain⟨its1,rv1,p1⟩:=I1.Sh e1;obtain⟨its2,rv2,p2⟩:=I1.Sh e2;have fin:∀h',IsZip h' (s1.heap.objs.size+4) (s1.heap.objs.size+2) (s1.heap.objs.size+3) .none->IsPair h' (s1.heap.objs.size+2) (.ref s1.heap.objs.size) (.ref (s1.heap.objs.size+1))->IsPair h' (s1.heap.objs.size+3) .none .none ->
   KQ L h' s1.heap.objs.size l 0->KQ L h' (s1.heap.objs.size+1) m 0->(∀c o,s1.heap.get? c=some o->h'.get? c=some o)->wpAny (model X.prog X.w) X.A (spliced (backTo pos (starEach [] X.env))) (λus s2=>wpAny (model X.prog X.w) X.A (call (.type "list") (.ref (s1.heap.objs.size+4)::us)) (λv s3=>∃x H',Inv X pins Z3 H' s3/\RelV x v/\Q x H') X.xe s2) X.xe { s1 with heap:=h' }:=λh' c1 c2 c3 c4 c5 k=>by
  refine U72 ?_;generalize hn:s1.heap.objs.size=n at *
  have seqAt:∀(t:Addr)(ws:Array Value),iC L s1.heap t ws->iC L h' t ws/\t<n:=λt ws x=>by
   cases L with
   |true=>
    refine⟨Heap.IsList.at x λo e=>k _ _ e,?_⟩;obtain⟨o,e,_⟩:=(show s1.heap.IsList t ws from x);exact hn ▸ U0m e
   |false=>
    refine⟨U53.at x λo e=>k _ _ e,?_⟩;obtain⟨o,e,_⟩:=(show s1.heap.IsTuple t ws from x);exact hn ▸ U0m e
  obtain⟨q1,ll⟩:=seqAt _ _ p1;obtain⟨q2,lm⟩:=seqAt _ _ p2;have lz:n+4<h'.objs.size:=U0m c1;have lz0:n<h'.objs.size:=U2j (Nat.lt_add_of_pos_right (by decide)) lz;have lz1:n+1<h'.objs.size:=U2j (U7e (by decide) n) lz;have lz2:n+2<h'.objs.size:=U2j (U7e (by decide) n) lz;have lz3:n+3<h'.objs.size:=U2j (U7e (by decide) n) lz;have hh:X.A.in1.in1.in1.handled=none:=I1.ok.hd hc;have sl1:=rv1.length;have sl2:=rv2.length;have hlen:(xs.zip ys).length=min its1.length its2.length:=by rw[U8j,sl1,sl2]
  refine HT.xQ (z:=n+4) (TI:=n+2) (TO:=n+3) (i1:=n) (i2:=n+1) (m:=(xs.zip ys).length) (Qv L hh n l (U0u ll) its1.toArray) (Qv L hh (n+1) m (U0u (U2u lm)) its2.toArray)
   (Vo (by simp) (by simp) (by simp) ⟨by simp,by simp,by simp⟩ ⟨by simp,by simp,by simp⟩ (by simp) (by simp only[U0q,U1s,or_false,not_or];exact⟨U0u (U0w ll (U1p _ _)),U0u (U0w ll (U1p _ _)),U0u (U0w ll (U1p _ _)),U0u ll,U0u (U0w ll (U1p _ _))⟩)
    (by simp only[U0q,U1s,or_false,not_or];exact⟨U0u (U0w lm (U1p _ _)),U0u (U0w lm (U1p _ _)),U0u (U0w lm (U1p _ _)),U0u lm,U0u (U0w lm (U1p _ _))⟩))
   (λj hj=>by rw[hlen]at hj;simp;lia) (by rw[hlen];simp;lia) hl ⟨c2,⟨c4,q1⟩,⟨c5,q2⟩,.inl ⟨_,_,c1,c3⟩⟩ ?_ ?_ ⟨lz,lz2,lz3,lz0,lz1⟩ λh2 tk c' kk hS hL=>?_
  .intro b hb;simp only[U0q,U1s,or_false]at hb;show b<h'.objs.size;rcases hb with rfl|rfl
   .exact lz0
   .exact U2j ll lz0
  .intro b hb;simp only[U0q,U1s,or_false]at hb;show b<h'.objs.size;rcases hb with rfl|rfl
   .exact lz1
   .exact U2j lm lz0
  .generalize hS':h'.objs.size=S at *
   have up:∀b u,s1.heap.get? b=some u->b<n:=λb u e=>hn ▸ U0m e;have k2:∀b u,s1.heap.get? b=some u->h2.get? b=some u:=λb u e=>by have:=up b u e;exact kk b u (U0u (U0w this (U1p _ _))) (U0u (U0w this (U1p _ _))) (U0u this) (U0u (U0w this (U1p _ _))) (k b u e)
   let refs:List V:=(U07 (xs.zip ys).length).map λj=>V.ref (S+1+j);let H2:Hp:=λb=>if b=S then some (.lst refs) else match (if S+1<=b then (xs.zip ys)[b-(S+1)]? else none) with|some p=>some (.tup [p.1,p.2])|none=>H1 b
   have old:∀b,b<n->H2 b=H1 b:=λb hb=>by have h1:b≠S:=U0u (U2j hb lz0);have h2:¬S+1<=b:=Nat.not_le_of_lt (U2j hb (U2u lz0));show(if b=S then _ else _)=_;rw[if_neg h1,if_neg h2]
   have ext:∀b o,H1 b=some o->H2 b=some o:=λb o e=>by obtain⟨ob,e'⟩:=(I1.hok b o e).obj;rw[old b (up b ob e')];exact e
   have hpair:∀j p,(xs.zip ys)[j]?=some p->H2 (S+1+j)=some (.tup [p.1,p.2]):=λj p e=>by show(if S+1+j=S then _ else _)=_;rw[if_neg (by lia),if_pos (by lia),show S+1+j-(S+1)=j by exact ar7,e]
   have hlst:H2 S=some (.lst refs):=by show(if S=S then _ else _)=_;rw[if_pos rfl]
   have fresh:∀b,n<=b->H1 b=none:=λb hb=>I1.hok.fresh (hn ▸ hb);refine⟨.ref S,H2,I1.Jd5 (h':=h2) (d':=s1.drawn) (t':=tk) k2 (hn ▸ old) ext λb o e e'=>?_,rfl,q S (S+1) H2 (fresh S (U2o lz0)) ext hlst hpair⟩;by_cases hb:b=S
   .subst hb;rw[hlst]at e;cases e;refine⟨?_,(U07 (xs.zip ys).length).map (λj=>U1c (b+1+j)),c',?_,hS⟩
    .show((U07 (xs.zip ys).length).map _).length<=_;rw[U0i,U5i];exact U01 hl (by decide)
    .show Vals ((U07 (xs.zip ys).length).map _) _;generalize U07 (xs.zip ys).length=r;induction r with
     |nil=>exact .nil
     |cons j r ih=>exact .cons rfl ih
   .by_cases hb2:S+1<=b
    .obtain⟨j,rfl⟩:∃j,b=S+1+j:=⟨b-(S+1),(Nat.add_sub_cancel' hb2).symm⟩;cases hz:(xs.zip ys)[j]? with
     |none=>
      have:H2 (S+1+j)=H1 (S+1+j):=by show(if S+1+j=S then _ else _)=_;rw[if_neg hb,if_pos hb2,show S+1+j-(S+1)=j by exact ar7,hz]
      rw[this,e']at e;cases e
     |some p=>
      rw[hpair j p hz]at e;cases e;obtain⟨hj,_⟩:=U0l.mp hz;obtain⟨x,y,r1,r2,t⟩:=hL j hj;have z1:=List.getElem?_zip_eq_some.mp hz;obtain⟨u,hu,ru⟩:=rv1.get z1.1;obtain⟨v,hv,rv⟩:=rv2.get z1.2;have g1:its1[j]?=some x:=by simpa using r1
      have g2:its2[j]?=some y:=by simpa using r2
      rw[hu]at g1;rw[hv]at g2;have g1':=U08 g1;have g2':=U08 g2;rw[g1']at ru;rw[g2']at rv;exact⟨(by decide:2<=sizeLine),[x,y],.cons ru (.cons rv .nil),⟨_,t,rfl,_,rfl⟩⟩
    .have:H2 b=H1 b:=by show(if b=S then _ else _)=_;rw[if_neg hb,if_neg hb2]
     rw[this,e']at e;cases e
 cases L with
 |true=>exact call_zip_2 p1 p2 λh' c1 c2 c3 c4 c5 _ k=>fin h' c1 c2 c3 c4 c5 k
 |false=>exact HT.bZ p1 p2 λh' c1 c2 c3 c4 c5 k=>fin h' c1 c2 c3 c4 c5 k
end
end L2
end
section
namespace VS
open PySem PySem.Spec L2 PyProof.Rows
theorem YL:∀{as bs:List V} {xs ys:List D} (t0:Nat),VRs Γ μ H as xs->VRs Γ μ H bs ys->(∀j p,(as.zip bs)[j]?=some p->H (t0+j)=some (.tup [p.1,p.2]))->VRs Γ μ H ((U7o t0 (as.zip bs).length).map V.ref) (Ek xs ys)
 |[],_,_,_,_,.nil,_,_=>by simp[Ek];exact .nil
 |_::_,[],_,_,_,.cons _ _,.nil,_=>by simp[Ek];exact .nil
 |a::as,b::bs,_,_,t0,.cons ra rs,.cons rb rt,h=>by rw[U47,U0f,U6r,U0j,Ek];refine .cons (.tup (h 0 (a,b) rfl) (.cons ra (.cons rb .nil))) (YL (t0+1) rs rt λj p hp=>?_);have:=h (j+1) p (by simpa using hp);rw[show t0+1+j=t0+(j+1) by lia];exact this
theorem Y8:∀(xs ys:List D),(Ek xs ys).length=(xs.zip ys).length
 |[],_=>by simp[Ek]
 |_::_,[]=>by simp[Ek]
 |_::xs,_::ys=>by simp[Ek,Y8 xs ys]
def Vj(a:CQ):Bh:=λenv S=>(a env S).bind λp=>match p.1 with
 |[x,y]=>(listOf p.2 x).bind λxs=>(listOf p.2 y).bind λys=>if (Ek xs ys).length<=1000000 then some (.lst true (Ek xs ys),p.2) else none
 |_=>none
def jQ(hc:X.calm=true)(ha:JA X [a,b] f)(hg:Gl X "list")(hm:X.mg "list"=none)(hg2:Gl X "zip")(hm2:X.mg "zip"=none)(hs:starEach [a,b] X.env=[(false,eval a X.env),(false,eval b X.env)]:=by rfl)(hs2:starEach [b] X.env=[(false,eval b X.env)]:=by rfl)
  (he2:starEach [.Call (.Name "zip" p2) [a,b] [] pos2] X.env=[(false,eval (.Call (.Name "zip" p2) [a,b] [] pos2) X.env)]:=by rfl):JE X (.Call (.Name "list" p) [.Call (.Name "zip" p2) [a,b] [] pos2] [] pos) (Vj f):=
 ⟨PE.imp (jF true hc hg hm hg2 hm2 ha.pa hs hs2 he2) λZ3 H Q h=>by
  exact`zb;obtain⟨⟨ds,S1⟩,e1,e⟩:=bind_some e;exact`qc;split at e
  .rename_i x y;obtain⟨xs,e2,e⟩:=bind_some e;obtain⟨ys,e3,e⟩:=bind_some e;by_cases hl:(Ek xs ys).length<=1000000
   .rw[if_pos hl]at e;cases e;refine⟨Γ,μ,env,S,[x,y],_,hK,R,e1,λvs μ1 H1 x1 R1 r1=>?_⟩;obtain⟨v,u,rfl,ra,rb⟩:=r1.two;obtain⟨pa,as,rfl,ha',rx⟩:=VR.list R1 ra e2;obtain⟨pb,bs,rfl,hb',ry⟩:=VR.list R1 rb e3;refine⟨pa,pb,as,bs,rfl,ha',hb',?_,λl t0 H2 hn hx hl2 hp=>?_⟩
    .rw[Y8,U8j,←rx.length,←ry.length]at hl;rw[U8j];exact hl
    .obtain⟨R2,x2⟩:=R1.grow (show Same H1 H2 from hx);have hr:(U07 (as.zip bs).length).map (λj=>V.ref (t0+j))=(U7o t0 (as.zip bs).length).map V.ref:=by rw[List.range'_eq_map_range,U0d];rfl
     exact q _ μ1 H2 (x1.trans x2) R2 (.lst (R1.ok hn true) (R1.dead hn) hl2 (by rw[hr];exact YL t0 (rx.ext x2) (ry.ext x2) hp))
   .rw[if_neg hl]at e;cases e
  .cases e⟩
def dF(a:CQ)(env:VS.Env)(S:Store):VS.Vj a env S=(a env S).bind λp=>match p.1 with
 |[x,y]=>(listOf p.2 x).bind λxs=>(listOf p.2 y).bind λys=>if (Ek xs ys).length<=1000000 then some (.lst true (Ek xs ys),p.2) else none
 |_=>none:=rfl
end VS
end
section
namespace VS
open PySem PySem.Spec L2
end VS
end
section
namespace HT
open PySem PySem.Spec PyProof PyProof.Rows
end HT
namespace L2
open PySem PySem.Spec PyProof PyProof.Rows
end L2
end
section
namespace VS
open PySem PySem.Spec L2
end VS
end
section
namespace L2
open PySem PySem.Spec PyProof PyProof.Rows
section
variable{X:Cx}
def zQ(K:U0e):List V->Hp->VK->Prop:=λxs H Q=>∃(p:Addr)(ns:List Int),xs=[.ref p]/\SqL K H p (ns.map V.int)/\Q (.int ns.sum) H
def Yo(hc:X.calm=true):Eh X (.builtin "sum") (zQ X.K):=by
 exact`zo;obtain⟨p,ns,rfl,hq,q⟩:=h;obtain⟨u,rfl,rx⟩:=vals1 r;cases rx;obtain⟨its,rv,pl,hz⟩:=I.list hq;have hi:IntsAre its ns:=intsAre_of rv;obtain⟨ys,hy⟩:=hi.allInts.items;have hn:=hi.numsOf;have hl:=pl.isList;rw[hy]at hl;refine sum_intListG (I.ok.hd hc) hl λh' tk t' hk=>⟨.int ns.sum,H,I.kept (h':=h') (t':=tk) hk,⟨t',?_⟩,q⟩;have e:its=(intItems ys).toList:=by rw[←hy]
 rw[e,nums_intItems]at hn;rw[preSum_eq,U3f (by simp),hn]
end
end L2
end
section
namespace HT
open PySem PySem.Spec PyProof PyProof.Rows
end HT
namespace L2
open PySem PySem.Spec PyProof PyProof.Rows
end L2
end
section
namespace VS
open PySem PySem.Spec L2
def lX:bootBuiltins "sum"=some (.builtin "sum"):=by decide +kernel
def VD(S:Store):List D->Option D
 |[x]=>(listOf S x).bind λds=>(intsOf ds).map λns=>.int ns.sum
 |_=>none
def eX:Lg K (zQ K) VD:=by
 exact`zn;unfold VD at e;split at e
 .obtain⟨es,e1,e⟩:=bind_some e;obtain⟨ns,e2,e4⟩:=map_some e;subst e4;obtain⟨v,rfl,r⟩:=rs.one;obtain⟨a,ys,rfl,ha,rx⟩:=VR.list R r e1;have:=JX e2;subst this;have:=rx.RQ;subst this;exact⟨a,ns,rfl,SqL.of ha,q _ H (Same.refl H) (.int _)⟩
 .cases e
end VS
end
section
set_option maxRecDepth 100000
namespace HT
open PySem PySem.Spec PyProof.Rows
section
variable{prog:Program}{w:World}{A:Around}{E:Value->Shared->Prop}{s:Shared}
structure Jgk(z TI TO i1 i2 i3:Addr)(fp1 fp2 fp3:List Addr):Prop where
 a1:TI≠z
 a2:TO≠z
 a3:TI≠TO
 b1:∀b∈fp1,b≠z/\b≠TO/\b≠i2/\b≠i3
 b2:∀b∈fp2,b≠z/\b≠TO/\b≠i1/\b≠i3
 b3:∀b∈fp3,b≠z/\b≠TO/\b≠i1/\b≠i2
 c1:i1≠z/\i1≠TO/\i1≠TI
 c2:i2≠z/\i2≠TO/\i2≠TI
 c3:i3≠z/\i3≠TO/\i3≠TI
end
end HT
namespace L2
open PySem PySem.Spec PyProof.Rows
end L2
end
section
namespace VS
open PySem PySem.Spec L2
end VS
end
section
set_option maxRecDepth 100000
namespace L2
open PySem PySem.Spec PyProof.Rows
section
variable{κ:Type}[DecidableEq κ]
def Dz(kvs:List (κ×V))(k:κ):Option V:=(kvs.find? λkv=>decide (kv.1=k)).map (·.2)
def putK(kvs:List (κ×V))(k:κ)(v:V):List (κ×V):=
 if (kvs.any λkv=>decide (kv.1=k))=true then kvs.map (λkv=>if kv.1=k then (kv.1,v) else kv) else kvs++[(k,v)]
def GD{p:κ×V}{r:List (κ×V)}{k:κ}(e:p.1=k):Dz (p::r) k=some p.2:=by simp[Dz,U5b,e]
def GF{p:κ×V}{r:List (κ×V)}{k:κ}(e:¬p.1=k):Dz (p::r) k=Dz r k:=by simp[Dz,U5b,e]
theorem Ji(k:κ):∀kvs:List (κ×V),(kvs.any λkv=>decide (kv.1=k))=(Dz kvs k).isSome
 |[]=>rfl
 |p::r=>by
  rw[U4m];by_cases e:p.1=k
  .simp only[GD e,decide_eq_true e,U80,Option.isSome_some]
  .rw[GF e,decide_eq_false e,Bool.false_or];exact Ji k r
theorem aH(k j:κ)(y:V):∀kvs:List (κ×V),Dz (kvs.map λkv=>if kv.1=k then (kv.1,y) else kv) j=(Dz kvs j).map λx=>if j=k then y else x
 |[]=>rfl
 |p::r=>by
  have ih:=aH k j y r;rw[U0j];by_cases h:p.1=k
  .rw[if_pos h];by_cases e:p.1=j
   .rw[GD (p:=(p.1,y)) e,GD e,U5c,if_pos (e.symm.trans h)]
   .rw[GF (p:=(p.1,y)) e,GF e,ih]
  .rw[if_neg h];by_cases e:p.1=j
   .rw[GD (p:=p) e,GD e,U5c,if_neg (λz=>h (e.trans z))]
   .rw[GF (p:=p) e,GF e,ih]
theorem Y9(k j:κ)(y:V):∀kvs:List (κ×V),Dz kvs k=none->Dz (kvs++[(k,y)]) j=if j=k then some y else Dz kvs j
 |[],_=>by
  by_cases e:k=j
  .rw[if_pos e.symm];exact GD (p:=(k,y)) e
  .rw[if_neg (λz=>e z.symm)];exact GF (p:=(k,y)) e
 |p::r,hn=>by
  rw[U16];have hk:¬p.1=k:=λz=>by rw[GD z]at hn;cases hn
  rw[GF hk]at hn;have ih:=Y9 k j y r hn;by_cases e:p.1=j
  .rw[GD e,GD e,if_neg (λz=>hk (e.trans z))]
  .rw[GF e,GF e,ih]
def qO(kvs:List (κ×V))(k j:κ)(y:V):Dz (putK kvs k y) j=if j=k then some y else Dz kvs j:=by
 unfold putK;by_cases a:(kvs.any λkv=>decide (kv.1=k))=true
 .rw[if_pos a,aH];rw[Ji]at a;by_cases e:j=k
  .obtain⟨x,hx⟩:=U31.mp a;rw[if_pos e,e,hx,U5c,if_pos rfl]
  .rw[if_neg e];cases Dz kvs j with
   |none=>rfl
   |some x=>rw[U5c,if_neg e]
 .rw[if_neg a];refine Y9 k j y kvs ?_;rw[Ji]at a;cases q:Dz kvs k with
  |none=>rfl
  |some x=>rw[q]at a;exact(a rfl).elim
def NK(kvs:List (κ×V))(k:κ)(v:V):(putK kvs k v).length<=kvs.length+1:=by
 unfold putK;split
 .rw[U0i];omega
 .rw[U0n,U0f,U0y];omega
def aj{kvs:List (κ×V)}{k:κ}(v:V)(h:Dz kvs k=none):putK kvs k v=kvs++[(k,v)]:=by unfold putK;rw[Ji,h];exact if_neg (by decide)
def RP.oJ(r:RP o u):o.isSome=u.isSome:=by
 cases o with
 |none=>cases u with
  |none=>rfl
  |some _=>exact(show False from r).elim
 |some _=>cases u with
  |none=>exact(show False from r).elim
  |some _=>rfl
theorem RP.getD(r:RP o u)(rd:RelV d d'):RelV (o.getD d) (u.getD d'):=by
 cases o with
 |none=>cases u with
  |none=>exact rd
  |some _=>exact(show False from r).elim
 |some _=>cases u with
  |none=>exact(show False from r).elim
  |some _=>exact r
def KV.val{kvs:List (κ×V)}{vs:List (κ×Value)}(r:KV kvs vs)(k:κ):RP (Dz kvs k) (valueAt vs k):=by
 unfold KV at r;induction r with
 |nil=>exact U4q
 |@cons p q ps qs h t ih=>
  obtain⟨h1,h2⟩:=h;by_cases e:p.1=k
  .have e':q.1=k:=h1.symm.trans e;have b:valueAt (q::qs) k=some q.2:=by simp[valueAt,U5b,e']
   rw[GD e,b];exact h2
  .have e':¬q.1=k:=λz=>e (h1.trans z);have b:valueAt (q::qs) k=valueAt qs k:=by simp[valueAt,U5b,e']
   rw[GF e,b];exact ih
theorem KV.any(r:KV kvs vs)(k:κ):(kvs.any λkv=>decide (kv.1=k))=vs.any λkv=>decide (kv.1=k):=by
 unfold KV at r;induction r with
 |nil=>rfl
 |cons h t ih=>rw[U4m,U4m,ih,h.1]
def KV.repl(r:KV kvs vs)(k:κ)(ry:RelV y u) :
  KV (kvs.map λkv=>if kv.1=k then (kv.1,y) else kv) (vs.map λkv=>if kv.1=k then (kv.1,u) else kv):=by
 unfold KV at r ⊢;induction r with
 |nil=>exact .nil
 |@cons p q ps qs h t ih=>
  rw[U0j,U0j];refine .cons ?_ ih;obtain⟨h1,h2⟩:=h;by_cases e:p.1=k
  .rw[if_pos e,if_pos (h1.symm.trans e)];exact⟨h1,ry⟩
  .rw[if_neg e,if_neg (λz=>e (h1.trans z))];exact⟨h1,h2⟩
def KV.put(r:KV kvs vs)(k:κ)(ry:RelV y u):KV (putK kvs k y) (stored vs k u):=by
 unfold putK stored;rw[r.any k];by_cases e:(vs.any λkv=>decide (kv.1=k))=true
 .rw[if_pos e,if_pos e];exact r.repl k ry
 .rw[if_neg e,if_neg e];exact Paired.snoc r ⟨rfl,ry⟩
theorem KV.length(r:KV kvs vs):kvs.length=vs.length:=U4j r
end
def iU(r:RelV (kV k) u):(Es P w).is k u=true:=by
 cases k with
 |inl i=>obtain⟨t,e⟩:=(show ∃t,u=U2v i t from r);subst e;exact dD P w i t
 |inr x=>obtain⟨t,e⟩:=(show ∃t,u=U8c x t from r);subst e;exact dB P w x t
theorem YT:∀{ks:List Key} {us:List Value},Vals (ks.map kV) us->ItemsAre (Es P w) ks us
 |[],_,r=>by rw[U09]at r;cases r;exact .nil
 |k::ks,_,r=>by
  rw[U0j]at r;cases r with
  |cons h t=>exact .cons (iU h) (YT t)
abbrev KT(H:Hp):List (List Key×V)->List (List Key×Addr×Value)->Prop:=Paired λp q=>p.1=q.1/\H q.2.1=some (.tup (p.1.map kV))/\RelV p.2 q.2.2
def KT.val{H:Hp}{kvs:List (List Key×V)}{xs:List (List Key×Addr×Value)}(r:KT H kvs xs)(k:List Key):RP (Dz kvs k) ((atKey xs k).map (·.2)):=by
 induction r with
 |nil=>exact U4q
 |@cons p q ps qs h t ih=>
  obtain⟨h1,_,h2⟩:=h;by_cases e:p.1=k
  .have e':q.1=k:=h1.symm.trans e;have b:atKey (q::qs) k=some q.2:=by simp[atKey,U5b,e']
   rw[GD e,b];exact h2
  .have e':¬q.1=k:=λz=>e (h1.trans z);have b:atKey (q::qs) k=atKey qs k:=by simp[atKey,U5b,e']
   rw[GF e,b];exact ih
def KT.repl(r:KT H kvs xs)(k:List Key)(ry:RelV y u) :
  KT H (kvs.map λkv=>if kv.1=k then (kv.1,y) else kv) (xs.map (putAt k u)):=by
 induction r with
 |nil=>exact .nil
 |@cons p q ps qs h t ih=>
  rw[U0j,U0j];refine .cons ?_ ih;obtain⟨h1,h2,h3⟩:=h;unfold putAt;by_cases e:p.1=k
  .rw[if_pos e,if_pos (h1.symm.trans e)];exact⟨h1,h2,ry⟩
  .rw[if_neg e,if_neg (λz=>e (h1.trans z))];exact⟨h1,h2,h3⟩
def KT.put(r:KT H kvs xs)(k:List Key)(hb:H b=some (.tup (k.map kV)))(ry:RelV y u) :
  KT H (putK kvs k y) (storedH xs k b u):=by
 have e:(kvs.any λkv=>decide (kv.1=k))=(atKey xs k).isSome:=by rw[Ji,(r.val k).oJ,Option.isSome_map]
 unfold putK storedH;rw[e];by_cases q:(atKey xs k).isSome=true
 .rw[if_pos q,if_pos q];exact r.repl k ry
 .rw[if_neg q,if_neg q];exact Paired.snoc r ⟨rfl,hb,ry⟩
def KT.keeps(r:KT H kvs xs)(ht:∀b ys,H b=some (.tup ys)->H' b=some (.tup ys)):KT H' kvs xs:=
 Paired.pX r λ_ _ z=>⟨z.1,ht _ _ z.2.1,z.2.2⟩
section
variable{P:Program}{w:World}{H:Hp}{h:Heap}{a:Addr}
def uR(ok:HOk P w H h)(e:Rd H a u):Df P w H h a u:=e.ok ok
def iz(ok:HOk P w H h)(e:Rd H a (.dK kvs)):kvs.length<=sizeLine/\(a==sysModules)=false/\∃vs,KV kvs vs/\h.DictOf (Es P w) a vs:=
 show Df P w H h a (.dK kvs) from uR ok e
def Jej(ok:HOk P w H h)(e:H a=some (.dK kvs)):kvs.length<=sizeLine/\(a==sysModules)=false/\∃vs,KV kvs vs/\h.DictOf (Es P w) a vs:=iz ok (.inl e)
def W5(ok:HOk P w H h)(e:H a=some (.tup (ks.map kV))):(tupleKind (Es P w)).is h ks a:=by obtain⟨_,its,r,o,h1,h2,n,h3⟩:=(show Df P w H h a (.tup (ks.map kV)) from ok a _ e);exact⟨o,its.toArray,n,h1,h2,h3,by simpa using YT r⟩
def ig(ok:HOk P w H h)(e:Rd H a (.dT kvs)):kvs.length<=sizeLine/\(a==sysModules)=false /\
  ∃xs,KT H kvs xs/\h.DictOfH (tupleKind (Es P w)) a xs:=by
 obtain⟨z,y,xs,r,o,es,ep,h1,h2,h3,h4,h5⟩:=(show Df P w H h a (.dT kvs) from uR ok e);refine⟨z,y,xs,r,o,es,ep,h1,h2,h3,h4,λx hx=>?_,h5⟩;have all:∀{l:List (List Key×V)} {m:List (List Key×Addr×Value)},KT H l m->∀x∈m,(tupleKind (Es P w)).is h x.1 x.2.1:=by
  intro l m q;induction q with
  |nil=>intro x hx;exact nomatch hx
  |@cons p q ps qs hq t ih=>
   intro x hx;rcases U0q.mp hx with e|hx
   .subst e;exact W5 ok (by rw[←hq.1];exact hq.2.1)
   .exact ih x hx
 exact all r x hx
def iu(ok:HOk P w H h)(e:H a=some (.dT kvs)):kvs.length<=sizeLine/\(a==sysModules)=false /\
  ∃xs,KT H kvs xs/\h.DictOfH (tupleKind (Es P w)) a xs:=ig ok (.inl e)
end
def Zd(H:Hp)(a:Addr)(y:V)(r:Option V):Prop:=
 (∃kvs k,Rd H a (.dK kvs)/\y=kV k/\r=Dz kvs k)∨∃kvs k b,Rd H a (.dT kvs)/\y=.ref b/\H b=some (.tup (k.map kV))/\r=Dz kvs k
def Zc(H:Hp)(a:Addr)(y v:V)(H':Hp):Prop:=
 (∃kvs k,H a=some (.dK kvs)/\y=kV k/\kvs.length<sizeLine/\H'=upd H a (.dK (putK kvs k v))) ∨
 ∃kvs k b,H a=some (.dT kvs)/\y=.ref b/\H b=some (.tup (k.map kV))/\kvs.length<sizeLine/\H'=upd H a (.dT (putK kvs k v))
def Zd.t{H:Hp}{a b:Addr}{kvs:List (List Key×V)}{k:List Key}(e:H a=some (.dT kvs))(eb:H b=some (.tup (k.map kV))):Zd H a (.ref b) (Dz kvs k):=.inr ⟨kvs,k,b,.inl e,rfl,eb,rfl⟩
def Zc.t{H:Hp}{a b:Addr}{kvs:List (List Key×V)}{k:List Key}{v:V}(e:H a=some (.dT kvs))(eb:H b=some (.tup (k.map kV)))(hl:kvs.length<sizeLine) :
  Zc H a (.ref b) v (upd H a (.dT (putK kvs k v))):=.inr ⟨kvs,k,b,e,rfl,eb,hl,rfl⟩
section
variable{X:Cx}{pins:List (Addr×Obj)}{Z3:St}{H:Hp}{s:Shared}{a:Addr}{y v:V}{u r:Value}{o:Option V}{A:Around}{E:Value->Shared->Prop}
def Xr(I:Inv X pins Z3 H s)(mu:Mut (H a))(hs:U02 a s.heap h')(he:∃q,h'.get? a=some q)(new:Df X.prog X.w (upd H a ob) h' a ob) :
  Inv X pins Z3 (upd H a ob) { s with heap:=h',toks:=t' }:=
 I.write (x:=a) (e:=a) mu (.inl rfl) (λb q hb z=>(hs.2 b hb).trans z) he new
def Jcn(z:kvs.length<=sizeLine)(hd:(a==sysModules)=false)(rel:KV kvs vs)(dd:h'.DictOf (Es P w) a vs) :
  Df P w H' h' a (.dK kvs):=⟨z,hd,vs,rel,dd⟩
theorem pA{Q:Unit->Shared->Prop}(hu:A.units+1<cLine)(I:Inv X pins Z3 H s)(g:Zc H a y v H')(ry:RelV y u)(rv:RelV v r)(h:∀s',Inv X pins Z3 H' s'->Q () s') :
  wpAny (model X.prog X.w) A (setItem (.ref a) u r) Q E s:=by
 rcases g with ⟨kvs,k,e,ey,l,eH⟩|⟨kvs,k,b,e,ey,eb,l,eH⟩
 .subst ey eH;obtain⟨z,hd,vs,rel,dd⟩:=Jej I.hok e;have hz:vs.length<=sizeLine:=by rw[←rel.length];exact z
  have hl:(putK kvs k v).length<=sizeLine:=by have:=NK kvs k v;omega
  refine wpAny_setItem_pairs (hsz:=hz) (iU ry) dd λh' dd' hs=>h _ ?_;have he:∃q,h'.get? a=some q:=let ⟨q,_,_,hq,_⟩:=dd';⟨q,hq⟩;exact Xr I (by rw[e];exact U4q) hs he (Jcn hl hd (rel.put k rv) dd')
 .subst ey eH;cases (show u=U1c b from ry);obtain⟨z,hd,xs,rel,dd⟩:=iu I.hok e;have hz:xs.length<=sizeLine:=by rw[←U4j rel];exact z
  have hl:(putK kvs k v).length<=sizeLine:=by have:=NK kvs k v;omega
  refine wpAny_setItem_heap (hsz:=hz) (tupleKind_room_in1 hu) (W5 I.hok eb) dd λh' dd' hs=>h _ ?_;obtain⟨q,es,ep,hq,h2,h3,h4,_,h5⟩:=dd';refine Xr I (by rw[e];exact U4q) hs ⟨q,hq⟩ ⟨hl,hd,_,(rel.put k eb rv).keeps λc ys ec=>?_,q,es,ep,hq,h2,h3,h4,h5⟩;rw[Bt (uZ ec e (λz=>nomatch z))];exact ec
end
def uQ(td ty tv:TE):TS:=λD Z3 H=>tv Z3 H λv H1=>td Z3 H1 λx H2=>ty Z3 H2 λy H3=>∃a H4,x=.ref a/\Zc H3 a y v H4/\D.nx Z3 H4
section
variable{X:Cx}{o i e value:Expr}{pos pos' tpos:Pos}{td ty tv:TE}
def wK(hu:X.A.units+1<cLine)(ho:PE X o td)(hi:PE X i ty)(hv:PE X value tv)(hs:swapsWith value (some (.Subscript o i pos')) pos.line X.env=pure false) :
  PS X (.Assign [.Subscript o i pos'] value pos) (uQ td ty tv):=by
 intro pins s Z3 H D I h;refine wpAny_Assign_Subscript (thn (hv pins s Z3 H _ I h) λr s1 ⟨v,H1,I1,rv,q1⟩=>thn (ho pins s1 Z3 H1 _ I1 q1) λu s2 ⟨x,H2,I2,rx,q2⟩=>thn (hi pins s2 Z3 H2 _ I2 q2) λiv s3 ⟨y,H3,I3,ry,a,H4,ex,g,q3⟩=>?_) hs;subst ex;obtain rfl:u=U1c a:=rx;exact pA hu I3 g ry rv λs4 I4=>⟨Z3,H4,I4,q3⟩
end
def tV(h:Heap)(hb:sysModules<h.objs.size):Df P w H (h.push { cls:=.type "dict",data:=.dict #[] }) h.objs.size (.dT []):=
 ⟨U3 _,beq_eq_false_iff_ne.mpr (U1n (U0u hb)),[],.nil,_,#[],0,U0s _ rfl,⟨rfl,rfl,rfl⟩,rfl,rfl,U8o⟩
def Jat:TE:=λ_ H Q=>∀p,H p=none->Q (.ref p) (upd H p (.dT []))
section
variable{X:Cx}{pos:Pos}
def rD:PE X (.Dict [] [] pos) Jat:=λpins s Z3 H Q I h=>
 wpAny_Dict_empty ⟨.ref s.heap.objs.size,_,I.laid (a:=s.heap.objs.size) (o:=.dT []) (t':=s.toks) (λ_ _ q=>U0a _ q) (U0o _) (tV s.heap I.big),rfl,h _ (I.hok.fresh (U0o _))⟩
end
structure M1(X:Cx)(o:Expr)(m:Str)(apos:Pos)(e:Expr)(cpos:Pos):Prop where
 base:attributeBase o m X.env (eval o X.env)=eval o X.env
 few:((backTo cpos (starEach [e] X.env)).all (λx=>!x.1)&&(backToKw cpos (keywordEach [] X.env)).all (λx=>x.1.isSome)
  && decide (([e]:List Expr).length+([]:List Keyword).length+(if ([]:List Keyword).isEmpty then 0 else 1)<30))=true
 line:(apos.endLine==cpos.line)=true
 trees:backTo cpos (starEach [e] X.env)=[(false,eval e X.env)]
structure M2(X:Cx)(o:Expr)(m:Str)(apos:Pos)(e f:Expr)(cpos:Pos):Prop where
 base:attributeBase o m X.env (eval o X.env)=eval o X.env
 few:((backTo cpos (starEach [e,f] X.env)).all (λx=>!x.1)&&(backToKw cpos (keywordEach [] X.env)).all (λx=>x.1.isSome)
  && decide (([e,f]:List Expr).length+([]:List Keyword).length+(if ([]:List Keyword).isEmpty then 0 else 1)<30))=true
 line:(apos.endLine==cpos.line)=true
 trees:backTo cpos (starEach [e,f] X.env)=[(false,eval e X.env),(false,eval f X.env)]
def IsD(H:Hp)(a:Addr):Prop:=(∃kvs,Rd H a (.dK kvs))∨∃kvs,Rd H a (.dT kvs)
def lN(I:Inv X pins Z3 H s)(d:IsD H a) :
  s.TypeIs (.ref a) "dict"/\(∀b,U1c a=.ref b->∃ob,s.heap.get? b=some ob/\ob.dict=none)/\(a==sysModules)=false:=by
 rcases d with ⟨kvs,e⟩|⟨kvs,e⟩
 .obtain⟨_,hd,vs,_,dd⟩:=iz I.hok e;refine⟨dd.typeIs,λb q=>?_,hd⟩;cases q;obtain⟨ob,_,_,h1,h2,_⟩:=dd;exact⟨ob,h1,h2.2.1⟩
 .obtain⟨_,hd,xs,_,dd⟩:=ig I.hok e;refine⟨dd.typeIs,λb q=>?_,hd⟩;cases q;obtain⟨ob,_,_,h1,h2,_⟩:=dd;exact⟨ob,h1,h2.2.1⟩
section
variable{X:Cx}{pins:List (Addr×Obj)}{Z3:St}{H:Hp}{s:Shared}{a:Addr}{y d:V}{u r:Value}{o:Option V}{A:Around}{E:Value->Shared->Prop}
def Jco{Q:Value->Shared->Prop}(hu:A.units+1<cLine)(I:Inv X pins Z3 H s)(g:Zd H a y o)(ry:RelV y u)(rd:RelV d r)(h:∀w' s',Inv X pins Z3 H s'->RelV (o.getD d) w'->Q w' s') :
  wpAny (model X.prog X.w) A (call (.builtin "dict.get") [.ref a,u,r]) Q E s:=by
 rcases g with ⟨kvs,k,e,ey,l⟩|⟨kvs,k,b,e,ey,eb,l⟩
 .subst ey;obtain⟨z,hd,vs,rel,dd⟩:=iz I.hok e;refine call_meetsIn U6t dd.typeIs PySem.F.entry_dict_get (PySem.F.args_dict_get_3 _ _ _) (meets_dict_get_default (Es X.prog X.w) a (iU ry) hd r) ⟨_,dd.mapOf,h _ _ (I.tok _) ?_⟩;rw[l];exact(rel.val k).getD rd
 .subst ey;cases (show u=U1c b from ry);obtain⟨z,hd,xs,rel,dd⟩:=ig I.hok e;refine call_meetsIn U6t dd.typeIs PySem.F.entry_dict_get (PySem.F.args_dict_get_3 _ _ _) (meetsH_dict_get_default (tupleKind (Es X.prog X.w)) a b hd r) ⟨tupleKind_room_in1 hu,k,xs,W5 I.hok eb,dd,h _ _ (I.tok _) ?_⟩;rw[l];exact(rel.val k).getD rd
end
def Jau(td ty tx:TE):TE:=λZ3 H Q=>td Z3 H λx H1=>∃a,x=.ref a/\IsD H1 a/\ty Z3 H1 λy H2=>tx Z3 H2 λz H3=>∃o,Zd H3 a y o/\Q (o.getD z) H3
section
variable{X:Cx}{o e f:Expr}{apos cpos:Pos}{td ty tx:TE}
def rE(hu:X.A.units+1<cLine)(ho:PE X o td)(he:PE X e ty)(hf:PE X f tx)(m:M2 X o "get" apos e f cpos):PE X (.Call (.Attribute o "get" apos) [e,f] [] cpos) (Jau td ty tx):=by
 exact`zt;refine wpAny_Call_method m.base m.few m.line PySem.F.plainAttrs_dict U6t PySem.F.type_dict_get (thn (ho pins s Z3 H _ I h) λu s1 ⟨x,H1,I1,rx,a,ex,d,q1⟩=>?_);subst ex;obtain rfl:u=U1c a:=rx;obtain⟨t1,t2,_⟩:=lN I1 d;refine⟨t1,t2,?_⟩;rw[m.trees];refine U6k rfl (Calls.evalArgs_plain (U5z (thn (he pins s1 Z3 H1 _ I1 q1) λiv s2 ⟨y,H2,I2,ry,q2⟩=>
  U5z (thn (hf pins s2 Z3 H2 _ I2 q2) λfv s3 ⟨z,H3,I3,rz,ov,g,q3⟩=>U72 ?_))))
 exact Jco hu I3 g ry rz λw' s4 I4 rw'=>⟨_,H3,I4,rw',q3⟩
end
section
variable{κ:Type}[DecidableEq κ]
def qP{kvs:List (κ×V)}{k:κ}(h:Dz kvs k=none):¬k∈kvs.map (·.1):=by intro m;obtain⟨p,hp,e⟩:=U03.mp m;have q:(kvs.any λkv=>decide (kv.1=k))=true:=U5q.mpr ⟨p,hp,decide_eq_true e⟩;rw[Ji,h]at q;exact absurd q (by simp)
def Xf{kvs:List (κ×V)}{k:κ}{v:V}(h:Dz kvs k=some v):k∈kvs.map (·.1):=by
 have q:(kvs.any λkv=>decide (kv.1=k))=true:=by
  rw[Ji,h]
  all_goals rfl
 obtain⟨p,hp,e⟩:=U5q.mp q;exact U03.mpr ⟨p,hp,of_decide_eq_true e⟩
theorem fO:∀{l:List κ} {k:κ},l.Nodup->¬k∈l->(l++[k]).Nodup
 |[],k,_,_=>by simp
 |a::r,k,h,hk=>by
  obtain⟨h1,h2⟩:=U3h.mp h;show(a::(r++[k])).Nodup;refine U3h.mpr ⟨λm=>?_,fO h2 λm=>hk (U0q.mpr (U7t m))⟩;rcases U0x.mp m with q|q
  .exact h1 q
  .exact hk (U0q.mpr (U8q (U0r.mp q).symm))
def xH{kvs:List (κ×V)}{k:κ}(v:V)(hn:(kvs.map (·.1)).Nodup)(h:Dz kvs k=none):((putK kvs k v).map (·.1)).Nodup:=by rw[aj v h,U2a];exact fO hn (qP h)
end
end L2
end
section
namespace VS
open PySem PySem.Spec L2
def ofV:V->Option D
 |.int i=>some (.int i)
 |.bl b=>some (.bl b)
 |.non=>some .non
 |.str x=>some (.str x)
 |_=>none
def toV:D->Option V
 |.int i=>some (.int i)
 |.bl b=>some (.bl b)
 |.non=>some .non
 |.str x=>some (.str x)
 |_=>none
section
variable{Γ:Fr}{μ:Mu}{Z3:St}{H:Hp}{env:Env}{S:Store}{v:V}{d:D}
theorem VR.ofV(h:VS.ofV w=some d):VR Γ μ H w d:=by
 cases w with
 |int i=>cases h;exact .int i
 |bl b=>cases h;exact .bl b
 |non=>cases h;exact .non
 |str x=>cases h;exact .str x
 |_=>cases h
theorem VR.toV(r:VR Γ μ H v d)(h:VS.toV d=some w):v=w:=by
 cases r with
 |int i=>cases h;rfl
 |bl b=>cases h;rfl
 |non=>cases h;rfl
 |str x=>cases h;rfl
 |_=>cases h
def VR.iw(R:Rep Γ μ Z3 H env S)(r:VR Γ μ H v (.dref i))(h:S[i]?=some (some [.dcm kvs])):∃a,v=.ref a/\μ[i]?=some (some a)/\H a=some (hoD kvs):=by
 cases r with
 |dref hi f=>
  obtain⟨a,h1,hc⟩:=R.sto i _ h;obtain⟨f1,f2⟩:=f a h1;exact⟨a,f1,h1,hc.dict f2⟩
def Rep.dput(R:Rep Γ μ Z3 H env S)(hi:μ[i]?=some (some a))(ha:H a=some (hoD k)) :
  Rep Γ μ Z3 (upd H a (hoD k')) env (S.set i (some [.dcm k']))/\Ext μ H μ (upd H a (hoD k')):=
 R.zj hi (λ⟨_,q⟩=>(IsK.not (.of ha) q (.inl ⟨_,rfl⟩)).elim) (λ_=>.of CT) λ_ _ q=>.inr ⟨k',rfl,q⟩
end
def uQ(v o i:Bh):BP:=λenv S=>(v env S).bind λp=>(o env p.2).bind λq=>(i env q.2).bind λr=>match q.1,r.1 with
 |.dref j,.int k=>(match r.2[j]? with
  |some (some [.dcm (.inl kvs)])=>if kvs.length<1000000 then (toV p.1).bind λw=>some (.nx,env,r.2.set j (some [.dcm (.inl (putK kvs (.inl k) w))])) else none
  |_=>none)
 |_,_=>none
end VS
end
section
namespace SetP
open PySem PySem.Spec PyProof.Rows
end SetP
namespace L2
open PySem PySem.Spec PyProof.Rows
variable{X:Cx}
end L2
end
section
namespace VS
open PySem PySem.Spec L2
end VS
end
section
set_option maxRecDepth 100000
namespace HT
open PySem PySem.Spec PyProof.Rows
end HT
namespace L2
open PySem PySem.Spec PyProof.Rows
end L2
end
section
namespace VS
open PySem PySem.Spec L2
end VS
end
section
namespace Tg
open PySem PyProof.Rows
class Rk where
 kv:Keyed->Int
 IsI:Keyed->Prop
 κ:SortKind
open Rk (kv IsI)
class Ask (prog:Program) (w:World) (A:Around) (s:Shared) [Rk]:Prop where
 lt:∀x y:Keyed,IsI x->IsI y->∀(Q:Bool->Shared->Prop)(E:Value->Shared->Prop),Q (decide (kv x<kv y)) s->wpAny (model prog w) A (keyLt' Rk.κ x.1 y.1) Q E s
variable[Rk]
def K(xs:Array Keyed)(i:Nat):Int:=match xs[i]? with
 |some p=>kv p
 |none=>0
structure SBase(a₀:Array Keyed)(st:SortSt):Prop where
 perm:(arrOf st).Perm a₀
 kind:kindOf st=Rk.κ
 failed:failedOf st=none
 pend:pendingOf st=#[]
def Jfv(xs:Array Keyed):Prop:=∀p∈xs.toList,IsI p
section
variable{prog:Program}{w:World}{A:Around}{E:Value->Shared->Prop}{s:Shared}[Ask prog w A s]
def jx{st:SortSt}{Q:Option Bool->SortSt->Prop}(hx:IsI x)(hy:IsI y)(hk:kindOf st=Rk.κ)(h:Q (some (decide (kv x<kv y))) st) :
  wpS (model prog w) A E s (lt' x y) Q st:=by
 rw[lt'_eq];refine wpS_bind (wpS_get ?_);rw[hk];refine wpS_bind (wpS_lift (U3t (Ask.lt x y hx hy _ _ ⟨rfl,?_⟩)));exact wpS_pure h
end
end Tg
end
section
namespace Tg
open PySem PyProof.Rows
open Rk (kv IsI)
variable[Rk]
def srt(l:List Keyed):Prop:=l.Pairwise λp q=>kv p<=kv q
structure ML(a b out:Array Keyed)(ia ib:Nat):Prop where
 perm:out.toList.Perm (a.toList.take ia++b.toList.take ib)
 sa:srt (out.toList++a.toList.drop ia)
 sb:srt (out.toList++b.toList.drop ib)
structure EqG(st st':SortSt):Prop where
 kind:kindOf st'=kindOf st
 arr:arrOf st'=arrOf st
 pend:pendingOf st'=pendingOf st
 failed:failedOf st'=failedOf st
inductive LoD {γ:Type} (a b:Array Keyed) (st st':SortSt):Option (Array Keyed)×γ->Prop where
 |mk (r:Array Keyed) (y:γ) (hE:EqG st st') (q:r.toList.Perm (a.toList++b.toList)/\srt r.toList):LoD a b st st' (some r,y)
inductive Lo1 {γ:Type} (a b:Array Keyed) (st st':SortSt) (k:Nat):Option (Array Keyed)×Array Keyed×Nat×Nat×γ->Prop where
 |mk (out:Array Keyed) (ia ib:Nat) (g:γ) (hE:EqG st st') (m:ML a b out ia ib) (h1:ia+1<a.size) (h2:ib<b.size) (h3:k<=ia+ib):Lo1 a b st st' k (none,out,ia,ib,g)
inductive Lo2 {γ δ:Type} (a b:Array Keyed) (st st':SortSt) (k:Nat):Option (Array Keyed)×Array Keyed×Nat×Nat×γ×δ->Prop where
 |mk (out:Array Keyed) (ia ib:Nat) (ac:γ) (bc:δ) (hE:EqG st st') (m:ML a b out ia ib) (h1:ia+1<a.size) (h2:ib<b.size) (h3:k<=ia+ib):Lo2 a b st st' k (none,out,ia,ib,ac,bc)
inductive Lo3 {γ δ ε:Type} (a b:Array Keyed) (st st':SortSt) (k:Nat):Option (Array Keyed)×Array Keyed×Nat×Nat×γ×δ×ε->Prop where
 |mk (out:Array Keyed) (ia ib:Nat) (g:γ) (ac:δ) (bc:ε) (hE:EqG st st') (m:ML a b out ia ib) (h1:ia+1<a.size) (h2:ib<b.size) (h3:k<=ia+ib):Lo3 a b st st' k (none,out,ia,ib,g,ac,bc)
end Tg
end
section
namespace Tg
open PySem PyProof.Rows
open Rk (kv IsI)
variable[Rk]
structure MH(a b out:Array Keyed)(na nb:Nat):Prop where
 perm:out.toList.Perm (a.toList.drop na++b.toList.drop nb)
 sa:srt (a.toList.take na++out.toList.reverse)
 sb:srt (b.toList.take nb++out.toList.reverse)
inductive Hi1 {γ:Type} (a b:Array Keyed) (st st':SortSt) (k l:Nat):Option (Array Keyed)×Nat×Nat×Array Keyed×γ->Prop where
 |mk (na nb:Nat) (out:Array Keyed) (g:γ) (hE:EqG st st') (m:MH a b out na nb) (h1:0<na) (h2:1<nb) (s1:na<=a.size) (s2:nb<=b.size) (h3:k+na+nb<=l):Hi1 a b st st' k l (none,na,nb,out,g)
inductive Hi2 {γ δ:Type} (a b:Array Keyed) (st st':SortSt) (k l:Nat):Option (Array Keyed)×Nat×Nat×Array Keyed×γ×δ->Prop where
 |mk (na nb:Nat) (out:Array Keyed) (ac:γ) (bc:δ) (hE:EqG st st') (m:MH a b out na nb) (h1:0<na) (h2:1<nb) (s1:na<=a.size) (s2:nb<=b.size) (h3:k+na+nb<=l):Hi2 a b st st' k l (none,na,nb,out,ac,bc)
inductive Hi3 {γ δ ε:Type} (a b:Array Keyed) (st st':SortSt) (k l:Nat):Option (Array Keyed)×Nat×Nat×Array Keyed×γ×δ×ε->Prop where
 |mk (na nb:Nat) (out:Array Keyed) (g:γ) (ac:δ) (bc:ε) (hE:EqG st st') (m:MH a b out na nb) (h1:0<na) (h2:1<nb) (s1:na<=a.size) (s2:nb<=b.size) (h3:k+na+nb<=l):Hi3 a b st st' k l (none,na,nb,out,g,ac,bc)
end Tg
end
section
namespace Tg
open PySem PyProof.Rows
open Rk (kv IsI)
variable[Rk]
structure RB(a₀:Array Keyed)(st0:SortSt)(lo:Nat)(st:SortSt):Prop where
 perm:(arrOf st).Perm a₀
 pre:∀i,i<lo->(arrOf st)[i]?=(arrOf st0)[i]?
 kind:kindOf st=Rk.κ
 failed:failedOf st=none
 pend:pendingOf st=pendingOf st0
structure Keys(a₀:Array Keyed):Prop where
 allI:Jfv a₀
 uniq:(a₀.toList.map kv).Nodup
variable{a₀:Array Keyed}{st0:SortSt}{lo:Nat}
end Tg
end
section
namespace Tg
open PySem PyProof.Rows
open Rk (kv IsI)
variable[Rk]
theorem laid(s:Nat):∀(l:List Keyed)(n:Nat)(arr:Array Keyed),s+n+l.length<=arr.size->((l.zipIdx n).foldl (λa q=>a.setIfInBounds (s+q.2) q.1) arr).toList=arr.toList.take (s+n)++l++arr.toList.drop (s+n+l.length)
 |[],n,arr,h=>by simp
 |p::l,n,arr,h=>by
  rw[U0f]at h;rw[U8,U2l,laid s l (n+1) _ (by rw[Array.size_setIfInBounds];lia),Array.toList_setIfInBounds];have hl:s+n<arr.toList.length:=by rw[U1j];lia
  have e1:(arr.toList.set (s+n) p).take (s+(n+1))=arr.toList.take (s+n)++[p]:=by rw[List.set_eq_take_append_cons_drop,if_pos hl,List.append_cons];rw[List.take_append_of_le_length (by simp;lia),U3f (by simp;lia)]
  have e2:(arr.toList.set (s+n) p).drop (s+(n+1)+l.length)=arr.toList.drop (s+n+(l.length+1)):=by rw[List.drop_set_of_lt (by lia)];congr 1;lia
  rw[e1,e2,U0f];simp
end Tg
end
section
namespace Tg
open PySem PyProof.Rows
open Rk (kv IsI)
variable[Rk]
def offs:Nat->List (List Keyed)->List (Nat×Nat)
 |_,[]=>[]
 |s,x::xs=>(s,x.length)::offs (s+x.length) xs
structure RI(a₀:Array Keyed)(rest:List Keyed)(lo m:Nat)(st:SortSt):Prop where
 perm:(arrOf st).Perm a₀
 kind:kindOf st=Rk.κ
 failed:failedOf st=none
 many:(pendingOf st).size=m
 runs:∃xs:List (List Keyed),(arrOf st).toList=xs.flatten++rest/\xs.flatten.length=lo/\(pendingOf st).toList.map (λe=>(e.1,e.2.1))=offs 0 xs/\∀x∈xs,x≠[]/\srt x
theorem Mi:∀xs:List (List Keyed),(∀x∈xs,x≠[]/\srt x)->xs.length<=xs.flatten.length
 |[],_=>by simp
 |x::xs,h=>by have:=Mi xs λy hy=>h y (U0k _ hy);have:=U4.mpr (h x U0h).1;rw[U35,U0n,U0f];lia
end Tg
end
section
namespace Tg
open PySem PyProof.Rows
open Rk (kv IsI)
variable[Rk]
end Tg
end
section
set_option maxRecDepth 100000
namespace SetP
open PySem PyProof.Rows
end SetP
end
section
namespace L2
open PySem PySem.Spec PyProof.Rows
variable{X:Cx}
end L2
end
section
namespace VS
open PySem PySem.Spec L2
end VS
end
section
namespace L2
open PySem PySem.Spec PyProof.Rows
open PySem.SeqAt PySem.MeetsSeq
open PySem.AutoSeq1 (wpAny_loadPart')
def eqI(d:PyData):Value->Bool
 |.int n _=>U5a (.int n) d
 |_=>false
end L2
end
section
namespace VS
open PySem PySem.Spec L2
structure Qi(P:Program)(w:World)(K:U0e)(mg:Str->Option Value)(base:Heap)(a:Addr)(k:Nat)(sem:Ca):Prop where
 cal:∃ps fd,Hj P w K mg base CX0 k a fd ps (spP K sem ps.length)/\Binds K fd ps []/\U4a K (.ref a)=true/\∀ds r,sem ds=some r->ds.length=ps.length/\Aw r=true
def Qi.of(c:Dm P w K mg base x k sem)(hm:mg x=some (.ref a)):Qi P w K mg base a k sem:=by obtain⟨ps,⟨f,fd,F,b,kp,m⟩,hok⟩:=c.cal;rw[hm]at m;cases m;exact⟨ps,fd,F,b,kp,hok⟩
theorem Qi.mono(c:Qi P w K mg base a j sem)(h:j<=k):Qi P w K mg base a k sem:=by obtain⟨ps,fd,F,b,kp,hok⟩:=c.cal;exact⟨ps,fd,F.mono h,b,kp,hok⟩
abbrev Tab:=Nat->Option (Addr×Ca)
def T7(i:Nat)(tab:Tab)(f:CQ):Bh:=λenv S=>match (env[i]?).join with
 |some (.fn a n)=>(match tab n with
  |some t=>if a=t.1 then Am t.2 f env S else none
  |none=>none)
 |_=>none
section
variable{X:Cx}
def Zw(hg:Gl X x)(hm:X.mg x=some (.ref a))(hd:(x==("__debug__":Str))=false:=by decide):JE X (.Name x pos) (eC (.fn a n)):=
 ⟨λpins s Z3 H Q I h=>by
  exact`zb;cases e;exact Xm I hg hm ⟨.ref a,H,I,rfl,q _ μ H (Ext.refl _ _) R (.fn a n)⟩ hd⟩
def sZ(ht:∀n t,tab n=some t->Qi X.prog X.w X.K X.mg X.base t.1 k t.2)(hr:FZ k' X.A)(hk:k<=k')(ha:JA X (e::es) f)
  (hN:X.N[i]?=some x:=by rfl) (hv:Vis X.env.scope x:=by first|exact U8q rfl|exact U7t (U8q rfl)|exact U7t (U7t rfl)) (hd:(x==("__debug__":Str))=false:=by decide) (hcd:(x==("__classdict__":Str))=false:=by decide)
  (he:starEach (e::es) X.env=(false,eval e X.env)::starEach es X.env:=by rfl) (hpl:(backTo pos (starEach es X.env)).any (·.1)=false:=by rfl) :
  JE X (.Call (.Name x p) (e::es) [] pos) (T7 i tab f):=⟨λpins s Z3 H Q I h=>by
 exact`zb;unfold T7 at e;split at e
 .rename_i a n hj;split at e
  .rename_i t hT;by_cases hat:a=t.1
   .rw[if_pos hat]at e;subst hat
    obtain⟨ps,fd,F,b,kp,hok⟩:=(ht n t hT).cal;have e1':env[i]?=some (some (.fn t.1 n)):=by
     cases h:env[i]? with
     |none=>rw[h]at hj;cases hj
     |some o=>rw[h]at hj;exact congrArg some hj
    obtain⟨v,h1,h2⟩:=R.vals i _ e1';cases h2;refine U46 (thn ((kW hN hv hd hcd) pins s Z3 H (λv' H'=>v'=.ref t.1/\H'=H) I ⟨.ref t.1,h1,rfl,rfl⟩) λu s1 ⟨v',H',I1,r,hv',hH⟩=>?_);subst hv' hH;cases r;obtain⟨⟨as,S1⟩,e1,e⟩:=bind_some e;obtain⟨ds,e2,e⟩:=bind_some e;obtain⟨r,e3,e⟩:=bind_some e;dsimp only at e e2;by_cases hc:(Av as||newD r)=true
    .rw[if_pos hc]at e;cases e;obtain⟨hl,hp⟩:=hok _ _ e3;have hA:wpA X.K f Z3 H' λvs H1=>spP X.K t.2 ps.length (vs++[]) H1 Q E0:=by
      refine⟨Γ,μ,env,S,as,_,hK,R,e1,λvs μ1 H1 x1 R1 r1=>?_⟩;show spP X.K t.2 ps.length (vs++[]) H1 Q E0;rw[U17];obtain⟨N,rs,cN⟩:=lend hK R1 (m0:=[]) r1 e2 (λi ds a hs=>⟨hs,λ_=>HJ⟩) (λa z=>by simp at z) (newD d) hc;refine⟨N,_,d,?_,rs,e3,λv H' sm rv=>?_⟩
      .rw[rs.length,hl]
      obtain⟨R2,x2⟩:=R1.grow sm;exact q v μ1 H' (x1.trans x2) R2 (home hK R1 (λa z=>R2.live z) hp cN rv)
     refine PySem.W.callWith_K (h₀:=X.base) I1.ok.mod.kin kp (thn (ha.pa pos pins s1 Z3 H' _ I1 hA) λus s2 ⟨vs,H1,I2,r,q⟩=>⟨I2.kIn,?_⟩) he hpl;exact jz (F.mono hk) hr b .nil uY I2 r q
    .rw[if_neg hc]at e;cases e
   .rw[if_neg hat]at e;cases e
  .cases e
 .cases e⟩
end
def uc(S:Store):D->Option D
 |.ref i=>(match S[i]? with|some (some cs)=>if Av cs=true then some (D.lent (Bf cs)) else none|_=>none)
 |_=>none
def Q7(S:Store):List D->Option (List D)
 |[]=>some []
 |d::r=>(if Aw d=true then some (age d) else uc S d).bind λx=>(Q7 S r).map (x::·)
def T8(sem:Ca)(a:CQ):Bh:=λenv S=>(a env S).bind λp=>(Q7 p.2 p.1).bind λds=>(sem ds).map λr=>(r,p.2)
theorem ud(R:Rep Γ μ Z3 H env S):∀{as:List D} {vs:List V} {ds:List D},VRs Γ μ H vs as->Q7 S as=some ds->VRs ⟨Γ.K,H,λa=>¬Cj μ a/\(Γ.N a∨Γ.H0 a=none),[]⟩ [] H vs ds
 |[],_,_,.nil,e=>by rw[Q7]at e;cases e;exact .nil
 |d::as,_,_,.cons r t,e=>by
  rw[Q7]at e;obtain⟨x,e1,e⟩:=bind_some e;obtain⟨xs,e2,e⟩:=map_some e;subst e;refine .cons ?_ (ud R t e2);by_cases hp:Aw d=true
  .rw[if_pos hp]at e1;cases e1;exact VR.age (Γ:=Γ) (Γ':=⟨Γ.K,H,λa=>¬Cj μ a/\(Γ.N a∨Γ.H0 a=none),[]⟩) rfl (λa n o=>⟨n,o⟩) (λ_ _ _ _=>HJ) hp r
  .rw[if_neg hp]at e1;cases r with
   |@ref i v hi f=>
    unfold uc at e1;dsimp only at e1;split at e1
    .rename_i cs hs;by_cases hc:Av cs=true
     .rw[if_pos hc]at e1;cases e1;obtain⟨a,h1,c⟩:=R.sto i cs hs;obtain⟨f1,f2⟩:=f a h1;subst f1;obtain⟨ys,h2,h3⟩:=c.list f2;exact .lent HJ h2 (VRs.age (Γ:=Γ) (Γ':=⟨Γ.K,H,λa=>¬Cj μ a/\(Γ.N a∨Γ.H0 a=none),[]⟩) rfl (λa n o=>⟨n,o⟩) (λ_ _ _ _=>HJ) hc h3)
     .rw[if_neg hc]at e1;cases e1
    .cases e1
   |_=>cases e1
def su(c:Dm X.prog X.w X.K X.mg X.base x k sem)(hr:FZ k' X.A)(hk:k<=k')(hg:Gl X x)(ha:JA X (e::es) f)
  (hdb:(x==("__debug__":Str))=false:=by decide) (he:starEach (e::es) X.env=(false,eval e X.env)::starEach es X.env:=by rfl) (hpl:(backTo pos (starEach es X.env)).any (·.1)=false:=by rfl) :
  JE X (.Call (.Name x p) (e::es) [] pos) (T8 sem f):=by
 obtain⟨ps,c,hok⟩:=c.cal;refine⟨PE.imp (Rb c hr hk hg ha.pa hdb he hpl) λZ3 H Q h=>?_⟩;exact`zb;obtain⟨⟨as,S1⟩,e1,e⟩:=bind_some e;obtain⟨ds,e2,e⟩:=bind_some e;obtain⟨r,e3,e⟩:=map_some e;cases e;refine⟨Γ,μ,env,S,as,_,hK,R,e1,λvs μ1 H1 x1 R1 r1=>?_⟩;show spP X.K sem ps.length (vs++[]) H1 Q E0;rw[U17];obtain⟨hl,hp⟩:=hok _ _ e3;have rs:=ud R1 r1 e2;rw[hK]at rs;refine⟨_,_,_,?_,rs,e3,λv H' sm rv=>?_⟩
 .rw[rs.length,hl]
 obtain⟨R2,x2⟩:=R1.grow sm;exact q v μ1 H' (x1.trans x2) R2 (home hK R1 (λa z=>R2.live z) hp (.inr λa z=>z) rv)
def oZ(sem:Ca)(a:CQ)(env:VS.Env)(S:Store):T8 sem a env S=(a env S).bind λp=>(Q7 p.2 p.1).bind λds=>(sem ds).map λr=>(r,p.2):=rfl
end VS
end
section
namespace VS
def ltS(p q:Int×Int):Bool:=if p.1=q.1 then decide (p.2<q.2) else decide (p.1<q.1)
def ltB:List (Int×Int)->List (Int×Int)->Bool
 |p::r,q::t=>if p=q then ltB r t else ltS p q
 |[],_::_=>true
 |_,[]=>false
def Ox:List (List (Int×Int))->Bool
 |a::b::r=>!ltB b a&&Ox (b::r)
 |_=>true
end VS
namespace Asc
open PySem PySem.W PySem.Calls PyProof.Rows VS
inductive Lh (h:Heap):List Value->List (Int×Int)->Prop
 |nil:Lh h [] []
 |cons {a:Addr} {its:Array Value} {p:Int×Int} {us:List Value} {ps:List (Int×Int)}:IsTup h a its->IntsAre its.toList [p.1,p.2]->Lh h us ps->Lh h (.ref a::us) (p::ps)
inductive K5 (h:Heap):List Value->List (List (Int×Int))->Prop
 |nil:K5 h [] []
 |cons {a:Addr} {its:Array Value} {b:List (Int×Int)} {us:List Value} {bs:List (List (Int×Int))}:IsTup h a its->Lh h its.toList b->K5 h us bs->K5 h (.ref a::us) (b::bs)
def aJ(k:∀b o,o.cls=.type "tuple"->h.get? b=some o->h'.get? b=some o)(t:IsTup h a its):IsTup h' a its:=by obtain⟨o,e,c,d⟩:=t;exact⟨o,k a o c e,c,d⟩
theorem Lh.keep(k:∀b o,o.cls=.type "tuple"->h.get? b=some o->h'.get? b=some o):∀{us:List Value} {ps:List (Int×Int)},Lh h us ps->Lh h' us ps
 |_,_,.nil=>.nil
 |_,_,.cons t i r=>.cons (aJ k t) i (r.keep k)
theorem K5.keep(k:∀b o,o.cls=.type "tuple"->h.get? b=some o->h'.get? b=some o):∀{us:List Value} {bs:List (List (Int×Int))},K5 h us bs->K5 h' us bs
 |_,_,.nil=>.nil
 |_,_,.cons t i r=>.cons (aJ k t) (i.keep k) (r.keep k)
theorem Ve:∀{vs:List Value} {ns:List Int},IntsAre vs ns->ItemsAre (intKind prog w) ns vs
 |_,_,.nil=>.nil
 |_,_,.cons n t r=>.cons (by simp[intKind,U8k]) (Ve r)
def Jff(p q:Int×Int):HT.lexLt [p.1,p.2] [q.1,q.2]=ltS p q:=by
 unfold ltS;rw[HT.Rt,HT.Rt,HT.S9];by_cases h:p.1=q.1
 .rw[if_pos h,if_pos h];by_cases h2:p.2=q.2
  .rw[if_pos h2,h2];simp
  .rw[if_neg h2]
 .rw[if_neg h,if_neg h]
section
variable{prog:Program}{w:World}{A:Around}{E:Value->Shared->Prop}{s:Shared}
theorem lB{Q:Bool->Shared->Prop}(hu:A.units<cLine):∀{us vs:List Value} {a b:List (Int×Int)} (i:Nat),Lh s.heap us a->Lh s.heap vs b->fin=decide (us.length<vs.length)->Q (ltB a b) s->KatLex prog w A false fin Q (us.zip vs) i s
 |_,_,_,_,i,.nil,.nil,hf,h=>by subst hf;exact h
 |_,_,_,_,i,.nil,.cons _ _ _,hf,h=>by
  subst hf;exact kat_nil (by
   rw[show decide (([]:List Value).length<(_::_:List Value).length)=true from decide_eq_true (by simp)];exact h)
 |_,_,_,_,i,.cons _ _ _,.nil,hf,h=>by subst hf;exact kat_nil h
 |_,_,p::ra,q::rb,i,@Lh.cons _ x ix _ us _ t1 i1 r1,@Lh.cons _ y iy _ vs _ t2 i2 r2,hf,h=>by
  rw[U47];refine kat_cons ?_;obtain⟨o1,e1,c1,n1,d1⟩:=id t1;obtain⟨o2,e2,c2,n2,d2⟩:=id t2;refine wpAny_eqBool_tuple (knd:=intKind prog w) hu ⟨o1,ix,n1,e1,c1,d1,Ve i1⟩ ⟨o2,iy,n2,e2,c2,d2,Ve i2⟩ ?_;rw[ltB]at h;by_cases he:p=q
  .subst he;rw[if_pos rfl]at h;rw[decide_eq_true rfl];exact kat_yes (lB hu (i+1) r1 r2 (by rw[hf];simp) h)
  .rw[if_neg he]at h;rw[decide_eq_false (λz=>he (by
    injection z with z1 z2
    injection z2 with z2 _
    exact U86 z1 z2))]
   refine kat_no ?_;rw[U56];refine kat_one _ _ (HT.jK t1 t2 i1 i2 hu ?_);rw[Jff];exact h
def Jbv{Q:Bool->Shared->Prop}(hu:A.units<cLine)(tx:IsTup s.heap x xs)(ty:IsTup s.heap y ys)(hx:Lh s.heap xs.toList a)(hy:Lh s.heap ys.toList b)(h:Q (ltB a b) s):wpAny (model prog w) A (keyLt' (tuples' false) (.ref x) (.ref y)) Q E s:=by obtain⟨o1,e1,c1,n1,d1⟩:=tx;obtain⟨o2,e2,c2,n2,d2⟩:=ty;exact kat_lt e1 d1 e2 d2 (lB hu 0 hx hy (by simp) h)
theorem eF:∀{vs:List Value} {bs:List (List (Int×Int))},K5 h vs bs->(∀b∈bs,b≠[])->∃fs,KatTups h vs fs/\fs.length=vs.length/\∀f∈fs,∃a its,f=.ref a/\IsTup h a its
 |_,_,.nil,_=>⟨[],trivial,rfl,λ_ z=>nomatch z⟩
 |_,b::bs,@K5.cons _ a its _ us _ t sg r,hn=>by
  obtain⟨fs,k,hl,hf⟩:=eF r λc hc=>hn c (U0k _ hc);obtain⟨o,e,c,n,d⟩:=t;have hb:=hn b U0h
  match b,sg,hb with
  |p::ps,sg,_=>
   generalize hi:its.toList=is at sg;cases sg with
   |@cons a2 its2 _ us2 _ t2 i2 r2=>
    refine⟨.ref a2::fs,KatTups.cons e c d ?_ k,by simp[hl],λf hf'=>?_⟩
    .rw[←U2m,hi];rfl
    .rcases U0q.mp hf' with z|z
     .exact⟨a2,its2,z,t2⟩
     .exact hf f z
def rZ{Q:SortKind->Shared->Prop}(hB:K5 s.heap vs bs)(hn:∀b∈bs,b≠[])(h2:0<vs.length)(h:Q (tuples' false) s):wpAny (model prog w) A (keyKind' vs.toArray) Q E s:=by
 obtain⟨fs,k,hl,hf⟩:=eF hB hn;refine kat_kind (T:=.type "tuple") k (by lia) (λv hv=>?_) (by decide) (by
  have:(U23 "tuple" != U23 "tuple")=false:=by decide
  rw[this];exact h)
 obtain⟨a,its,rfl,o,e,c,_⟩:=hf v hv;have:=(show Looks (model prog w) s.heap (typeOf (.ref a)) o.cls from (Looks.ld e).andThen .now);rw[c]at this;exact this
def Asks(prog:Program)(w:World)(A:Around)(s:Shared)(κ:SortKind)(arr:Array Keyed):Prop:=
 ∀i x y,arr[i+1]?=some x->arr[i]?=some y->∀(Q:Bool->Shared->Prop)(E:Value->Shared->Prop),Q false s->wpAny (model prog w) A (keyLt' κ x.1 y.1) Q E s
theorem cA:∀{vs:List Value} {bs:List (List (Int×Int))} (hu:A.units<cLine),K5 s.heap vs bs->Ox bs=true->∀i x y,vs[i+1]?=some x->vs[i]?=some y->∀(Q:Bool->Shared->Prop)(E:Value->Shared->Prop),Q false s->wpAny (model prog w) A (keyLt' (tuples' false) x y) Q E s
 |_,_,hu,.nil,_,i,x,y,hx,hy,Q,E,h=>by simp at hx
 |_,_,hu,.cons _ _ .nil,_,i,x,y,hx,hy,Q,E,h=>by simp at hx
 |_,_::b2::bs,hu,@K5.cons _ a its _ _ _ t sg (@K5.cons _ a2 its2 _ us _ t2 sg2 r),hc,i,x,y,hx,hy,Q,E,h=>by
  rw[Ox,U1a]at hc;cases i with
  |zero=>
   cases hx;cases hy;refine Jbv hu t2 t sg2 sg ?_;have:=hc.1;rw[Bool.not_eq_true']at this;rw[this];exact h
  |succ i=>exact cA hu (.cons t2 sg2 r) hc.2 i x y (by simpa using hx) (by simpa using hy) Q E h
variable{κ:SortKind}{arr:Array Keyed}
def jx{st:SortSt}{Q:Option Bool->SortSt->Prop}(hk:kindOf st=κ)(ha:arrOf st=arr)(hA:Asks prog w A s κ arr)(hi:i+1<arr.size)(h:Q (some false) st):wpS (model prog w) A E s (ltAt' (i+1) i) Q st:=by subst hk ha;rw[ltAt'_eq];refine wpS_bind (wpS_get ?_);show wpS _ _ _ _ (do let x ←elem' (arrOf st) (i+1);let y ←elem' (arrOf st) i;lt' x y) Q st;have e1:(arrOf st)[i+1]?=some (arrOf st)[i+1]:=getElem?_pos ..;have e2:(arrOf st)[i]?=some (arrOf st)[i]:=getElem?_pos ..;rw[elem'_eq,elem'_eq,e1,e2];refine wpS_bind (wpS_pure (wpS_bind (wpS_pure ?_)));rw[lt'_eq];refine wpS_bind (wpS_get ?_);refine wpS_bind (wpS_lift (U3t (hA i _ _ e1 e2 _ _ ⟨rfl,?_⟩)));exact wpS_pure h
def v9{st:SortSt}{Q:AscSt->SortSt->Prop}(hk:kindOf st=κ)(ha:arrOf st=arr)(hA:Asks prog w A s κ arr)(h1:1<=arr.size)(h:Q (none,arr.size) st):wpS (model prog w) A E s (ascLoop 1 arr.size) Q st:=by
 unfold ascLoop;refine wpS_forRange (I:=λx c st'=>st'=st/\c=(none,x)) ?step ?fin ⟨rfl,rfl⟩
 case fin=>
  rintro c st' ⟨rfl,rfl⟩;rw[show max 1 arr.size=arr.size by lia];exact h
 case step=>
  rintro x c st' hax hxn ⟨rfl,rfl⟩;dsimp only
  obtain⟨y,rfl⟩:∃y,x=y+1:=⟨x-1,by lia⟩;refine wpS_bind (jx hk ha hA (i:=y) (by lia) ?_);simp only[U18,if_false];exact wpS_pure ⟨rfl,rfl⟩
def v8{st:SortSt}{Q:Option Nat->SortSt->Prop}(hk:kindOf st=κ)(ha:arrOf st=arr)(hA:Asks prog w A s κ arr)(h1:1<=arr.size)(h:Q (some arr.size) st):wpS (model prog w) A E s (countRun' 0 arr.size) Q st:=by
 rw[countRun0_eq];refine wpS_bind (v9 hk ha hA h1 ?_);dsimp only
 rw[if_pos (by simp)];exact wpS_pure h
theorem YQ:∀(f n r:Nat),minRun' f n r<=n+r
 |0,n,r=>U0o _
 |f+1,n,r=>by
  rw[minRun'_succ];split
  .exact U0o _
  .have:=YQ f (n/2) (max r (n%2));lia
def vA{st:SortSt}{Q:Unit->SortSt->Prop}(hk:kindOf st=κ)(ha:arrOf st=arr)(hp:pendingOf st=#[])(hf:failedOf st=none)(hA:Asks prog w A s κ arr)(h2:2<=arr.size)
  (h:∀st',arrOf st'=arr->failedOf st'=none->Q () st'):wpS (model prog w) A E s sortRuns' Q st:=by
 rw[sortRuns'_eq];refine wpS_bind (wpS_get ?_);dsimp only
 rw[ha];have hmr:=YQ arr.size arr.size 0;generalize minRun' arr.size arr.size 0=mr at hmr;refine wpS_bind (wpS_mono (wpS_forRange
  (I:=λx c st'=>(x=0/\c=(none,0)/\st'=st)∨(1<=x/\c=(none,arr.size)/\arrOf st'=arr/\failedOf st'=none/\pendingOf st'=#[(0,arr.size,0)]))
  (Q:=λc st'=>c=(none,arr.size)/\arrOf st'=arr/\failedOf st'=none/\pendingOf st'=#[(0,arr.size,0)]) ?step ?fin (.inl ⟨rfl,rfl,rfl⟩)) ?post)
 case fin=>
  rintro c st' (⟨hx,_,_⟩|⟨_,hc,hD⟩)
  .lia
  .exact⟨hc,hD⟩
 case step=>
  rintro x c st' _ hx (⟨rfl,rfl,rfl⟩|⟨hx1,rfl,hD⟩)
  .dsimp only
   rw[if_neg (by lia)];simp only[U79,Nat.min_self,U51];refine wpS_bind (v8 hk ha hA (by lia) ?_);dsimp only
   rw[if_neg (by lia)];refine wpS_bind (wpS_get ?_);have hb:(pendingOf st').back?=none:=by rw[hp];rfl
   rw[hb];dsimp only
   exact wpS_bind (wpS_modify (wpS_pure (.inr ⟨by exact ar0,rfl,ha,hf,by show(pendingOf st').push _=_;rw[hp];rfl⟩)))
  .dsimp only
   rw[if_pos (U0o _)];exact wpS_pure ⟨rfl,hD⟩
 case post=>
  rintro c st' ⟨rfl,hD⟩;dsimp only
  refine wpS_bind (wpS_mono (wpS_forRange (I:=λ_ c st''=>st''=st'/\c=(none,())) (Q:=λc st''=>st''=st'/\c=(none,())) ?_ (λ_ _ hh=>hh) ⟨rfl,rfl⟩) ?_)
  .rintro x c st'' _ _ ⟨rfl,rfl⟩;refine wpS_bind (wpS_get ?_);rw[if_pos (by rw[hD.2.2];exact U0o 1)];exact wpS_pure ⟨rfl,rfl⟩
  .rintro c st'' ⟨rfl,rfl⟩;exact wpS_pure (h _ hD.1 hD.2.1)
def zN(vs:List Value):(pairsOf vs).map (·.2)=vs.toArray:=by apply Array.toList_inj.mp;rw[Array.toList_map,pairsOf_toList,List.map_snd_zip (U0o _)]
def jr(h:∀i x y,vs[i+1]?=some x->vs[i]?=some y->∀(Q:Bool->Shared->Prop)(E:Value->Shared->Prop),Q false s->wpAny (model prog w) A (keyLt' κ x y) Q E s):Asks prog w A s κ (pairsOf vs):=by
 intro i x y hx hy Q E q;have g:∀{j:Nat} {z:Keyed},(pairsOf vs)[j]?=some z->vs[j]?=some z.1:=fun {j z} e=>by rw[←U2m,pairsOf_toList,List.getElem?_zip_eq_some]at e;exact e.1
 exact h i x.1 y.1 (g hx) (g hy) Q E q
theorem Z2{P:Fin->Shared->Prop}(ho:s.heap.get? a=some (seqObj "list" vs.toArray n))(hB:K5 s.heap vs bs)(hn:∀b∈bs,b≠[])(hc:Ox bs=true)(hu:A.units<cLine)(hl:vs.length<=sizeLine)
  (h:P (.done (.ret .none)) { s with heap:=sortedHeap s.heap a vs vs.toArray }) :
  wpAny (model prog w) A (Builtin.«list.sort» ⟨[.ref a],[]⟩) P E s:=by
 have lt:=U0m ho;rw[list_sort_plain];refine U0 (listItems_at ho rfl (U0 (listUpdate_at ho rfl ?_ (hsz:=by rw[U0t];lia))));obtain⟨e1,o1⟩:∃e1,(s.heap.update a (U1m λ_=>#[])).get? a=some (seqObj "list" #[] e1):=⟨_,get?_update_seq ho (λ_=>#[])⟩;refine U0 (seqEpoch_at o1 rfl (U0 (U7n (U0 (wpAny_newList (U1u ?_))) (by simpa using hl))));have o2:(((s.heap.update a (U1m λ_=>#[])).push (seqObj "tuple" vs.toArray 0)).push (seqObj "list" #[] 0)).get? a=some (seqObj "list" #[] e1):=
  U0a _ (U0a _ o1)
 have B2:K5 (((s.heap.update a (U1m λ_=>#[])).push (seqObj "tuple" vs.toArray 0)).push (seqObj "list" #[] 0)) vs bs:=hB.keep λb o c e=>by
  have hne:b≠a:=λz=>by rw[z,ho]at e;cases e;exact absurd (show U23 "list"=U23 "tuple" from c) (by decide)
  exact U0a _ (U0a _ ((U1f _ _ (U1n hne)).trans e))
 show wpAny (model prog w) A _ P E { s with heap:=((s.heap.update a (U1m λ_=>#[])).push (seqObj "tuple" vs.toArray 0)).push (seqObj "list" #[] 0) };dsimp only
 by_cases h2:vs.toArray.size<2
 .rw[if_pos h2,if_pos h2];refine U0 (U0c ?_);rw[StateT.run_pure];refine U0 (U0c ?_);dsimp only
  have hout:(arrOf (SortSt.mk' general' (vs.toArray.zip vs.toArray) #[] 7 none)).map (·.2)=vs.toArray:=zN vs;rw[hout];refine U0 (seqEpoch_at o2 rfl ?_);refine U0 (listUpdate_at o2 rfl ?_ (hsz2:=by rw[U0t];lia));simp only[bne_self_eq_false,U18,if_false];exact U0c h
 .rw[if_neg h2,if_neg h2];have h2':2<=vs.length:=by rw[U0t]at h2;lia
  refine U0 (rZ (s:={ s with heap:=((s.heap.update a (U1m λ_=>#[])).push (seqObj "tuple" vs.toArray 0)).push (seqObj "list" #[] 0) }) B2 hn (by lia) ?_);refine U0 (U5o (vA (s:={ s with heap:=((s.heap.update a (U1m λ_=>#[])).push (seqObj "tuple" vs.toArray 0)).push (seqObj "list" #[] 0) }) (κ:=tuples' false) (arr:=pairsOf vs) (st:=SortSt.mk' (tuples' false) (vs.toArray.zip vs.toArray) #[] 7 none)
   (Q:=λ_ st'=>arrOf st'=pairsOf vs/\failedOf st'=none) rfl rfl rfl rfl (jr (cA hu B2 hc)) (by rw[pairsOf_size];exact h2') λst' a1 a2=>⟨a1,a2⟩) ?_ λ_ _ e=>e)
  rintro⟨⟨⟩,st'⟩ s' ⟨rfl,hp,hf⟩;dsimp only
  rw[hp,zN];refine U0 (seqEpoch_at o2 rfl (U0 (listUpdate_at o2 rfl ?_ (hsz2:=by rw[U0t];lia))));rw[hf];simp only[bne_self_eq_false,U18,if_false];exact U0c h
theorem jB{Q:Value->Shared->Prop}(hl:s.heap.IsList l vs.toArray)(hB:K5 s.heap vs bs)(hn:∀b∈bs,b≠[])(hc:Ox bs=true)(hu:A.units+8<cLine)(hz:vs.length<=sizeLine)
  (h:∀h' l' n,(∀b o,s.heap.get? b=some o->h'.get? b=some o)->(∀b o,s.heap.get? b=some o->b<l')->h'.get? l'=some (seqObj "list" vs.toArray n)->Q (.ref l') { s with heap:=h' }) :
  wpAny (model prog w) A (call (.builtin "sorted") [.ref l]) Q E s:=by
 refine Calls.call_function_entry kind_sorted plain_sorted entry_sorted (args_sorted1 _) ?_;unfold Builtin.«sorted»;refine U0 (m:=checkCount "sorted" 1 1 _) (U0c ?_);refine U0 (collect_list hl ?_ hz);refine U0 (wpAny_newList ?_ (by simpa using hz));have hsz:((s.heap.push (seqObj "list" #[] 0)).update s.heap.objs.size (U1m (·++vs.toArray))).objs.size=s.heap.objs.size+1:=by rw[Heap.size_update,size_push']
 have hoL:(((s.heap.push (seqObj "list" #[] 0)).update s.heap.objs.size (U1m (·++vs.toArray))).push (seqObj "list" vs.toArray 0)).get? (s.heap.objs.size+1)=some (seqObj "list" vs.toArray 0):=by rw[←hsz];exact U0s _ rfl
 have keep:∀b o,s.heap.get? b=some o->(((s.heap.push (seqObj "list" #[] 0)).update s.heap.objs.size (U1m (·++vs.toArray))).push (seqObj "list" vs.toArray 0)).get? b=some o:=λb o q=>by have hlt:b<s.heap.objs.size:=U0m q;rw[Heap.get?_push_ne _ _ _ (by rw[hsz];exact U0u (U2u hlt)),Heap.get?_update_ne _ _ _ _ (U0u hlt),Heap.get?_push_ne _ _ _ (U0u hlt)];exact q
 show wpAny _ _ _ _ _ { s with heap:=((s.heap.push (seqObj "list" #[] 0)).update s.heap.objs.size (U1m (·++vs.toArray))).push (seqObj "list" vs.toArray 0) };rw[hsz];refine U0 (U1u (U1o slot_list_sort ⟨_,hoL,rfl⟩ entry_list_sort (Z2 (s:={ s with heap:=((s.heap.push (seqObj "list" #[] 0)).update s.heap.objs.size (U1m (·++vs.toArray))).push (seqObj "list" vs.toArray 0) }) hoL (hB.keep λb o _ e=>keep b o e) hn hc (by show A.units+1+1<cLine;lia) hz ⟨_,rfl,?_⟩) (args_list_sort _)));refine U0c ⟨_,rfl,?_⟩;have old:∀b o,s.heap.get? b=some o->b<s.heap.objs.size+1:=λb o e=>U2u (U0m e);obtain⟨n',e'⟩:=SetP.QZ (out:=vs.toArray) hoL;exact h _ _ n' (λb o e=>SetP.Py (U0u (old b o e)) (keep b o e)) old e'
end
end Asc
namespace L2
open PySem PySem.Spec PyProof.Rows VS
inductive QC (K:U0e) (H:Hp):List V->List (Int×Int)->Prop
 |nil:QC K H [] []
 |cons {a:Addr} {p:Int×Int} {us:List V} {ps:List (Int×Int)}:SqT K H a [.int p.1,.int p.2]->QC K H us ps->QC K H (.ref a::us) (p::ps)
inductive QD (K:U0e) (H:Hp):List V->List (List (Int×Int))->Prop
 |nil:QD K H [] []
 |cons {a:Addr} {xs:List V} {b:List (Int×Int)} {us:List V} {bs:List (List (Int×Int))}:SqT K H a xs->QC K H xs b->QD K H us bs->QD K H (.ref a::us) (b::bs)
variable{X:Cx}
theorem QC.heap(I:Inv X pins Z3 H s):∀{us:List V} {ps:List (Int×Int)} {vs:List Value},QC X.K H us ps->Vals us vs->Asc.Lh s.heap vs ps
 |_,_,_,.nil,.nil=>.nil
 |_,_,_,@QC.cons _ _ a p _ _ t r,.cons rv rvs=>by cases rv;obtain⟨its,r1,p1,_⟩:=I.tuple t;have i1:IntsAre its.toArray.toList [p.1,p.2]:=intsAre_of (ns:=[p.1,p.2]) r1;exact .cons p1 i1 (r.heap I rvs)
theorem QD.heap(I:Inv X pins Z3 H s):∀{us:List V} {bs:List (List (Int×Int))} {vs:List Value},QD X.K H us bs->Vals us vs->Asc.K5 s.heap vs bs
 |_,_,_,.nil,.nil=>.nil
 |_,_,_,@QD.cons _ _ a xs _ _ _ t sg r,.cons rv rvs=>by cases rv;obtain⟨its,r1,p1,_⟩:=I.tuple t;exact .cons p1 (sg.heap I r1) (r.heap I rvs)
def cQ(hr:FZ k X.A):Eh X (.builtin "sorted") (λxs H Q=>∃(a:Addr)(us:List V)(bs:List (List (Int×Int))),xs=[.ref a]/\SqL X.K H a us/\QD X.K H us bs/\(∀b∈bs,b≠[])/\Ox bs=true /\
  ∀(l:Addr),H l=none->Q (.ref l) (upd H l (.lst us))):=by
 intro pins s Z3 H xs us0 Q I r h;obtain⟨a,us,bs,rfl,ha,hB,hn,hc,q⟩:=h;obtain⟨u,rfl,rx⟩:=vals1 r;cases rx;obtain⟨its,rv,ht,hz⟩:=I.list ha;have hlen:=rv.length;refine Asc.jB ht.isList (hB.heap I rv) hn hc (by have:=hr.un;lia) (by rw[←hlen];exact hz) λh' l n k hb e=>?_;have hn':s.heap.get? l=none:=by
  cases q:s.heap.get? l with
  |none=>rfl
  |some o=>exact absurd (hb l o q) (U3s _)
 have hsy:sysModules≠l:=by obtain⟨o,_,_,e,_⟩:=I.ok.mod.glob;exact U0u (U2j (by decide:(1:Nat)<3) (hb _ _ (I.bk _ _ e)))
 exact⟨.ref l,_,I.laidN (d':=s.drawn) (t':=s.toks) (o:=.lst us) k hn' hsy ⟨hz,its,n,rv,e⟩,rfl,q l (I.Xj hn')⟩
end L2
end
section
namespace VS
open PySem PySem.Spec L2
def unS:D->Option (Int×Int)
 |.tup [.int a,.int b]=>some (a,b)
 |_=>none
def V6:List D->Option (List (Int×Int))
 |[]=>some []
 |d::r=>(unS d).bind λp=>(V6 r).map (p::·)
def unB:D->Option (List (Int×Int))
 |.tup ds=>V6 ds
 |_=>none
def Sg:List D->Option (List (List (Int×Int)))
 |[]=>some []
 |d::r=>(unB d).bind λp=>(Sg r).map (p::·)
def T5(a:Bh):Bh:=λenv S=>(a env S).bind λp=>(listOf p.2 p.1).bind λds=>(Sg ds).bind λbs=>if (bs.all (λb=>!b.isEmpty)&&Ox bs&&decide (ds.length<1000000))=true then some (.lst true ds,p.2) else none
theorem f9:∀{ds:List D} {vs:List V} {ps:List (Int×Int)},VRs Γ μ H vs ds->V6 ds=some ps->QC K H vs ps
 |[],_,_,.nil,e=>by cases e;exact .nil
 |d::ds,_,_,.cons r rs,e=>by
  rw[V6]at e;obtain⟨p,e1,e⟩:=bind_some e;obtain⟨qs,e2,rfl⟩:=map_some e;unfold unS at e1;split at e1
  .rename_i a b;cases e1;cases r with
   |@tup x xs _ hp rp=>
    have:=VRs.RQ (ns:=[a,b]) rp;subst this;exact .cons (SqT.of hp) (f9 rs e2)
  .cases e1
theorem gM:∀{ds:List D} {vs:List V} {bs:List (List (Int×Int))},VRs Γ μ H vs ds->Sg ds=some bs->QD K H vs bs
 |[],_,_,.nil,e=>by cases e;exact .nil
 |d::ds,_,_,.cons r rs,e=>by
  rw[Sg]at e;obtain⟨p,e1,e⟩:=bind_some e;obtain⟨qs,e2,rfl⟩:=map_some e;unfold unB at e1;split at e1
  .cases r with
   |@tup x xs _ hp rp=>exact .cons (SqT.of hp) (f9 rp e1) (gM rs e2)
  .cases e1
def sO(hc:X.calm=true)(hr:FZ k X.A)(hg:Gl X "sorted")(hm:X.mg "sorted"=none)(ha:JE X a f)(he:starEach [a] X.env=[(false,eval a X.env)]:=by rfl):JE X (.Call (.Name "sorted" p) [a] [] pos) (T5 f):=
 ⟨PE.imp (VL (cQ hr) hg hm Yr (Qy ha.pe Sx he) (he:=he) (hpl:=rfl)) λZ3 H Q h=>by
  exact`zb;obtain⟨⟨y,S1⟩,e1,e⟩:=bind_some e;obtain⟨ds,e2,e⟩:=bind_some e;obtain⟨bs,e3,e⟩:=bind_some e;by_cases hl:(bs.all (λb=>!b.isEmpty)&&Ox bs&&decide (ds.length<1000000))=true
  .rw[if_pos hl]at e;cases e;rw[U1a,U1a]at hl;refine⟨Γ,μ,env,S,y,_,hK,R,e1,λv1 μ1 H1 x1 R1 r1=>?_⟩;obtain⟨b,xs,rfl,hb,rb⟩:=VR.list R1 r1 e2;refine⟨b,xs,bs,rfl,SqL.of hb,gM rb e3,λc hc=>?_,hl.1.2,λl hl'=>?_⟩
   .have:=U3k.mp hl.1.1 c hc;intro z;rw[z]at this;cases this
   .obtain⟨R3,x3⟩:=R1.grow (DY hl' (.lst xs));exact q _ μ1 _ (x1.trans x3) R3 (.lst (R1.ok hl' true) (R1.dead hl') CT (rb.ext x3))
  .rw[if_neg hl]at e;cases e⟩
def oY(a:Bh)(env:VS.Env)(S:Store):T5 a env S=(a env S).bind λp=>(listOf p.2 p.1).bind λds=>(Sg ds).bind λbs=>if (bs.all (λb=>!b.isEmpty)&&Ox bs&&decide (ds.length<1000000))=true then some (.lst true ds,p.2) else none:=rfl
end VS
end
section
namespace Asc
open PySem PySem.W PySem.Calls PyProof.Rows
end Asc
namespace L2
open PySem PySem.Spec PyProof.Rows
variable{X:Cx}{pos:Pos}
end L2
namespace VS
open PySem PySem.Spec L2
end VS
end
section
namespace PySem
section
variable{prog:Program}{w:World}{A:Around}{E:Value->Shared->Prop}{s:Shared}
theorem Jaj{Q:Option Value->Shared->Prop}
  (hx:s.heap.get? a=some { cls:=.type "list",dict:=none,data:=.seq xs k,slots:=sl }) (hmiss:typeLookup (.type "list") name=pure none) (hname:(["__module__","__name__","__qualname__","__doc__","__annotations__"]:List Str).contains name=false) (hA:A.handled=none)
  (h:∀h' tk e,Heap.NewExcOf s.heap h' e "AttributeError"->Q none { s with heap:=h',toks:=tk }) (hsz:name.length+100<=sizeLine:=by size_fits) :
  wpAny (model prog w) A (getAttr? (.ref a) name) Q E s:=by
 obtain⟨hp,g,d,tk,os⟩:=s;have hT:∀tk',(⟨hp,g,d,tk',os⟩:Shared).TypeIs (.ref a) "list":=λ_=>⟨_,hx,rfl⟩;have f1:=sub_AttributeError;have f3:=U55.lookup;have f4:=U55.bind (.ref a);have f5:=am_list_getattr_none;unfold getAttr? getAttrBy? getAttrBy
 repeat (any_goals (first|assumption|exact hT _|((with_reducible show wpAny _ _ (call (Value.builtin "list.__getattribute__") _ _) _ _ _);refine call_meets U55 (hT _) am_entry_list_getattribute (F.args_list_getattribute_2 _ _) (meets_getattribute_miss_list a xs k sl name _ hmiss hname hsz) ⟨hx,hA,λh' tk' e hx'=>?_⟩)|wp_step))
 obtain⟨t',u',he⟩:=hx'.there;show wpAny _ _ (getattributeRaised _ _ _ _ _ _ _) _ _ _;unfold getattributeRaised
 repeat (any_goals (first|assumption|wp_step))
 exact h _ _ _ hx'.of
end
def dh:entryFor table "dict.update.loop"=some Builtin.«dict.update.loop»:=entryFor_of_tree (by kernel_rfl)
def Ub:plainId "dict.update.loop"=true:=by decide +kernel
def Jak:typeLookup (.type "list") "keys"=pure none:=by rw[typeLookup_type,builtinLookup_eq_fast];kernel_rfl
section
variable{prog:Program}{w:World}{A:Around}{E:Value->Shared->Prop}{s:Shared}{K:Type}[DecidableEq K]{knd:KeyKind prog w K}
def Jdg{R:Result->Shared->Prop}(hh:A.handled=none)(it:s.heap.IsListIter I l i)(il:s.heap.IsList l items)(hx:items[i]?=none)
  (h:∀h',U4u I s.heap h'->R (.ok (.ret .none)) { s with heap:=h' }):codeAny (model prog w) A (.builtin "dict.update.loop" ⟨[.ref d,.ref I,rawInt j,.none],[]⟩) R s:=by
 refine codeAny_builtin dh ?_;rw[U2x Ub _];show wpAny _ A.in1 (pyNext (.ref I) >>= _) _ _ s;refine U0 (U6s hh it il hx λh' eb=>?_);show wpAny _ A.in1 (Builtin.Dict.addKeywords d [] >>= λ_=>ret U2d) _ _ _;exact U0 (U0c (U0c (h h' eb)))
end
end PySem
namespace L2
open PySem PySem.Spec PyProof.Rows
end L2
end
section
namespace HD
open PySem PySem.Spec PyProof.Rows
section
variable{prog:Program}{w:World}{K:Type}[DecidableEq K]{knd:HeapKind prog w K}{A:Around}{E:Value->Shared->Prop}{s:Shared}
abbrev Ko(K:Type):=List (K×Addr×Value)
def iv:Value->Int
 |.int i _=>i
 |_=>0
def Zf(xs:Ko K):Prop:=∀x∈xs,∃i t,x.2.2=U2v i t
def hit(ys:Ko K)(x:K×Addr×Value):Bool:=match atKey ys x.1 with
 |some q=>iv x.2.2==iv q.2
 |none=>false
def tQ{ys:Ko K}{x:K×Addr×Value}(h:atKey ys x.1=none):hit ys x=false:=by unfold hit;rw[h]
def tO{ys:Ko K}{x:K×Addr×Value}{q:Addr×Value}(h:atKey ys x.1=some q):hit ys x=(iv x.2.2==iv q.2):=by unfold hit;rw[h]
def uG{Zp:Type}{p:Zp->Bool}{xs:List Zp}{i:Nat}{x:Zp}(hx:xs[i]?=some x)(h:(xs.take i).all p=true)(hp:p x=true):(xs.take (i+1)).all p=true:=by rw[List.take_add_one,hx,List.all_append,h];simp[hp]
def mD{Zp:Type}{p:Zp->Bool}{xs:List Zp}{i:Nat}{x:Zp}(hx:xs[i]?=some x)(hp:p x=false):xs.all p=false:=by rw[List.all_eq_false];exact⟨x,U00 hx,by rw[hp];exact U05⟩
def same{nm:String}{a b:Addr}{xs ys:Ko K}{Q:Bool->Shared->Prop}(ha:(a==sysModules)=false)(hb:(b==sysModules)=false)(hu:knd.room A)
  (da:s.heap.DictOfH knd a xs) (db:s.heap.DictOfH knd b ys) (ix:Zf xs) (iy:Zf ys) (h:Q (xs.length==ys.length&&xs.all (hit ys)) s):wpAny (model prog w) A (Builtin.Dict.samePairs nm a b) Q E s:=by
 obtain⟨o,es,ep,ho,_,hd,he,his,hn⟩:=da;obtain⟨o',es',ep',ho',_,hd',he',his',hn'⟩:=db;have z:es.size=xs.length:=size_of_entries he;have z':es'.size=ys.length:=size_of_entries he';unfold Builtin.Dict.samePairs U6u;rw[ha,hb];refine U0 (U0c (U0 (U0c (U0 (U37 ho hd (U0 (U37 ho' hd' ?_)))))));rw[z,z'];by_cases e:xs.length=ys.length
 .rw[if_neg (by rw[e];simp)];rw[e,beq_self_eq_true,U5v]at h;refine U0 (U5y ho hd (U0 ?_));rw[Std.Legacy.Range.forIn_eq_forIn_range'];simp only[Std.Legacy.Range.size,U79,Nat.add_sub_cancel,Nat.div_one];refine wpAny_forIn_list _ (λrest q s'=>s'=s/\q=(none,())/\∃i,rest=U7o i (xs.length-i)/\i<=xs.length/\(xs.take i).all (hit ys)=true) _ ?_ ?_ _ _ ⟨rfl,rfl,0,by simp,U3 _,rfl⟩
  .rintro x rest q s' ⟨rfl,rfl,i,hr,hi,hp⟩;have lt:i<xs.length:=by apply Nat.lt_of_not_le;intro g;rw[Nat.sub_eq_zero_of_le g]at hr;cases hr
   rw[show xs.length-i=(xs.length-(i+1))+1 by exact Jaf lt,U6r]at hr;obtain⟨rfl,hr⟩:x=i/\rest=U7o (i+1) (xs.length-(i+1)):=by injection hr with h1 h2;exact⟨h1,h2⟩
   obtain⟨⟨k,p,v⟩,hx⟩:∃y,xs[x]?=some y:=⟨_,U0v lt⟩;have hm:=U00 hx;refine U0 (U37 ho hd ?_);rw[entry_at he,hx];obtain⟨n,t,hv⟩:=ix _ hm;dsimp only at hv;subst hv;refine U0 (U1u (U0 (wpAny_dictFind_heap hu (his _ hm) ho' hd' he' his' hn' (λno=>?_) λj q hj=>?_)))
   .rw[mD hx (tQ (atKey_none_of_get no))]at h;exact U0c (U0c (U0c h))
   .obtain⟨pb,u⟩:=q;have hq:=atKey_of_get hn' hj;obtain⟨m,t',hu'⟩:=iy _ (U00 hj);dsimp only at hu';subst hu';refine U0 (U37 ho' hd' ?_);rw[entry_at he',hj];refine U1u (wpAny_eqBool_int ?_);have hh:hit ys (k,p,U2v n t)=(n==m):=tO hq;cases g:n==m
    .rw[mD hx (hh.trans g)]at h;exact U0c (U0c h)
    .refine U0 (U5y ho hd ?_);rw[if_neg (by simp)];exact U0c ⟨rfl,rfl,x+1,hr,lt,uG hx hp (hh.trans g)⟩
  .rintro q s' ⟨rfl,rfl,i,hr,hi,hp⟩;have g:xs.length<=i:=by apply U77;intro g;rw[show xs.length-i=(xs.length-(i+1))+1 by exact Jaf g,U6r]at hr;cases hr
   rw[U3f g]at hp;rw[hp]at h;exact U0c h
 .rw[if_pos (by simpa using e)];rw[beq_eq_false_iff_ne.mpr e,U56]at h;exact U0 (U4r (U0c h))
def eqD{Q:Value->Shared->Prop}(ha:(a==sysModules)=false)(hb:(b==sysModules)=false)(hu:A.units<cLine)(hu':knd.room A.in1)
  (da:s.heap.DictOfH knd a xs) (db:s.heap.DictOfH knd b ys) (ix:Zf xs) (iy:Zf ys) (h:Q (.bool (xs.length==ys.length&&xs.all (hit ys))) s):wpAny (model prog w) A (compareOp .Eq (.ref a) (.ref b)) Q E s:=by
 refine wpAny_richCompare_same_room (op:=.Eq) da.typeIs db.typeIs F.slot_dict_eq (U1o F.slot_dict_eq da.typeIs F.entry_dict_eq ?_ (F.args_dict_eq_2 _ _)) hu;show wpAny _ _ (Builtin.Dict.dictSlotArgs "__eq__" ⟨[.ref a,.ref b],[]⟩ >>= _) _ _ s;refine U0 ?_;unfold Builtin.Dict.dictSlotArgs;refine U0 (U6v da.typeIs ?_);refine(show wpAny _ _ (pure (U1c a,U1c b)) _ _ s from U0c ?_);refine U0 (U4c (T:="dict") db.typeIs isSubtype_dict_dict ?_);rw[U5u,if_neg U05];exact U0 (U0c (U0 (U0c (U0 (same ha hb hu' da db ix iy (U0c ⟨_,rfl,⟨(λx=>nomatch x),by simpa using h⟩⟩))))))
end
section
variable{prog:Program}{w:World}{K:Type}[DecidableEq K]{kd:KeyKind prog w K}{A:Around}{E:Value->Shared->Prop}{s:Shared}
def lD(x:IsTupleKey kd h k a)(e:∀o,h.get? a=some o->h'.get? a=some o):IsTupleKey kd h' k a:=by obtain⟨o,its,n,h1,r⟩:=x;exact⟨o,its,n,e o h1,r⟩
def Uk{h h':Heap}{d n:Addr}{xs:Ko (List K)}(x:h.DictOfH (tupleKind kd) d xs)(lt:∀x∈xs,x.2.1<n)(e:∀b o,b=d∨b<n->h.get? b=some o->h'.get? b=some o):h'.DictOfH (tupleKind kd) d xs:=by obtain⟨o,es,ep,h1,h2,h3,h4,h5,h6⟩:=x;exact⟨o,es,ep,e d o (.inl rfl) h1,h2,h3,h4,λy hy=>lD (h5 y hy) λq=>e _ q (.inr (lt y hy)),h6⟩
def nG{n:Addr}{xs:Ko (List K)}{k:List K}{a:Addr}{v:Value}(lt:∀x∈xs,x.2.1<n)(ha:a<n):∀x∈storedH xs k a v,x.2.1<n:=by
 intro x hx;unfold storedH at hx;split at hx
 .obtain⟨y,hy,rfl⟩:=U03.mp hx;unfold putAt;split
  .exact lt y hy
  .exact lt y hy
 .rcases U0x.mp hx with hx|hx
  .exact lt x hx
  .cases U0r.mp hx;exact ha
def wA(xs:Ko (List K))(k:List K)(a:Addr)(v:Value):(storedH xs k a v).length<=xs.length+1:=by unfold storedH;split<;>simp
structure WD(kd:KeyKind prog w K)(h:Heap)(n p:Addr)(x:List K×Addr×Value):Prop where
 tup:∃o m,h.get? p=some o/\o.cls=.type "tuple"/\o.data=.seq #[.ref x.2.1,x.2.2] m
 key:IsTupleKey kd h x.1 x.2.1
 lt:p<n/\x.2.1<n
def WD.to(q:WD kd h n p x)(e:∀b o,b<n->h.get? b=some o->h'.get? b=some o):WD kd h' n p x:=by obtain⟨⟨o,m,h1,h2⟩,k,lt⟩:=q;exact⟨⟨o,m,e _ _ lt.1 h1,h2⟩,lD k λo q=>e _ _ lt.2 q,lt⟩
inductive Jw (kd:KeyKind prog w K) (h:Heap) (n:Addr):List Addr->Ko (List K)->Prop
 |nil:Jw kd h n [] []
 |cons {p:Addr} {x:List K×Addr×Value} {ps:List Addr} {xs:Ko (List K)}:WD kd h n p x->Jw kd h n ps xs->Jw kd h n (p::ps) (x::xs)
theorem Jw.to(q:Jw kd h n ps xs)(e:∀b o,b<n->h.get? b=some o->h'.get? b=some o):Jw kd h' n ps xs:=by
 induction q with
 |nil=>exact .nil
 |cons a _ ih=>exact .cons (a.to e) ih
def putAll(xs ys:Ko (List K)):Ko (List K):=ys.foldl (λacc x=>storedH acc x.1 x.2.1 x.2.2) xs
theorem loop{R:Result->Shared->Prop}{d I l:Addr}(hh:A.handled=none)(hu:A.units+1<cLine)(hdI:d<I)(hld:l<d){items:Array Value}:∀(rest:Ko (List K))(ps:List Addr)(i:Nat)(j:Int)(xs:Ko (List K))(s:Shared),
  s.heap.IsListIter I l i->s.heap.IsList l items->items.toList.drop i=ps.map U1c->Jw kd s.heap d ps rest->s.heap.DictOfH (tupleKind kd) d xs->(∀x∈xs,x.2.1<d)->xs.length+rest.length<=sizeLine ->
  (∀h' tk,(∀b o,b<d->s.heap.get? b=some o->h'.get? b=some o)->h'.DictOfH (tupleKind kd) d (putAll xs rest)->R (.ok (.ret .none)) { s with heap:=h',toks:=tk }) ->
  codeAny (model prog w) A (.builtin "dict.update.loop" ⟨[.ref d,.ref I,rawInt j,.none],[]⟩) R s:=by
 intro rest;induction rest with
 |nil=>
  intro ps i j xs s it il hp pp dd lt _ h;cases pp;have hx:items[i]?=none:=by rw[←U2m];have:=List.drop_eq_nil_iff.mp hp;exact U5l this
  refine Jdg hh it il hx λh' eb=>h h' _ (λb o lb e=>eb b o (U0u (U2j lb hdI)) e) (Uk dd lt λb o lb e=>eb b o ?_ e);rcases lb with rfl|lb
  .exact U0u hdI
  .exact U0u (U2j lb hdI)
 |cons x rest ih=>
  intro ps i j xs s it il hp pp dd lt hl h;cases pp with|@cons p _ ps _ q qs=>
  have hx:items[i]?=some (.ref p):=by rw[←U2m];have:=congrArg (·[0]?) hp;simpa using this
  have hp':items.toList.drop (i+1)=ps.map U1c:=by rw[←List.drop_drop,hp];rfl
  refine codeAny_builtin dh ?_;rw[U2x Ub _];show wpAny _ A.in1 (pyNext (.ref I) >>= _) _ _ s;refine U0 (U6h it il hx λh1 it1 sb1=>?_);have e1:∀b o,b=d∨b<d->s.heap.get? b=some o->h1.get? b=some o:=λb o lb e=>(sb1.2 b (lb.elim (λq=>by subst q;exact U0u hdI) λq=>U0u (U2j q hdI))).trans e;obtain⟨⟨o,m,g1,g2,g3⟩,gk,gl⟩:=q.to (h':=h1) λb o lb e=>e1 b o (.inr lb) e;refine(show wpAny _ A.in1 (holding [U1c p] _ >>= _) _ _ _ from U0 (U1u (U0 (wpAny_tryCatch ?_))));unfold Builtin.Dict.pairItems;refine U0 (U4f (show U4l _ (.ref p) "tuple" from ⟨o,g1,g2⟩) ?_);rw[if_pos (by decide)];refine U0 (U2q g1 g3 (U0c ?_));refine(show wpAny _ _ (holding [U1c x.2.1,x.2.2] (dictSet d (.ref x.2.1) x.2.2)) _ _ _ from U1u (wpAny_dictSet_heap (knd:=tupleKind kd) (hsz:=by rw[U0f]at hl;omega) hu gk (Uk dd lt e1) λh2 dd2 sb2=>?_));have e2:∀b o,b<d->s.heap.get? b=some o->h2.get? b=some o:=λb o lb e=>(sb2.2 b (U0u lb)).trans (e1 b o (.inr lb) e);refine U0c ⟨plainId_quiet Ub _,ih ps (i+1) (j+1) _ { s with heap:=h2,toks:=_ } ?_ ?_ hp' (qs.to e2) dd2 (nG lt gl.2) ?_ λh' tk k dd'=>h h' tk (λb o lb e=>k b o lb (e2 b o lb e)) dd'⟩
  .obtain⟨q,hq,r⟩:=it1;exact⟨q,(sb2.2 I (U1r hdI)).trans hq,r⟩
  .obtain⟨q,hq,r⟩:=il;exact⟨q,e2 l q hld hq,r⟩
  .have:=wA xs x.1 x.2.1 x.2.2;rw[U0f]at hl;omega
def mk{l:Addr}{n:Nat}{rest:Ko (List K)}{ps:List Addr}{Q:Value->Shared->Prop}(hh:A.handled=none)(hu:A.units+2<cLine)(hl:s.heap.get? l=some { cls:=.type "list",data:=.seq (ps.map U1c).toArray n })(pp:Jw kd s.heap s.heap.objs.size ps rest)(hz:rest.length<=sizeLine)
  (h:∀h' tk,(∀b q,s.heap.get? b=some q->h'.get? b=some q)->h'.DictOfH (tupleKind kd) s.heap.objs.size (putAll [] rest)->Q (.ref s.heap.objs.size) { s with heap:=h',toks:=tk }) :
  wpAny (model prog w) A (call (.type "dict") [.ref l]) Q E s:=by
 refine callType_codes (Q₁:=λobj s₁=>obj=.ref s.heap.objs.size/\s₁={ s with heap:=s.heap.push { cls:=.type "dict",data:=.dict #[] } }) F.kt_called_dict (F.kt_typeCall_dict_1 _) F.entry_dict_init (kt_code_dict_new _ ⟨rfl,rfl⟩) ?_;rintro obj s₁ ⟨rfl,rfl⟩;have hnew:(s.heap.push { cls:=.type "dict",data:=.dict #[] }).DictOfH (tupleKind kd) s.heap.objs.size []:=Heap.DictOfH.new s.heap;have hl1:(s.heap.push { cls:=.type "dict",data:=.dict #[] }).get? l=some { cls:=.type "list",data:=.seq (ps.map U1c).toArray n }:=U0a _ hl;have hld:l<s.heap.objs.size:=U0m hl;refine⟨hnew.typeIs,F.args_dict_init_2 _ _,?_⟩;unfold Builtin.«dict.__init__»;refine U0 ?_;unfold Builtin.Dict.selfAndRest;refine U0 (U6v hnew.typeIs ?_);refine(show wpAny _ _ (pure (s.heap.objs.size,[U1c l])) _ _ _ from U0c ?_);show wpAny _ _ (Builtin.Dict.updateFrom "dict.__init__" s.heap.objs.size (.ref l) [] .none) _ _ _;unfold Builtin.Dict.updateFrom;refine U0 (U4f (show U4l _ (.ref l) "list" from ⟨_,hl1,rfl⟩) ?_);rw[if_pos (by decide)];refine U0 (Jaj hl1 Jak (by decide) (by simpa using hh) λh1 tk1 e1 ne1=>?_);simp only[Option.isNone_none,if_true];have k1:∀b q,(s.heap.push { cls:=.type "dict",data:=.dict #[] }).get? b=some q->h1.get? b=some q:=λb q e=>ne1.keeps b q e;have k2:∀b q,s.heap.get? b=some q->h1.get? b=some q:=λb q e=>k1 b q (U0a _ e);have hl2:=k1 _ _ hl1;have hd2:h1.DictOfH (tupleKind kd) s.heap.objs.size []:=Uk (n:=0) hnew (λx hx=>nomatch hx) λb o _ e=>k1 b o e;have hdI:s.heap.objs.size<h1.objs.size:=by obtain⟨q,es,ep,hq,r⟩:=hd2;exact U0m hq
 have il:h1.IsList l (ps.map U1c).toArray:=⟨_,hl2,rfl,n,rfl⟩;refine U0 (U4r ?_);refine U0 (U4o il (U0c ⟨plainId_quiet Ub _,?_⟩));refine loop (kd:=kd) (l:=l) (items:=(ps.map U1c).toArray) (by simpa using hh) hu hdI hld rest ps 0 0 [] _ ⟨_,U0s _ rfl,rfl,rfl⟩ ⟨_,U0a _ hl2,rfl,n,rfl⟩ (by simp) (pp.to λb o _ e=>U0a _ (k2 b o e)) (Uk (n:=0) hd2 (λx hx=>nomatch hx) λb o _ e=>U0a _ e) (λx hx=>nomatch hx) (by simpa using hz) λh' tk keep dd=>⟨rfl,h h' tk (λb q e=>?_) dd⟩;exact keep b q (U0m e) (U0a _ (k2 b q e))
end
section
variable{prog:Program}{w:World}{A:Around}{E:Value->Shared->Prop}{s:Shared}{it d:Addr}{i ep:Nat}{ok ov:Value}{od:Obj}{es:Array DictEntry}
def own:Builtin.Dict_items.ownsTuple "dict_itemiterator"=true:=by decide
def nx{Q:Option Value->Shared->Prop}(hit:IsItemIter s.heap it d i es.size ep ok ov)(h1:s.heap.get? d=some od)(h2:od.data=.dict es ep)(hx:es[i]?=some e)
  (q:∀h',IsItemIterOut h' it d (i+1) es.size ep e.key e.val s.heap.objs.size->h'.get? s.heap.objs.size=some { cls:=.type "tuple",data:=.seq #[e.key,e.val] }->(∀b o,b≠it->s.heap.get? b=some o->h'.get? b=some o)->Q (some (.ref s.heap.objs.size)) { s with heap:=h' }) :
  wpAny (model prog w) A (pyNext (.ref it)) Q E s:=by
 obtain⟨hp,g,dr,tk,os⟩:=s;have T:∀h':Heap,(∃o,h'.get? it=some o/\o.cls=.type "dict_itemiterator")->U4l ⟨h',g,dr,tk,os⟩ (.ref it) "dict_itemiterator":=λ_ z=>z;have T0:=T hp ⟨_,hit,rfl⟩;unfold pyNext;refine U0 (U3t (wpAny_callSpecial?_slot (name:=U2w "__next__") T0 U3j (U1o U3j T0 F.entry_dict_itemiterator_next ?_ (F.args_dict_itemiterator_next_1 _))));refine U0 (U0c (U0 (U0 (U0 (U32 T0 (U0c (U0 (U7l hit rfl ?_))))))));rw[own,if_pos rfl];refine(show wpAny _ _ (if (U1c d==U2d)=true then _ else _) _ _ _ from ?_);rw[if_neg (show ¬(U1c d==U2d)=true from U05)];refine U0 (U0c (U0 (U37 h1 h2 ?_)));rw[if_neg (by simp)];refine U0 (U0c (U0 (U5y h1 h2 ?_)));rw[if_neg (by simp)];refine U0c ?_;simp only[Int.not_lt.mpr (Int.natCast_nonneg i),if_false,U2t,hx];refine U0 (U0 (U32 T0 (U0c (U0 (U6m T0 ?_)))));refine(show wpAny _ _ (setField (.ref it) 3 (rawInt ((i:Int)+1)) >>= _) _ _ _ from U0 (U2k hit (by simp) λg1 z1 m1=>?_));replace m1:U02 it hp g1:=m1;replace z1:IsItemIter g1 it d (i+1) es.size ep ok ov:=z1;have T1:=T g1 ⟨_,z1,rfl⟩;refine U0 (U1u (U0 (U6m T1 (U0 (U6m T1 ?_)))));refine(show wpAny _ _ (newTuple [e.key,e.val] >>= _) _ _ ⟨g1,g,dr,tk,os⟩ from U0 (U7n (U0 ?_)));have z2:IsItemIter (g1.push { cls:=.type "tuple",data:=.seq #[e.key,e.val] }) it d (i+1) es.size ep ok ov:=U0a _ z1;unfold Builtin.Dict_items.ownedTupleIsFree;refine U0 (U1v z2 rfl (x:=.none) rfl (U0c ?_));rw[if_pos rfl];refine U0 (U1v z2 rfl (x:=ok) rfl (U0 (U1v z2 rfl (x:=ov) rfl (U0 (U2k z2 (by simp) λg3 z3 m3=>?_)))));replace z3:IsItemIter g3 it d (i+1) es.size ep e.key ov:=z3;refine U0 (U2k z3 (by simp) λg4 z4 m4=>?_);replace z4:IsItemIter g4 it d (i+1) es.size ep e.key e.val:=z4;refine U0 (U2k z4 (by simp) λg5 z5 m5=>?_);replace z5:IsItemIterOut g5 it d (i+1) es.size ep e.key e.val g1.objs.size:=z5;refine U0 (U2k z5 (by simp) λg6 z6 m6=>?_);replace z6:IsItemIterOut g6 it d (i+1) es.size ep e.key e.val g1.objs.size:=z6;have up:∀b o,b≠it->(g1.push { cls:=.type "tuple",data:=.seq #[e.key,e.val] }).get? b=some o->g6.get? b=some o:=λb o n x=>m6.extBut _ _ n (m5.extBut _ _ n (m4.extBut _ _ n (m3.extBut _ _ n x)));have hs:g1.objs.size=hp.objs.size:=m1.1;have pt:=up g1.objs.size _ (by rw[hs];exact U1r (U0m hit)) (U0s _ rfl);refine U0 (U7p (U0c (U0c ⟨_,rfl,U0c ?_⟩)));rw[hs]at z6 pt ⊢;exact q g6 z6 pt λb o n x=>up b o n (U0a _ (m1.extBut _ _ n x))
def stop{Q:Option Value->Shared->Prop}(hh:A.handled=none)(hit:IsItemIter s.heap it d i es.size ep ok ov)(h1:s.heap.get? d=some od)(h2:od.data=.dict es ep)(hx:es[i]?=none)
  (q:∀h',U4u it s.heap h'->Q none { s with heap:=h' }):wpAny (model prog w) A (pyNext (.ref it)) Q E s:=by
 have T0:s.TypeIs (.ref it) "dict_itemiterator":=⟨_,hit,rfl⟩;unfold pyNext;refine U0 (U3t (wpAny_callSpecial?_slot (name:=U2w "__next__") T0 U3j (U1o U3j T0 F.entry_dict_itemiterator_next ?_ (F.args_dict_itemiterator_next_1 _))));refine U0 (U0c (U0 (U0 (U0 (U32 T0 (U0c (U0 (U7l hit rfl ?_))))))));rw[own,if_pos rfl];refine(show wpAny _ _ (if (U1c d==U2d)=true then _ else _) _ _ _ from ?_);rw[if_neg (show ¬(U1c d==U2d)=true from U05)];refine U0 (U0c (U0 (U37 h1 h2 ?_)));rw[if_neg (by simp)];refine U0 (U0c (U0 (U5y h1 h2 ?_)));rw[if_neg (by simp)];refine U0c ?_;simp only[Int.not_lt.mpr (Int.natCast_nonneg i),if_false,U2t,hx];refine U0 (U0 (U32 T0 (U0c ?_)));refine(show wpAny _ _ (setField (.ref it) 2 .none >>= _) _ _ s from U0 (U27 hit rfl (by simp) ?_));refine(show wpAny _ _ (newExc (.type "StopIteration") [] >>= _) _ _ _ from U0 ?_);simp only[newExc,newTuple];refine U0 (U1l ?_ (by size_fits));refine U0 (m:=firstArgMember _ _) (wpAny_of_eq (a:=U2d) (by first|rfl|(simp only[firstArgMember];rfl)) (U1l ?_ (by size_fits)));simp only[raiseNew];refine U0 (wpAny_handled ?_);rw[show A.in1.handled=none from hh];refine U0 (U0c (wpAny_throw ?_));refine U0 (U4c (T:="StopIteration") (b:=true) ⟨_,U0s _ rfl,rfl⟩ isSubtype_stop ?_);exact U0c (q _ (((U1x ..).extBut.push _).push _))
def view{Q:Value->Shared->Prop}(h1:s.heap.get? d=some od)(hc:od.cls=.type "dict")(hd:(d==sysModules)=false)
  (q:Q (.ref s.heap.objs.size) { s with heap:=s.heap.push { cls:=.type "dict_items",data:=.fields #[.ref d] } }):wpAny (model prog w) A (call (.builtin "dict.items") [.ref d]) Q E s:=by
 have T0:s.TypeIs (.ref d) "dict":=⟨_,h1,hc⟩;refine U1o F.slot_dict_items T0 F.entry_dict_items ?_ (F.args_dict_items_1 _);unfold Builtin.«dict.items»;refine U0 ?_;unfold Builtin.Dict.noArgs;refine U0 (U6v T0 ?_);refine(show wpAny _ _ (pure d) _ _ s from U0c (show wpAny _ _ (U6u d >>= _) _ _ s from ?_));unfold U6u;rw[hd];exact U0 (U0c (U0 (U1l (U0c ⟨_,rfl,q⟩))))
theorem iter{Q:Value->Shared->Prop}(hv:s.heap.IsItemsView v d)(h1:s.heap.get? d=some od)(h2:od.data=.dict es ep)
  (q:∀h',IsItemIter h' s.heap.objs.size d 0 es.size ep .none .none->(∀b o,s.heap.get? b=some o->h'.get? b=some o)->Q (.ref s.heap.objs.size) { s with heap:=h' }):wpAny (model prog w) A (pyIter (.ref v)) Q E s:=by
 obtain⟨o,hov,hcv,hdv⟩:=id hv;refine U6c hv.typeIs F.slot_dict_items_iter (U1o F.slot_dict_items_iter hv.typeIs F.entry_dict_items_iter ?_ (F.args_dict_items_iter_1 _));unfold Builtin.«dict_items.__iter__»;refine U0 (U0c (U0 ?_));unfold Builtin.Dict_items.dictOf;refine U0 (U1v hov hdv (x:=.ref d) rfl (U0c (U0 ?_)));unfold Builtin.Dict_items.newIterator;refine U0 (U37 h1 h2 (U0 (U5y h1 h2 ?_)));simp only[own,if_true];refine U1l (U0c ⟨_,rfl,"dict_itemiterator",_,⟨_,U0s _ rfl,rfl⟩,U3j.lookup,?_⟩) ?_
 .exact q _ (U0s _ rfl) λb o e=>U0a _ e
 .simp only[sizeOk,Builtin.Dict_items.ownedTupleFields,U0t,U0n,U0f,U0y,sizeLine_eq];omega
end
end HD
end
section
namespace L2
open PySem PySem.Spec PyProof.Rows
section
variable{X:Cx}{pins:List (Addr×Obj)}{Z3:St}{H:Hp}{s:Shared}{a:Addr}{kvs:List (List Key×V)}
def Inv.ice(I:Inv X pins Z3 H s)(e:H a=some (.dT kvs)):∃o,Inv X pins Z3 (upd H a (.frz o (.dT kvs))) s:=by obtain⟨z,y,xs,r,o,es,ep,h1,h2⟩:=(show Df X.prog X.w H s.heap a (.dT kvs) from I.hok a _ e);refine⟨o,Xr (t':=s.toks) I (by rw[e];exact U4q) (U76 ..) ⟨o,h1⟩ ⟨h1,z,y,xs,KT.keeps r λb ys q=>?_,o,es,ep,h1,h2⟩⟩;rw[Bt (uZ q e λz=>nomatch z)];exact q
def Iti(d:Addr)(o:Obj)(kvs:List (List Key×V)):It:=
 ⟨λi H=>H d=some (.frz o (.dT kvs))/\i<kvs.length,
  λi H v H'=>∃p b k x,H p=none/\v=.ref p/\kvs[i]?=some (k,x)/\H b=some (.tup (k.map kV))/\H'=upd H p (.tup [.ref b,x]),
  λi H=>H d=some (.frz o (.dT kvs))/\i=kvs.length⟩
theorem KT.get:∀{kvs:List (List Key×V)} {xs:List (List Key×Addr×Value)} {i:Nat} {k:List Key} {x:V},KT H kvs xs->kvs[i]?=some (k,x)->∃b u,xs[i]?=some (k,b,u)/\H b=some (.tup (k.map kV))/\RelV x u
 |_,_,_,_,_,.nil,h=>by simp at h
 |_,_,0,_,_,.cons (a:=p) (b:=q) r _,h=>by obtain⟨h1,h2,h3⟩:=r;simp only[List.getElem?_cons_zero,U1g.injEq]at h;subst h;obtain⟨q1,q2,q3⟩:=q;cases h1;exact⟨q2,q3,rfl,h2,h3⟩
 |_,_,i+1,_,_,.cons _ t,h=>by rw[U44]at h ⊢;exact KT.get t h
end
def j9{P:Program}{w:World}{K:U0e}{elts:List Expr}{x1:Nat}{pos:Pos}(d it:Addr)(o:Obj)(es:Array DictEntry)(ep:Nat)(kvs:List (List Key×V))(hd:o.data=.dict es ep)(hl:es.size=kvs.length) :
  Turn P w K (.Tuple elts x1 pos) (Iti d o kvs) [it] it (λi h=>∃ok ov,IsItemIter h it d i es.size ep ok ov) where
 mem:=by simp
 obj:=λi h st e he=>by obtain⟨ok,ov,h1⟩:=st;cases U0r.mp he;exact⟨_,h1,λv q=>by cases q⟩
 keep:=λi h h' st k=>by obtain⟨ok,ov,h1⟩:=st;exact⟨ok,ov,k it (by simp) _ h1⟩
 item:=by
  exact`zk;subst hP hw hK;obtain⟨hq,hi⟩:=hg;obtain⟨ok,ov,h1⟩:=st;obtain⟨g1,z,y,xs,r,o',es',ep',g2,g3,g4,g5,g6⟩:=(show Df X.prog X.w H s.heap d (.frz o (.dT kvs)) from I.hok d _ hq);rw[g1]at g2;cases g2;rw[hd]at g4;cases g4;obtain⟨⟨k,x⟩,hx⟩:∃y,kvs[i]?=some y:=⟨_,U0v hi⟩;obtain⟨b,u,e1,e2,e3⟩:=KT.get r hx;have ee:es[i]?=some (entryOfKey (tupleKind (Es X.prog X.w)) (k,b,u)):=by rw[entry_at g5,e1];rfl
  refine HD.nx h1 g1 hd ee λh' c1 c2 c3=>⟨_,rfl,?_⟩;refine wpAny_letOwnedTupleGo_items c1 λh2 c4 sb=>?_;have nz:s.heap.objs.size≠it:=U1r (U0m h1);have J:=I.iM (h':=h2) (t':=s.toks) (fp:=[it]) (x:=.ref b) (y:=x) (u:=.ref b) (v:=u) rfl e3 (sb.extBut _ _ nz c2) (λe q he z=>by
   have ne:e≠it:=λz=>he (by simp[z]);exact sb.extBut _ _ ne (c3 e q ne z)) hf (λe he=>by cases U0r.mp he;exact U0m h1)
  refine⟨.ref s.heap.objs.size,_,J,rfl,⟨_,b,k,x,I.hok.fresh (U0o _),rfl,hx,e2,rfl⟩,⟨_,_,c4⟩,λe he=>?_⟩;cases U0r.mp he;rw[Bt (U1n nz)];exact(hf it (by simp)).1
 done:=by exact`zk;subst hP hw hK;obtain⟨hq,hi⟩:=hg;obtain⟨ok,ov,h1⟩:=st;obtain⟨g1,_⟩:=(show Df X.prog X.w H s.heap d (.frz o (.dT kvs)) from I.hok d _ hq);refine HD.stop (I.ok.hd hc) h1 g1 hd (by rw[hi,←hl];simp) λh' eb=>⟨rfl,I.Uc (t':=s.toks) (fp:=[it]) (λe q he z=>eb e q (λz=>he (by simp[z])) z) hf⟩
 self:=λ_ _ _ _ _ ⟨_,_,h1⟩ h=>PySem.W.kcp_self h1 h
abbrev Jca(td:TE):TI:=λZ3 H R=>td Z3 H λx H1=>∃a kvs,x=.ref a/\H1 a=some (.dT kvs)/\∀o,R (Iti a o kvs) (upd H1 a (.frz o (.dT kvs)))
section
variable{X:Cx}
def qy{o:Expr}{td:TE}{apos cpos:Pos}{elts:List Expr}{x1:Nat}{tpos:Pos}(ho:PE X o td)(hbase:attributeBase o "items" X.env (eval o X.env)=eval o X.env:=by rfl)(hline:(apos.endLine==cpos.line)=true:=by rfl) :
  PI X (.Tuple elts x1 tpos) (.Call (.Attribute o "items" apos) [] [] cpos) (Jca td):=by
 intro pins s Z3 H R I h;refine wpAny_Call_method0_late hbase hline (thn (ho pins s Z3 H _ I h) λu s1 ⟨x,H1,I1,rx,a,kvs,ex,ha,q⟩=>?_);subst ex;obtain rfl:u=U1c a:=rx;obtain⟨t1,t2,hs⟩:=lN I1 (.inr ⟨kvs,.inl ha⟩);obtain⟨ob,I2⟩:=I1.ice ha;obtain⟨g1,z,y,xs,r,o',es,ep,g2,g3,g4,g5,g6⟩:=(show Df X.prog X.w _ s1.heap a (.frz ob (.dT kvs)) from I2.hok a _ CT);rw[g1]at g2;cases g2;have hl:es.size=kvs.length:=by rw[size_of_entries g5,U4j r]
 refine⟨"dict","dict.items",PySem.F.plainAttrs_dict,PySem.F.slot_dict_items,PySem.F.type_dict_items,t1,t2,U6k rfl (PySem.evalArgs_none ?_)⟩;refine HD.view g1 g3.1 hs (HD.iter (od:=ob) (es:=es) (ep:=ep) ⟨_,U0s _ rfl,rfl,rfl⟩ (U0a _ g1) g4 λh' c1 k=>?_);have k':∀b o,s1.heap.get? b=some o->h'.get? b=some o:=λb o e=>k b o (U0a _ e);have sz:s1.heap.objs.size<=(s1.heap.push { cls:=.type "dict_items",data:=.fields #[.ref a] }).objs.size:=by rw[U2c];exact U5e _
 refine⟨_,[_],_,_,_,rfl,I2.kept (t':=s1.toks) k',j9 a _ ob es ep kvs g4 hl,⟨_,_,c1⟩,λe he=>?_,q ob⟩;cases U0r.mp he;exact I2.Xa sz (I2.hok.fresh sz)
end
def W9(H:Hp):List Addr->List (List Key×V)->Prop:=Paired λp kv=>∃b,H p=some (.tup [.ref b,kv.2])/\H b=some (.tup (kv.1.map kV))
def mkT(kvs:List (List Key×V)):List (List Key×V):=kvs.foldl (λacc p=>putK acc p.1 p.2) []
def kI:List V->Hp->VK->Prop:=λxs H Q=>∃(a:Addr)(ps:List Addr)(kvs:List (List Key×V)),xs=[.ref a]/\H a=some (.lst (ps.map V.ref))/\W9 H ps kvs/\∀d,H d=none->Q (.ref d) (upd H d (.dT (mkT kvs)))
theorem YH:∀{ps:List Addr} {us:List Value},Vals (ps.map V.ref) us->us=ps.map U1c
 |[],_,r=>by cases r;rfl
 |p::ps,_,r=>by
  cases r with
  |cons h t=>rw[YH t,U0j];cases h;rfl
def pairs_at(ok:HOk P w H h)(r:W9 H ps kvs):∃xs,HD.Jw (Es P w) h h.objs.size ps xs/\KT H kvs xs:=by
 unfold W9 at r;induction r with
 |nil=>exact⟨[],.nil,.nil⟩
 |@cons p kv ps kvs q _ ih=>
  obtain⟨xs,i1,i2⟩:=ih;obtain⟨b,q1,q2⟩:=q;obtain⟨_,its,vs,o,ho,hc,m,hd⟩:=(show Df P w H h p (.tup [.ref b,kv.2]) from ok p _ q1);cases vs with|@cons _ u0 _ _ r0 r1=>
  cases r1 with|@cons _ u _ _ r2 r3=>
  cases r3;cases r0;have hk:=W5 ok q2;exact⟨(kv.1,b,u)::xs,.cons ⟨⟨o,m,ho,hc,hd⟩,hk,U0m ho,let ⟨_,_,_,e,_⟩:=hk;U0m e⟩ i1,.cons ⟨rfl,q2,r2⟩ i2⟩
theorem lC:∀{kvs:List (List Key×V)} {xs:List (List Key×Addr×Value)} {acc:List (List Key×V)} {ys:List (List Key×Addr×Value)},KT H kvs xs->KT H acc ys->KT H (kvs.foldl (λacc p=>putK acc p.1 p.2) acc) (HD.putAll ys xs)
 |_,_,_,_,.nil,t=>t
 |_,_,_,_,.cons (a:=p) (b:=q) r s,t=>by obtain⟨h1,h2,h3⟩:=r;unfold HD.putAll;rw[U2l,U2l];refine lC s ?_;rw[←h1];exact t.put p.1 h2 h3
theorem fU:∀(kvs acc:List (List Key×V)),(kvs.foldl (λacc p=>putK acc p.1 p.2) acc).length<=acc.length+kvs.length
 |[],acc=>U0o _
 |p::r,acc=>by have:=NK acc p.1 p.2;have:=fU r (putK acc p.1 p.2);rw[U2l,U0f];omega
def je(hc:X.calm=true)(hu:X.A.units+2<cLine):Eh X (.type "dict") kI:=by
 exact`zo;obtain⟨a,ps,kvs,rfl,ha,hp,q⟩:=h;cases r with|cons r0 r1=>
 cases r1;cases r0;obtain⟨z,its,n,vs,hl⟩:=I.hok a _ ha;have:=YH vs;subst this;obtain⟨xs,hx,kt⟩:=pairs_at I.hok hp;have hz:kvs.length<=sizeLine:=by rw[U0i]at z;rw[←U4j hp];exact z
 have hf:=I.hok.fresh (U0o s.heap.objs.size);refine HD.mk (kd:=Es X.prog X.w) (I.ok.hd hc) hu hl hx (by rw[←U4j kt];exact hz) λh' tk keep dd=>⟨.ref s.heap.objs.size,upd H s.heap.objs.size (.dT (mkT kvs)),I.laid (a:=s.heap.objs.size) (o:=.dT (mkT kvs)) (t':=tk) keep (U0o _) ?_,rfl,q _ hf⟩;obtain⟨o,es,ep,d1,d2,d3,d4,_,d5⟩:=dd;refine⟨U01 (fU kvs []) (by simpa using hz),beq_eq_false_iff_ne.mpr (U1n (U0u I.big)),_,KT.keeps (lC kt .nil) λb ys q=>?_,o,es,ep,d1,d2,d3,d4,d5⟩;rw[Bt (Ec q hf)];exact q
def isI:Option V->V->Bool
 |some (.int m),.int n=>n==m
 |_,_=>false
def eqT(ka kb:List (List Key×V)):Bool:=ka.length==kb.length&&ka.all λp=>isI (Dz kb p.1) p.2
def RZ(kvs:List (List Key×V)):Prop:=∀p∈kvs,∃n,p.2=V.int n
def za:R2:=λx y H Q=>∃a b ka kb,x=.ref a/\y=.ref b/\H a=some (.dT ka)/\H b=some (.dT kb)/\RZ ka/\RZ kb/\Q (.bl (eqT ka kb)) H
theorem Xn:∀{kvs:List (List Key×V)} {xs:List (List Key×Addr×Value)},KT H kvs xs->RZ kvs->HD.Zf xs
 |_,_,.nil,_=>λx hx=>nomatch hx
 |_,_,.cons (a:=p) (b:=q) r t,i=>λx hx=>by
  rcases U0q.mp hx with rfl|hx
  .obtain⟨n,hn⟩:=i p U0h;have:=r.2.2;rw[hn]at this;obtain⟨t,e⟩:=(show ∃t,_=U2v n t from this);exact⟨n,t,e⟩
  .exact Xn t (λp hp=>i p (U0k _ hp)) x hx
def aG{κ:Type}[DecidableEq κ]{kvs:List (κ×V)}{k:κ}{v:V}(h:Dz kvs k=some v):(k,v)∈kvs:=by unfold Dz at h;obtain⟨p,h1,h2⟩:=U19.mp h;have:=List.find?_some h1;have h3:p.1=k:=of_decide_eq_true this;subst h3 h2;exact List.mem_of_find?_eq_some h1
def Jcd{H:Hp}{kb:List (List Key×V)}{ys:List (List Key×Addr×Value)}(r:KT H kb ys)(ib:RZ kb){p:List Key×V}{q:List Key×Addr×Value}(h:p.1=q.1/\H q.2.1=some (.tup (p.1.map kV))/\RelV p.2 q.2.2)(hp:∃n,p.2=V.int n):isI (Dz kb p.1) p.2=HD.hit ys q:=by
 obtain⟨n,hn⟩:=hp;obtain⟨h1,_,h3⟩:=h;rw[hn]at h3;obtain⟨t,e⟩:=(show ∃t,_=U2v n t from h3);have rv:=r.val p.1;rw[hn];unfold HD.hit;rw[←h1,e];cases hv:Dz kb p.1 with
 |none=>
  rw[hv]at rv;cases ha:atKey ys p.1 with
  |none=>rfl
  |some z=>rw[ha]at rv;exact rv.elim
 |some v=>
  obtain⟨m,hm⟩:=ib _ (aG hv);dsimp only at hm;subst hm;rw[hv]at rv;cases ha:atKey ys p.1 with
  |none=>rw[ha]at rv;exact rv.elim
  |some z=>
   rw[ha]at rv;obtain⟨t',e'⟩:=(show ∃t,_=U2v m t from rv);show(n==m)=(HD.iv (U2v n t)==HD.iv z.2);rw[show z.2=U2v m t' from e'];rfl
theorem all_eq{H:Hp}{kb:List (List Key×V)}{ys:List (List Key×Addr×Value)}(r:KT H kb ys)(ib:RZ kb):∀{ka:List (List Key×V)} {xs:List (List Key×Addr×Value)},KT H ka xs->RZ ka->(ka.all λp=>isI (Dz kb p.1) p.2)=xs.all (HD.hit ys)
 |_,_,.nil,_=>rfl
 |_,_,.cons (a:=p) (b:=q) h t,i=>by rw[U7w,U7w,Jcd r ib h (i p U0h),all_eq r ib t λp hp=>i p (U0k _ hp)]
def Jbj(hu:X.A.units+1<cLine):OpR X (compareOp .Eq) za:=by
 exact`zh;obtain⟨a,b,ka,kb,rfl,rfl,ha,hb,ia,ib,q⟩:=h;obtain rfl:v=U1c a:=rx;obtain rfl:u=U1c b:=ry;obtain⟨_,sa,xs,ra,da⟩:=iu I.hok ha;obtain⟨_,sb,ys,rb,db⟩:=iu I.hok hb;refine HD.eqD sa sb (Nat.lt_of_succ_lt hu) hu da db (Xn ra ia) (Xn rb ib) ⟨.bl _,H,I,rfl,?_⟩;have e:eqT ka kb=(xs.length==ys.length&&xs.all (HD.hit ys)):=by unfold eqT;rw[all_eq rb ib ra ia,U4j ra,U4j rb]
 rw[←e];exact q
end L2
end
section
namespace VS
open PySem PySem.Spec L2
def Jcb(hr:FZ k A):A.units+2<cLine:=by have:=hr.units;omega
def uE:bootBuiltins "dict"=some (.type "dict"):=by decide +kernel
def MJ:List D->Option (List Key)
 |[]=>some []
 |.int i::r=>(MJ r).map (U5j i::·)
 |_=>none
def Ss:Key->D
 |.inl i=>.int i
 |.inr x=>.str x
def N5(S:Store):D->Option (List (List Key×V))
 |.dref i=>match S[i]? with|some (some [.dcm (.inr kvs)])=>some kvs|_=>none
 |.dcf (.inr kvs)=>some kvs
 |_=>none
section
variable{Γ:Fr}{μ:Mu}{Z3:St}{H:Hp}{env:Env}{S:Store}{v:V}{d:D}
theorem Ug:∀{ds:List D} {xs:List V} {k:List Key},VRs Γ μ H xs ds->MJ ds=some k->xs=k.map kV
 |[],_,_,.nil,e=>by cases e;rfl
 |.int i::r,_,_,.cons (x:=x) a t,e=>by obtain⟨l,e1,e2⟩:=map_some (show(MJ r).map (U5j i::·)=some _ from e);subst e2;cases a.inv;rw[Ug t e1];rfl
theorem Xo:∀(k:List Key),VRs Γ μ H (k.map kV) (k.map Ss)
 |[]=>.nil
 |.inl i::r=>.cons (.int i) (Xo r)
 |.inr x::r=>.cons (.str x) (Xo r)
theorem VR.N5(R:Rep Γ μ Z3 H env S)(r:VR Γ μ H v d)(h:VS.N5 S d=some kvs):∃a,v=.ref a/\H a=some (.dT kvs):=by
 cases d with
 |dref i=>
  simp only[VS.N5]at h;split at h
  .rename_i e;cases h;obtain⟨a,h1,_,h2⟩:=VR.iw R r e;exact⟨a,h1,h2⟩
  .cases h
 |dcf k=>
  cases k with
  |inl k=>cases h
  |inr k=>cases h;cases r with|dcf o n hb=>exact⟨_,rfl,hb⟩
 |_=>cases h
def Rep.kill(R:Rep Γ μ Z3 H env S)(hi:μ[i]?=some (some a))(hk:IsK H a)(ho:Dy o) :
  Rep Γ (μ.set i none) Z3 (upd H a o) env (S.set i none)/\Ext μ H (μ.set i none) (upd H a o)/\¬Cj (μ.set i none) a:=by
 have hl:Cj μ a:=U00 hi;have at':∀j b,(μ.set i none)[j]?=some (some b)->j≠i/\μ[j]?=some (some b):=λj b h=>by
  by_cases e:i=j
  .subst e;rw[U2p (U0l.mp hi).1]at h;cases h
  .rw[U2i e]at h;exact⟨U1n e,h⟩
 have lv:∀b,Cj (μ.set i none) b->Cj μ b:=λb h=>by obtain⟨j,hj⟩:=U26.mp h;exact U00 (at' j b hj).2
 have x:Ext μ H (μ.set i none) (upd H a o):=by
  refine⟨λb q h n=>⟨?_,λz=>n (lv b z)⟩,λb zs h=>?_,λb h=>?_,λj b _ h=>(at' j b h).2,by rw[U3p];exact U0o _,λb _ h=>?_,λb _ h=>?_⟩
  .rw[Bt (λz=>n (by rw[z];exact hl))];exact h
  .rw[Bt (λz=>hk.not (by rw[←z];exact h) (.inr ⟨_,rfl⟩))];exact h
  .by_cases hb:b=a
   .rw[hb,CT]at h;cases h
   .rw[Bt hb]at h;exact h
  .obtain⟨zs,h⟩:=h;exact⟨zs,by rw[Bt (λz=>hk.not (by rw[←z];exact h) (.inl ⟨_,rfl⟩))];exact h⟩
  .by_cases hb:b=a
   .subst hb;exact⟨o,CT,ho⟩
   .exact h.to λo q=>by rw[Bt hb];exact q
 refine⟨⟨λj d h=>?_,R.len,λj es h=>?_,λj b h=>?_,λj k b h1 h2=>R.inj j k b (at' j b h1).2 (at' k b h2).2,by rw[U3p,U3p];exact R.slen,R.ent.trans x,λj b hj h=>R.new j b hj (at' j b h).2⟩,x,λz=>?_⟩
 .obtain⟨v,h1,h2⟩:=R.vals j d h;exact⟨v,h1,h2.ext x⟩
 .have hj:i≠j:=λe=>by subst e;rw[U2p (by rw[R.slen];exact(U0l.mp hi).1)]at h;cases h
  rw[U2i hj]at h;obtain⟨b,h1,h2⟩:=R.sto j es h;refine⟨b,by rw[U2i hj];exact h1,h2.to x λq h=>?_⟩;rw[Bt (λz=>hj (R.inj i j a hi (by rw[←z];exact h1)))];exact h
 .obtain⟨hj,h⟩:=at' j b h;rw[U2i (U1n hj)];exact R.liv j b h
 .obtain⟨j,hj⟩:=U26.mp z;obtain⟨h1,h2⟩:=at' j a hj;exact h1 (R.inj j i a h2 hi)
end
def lQ:Bh:=λ_ S=>some (.dref S.length,S++[some [.dcm (.inr [])]])
def T6(o i t:Bh):Bh:=λenv S=>(o env S).bind λp=>if (N5 p.2 p.1).isSome=true then (i env p.2).bind λq=>(t env q.2).bind λr=>match q.1 with
 |.tup ks=>(MJ ks).bind λk=>(N5 r.2 p.1).bind λkvs=>match Dz kvs k with
  |some w=>(ofV w).map λd=>(d,r.2)
  |none=>some (r.1,r.2)
 |_=>none
 else none
def Zk(v o i:Bh):BP:=λenv S=>(v env S).bind λp=>(o env p.2).bind λq=>(i env q.2).bind λr=>match q.1,r.1 with
 |.dref j,.tup ks=>(MJ ks).bind λk=>(match r.2[j]? with
  |some (some [.dcm (.inr kvs)])=>if kvs.length<1000000 then (toV p.1).bind λw=>some (.nx,env,r.2.set j (some [.dcm (.inr (putK kvs k w))])) else none
  |_=>none)
 |_,_=>none
def PL:List (List Key×V)->Option (List D)
 |[]=>some []
 |(k,v)::r=>(ofV v).bind λd=>(PL r).map λl=>.tup [.tup (k.map Ss),d]::l
def Ui(o:Bh):Nz:=λenv S=>(o env S).bind λp=>match p.1 with
 |.dref j=>(match p.2[j]? with
  |some (some [.dcm (.inr kvs)])=>(PL kvs).map λds=>((ds,[]),p.2.set j none)
  |_=>none)
 |_=>none
def PB:List D->Option (List (List Key×V))
 |[]=>some []
 |.tup [.tup ks,v]::r=>(MJ ks).bind λk=>(toV v).bind λw=>(PB r).map λl=>(k,w)::l
 |_=>none
def PX(S:Store):List D->Option D
 |[d]=>(listOf S d).bind λds=>(PB ds).map λkvs=>.dcf (.inr (mkT kvs))
 |_=>none
def Lk:List (List Key×V)->Bool
 |[]=>true
 |(_,.int _)::r=>Lk r
 |_=>false
def pP(_:Store):D->D->Option D
 |.dcf (.inr a),.dcf (.inr b)=>if (Lk a&&Lk b)=true then some (.bl (eqT a b)) else none
 |_,_=>none
section
variable{X:Cx}{o i e f value:Expr}{pos pos' apos cpos:Pos}{fo fi fe fv ft:Bh}
def sW:JE X (.Dict [] [] pos) lQ:=⟨PE.imp rD λZ3 H Q w=>by
 obtain⟨Γ,μ,env,S,d,S',hK,R,e,q⟩:=w;cases e;intro p hp;obtain⟨R2,x2⟩:=R.uf (o:=.dT []) (ds:=[.dcm (.inr [])]) hp λ_ _ _ q=>.inr ⟨.inr [],rfl,q⟩;exact q _ _ _ x2 R2 (.dref (by rw[U0n,R.slen];simp) λa h=>by
  rw[R.slen]at h;simp at h;rw[←h];exact⟨rfl,.of (k:=.inr []) CT⟩)⟩
def sX(hu:X.A.units+1<cLine)(ho:JE X o fo)(he:JE X e fe)(hf:JE X f ft)(m:M2 X o "get" apos e f cpos):JE X (.Call (.Attribute o "get" apos) [e,f] [] cpos) (T6 fo fe ft):=⟨PE.imp (rE hu ho.pe he.pe hf.pe m) λZ3 H Q h=>by
 exact`zb;exact`zd;exact`ze;exact`qc;by_cases hd:(N5 S1 x).isSome=true
 .rw[if_pos hd]at e;obtain⟨⟨y,S2⟩,e2,e⟩:=bind_some e;obtain⟨⟨z,S3⟩,e3,e⟩:=bind_some e;obtain⟨k0,ek⟩:=U31.mp hd;obtain⟨a,rfl,ha⟩:=VR.N5 R1 r1 ek;refine⟨a,rfl,.inr ⟨k0,.inl ha⟩,?_⟩;exact`zw;refine⟨Γ,μ2,env,S2,z,S3,hK,R2,e3,λv3 μ3 H3 x3 R3 r3=>?_⟩;exact`qc;split at e
  .rename_i ks _;obtain⟨k,e5,e⟩:=bind_some e;obtain⟨kvs,e4,e⟩:=bind_some e;obtain⟨b,eb,hb⟩:=VR.N5 R3 (r1.ext (x2.trans x3)) e4;cases eb;obtain⟨c,xs,rfl,hc,rs⟩:=r2.inv;cases Ug rs e5;refine⟨_,Zd.t (k:=k) hb (x3.tups _ _ hc),?_⟩;split at e
   .rename_i w e6;obtain⟨d',e7,e⟩:=map_some e;cases e;rw[e6];exact q w μ3 H3 (x1.trans (x2.trans x3)) R3 (VR.ofV e7)
   .rename_i e6;cases e;rw[e6];exact q v3 μ3 H3 (x1.trans (x2.trans x3)) R3 r3
  .cases e
 .rw[if_neg hd]at e;cases e⟩
def rm(hu:X.A.units+1<cLine)(hv:JE X value fv)(ho:JE X o fo)(hi:JE X i fi)(hs:swapsWith value (some (.Subscript o i pos')) pos.line X.env=pure false:=by rfl) :
  JS X (.Assign [.Subscript o i pos'] value pos) (Zk fv fo fi):=⟨PS.imp (wK hu ho.pe hi.pe hv.pe hs) λE Z3 H h=>by
 exact`zr;exact`zd;obtain⟨⟨y,S2⟩,e2,e⟩:=bind_some e;obtain⟨⟨z,S3⟩,e3,e⟩:=bind_some e;exact`ze;exact`zw;refine⟨Γ,μ2,env,S2,z,S3,hK,R2,e3,λv3 μ3 H3 x3 R3 r3=>?_⟩;exact`qc;split at e
 .obtain⟨k,e5,e⟩:=bind_some e;split at e
  .rename_i kvs hd;by_cases hl:kvs.length<1000000
   .rw[if_pos hl]at e;obtain⟨w,e4,e⟩:=bind_some e;cases e;obtain⟨b,rfl,g1,g2⟩:=VR.iw R3 (r2.ext x3) hd;obtain⟨c,xs,rfl,hc,rs⟩:=r3.inv;cases Ug rs e5;have hw:=r1.toV e4;subst hw;obtain⟨R4,x4⟩:=R3.dput (k':=.inr (putK kvs k v1)) g1 g2;exact⟨b,_,rfl,Zc.t (k:=k) g2 hc (big (U2o hl)),q μ3 Z3 _ (x1.trans (x2.trans (x3.trans x4))) R4⟩
   .rw[if_neg hl]at e;cases e
  .cases e
 .cases e⟩
theorem Wd:∀{kvs:List (List Key×V)} {ds:List D} {i:Nat} {d:D},PL kvs=some ds->ds[i]?=some d->∃k v d',kvs[i]?=some (k,v)/\ofV v=some d'/\d=.tup [.tup (k.map Ss),d']
 |[],_,_,_,e,h=>by cases e;simp at h
 |(k,v)::r,_,i,_,e,h=>by
  obtain⟨d',e1,e⟩:=bind_some (show(ofV v).bind _=some _ from e);obtain⟨l,e2,e3⟩:=map_some e;subst e3;cases i with
  |zero=>simp at h;exact⟨k,v,d',rfl,e1,h.symm⟩
  |succ i=>
   rw[U44]at h ⊢;exact Wd e2 h
theorem Wc:∀{kvs:List (List Key×V)} {ds:List D},PL kvs=some ds->ds.length=kvs.length
 |[],_,e=>by cases e;rfl
 |(k,v)::r,_,e=>by obtain⟨d',e1,e⟩:=bind_some (show(ofV v).bind _=some _ from e);obtain⟨l,e2,e3⟩:=map_some e;subst e3;rw[U0f,U0f,Wc e2]
def sI(ho:JE X o fo)(hbase:attributeBase o "items" X.env (eval o X.env)=eval o X.env:=by rfl)(hline:(apos.endLine==cpos.line)=true:=by rfl) :
  JI X (.Tuple elts x1 tpos) (.Call (.Attribute o "items" apos) [] [] cpos) (Ui fo):=
 ⟨PI.imp (qy ho.pe hbase hline) λZ3 H Q h=>by
  obtain⟨Γ,μ,env,S,ds,w,S',hK,R,e,q⟩:=h;obtain⟨⟨d,S1⟩,e1,e⟩:=bind_some e;exact`qc;split at e
  .rename_i j;split at e
   .rename_i kvs hd;obtain⟨l,e2,e3⟩:=map_some e;cases e3;refine⟨Γ,μ,env,S,_,_,hK,R,e1,λv μ1 H1 x1 R1 r1=>?_⟩;obtain⟨a,rfl,g1,g2⟩:=VR.iw R1 r1 hd;refine⟨a,kvs,rfl,g2,λob=>?_⟩;obtain⟨R2,x2,nl⟩:=R1.kill (o:=.frz ob (.dT kvs)) g1 (.of g2) ⟨.inr kvs,.inr ⟨ob,rfl⟩⟩;have fz:∀μ' H',Ext (μ1.set j none) (upd H1 a (.frz ob (.dT kvs))) μ' H'->H' a=some (.frz ob (.dT kvs)):=fun μ' H' x=>(x.keep a _ CT nl).1;refine q _ _ _ (x1.trans x2) R2 ⟨λi d μ' H' ZZ env' S' hi x R' _=>?_,fun μ' H' ZZ env' S' x R' _=>⟨fz μ' H' x,Wc e2⟩⟩;obtain⟨k,y,d',h1,h2,rfl⟩:=Wd e2 hi;refine⟨⟨fz μ' H' x,(U0l.mp h1).1⟩,λz H'' yl=>?_⟩;obtain⟨p,b,k',y',hp,rfl,h3,h4,rfl⟩:=yl;rw[h1]at h3;cases h3;have sm:=DY hp (.tup [.ref b,y]);exact⟨sm,.tup CT (.cons (.tup (sm _ _ h4) (Xo k)) (.cons (VR.ofV h2) .nil))⟩
   .cases e
  .cases e⟩
def nQ:∀{ds:List D} {xs:List V} {kvs:List (List Key×V)},VRs Γ μ H xs ds->PB ds=some kvs->∃ps:List Addr,xs=ps.map V.ref/\W9 H ps kvs:=by
 intro ds;induction ds with
 |nil=>
  intro xs kvs r e;cases r;cases e;exact⟨[],rfl,.nil⟩
 |cons d ds ih=>
  intro xs kvs r e;unfold PB at e;split at e
  .rename_i z;cases z
  .rename_i ks v rr z;cases z;obtain⟨k,e1,e⟩:=bind_some e;obtain⟨w,e2,e⟩:=bind_some e;obtain⟨l,e3,e4⟩:=map_some e;subst e4;cases r with|cons r1 r2=>
   obtain⟨p,ys,rfl,hp,rp⟩:=r1.inv;cases rp with|cons p1 p2=>
   cases p2 with|cons p3 p4=>
   cases p4;obtain⟨b,zs,rfl,hb,rb⟩:=p1.inv;cases Ug rb e1;cases p3.toV e2;obtain⟨ps,rfl,h1⟩:=ih r2 e3;exact⟨p::ps,rfl,.cons ⟨b,hp,hb⟩ h1⟩
  .cases e
def mZ:Lg K kI PX:=by
 exact`zn;unfold PX at e;split at e
 .obtain⟨es,e0,e⟩:=bind_some e;obtain⟨kvs,e1,e2⟩:=map_some e;subst e2;obtain⟨v,rfl,r⟩:=rs.one;obtain⟨a,us,rfl,ha,ra⟩:=VR.list R r e0;obtain⟨ps,rfl,hp⟩:=nQ ra e1;refine⟨a,ps,kvs,rfl,ha,hp,λp hn=>?_⟩;exact q _ _ (DY hn _) (.dcf (R.ok hn false) (R.dead hn) CT)
 .cases e
theorem Vg:∀{kvs:List (List Key×V)},Lk kvs=true->RZ kvs
 |[],_=>λp hp=>nomatch hp
 |(k,.int n)::r,h=>λp hp=>by
  rcases U0q.mp hp with rfl|hp
  .exact⟨n,rfl⟩
  .exact Vg (show Lk r=true from h) p hp
def vf:G8 K za pP:=by
 exact`zl;unfold pP at e;split at e
 .rename_i a b;by_cases h:(Lk a&&Lk b)=true
  .rw[if_pos h]at e;cases e;rw[U1a]at h;obtain⟨p,rfl,hp⟩:=VR.N5 (S:=S) R rx rfl;obtain⟨p',rfl,hp'⟩:=VR.N5 (S:=S) R ry rfl;exact⟨p,p',a,b,rfl,rfl,hp,hp',Vg h.1,Vg h.2,q _ H (λ_ _ h=>h) (.bl _)⟩
  .rw[if_neg h]at e;cases e
 .cases e
end
end VS
end
section
namespace VS
def at1(bs:List (List St2))(i w:Nat):St2:=(bs.getD i []).getD w (0,0)
def inS(p:St2)(x:Int):Bool:=decide (p.1<=x)&&decide (x<p.2)
def Iw(bs:List (List St2))(w:Nat)(x:Int)(ns:List Nat):List Nat:=ns.filter λi=>inS (at1 bs i w) x
def steps(E:List Int):List St2:=E.zip E.tail
def Er(bs:List (List St2))(w:Nat)(ns:List Nat):List Int:=Ep (ns.map (λi=>(at1 bs i w).1)++ns.map (λi=>(at1 bs i w).2))
def DN(bs:List (List St2)):Nat->Nat->List Nat->List (List St2×List Nat)
 |0,_,ns=>if ns=[] then [] else [([],ns)]
 |k+1,w,ns=>if ns=[] then [] else (steps (Er bs w ns)).flatMap λp=>(DN bs k (w+1) (Iw bs w p.1 ns)).map λc=>(p::c.1,c.2)
def FT(g:Int->Int)(a:Int):Nat->Int
 |0=>0
 |n+1=>FT g a n+g (a+n)
def canon(bs:List (List St2))(F:List Nat->Int)(A:Int)(N:Nat):Nat->Nat->List Nat->Int
 |0,_,ns=>F ns
 |k+1,w,ns=>FT (λx=>canon bs F A N k (w+1) (Iw bs w x ns)) A N
def Ez:List St2->Int
 |[]=>1
 |p::r=>(p.2-p.1)*Ez r
def csum(F:List Nat->Int)(cs:List (List St2×List Nat)):Int:=(cs.map λc=>Ez c.1*F c.2).sum
theorem Vf(g:Int->Int)(a:Int)(m:Nat):∀n:Nat,FT g a (m+n)=FT g a m+FT g (a+m) n
 |0=>by simp[FT]
 |n+1=>by rw[show m+(n+1)=m+n+1 by lia,FT,Vf g a m n,FT,show a+((m+n:Nat):Int)=a+m+n by lia];lia
theorem Jx(g:Int->Int)(a v:Int):∀n:Nat,(∀x,a<=x->x<a+n->g x=v)->FT g a n=n*v
 |0,_=>by simp[FT]
 |n+1,h=>by rw[FT,Jx g a v n (λx h1 h2=>h x h1 (by lia)),h (a+n) (by lia) (by lia)];rw[show((n+1:Nat):Int)=n+1 by lia,Int.add_mul,U6n]
def Lr(a b:Int)(r:List Int):steps (a::b::r)=(a,b)::steps (b::r):=rfl
theorem J9:∀{E:List Int},E.Pairwise (·<·)->∀p∈steps E,p.1<p.2/\p.1∈E/\p.2∈E/\∀e∈E,e<=p.1∨p.2<=e
 |[],_,p,h=>by simp[steps]at h
 |[a],_,p,h=>by simp[steps]at h
 |a::b::r,hp,p,h=>by
  have hab:=(U1k.mp hp).1;have ht:=(U1k.mp hp).2;rw[Lr]at h;rcases U0q.mp h with z|z
  .subst z;refine⟨hab b U0h,by simp,by simp,λe he=>?_⟩;rcases U0q.mp he with q|q
   .left;show e<=a;lia
   .right;show b<=e;rcases U0q.mp q with q|q
    .lia
    .exact U8x ((U1k.mp ht).1 e q)
  .obtain⟨h1,h2,h3,h4⟩:=J9 ht p z;refine⟨h1,U0k _ h2,U0k _ h3,λe he=>?_⟩;rcases U0q.mp he with q|q
   .left;rw[q];exact U8x (hab _ h2)
   .exact h4 e q
def V7(E:List Int)(g:Int->Int):Int:=((steps E).map λp=>(p.2-p.1)*g p.1).sum
theorem YF(g:Int->Int)(B:Int):∀(r:List Int)(a:Int),(a::r).Pairwise (·<·)->(∀p∈steps (a::r),∀x,p.1<=x->x<p.2->g x=g p.1)->(∀x,(∀e∈a::r,e<=x)->g x=0)->(∀e∈a::r,e<=B)->V7 (a::r) g=FT g a (B-a).toNat
 |[],a,hp,hc,ho,hB=>by have:FT g a (B-a).toNat=(B-a).toNat*0:=Jx g a 0 _ λx h1 _=>ho x (by simpa using h1);rw[this];simp[V7,steps]
 |b::r,a,hp,hc,ho,hB=>by
  have hab:=(U1k.mp hp).1 b U0h;have ht:=(U1k.mp hp).2;have hb:=hB b (by simp);have ih:=YF g B r b ht (λp h=>hc p (by rw[Lr];exact U0k _ h)) (λx h=>ho x λe he=>by
   rcases U0q.mp he with q|q
   .have:=h b U0h;lia
   .exact h e q) λe he=>hB e (U0k _ he)
  have e1:(B-a).toNat=(b-a).toNat+(B-b).toNat:=ar3 hab hb;have e2:FT g a (b-a).toNat=(b-a).toNat*g a:=Jx g a (g a) _ λx h1 h2=>hc (a,b) (by rw[Lr];exact U0h) x h1 (by show x<b;lia);have e3:(((b-a).toNat:Nat):Int)=b-a:=by lia
  rw[e1,Vf,e2,e3,show a+(b-a)=b by lia,←ih];simp[V7,Lr]
def mR{E:List Int}{g:Int->Int}{A:Int}{N:Nat}(hp:E.Pairwise (·<·))(hc:∀p∈steps E,∀x,p.1<=x->x<p.2->g x=g p.1)(h0:∀x,(∀e∈E,x<e)->g x=0)(h1:∀x,(∀e∈E,e<=x)->g x=0)(hb:∀e∈E,A<=e/\e<=A+N):V7 E g=FT g A N:=by
 cases E with
 |nil=>
  have:FT g A N=N*0:=Jx g A 0 _ λx _ _=>h0 x λe he=>by simp at he
  rw[this];simp[V7,steps]
 |cons a r=>
  have ha:=hb a U0h;rw[YF g (A+N) r a hp hc h1 λe he=>(hb e he).2];have e1:N=(a-A).toNat+(A+N-a).toNat:=by lia
  have e2:FT g A (a-A).toNat=(a-A).toNat*0:=Jx g A 0 _ λx _ h2=>h0 x λe he=>by
   rcases U0q.mp he with q|q
   .lia
   .have:=(U1k.mp hp).1 e q;lia
  have e3:A+(((a-A).toNat:Nat):Int)=a:=by lia
  conv=>rhs;rw[e1,Vf,e2,e3]
  simp
theorem aP{Zp:Type}(F:List Nat->Int)(f:Zp->List (List St2×List Nat)):∀l:List Zp,csum F (l.flatMap f)=(l.map λp=>csum F (f p)).sum
 |[]=>rfl
 |a::l=>by rw[U24,csum,U2a,List.sum_append_int,U0j,U45,←aP F f l];rfl
theorem Yl(F:List Nat->Int)(p:St2):∀cs:List (List St2×List Nat),csum F (cs.map λc=>(p::c.1,c.2))=(p.2-p.1)*csum F cs
 |[]=>by simp[csum]
 |c::cs=>by have:=Yl F p cs;simp only[csum,U0j,U45]at this ⊢;rw[this,Ez,Int.mul_add,U8u]
def JB:x∈Ep ns↔x∈ns:=(U41 _ _).mem_iff.trans ((SetP.Ph ns).2.2 x)
def Rq(ns:List Int):(Ep ns).Pairwise (·<·):=by
 obtain⟨o1,o2,o3⟩:=SetP.Ph ns;have hp:(Ep ns).Perm (SetP.once ns):=U41 _ _;have hs:(Ep ns).Pairwise (·<=·):=by have:=U6 (le:=λa b:Int=>decide (a<=b)) (by intro a b c h1 h2;simp at *;lia) (by intro a b;simp;lia) (SetP.once ns);exact this.imp λh=>by simpa using h
 exact(hs.and (hp.nodup_iff.mpr o1)).imp λ⟨h,n⟩=>by lia
def QF(ns:List Int):(Ep ns).length<=ns.length:=by obtain⟨o1,o2,o3⟩:=SetP.Ph ns;have hp:(Ep ns).Perm (SetP.once ns):=U41 _ _;rw[hp.length_eq];lia
def Gh:inS p x=true↔p.1<=x/\x<p.2:=by simp[inS]
def cL(hp:E.Pairwise (·<·))(hE:∀i∈ns,(at1 bs i w).1∈E/\(at1 bs i w).2∈E):∀p∈steps E,∀x,p.1<=x->x<p.2->Iw bs w x ns=Iw bs w p.1 ns:=λp h x h1 h2=>by obtain⟨g1,g2,g3,g4⟩:=J9 hp p h;unfold Iw;refine U6e λi hi=>?_;rw[U28,Gh,Gh];have a1:=g4 _ (hE i hi).1;have a2:=g4 _ (hE i hi).2;lia
def bI(h:∀i∈ns,x<(at1 bs i w).1∨(at1 bs i w).2<=x):Iw bs w x ns=[]:=by unfold Iw;rw[List.filter_eq_nil_iff];intro i hi;rw[Gh];have:=h i hi;lia
theorem QX(hF:F []=0):∀k w,canon bs F A N k w []=0
 |0,_=>hF
 |k+1,w=>by have:FT (λx=>canon bs F A N k (w+1) (Iw bs w x [])) A N=N*0:=Jx _ A 0 N λx _ _=>QX hF k (w+1);rw[canon,this];simp
def Wide(bs:List (List St2))(A:Int)(N:Nat)(w k:Nat)(ns:List Nat):Prop:=∀i∈ns,∀v,w<=v->v<w+k->(at1 bs i v).1<(at1 bs i v).2/\A<=(at1 bs i v).1/\(at1 bs i v).2<=A+N
def Wide.sub(h:Wide bs A N w (k+1) ns)(hs:∀i∈ms,i∈ns):Wide bs A N (w+1) k ms:=λi hi v h1 h2=>h i (hs i hi) v (by lia) (by lia)
def jd{bs:List (List St2)}{F:List Nat->Int}{A:Int}{N k w:Nat}{ns:List Nat}(hF:F []=0)(hw:Wide bs A N w (k+1) ns){E:List Int}(hp:E.Pairwise (·<·))(hE:∀i∈ns,(at1 bs i w).1∈E/\(at1 bs i w).2∈E)(hb:∀e∈E,A<=e/\e<=A+N) :
  V7 E (λx=>canon bs F A N k (w+1) (Iw bs w x ns))=canon bs F A N (k+1) w ns:=by
 rw[canon];refine mR hp (λp h x h1 h2=>by rw[cL hp hE p h x h1 h2]) (λx h=>?_) (λx h=>?_) hb
 .rw[bI λi hi=>.inl (h _ (hE i hi).1),QX hF]
 .rw[bI λi hi=>.inr (h _ (hE i hi).2),QX hF]
def jW:∀i∈ns,(at1 bs i w).1∈Er bs w ns/\(at1 bs i w).2∈Er bs w ns:=λi hi=>
 ⟨JB.mpr (U10 _ (U7f hi)),JB.mpr (U04 _ (U7f hi))⟩
def oW(h:e∈Er bs w ns):∃i∈ns,e=(at1 bs i w).1∨e=(at1 bs i w).2:=by
 rcases U0x.mp (JB.mp h) with z|z
 .obtain⟨i,hi,e⟩:=U03.mp z;exact⟨i,hi,.inl e.symm⟩
 .obtain⟨i,hi,e⟩:=U03.mp z;exact⟨i,hi,.inr e.symm⟩
def Qn(hw:Wide bs A N w (k+1) ns):∀e∈Er bs w ns,A<=e/\e<=A+N:=λe he=>by obtain⟨i,hi,q⟩:=oW he;have:=hw i hi w (U0o _) (by lia);lia
theorem Wv(hF:F []=0):∀(k w:Nat)(ns:List Nat),Wide bs A N w k ns->csum F (DN bs k w ns)=canon bs F A N k w ns
 |0,w,ns,_=>by
  rw[DN,canon];by_cases h:ns=[]
  .rw[if_pos h,h,hF];rfl
  .rw[if_neg h];simp[csum,Ez]
 |k+1,w,ns,hw=>by
  rw[DN];by_cases h:ns=[]
  .rw[if_pos h,h,QX hF];rfl
  .rw[if_neg h,aP,←jd hF hw (Rq _) jW (Qn hw),V7];refine congrArg List.sum (U7c λp _=>?_);rw[Yl,Wv hF k (w+1) (Iw bs w p.1 ns) (hw.sub λi hi=>(U1t.mp hi).1)]
def mx(a b:Int):Int:=if a<b then b else a
def mn(a b:Int):Int:=if b<a then b else a
def clip(B p:St2):Int:=mx 0 (mn B.2 p.2-mx B.1 p.1)
theorem YX(B:St2)(v a:Int):∀n:Nat,FT (λx=>if inS B x then v else 0) a n=clip B (a,a+n)*v
 |0=>by
  have:clip B (a,a+(0:Nat))=0:=by unfold clip mx mn;simp only;split<;>split<;>split<;>omega
  rw[this];simp[FT]
 |n+1=>by
  rw[FT,YX B v a n];by_cases h:inS B (a+n)=true
  .have h':=Gh.mp h;have e:clip B (a,a+((n+1:Nat):Int))=clip B (a,a+(n:Int))+1:=by unfold clip mx mn;simp only;repeat (first|split|skip)<;>omega
   rw[if_pos h,e,Int.add_mul,U6n]
  .have h':¬(B.1<=a+n/\a+n<B.2):=λz=>h (Gh.mpr z);have e:clip B (a,a+((n+1:Nat):Int))=clip B (a,a+(n:Int)):=by unfold clip mx mn;simp only;repeat (first|split|skip)<;>omega
   rw[if_neg h,e,Int.add_zero]
def flt(w:Nat)(x:Int)(L:List (List St2)):List (List St2):=L.filter λb=>inS (b.getD w (0,0)) x
def one(L:List (List St2)):Int:=if L=[] then 0 else 1
def cv(A:Int)(N:Nat):Nat->Nat->List (List St2)->Int
 |0,_,L=>one L
 |k+1,w,L=>FT (λx=>cv A N k (w+1) (flt w x L)) A N
def Jb(p q:St2):St2:=(mx p.1 q.1,mn p.2 q.2)
def cap(B b:List St2):List St2:=(b.zip B).map λq=>Jb q.1 q.2
def S1(vs:List St2):Int:=((steps (Ep (vs.map (λp=>p.1)++vs.map λp=>p.2))).map λp=>(p.2-p.1)*(if vs.any (λv=>inS v p.1) then 1 else 0)).sum
theorem YW(f g:Int->Int)(a:Int):∀n:Nat,FT (λx=>f x+g x) a n=FT f a n+FT g a n
 |0=>rfl
 |n+1=>by rw[FT,FT,FT,YW f g a n];omega
def at2(x y:Int)(b:List St2):Bool:=inS (b.getD 0 (0,0)) x&&inS (b.getD 1 (0,0)) y
def Jfn(bs:List (List St2))(x y:Int):Nat:=(bs.filter (at2 x y)).length
structure In1(B:Int)(p:St2):Prop where
 r:p.1<p.2
 a:-B<=p.1
 b:p.2<=B
def J(φ:Nat->Int)(bs:List (List St2))(C:Nat):Int:=FT (λx=>FT (λy=>φ (Jfn bs x y)) (-C) (2*C)) (-C) (2*C)
def wS:Nat->List Int->Int
 |_,[]=>0
 |k,a::r=>((k:Int)+1)*a+wS (k+1) r
theorem bH(a:Int):∀n:Nat,FT (λ_=>0) a n=0
 |0=>rfl
 |n+1=>by rw[FT,bH a n];rfl
def ss(A:Int)(N:Nat):Nat->(List Int->Int)->Int
 |0,f=>f []
 |k+1,f=>FT (λx=>ss A N k λs=>f (x::s)) A N
def hol:Nat->List Int->List St2->Bool
 |_,[],_=>true
 |w,x::s,b=>inS (b.getD w (0,0)) x&&hol (w+1) s b
def cnt(L:List (List St2))(s:List Int):Nat:=(L.filter (hol 0 s)).length
def p1(m:Nat):Int:=if m=0 then 0 else 1
section
variable{A:Int}{N:Nat}
theorem JF:∀{k:Nat} {f g:List Int->Int},(∀s,s.length=k->f s=g s)->ss A N k f=ss A N k g
 |0,_,_,h=>h [] rfl
 |k+1,f,g,h=>by unfold ss;exact congrArg (λu=>FT u A N) (funext λx=>JF λs hs=>h (x::s) (by simp[hs]))
theorem eU:∀(k:Nat)(f g:List Int->Int),ss A N k (λs=>f s+g s)=ss A N k f+ss A N k g
 |0,_,_=>rfl
 |k+1,f,g=>by unfold ss;rw[←YW];exact congrArg (λu=>FT u A N) (funext λx=>eU k _ _)
theorem Xg:∀k:Nat,ss A N k (λ_=>0)=0
 |0=>rfl
 |k+1=>by unfold ss;rw[show(λx:Int=>ss A N k λ_=>0)=λ_=>0 from funext λ_=>Xg k,bH]
def Ja1(bs:List (List St2)):(U07 bs.length).map (λi=>bs.getD i [])=bs:=by refine List.ext_getElem (by simp) λi h1 h2=>?_;simp[U1b,h2]
theorem bW(φ:Nat->Int)(bs:List (List St2)):∀(k w:Nat)(ns:List Nat),canon bs (λns=>φ ns.length) A N k w ns=ss A N k λs=>φ (ns.filter λi=>hol w s (bs.getD i [])).length
 |0,w,ns=>by rw[canon,ss,show(ns.filter λi=>hol w [] (bs.getD i []))=ns from U7b.mpr λ_ _=>rfl]
 |k+1,w,ns=>by rw[canon,ss];refine congrArg (λu=>FT u A N) (funext λx=>?_);rw[bW φ bs k (w+1) _];refine JF λs _=>?_;rw[Iw,List.filter_filter];exact congrArg (λl:List Nat=>φ l.length) (U6e λi _=>Bool.and_comm ..)
def yR(bs:List (List St2))(s:List Int):((U07 bs.length).filter λi=>hol 0 s (bs.getD i [])).length=cnt bs s:=by
 unfold cnt;conv=>rhs;rw[←Ja1 bs,List.filter_map,U0i]
 rfl
def tY(φ:Nat->Int)(h0:φ 0=0)(hw:Wide bs A N 0 k (U07 bs.length)):csum (λns=>φ ns.length) (DN bs k 0 (U07 bs.length))=ss A N k λs=>φ (cnt bs s):=by rw[Wv (F:=λns=>φ ns.length) h0 k 0 _ hw,bW];exact JF λs _=>by rw[yR]
theorem jy(hb:∀p∈b,p.1<p.2/\A<=p.1/\p.2<=A+N):∀(k w:Nat),w+k=b.length->ss A N k (λs=>if hol w s b=true then 1 else 0)=Ez (b.drop w)
 |0,w,h=>by rw[List.drop_eq_nil_of_le (by omega)];rfl
 |k+1,w,h=>by
  have hw:w<b.length:=by omega
  obtain⟨p,hp⟩:∃p,b.getD w (0,0)=p:=⟨_,rfl⟩;have hp2:b[w]=p:=by rw[←hp,U1b,U0v hw];rfl
  obtain⟨q1,q2,q3⟩:=hb p (by rw[←hp2];exact U3d hw);rw[ss,show(λx:Int=>ss A N k λs=>if hol w (x::s) b=true then 1 else 0)=λx=>if inS p x then Ez (b.drop (w+1)) else 0 from funext λx=>?_,YX,U21 hw,hp2]
  .rw[Ez,show clip p (A,A+N)=p.2-p.1 by unfold clip mx mn;simp only;split<;>split<;>split<;>omega]
  .by_cases h:inS p x=true
   .rw[if_pos h,←jy hb k (w+1) (by omega)];refine JF λs _=>?_;rw[hol,hp,h,U5v]
   .rw[if_neg h];refine Eq.trans (JF λs _=>?_) (Xg (A:=A) (N:=N) k);rw[hol,hp,eq_false_of_ne_true h,U56,if_neg U05]
theorem cnt_cons(b:List St2)(L:List (List St2))(s:List Int):(cnt (b::L) s:Int)=(if hol 0 s b=true then 1 else 0)+(cnt L s:Int):=by
 unfold cnt;rw[U2z];split
 .rw[U0f];omega
 .omega
theorem aU:∀{L:List (List St2)},(∀b∈L,b.length=n/\∀p∈b,p.1<p.2/\A<=p.1/\p.2<=A+N)->ss A N n (λs=>(cnt L s:Int))=(L.map Ez).sum
 |[],_=>Xg n
 |b::L,h=>by rw[JF λs _=>cnt_cons b L s,eU,jy (h b (U0h ..)).2 n 0 (by rw[U51];exact(h b (U0h ..)).1.symm),aU λc hc=>h c (U0k _ hc)];rfl
end
end VS
end
section
namespace W42
open PySem L2 VS
def Wi:BP:=
 (CN (Nv (eCB Jc (Aa (Ab 0) (Aa (eC (.ty "int")) Af))) (gZ (eCB Jc (Aa (Ab 0) (Aa (eC (.ty "bool")) Af))))))
def Gs:Ca:=Dr 1 1 Wi
def Wn:BP:=
 (CN (Nv (Am Gs (Aa (Ab 0) Af)) (eUn (ZP Bc.D3) (Ab 0))))
def Ht:Ca:=Dr 1 1 Wn
def U9:BP:=
 (BZ (sIf (tOr (G7 (BX (eCB Jc (Aa (Ab 0) (Aa (eC (.ty "tuple")) Af))))) (BX (eOp (oEq true) (eCB DQ (Aa (Ab 0) Af)) (eC (.int 2)))))
  (CN (eC (.bl false)))
  Dp)
  (CN (Nv (Am Gs (Aa (eOp oIx (Ab 0) (eC (.int 0))) Af)) (Nv (Am Gs (Aa (eOp oIx (Ab 0) (eC (.int 1))) Af)) (eOp oLt (eOp oIx (Ab 0) (eC (.int 0))) (eOp oIx (Ab 0) (eC (.int 1))))))))
def Jy:Ca:=Dr 1 1 U9
def Td:CQ:=
 Ck 1 [] (Cz (Ab 1)) (Pat.sem (.nm 0)) Fd (Am Jy (Aa (Ab 0) Af))
def bJ:BP:=
 (BZ (sIf (tOr (G7 (BX (Am Ht (Aa (Ab 0) Af)))) (tOr (G7 (BX (eCB Jc (Aa (Ab 1) (Aa (eC (.ty "tuple")) Af))))) (BX (eOp (oEq true) (eCB DQ (Aa (Ab 1) Af)) (Ab 0)))))
  (CN (eC (.bl false)))
  Dp)
  (CN (eCB Il (Aa (Bk Td) Af))))
def Ls:Ca:=Dr 2 2 bJ
def Rv:CQ:=
 Ck 1 [1] (Cz (Ab 2)) (Pat.sem (.nm 0)) Fd (Am Ls (Aa (Ab 1) (Aa (Ab 0) Af)))
def Yg:BP:=
 (BZ (sIf (tOr (G7 (BX (eCB Jc (Aa (Ab 0) (Aa (eC (.ty "tuple")) Af))))) (BX (eOp (oEq true) (eCB DQ (Aa (Ab 0) Af)) (eC (.int 2)))))
  (CN (eC (.bl false)))
  Dp)
  (BZ (Ci 1 (eOp oIx (Ab 0) (eC (.int 0))))
  (BZ (Ci 2 (eOp oIx (Ab 0) (eC (.int 1))))
  (BZ (sIf (tOr (G7 (BX (Am Ht (Aa (Ab 1) Af)))) (tOr (G7 (BX (eCB Jc (Aa (Ab 2) (Aa (eC (.ty "list")) Af))))) (BX (eOp oGt (eCB DQ (Aa (Ab 2) Af)) (eUn (W4 Bc.D3) (Ab 1))))))
  (CN (eC (.bl false)))
  Dp)
  (CN (eCB Il (Aa (Bk Rv) Af)))))))
def N8:Ca:=Dr 1 3 Yg
def Uw:BP:=
 (sIf (G7 (BX (Am N8 (Aa (Ab 0) Af))))
  Qt
  Dp)
def Dc:Ca:=Dr 1 1 Uw
def Pq:CQ:=
 Ck 1 [] (Cz (Ab 1)) (Pat.sem (.nm 0)) Fd (Am Gs (Aa (Ab 0) Af))
def Uv:BP:=
 (sIf (tOr (G7 (BX (eCB Jc (Aa (Ab 1) (Aa (eC (.ty "tuple")) Af))))) (tOr (BX (eOp (oEq true) (eCB DQ (Aa (Ab 1) Af)) (eOp oIx (Ab 0) (eC (.int 0))))) (G7 (BX (eCB Il (Aa (Bk Pq) Af))))))
  Qt
  Dp)
def JM:Ca:=Dr 2 2 Uv
def R8:BP:=
 (BZ (sIf (tOr (G7 (BX (Am Gs (Aa (Ab 1) Af)))) (tOr (BX (eOp oLt (Ab 1) (eC (.int 0)))) (BX (eOp oGe (Ab 1) (eCB DQ (Aa (eOp oIx (Ab 0) (eC (.int 1))) Af))))))
  Qt
  Dp)
  (CN (eOp oIx (eOp oIx (Ab 0) (eC (.int 1))) (Ab 1))))
def JL:Ca:=Dr 2 2 R8
def Qq:BP:=
 (Ci 1 (eOp Hx (Ab 1) (eOp G6 (Ab 3) (Ab 2))))
def Qp:BP:=
 K4 (Cz (Ab 0)) (Pat.sem (.tp [(.nm 2),(.nm 3)]))
  Qq
def Wm:BP:=
 (BZ (Ci 1 (eC (.int 1)))
  (BZ Qp
  (CN (Ab 1))))
def Jt:Ca:=Dr 1 4 Wm
def Vh:CQ:=
 Ck 2 [] (ZD (Aa (Ab 0) (Aa (Ab 1) Af))) (Pat.sem (.tp [(.nm 0),(.nm 1)])) Fd (PN oLe oLt (eOp oIx (Ab 0) (eC (.int 0))) (Ab 1) (eOp oIx (Ab 0) (eC (.int 1))))
def gA:BP:=
 (CN (eCB Il (Aa (Bk Vh) Af)))
def QH:Ca:=Dr 2 2 gA
def Ye:BP:=
 (BZ (Ge (Am Dc (Aa (Ab 0) Af)))
  (CN (Am Jt (Aa (Am JL (Aa (Ab 0) (Aa (Ab 1) Af))) Af))))
def N7:Ca:=Dr 2 2 Ye
def Qo:CQ:=
 Ck 2 [1] (W7 (Aa (eOp oIx (Ab 0) (eC (.int 1))) Af)) (Pat.sem (.tp [(.nm 0),(.nm 1)])) (BX (Am QH (Aa (Ab 1) (Aa (Ab 2) Af)))) (Ab 0)
def Wk:BP:=
 (BZ (Ge (Am Dc (Aa (Ab 0) Af)))
  (BZ (Ge (Am JM (Aa (Ab 0) (Aa (Ab 1) Af))))
  (CN (Bk Qo))))
def M4:Ca:=Dr 2 2 Wk
def Uy:BP:=
 (CN (eCB DQ (Aa (Am M4 (Aa (Ab 0) (Aa (Ab 1) Af))) Af)))
def IV:Ca:=Dr 2 2 Uy
def O5:CQ:=
 Ck 1 [1] (Cz (Ab 0)) (Pat.sem (.nm 0)) Fd (eOp oIx (eOp oIx (Ab 0) (Ab 1)) (eC (.int 0)))
def O4:CQ:=
 Ck 1 [1] (Cz (Ab 0)) (Pat.sem (.nm 0)) Fd (eOp oIx (eOp oIx (Ab 0) (Ab 1)) (eC (.int 1)))
def UG:BP:=
 (CN (Rj (eOp Bo (Bk O5) (Bk O4))))
def J8:Ca:=Dr 2 2 UG
def O1:BP:=
 (BZ (Ci 2 (Am J8 (Aa (Ab 0) (Aa (Ab 1) Af))))
  (CN (Vj (Aa (Ab 2) (Aa (eSl oSl (Ab 2) (FJ (eC (.int 1))) FN) Af)))))
def Ed:Ca:=Dr 2 3 O1
def Ka(rec:Ca):CQ:=
 Ck 1 [0] (Cz (Ab 1)) (Pat.sem (.nm 0)) Fd (eOp oIx (Ab 1) (Ab 0))
def KZ(rec:Ca):CQ:=
 Ck 1 [0,2,5] (Cz (Ab 1)) (Pat.sem (.nm 0)) (BX (PN oLe oLt (eOp oIx (eOp oIx (eOp oIx (Ab 1) (Ab 0)) (Ab 2)) (eC (.int 0))) (Ab 3) (eOp oIx (eOp oIx (eOp oIx (Ab 1) (Ab 0)) (Ab 2)) (eC (.int 1))))) (Ab 0)
def Kd(rec:Ca):BP:=
 (Ge (Jv Hh (Ab 4) (Aa (Di (Aa (eOp Bo (Di (Aa (Di (Aa (Ab 5) (Aa (Ab 6) Af))) Af)) (Ab 8)) (Aa (Ab 9) Af))) Af)))
def O7(rec:Ca):BP:=
 K4 (Cz (Am rec (Aa (Ab 0) (Aa (Ab 7) (Aa (eOp Bo (Ab 2) (eC (.int 1))) (Aa (Ab 3) Af)))))) (Pat.sem (.tp [(.nm 8),(.nm 9)]))
  (Kd rec)
def Kc(rec:Ca):BP:=
 (BZ (Ci 7 (Bk (KZ rec)))
  (O7 rec))
def O6(rec:Ca):BP:=
 K4 (Cz (Am Ed (Aa (Bk (Ka rec)) (Aa (Ab 2) Af)))) (Pat.sem (.tp [(.nm 5),(.nm 6)]))
  (Kc rec)
def M8(rec:Ca):BP:=
 (BZ (sIf (BX (eOp (oEq false) (eCB DQ (Aa (Ab 1) Af)) (eC (.int 0))))
  (CN (Bk Af))
  Dp)
  (BZ (sIf (BX (eOp (oEq false) (Ab 2) (Ab 3)))
  (CN (Bk (Aa (Di (Aa (Di Af) (Aa (Ab 1) Af))) Af)))
  Dp)
  (BZ (Ci 4 (Ld Af))
  (BZ (O6 rec)
  (CN (Ab 4))))))
def Dq:Nat->Ca
 |0=>λ_=>none
 |n+1=>Dr 4 10 (M8 (Dq n))
def Wj:BP:=
 (CN (Am (Dq 4) (Aa (eOp oIx (Ab 0) (eC (.int 1))) (Aa (Ii (Aa (eCB DQ (Aa (eOp oIx (Ab 0) (eC (.int 1))) Af)) Af)) (Aa (eC (.int 0)) (Aa (eOp oIx (Ab 0) (eC (.int 0))) Af))))))
def J6:Ca:=Dr 1 1 Wj
def Kq:CQ:=
 Ck 2 [] (Cz (Ab 0)) (Pat.sem (.tp [(.nm 0),(.nm 1)])) Fd (Am Jt (Aa (Ab 0) Af))
def Qc:BP:=
 (CN (eCB VD (Aa (Bk Kq) Af)))
def HN:Ca:=Dr 1 1 Qc
def M9:CQ:=
 Ck 1 [1,2] (Cz (Ab 0)) (Pat.sem (.nm 0)) (BX (PN oLe oLt (eOp oIx (eOp oIx (Ab 0) (Ab 1)) (eC (.int 0))) (Ab 2) (eOp oIx (eOp oIx (Ab 0) (Ab 1)) (eC (.int 1))))) (Ab 0)
def Pu:CQ:=
 Ck 1 [1] (Cz (Ab 3)) (Pat.sem (.nm 0)) Fd (eOp Bo (eSl oSl (Ab 0) FN (FJ (Ab 1))) (eSl oSl (Ab 0) (FJ (eOp Bo (Ab 1) (eC (.int 1)))) FN))
def Uz:BP:=
 (BZ (Ci 3 (Bk M9))
  (CN (Bk Pu)))
def Fv:Ca:=Dr 3 4 Uz
def Je:BP:=
 (sIf (Nu (BX (eOp oGt (eCB DQ (Aa (Ab 1) Af)) (eC (.int 0)))) (Nu (BX (eOp (oEq false) (eOp oIx (eOp oIx (Ab 1) (eUn HS (eC (.int 1)))) (eC (.int 1))) (Ab 2))) (BX (eOp (oEq false) (eOp oIx (eOp oIx (Ab 1) (eUn HS (eC (.int 1)))) (eC (.int 2))) (Ab 4)))))
  (Qs (Di (Aa (eOp oIx (eOp oIx (Ab 1) (eUn HS (eC (.int 1)))) (eC (.int 0))) (Aa (Ab 3) (Aa (Ab 4) Af)))) (Ab 1) (eUn HS (eC (.int 1))))
  (Ge (Jv Hh (Ab 1) (Aa (Di (Aa (Ab 2) (Aa (Ab 3) (Aa (Ab 4) Af)))) Af))))
def MF:BP:=
 K4 (Cz (Ab 0)) (Pat.sem (.tp [(.nm 2),(.nm 3),(.nm 4)]))
  Je
def R9:BP:=
 (BZ (Ci 1 (Ld Af))
  (BZ MF
  (CN (Ab 1))))
def Gk:Ca:=Dr 1 5 R9
def jV:BP:=
 (CN (Ab 0))
def Js:Ca:=Dr 2 2 jV
def Vt:BP:=
 (CN (Nv (Ab 0) (gZ (Ab 1))))
def Gv:Ca:=Dr 2 2 Vt
def oU:BP:=
 (CN (Nv (Ab 0) (Ab 1)))
def KC:Ca:=Dr 2 2 oU
def RV(fa:Nat->Addr):Tab
 |0=>some (fa 0,Js)
 |1=>some (fa 1,Gv)
 |2=>some (fa 2,KC)
 |_=>none
def Mt(fa:Nat->Addr)(rec:Ca):BP:=
 (BZ (Ci 7 (Am rec (Aa (Ab 0) (Aa (Am Fv (Aa (Ab 1) (Aa (eC (.int 0)) (Aa (Ab 5) Af)))) (Aa (Am Fv (Aa (Ab 2) (Aa (eC (.int 0)) (Aa (Ab 5) Af)))) (Aa (eOp G6 (Ab 3) (eC (.int 1))) Af))))))
  (Ge (Jv Hh (Ab 4) (Aa (Di (Aa (Ab 5) (Aa (Ab 6) (Aa (Ab 7) Af)))) Af))))
def Mq(fa:Nat->Addr)(rec:Ca):BP:=
 K4 (Cz (Am Ed (Aa (eOp Bo (Ab 1) (Ab 2)) (Aa (eC (.int 0)) Af)))) (Pat.sem (.tp [(.nm 5),(.nm 6)]))
  (Mt fa rec)
def Mr(fa:Nat->Addr)(rec:Ca):CQ:=
 Ck 1 [5,6] (Cz (Ab 7)) (Pat.sem (.nm 0)) Fd (eOp Bo (Di (Aa (Di (Aa (Ab 1) (Aa (Ab 2) Af))) Af)) (Ab 0))
def Ms(fa:Nat->Addr)(rec:Ca):BP:=
 (Ge (Jv Qz (Ab 8) (Aa (Bk (Mr fa rec)) Af)))
def Mp(fa:Nat->Addr)(rec:Ca):BP:=
 K4 (Cz (T8 Gk (Aa (Ab 4) Af))) (Pat.sem (.tp [(.nm 5),(.nm 6),(.nm 7)]))
  (Ms fa rec)
def O2(fa:Nat->Addr)(rec:Ca):BP:=
 (BZ (sIf (BX (eOp (oEq false) (Ab 3) (eC (.int 0))))
  (CN (eIf (BX (T7 0 (RV fa) (Aa (eOp oGt (eCB DQ (Aa (Ab 1) Af)) (eC (.int 0))) (Aa (eOp oGt (eCB DQ (Aa (Ab 2) Af)) (eC (.int 0))) Af)))) (Bk (Aa (Di Af) Af)) (Bk Af)))
  Dp)
  (BZ (Ci 4 (Ld Af))
  (BZ (Mq fa rec)
  (BZ (Ci 8 (Ld Af))
  (BZ (Mp fa rec)
  (CN (Ab 8)))))))
def CP(fa:Nat->Addr):Nat->Ca
 |0=>λ_=>none
 |n+1=>Dr 4 9 (O2 fa (CP fa n))
def Tz(fa:Nat->Addr):BP:=
 (BZ (Ge (Am Dc (Aa (Ab 0) Af)))
  (CN (Am (CP fa 4) (Aa (eC (.fn (fa 0) 0)) (Aa (eOp oIx (Ab 0) (eC (.int 1))) (Aa (Bk Af) (Aa (eOp oIx (Ab 0) (eC (.int 0))) Af)))))))
def DR(fa:Nat->Addr):Ca:=Dr 1 1 (Tz fa)
def Uq:CQ:=
 Ck 2 [2] (Cz (Ab 1)) (Pat.sem (.tp [(.nm 0),(.nm 1)])) Fd (Di (Aa (eOp Bo (Ab 0) (Di (Aa (Ab 2) Af))) (Aa (Ab 1) Af)))
def Uo:CQ:=
 Ck 2 [3] (Cz (Ab 1)) (Pat.sem (.tp [(.nm 0),(.nm 1)])) Fd (Di (Aa (eOp Bo (Ab 0) (Di (Aa (Ab 2) Af))) (Aa (eUn HS (Ab 1)) Af)))
def O9:BP:=
 (BZ (Ci 4 (Bk Uq))
  (Ci 1 (eOp Bo (Ab 4) (Bk Uo))))
def K6:BP:=
 K4 (Cz (Ab 0)) (Pat.sem (.tp [(.nm 2),(.nm 3)]))
  O9
def Vs:BP:=
 (BZ (Ci 1 (Bk (Aa (Di (Aa (Di Af) (Aa (eC (.int 1)) Af))) Af)))
  (BZ K6
  (CN (Ab 1))))
def Gu:Ca:=Dr 1 5 Vs
def K1:BP:=
 (Zk (eOp Bo (T6 (Ab 1) (Ab 3) (eC (.int 0))) (Ab 4)) (Ab 1) (Ab 3))
def Mw:BP:=
 K4 (Cz (Am Gu (Aa (Ab 2) Af))) (Pat.sem (.tp [(.nm 3),(.nm 4)]))
  K1
def RJ:BP:=
 Mw
def Mv:BP:=
 K4 (Cz (Ab 0)) (Pat.sem (.nm 2))
  RJ
def Jz:CQ:=
 Ck 2 [] (Ui (Ab 1)) (Pat.sem (.tp [(.nm 0),(.nm 1)])) (BX (eOp (oEq true) (Ab 1) (eC (.int 0)))) (Di (Aa (Ab 0) (Aa (Ab 1) Af)))
def Z5:BP:=
 (BZ (Ci 1 lQ)
  (BZ Mv
  (CN (eCB PX (Aa (Bk Jz) Af)))))
def HF:Ca:=Dr 1 5 Z5
def IW(fa:Nat->Addr):CQ:=
 Ck 1 [0] (Cz (Ab 1)) (Pat.sem (.nm 0)) Fd (Am Ls (Aa (eOp oIx (Ab 1) (eC (.int 0))) (Aa (Ab 0) Af)))
def cO(fa:Nat->Addr):BP:=
 (BZ (Ge (Am Dc (Aa (Ab 0) Af)))
  (BZ (sIf (tOr (G7 (BX (eCB Jc (Aa (Ab 1) (Aa (eC (.ty "list")) Af))))) (G7 (BX (eCB Il (Aa (Bk (IW fa)) Af)))))
  (CN (eC (.bl false)))
  Dp)
  (CN (eOp pP (Am HF (Aa (Ab 1) Af)) (Am HF (Aa (Am (DR fa) (Aa (Ab 0) Af)) Af))))))
def Hi(fa:Nat->Addr):Ca:=Dr 2 2 (cO fa)
def Q0:BP:=
 (BZ (Ge (Am Dc (Aa (Ab 0) Af)))
  (BZ (Ge (Am Dc (Aa (Ab 1) Af)))
  (sIf (BX (eOp (oEq true) (eOp oIx (Ab 0) (eC (.int 0))) (eOp oIx (Ab 1) (eC (.int 0)))))
  Qt
  Dp)))
def G4:Ca:=Dr 2 2 Q0
def SM(fa:Nat->Addr):BP:=
 (BZ (Ge (Am G4 (Aa (Ab 0) (Aa (Ab 1) Af))))
  (CN (eOp (oEq false) (Am (DR fa) (Aa (Ab 0) Af)) (Am (DR fa) (Aa (Ab 1) Af)))))
def Ij(fa:Nat->Addr):Ca:=Dr 2 2 (SM fa)
def OD(fa:Nat->Addr):BP:=
 (BZ (Ge (Am G4 (Aa (Ab 0) (Aa (Ab 1) Af))))
  (CN (Am (CP fa 4) (Aa (eC (.fn (fa 1) 1)) (Aa (eOp oIx (Ab 0) (eC (.int 1))) (Aa (eOp oIx (Ab 1) (eC (.int 1))) (Aa (eOp oIx (Ab 0) (eC (.int 0))) Af)))))))
def Ey(fa:Nat->Addr):Ca:=Dr 2 2 (OD fa)
def RG(fa:Nat->Addr):BP:=
 (BZ (Ge (Am G4 (Aa (Ab 0) (Aa (Ab 1) Af))))
  (CN (Am (CP fa 4) (Aa (eC (.fn (fa 2) 2)) (Aa (eOp oIx (Ab 0) (eC (.int 1))) (Aa (eOp oIx (Ab 1) (eC (.int 1))) (Aa (eOp oIx (Ab 0) (eC (.int 0))) Af)))))))
def Fb(fa:Nat->Addr):Ca:=Dr 2 2 (RG fa)
def RD:BP:=
 (BZ (Ge (Am Dc (Aa (Ab 0) Af)))
  (CN (Am HN (Aa (Am J6 (Aa (Ab 0) Af)) Af))))
def Gm:Ca:=Dr 1 1 RD
def Wg:BP:=
 (BZ (sIf (BX (eOp oGe (Ab 0) (eOp Fq (eC (.int 10)) (eC (.int 18)))))
  (CN (Bk (Aa (Ab 0) (Aa (eOp oMod (Ab 0) (eC (.int 2147483629))) Af))))
  Dp)
  (CN (Bk (Aa (eC (.int 0)) (Aa (eOp oMod (Ab 0) (eC (.int 2147483629))) Af)))))
def Jp:Ca:=Dr 1 1 Wg
def Ry:BP:=
 (BZ (sIf (BX (eOp oGt (eOp oIx (Ab 0) (eC (.int 0))) (eC (.int 0))))
  (BZ (Ci 2 (eOp oMod (eOp oIx (Ab 0) (eC (.int 0))) (Ab 1)))
  (BZ (Qs (eOp oDiv (eOp oIx (Ab 0) (eC (.int 0))) (Ab 1)) (Ab 0) (eC (.int 0)))
  (CN (Ab 2))))
  Dp)
  (BZ (Ci 3 (eOp oMod (eOp Bo (eOp Hx (eOp oIx (Ab 0) (eC (.int 1))) (eC (.int 48271))) (eC (.int 11))) (eC (.int 2147483647))))
  (BZ (Ci 3 (eOp oMod (eOp Hx (Ab 3) (Ab 3)) (eC (.int 2147483587))))
  (BZ (Qs (eOp oMod (eOp Bo (eOp Hx (Ab 3) (eC (.int 69621))) (eC (.int 40692))) (eC (.int 2147483629))) (Ab 0) (eC (.int 1)))
  (CN (eOp oMod (eOp Hx (eOp oDiv (eOp oIx (Ab 0) (eC (.int 1))) (eC (.int 8))) (eOp oIx (Bk (Aa (eC (.int 1)) (Aa (eC (.int 8191)) Af))) (eCB ZX (Aa (eOp oGt (Ab 1) (eOp Fq (eC (.int 10)) (eC (.int 6)))) Af)))) (Ab 1)))))))
def Ar:Li:=runM 2 4 Ry
def Pr:CQ:=
 Ck 1 [0] (Fz (Aa (eOp Bo (eC (.int 2)) (Ab 1)) Af)) (Pat.sem (.nm 0)) Fd (eOp G6 (Bq Ar (Aa (Ab 1) (Aa (eOp Bo (eOp Hx (eC (.int 2)) (eOp Fq (eC (.int 10)) (eC (.int 9)))) (eC (.int 1))) Af))) (eOp Fq (eC (.int 10)) (eC (.int 9))))
def JZ:BP:=
 (BZ (Ci 2 (eOp Bo (eOp G6 (Bq Ar (Aa (Ab 0) (Aa (eOp G6 (eOp Hx (eC (.int 2)) (eOp Fq (eC (.int 10)) (eC (.int 9)))) (eC (.int 20))) Af))) (eOp Fq (eC (.int 10)) (eC (.int 9)))) (eC (.int 10))))
  (BZ (Ci 3 (Bq Ar (Aa (Ab 0) (Aa (eC (.int 5)) Af))))
  (BZ (sIf (BX (eOp oLt (Ab 3) (eC (.int 2))))
  (CN (eOp oIx (Bk (Aa (Ii (Aa (eC (.int 7)) Af)) (Aa (Ii (Aa (eUn HS (eC (.int 3))) (Aa (eC (.int 4)) Af))) Af))) (Ab 3)))
  Dp)
  (BZ (sIf (BX (eOp (oEq false) (Ab 3) (eC (.int 2))))
  (CN (Ii (Aa (Ab 2) (Aa (eOp Bo (Ab 2) (eC (.int 6))) Af))))
  Dp)
  (BZ (Ci 4 (Bk Pr))
  (BZ (sIf (BX (eOp (oEq false) (Ab 3) (eC (.int 3))))
  (Ci 4 (eOp Bo (Ab 4) (Bk (Aa (eUn HS (eOp Fq (eC (.int 10)) (eC (.int 9)))) (Aa (eOp Fq (eC (.int 10)) (eC (.int 9))) Af)))))
  Dp)
  (CN (Rj (eOp Bo (Ab 4) (Bk (Aa (Ab 2) (Aa (eOp Bo (Ab 2) (eC (.int 1))) Af))))))))))))
def Ft:Li:=runM 2 5 JZ
def SJ:BP:=
 (BZ (Ci 2 (Bq Ar (Aa (Ab 0) (Aa (eOp G6 (eCB DQ (Aa (Ab 1) Af)) (eC (.int 1))) Af))))
  (CN (Di (Aa (eOp oIx (Ab 1) (Ab 2)) (Aa (eOp oIx (Ab 1) (eOp Bo (eOp Bo (Ab 2) (eC (.int 1))) (Bq Ar (Aa (Ab 0) (Aa (eOp G6 (eOp G6 (eCB DQ (Aa (Ab 1) Af)) (eC (.int 1))) (Ab 2)) Af))))) Af)))))
def Gz:Li:=runM 2 3 SJ
def Ql:CQ:=
 Ck 1 [] (Cz (Ab 1)) (Pat.sem (.nm 0)) Fd (Di (Aa (eOp oIx (Ab 0) (eC (.int 1))) (Aa (eOp Bo (eOp oIx (Ab 0) (eC (.int 1))) (eC (.int 1))) Af)))
def Hf:BP:=
 (BZ (Ci 3 (Bq Ar (Aa (Ab 0) (Aa (eC (.int 6)) Af))))
  (BZ (Ci 4 (Bq Ar (Aa (Ab 0) (Aa (eCB DQ (Aa (Ab 1) Af)) Af))))
  (BZ (Sq (eOp oIx (Ab 1) (Ab 4)) (Pat.sem (.tp [(.nm 5),(.nm 6)])))
  (BZ (sIf (BX (eOp (oEq false) (Ab 3) (eC (.int 1))))
  (CN (eOp Bo (eOp Bo (eSl oSl (Ab 1) FN (FJ (Ab 4))) (Di (Aa (Di (Aa (Ab 6) (Aa (eOp Bo (eOp Bo (Ab 6) (eC (.int 1))) (Bq Ar (Aa (Ab 0) (Aa (eC (.int 3)) Af)))) Af))) Af))) (eSl oSl (Ab 1) (FJ (eOp Bo (Ab 4) (eC (.int 1)))) FN)))
  Dp)
  (BZ (sIf (BX (eOp (oEq false) (Ab 3) (eC (.int 2))))
  (BZ (Ci 7 (eOp Bo (Ab 5) (Bq Ar (Aa (Ab 0) (Aa (eOp G6 (Ab 6) (Ab 5)) Af)))))
  (CN (eOp Bo (eOp Bo (eSl oSl (Ab 1) FN (FJ (Ab 4))) (Di (Aa (Di (Aa (Ab 7) (Aa (Ab 6) Af))) Af))) (eSl oSl (Ab 1) (FJ (eOp Bo (Ab 4) (eC (.int 1)))) FN))))
  Dp)
  (BZ (sIf (BX (eOp (oEq false) (Ab 3) (eC (.int 3))))
  (CN (eOp Bo (eOp Bo (eSl oSl (Ab 1) FN (FJ (Ab 4))) (Di (Aa (Bq Gz (Aa (Ab 0) (Aa (eOp oIx (Ab 2) (Ab 4)) Af))) Af))) (eSl oSl (Ab 1) (FJ (eOp Bo (Ab 4) (eC (.int 1)))) FN)))
  Dp)
  (BZ (sIf (BX (eOp (oEq false) (Ab 3) (eC (.int 4))))
  (CN (eOp Bo (eOp Bo (eSl oSl (Ab 1) FN (FJ (Ab 4))) (Di (Aa (Di (Aa (eOp G6 (eOp G6 (Ab 5) (eC (.int 1))) (Bq Ar (Aa (Ab 0) (Aa (eC (.int 3)) Af)))) (Aa (Ab 5) Af))) Af))) (eSl oSl (Ab 1) (FJ (eOp Bo (Ab 4) (eC (.int 1)))) FN)))
  Dp)
  (BZ (sIf (BX (eOp (oEq false) (Ab 3) (eC (.int 5))))
  (CN (eCB Lf (Aa (Bk Ql) Af)))
  Dp)
  (CN (Ab 1))))))))))
def Jr:Li:=runM 3 8 Hf
def NZ:CQ:=
 Ck 1 [0,3] (Fz (Aa (Ab 1) Af)) (Pat.sem (.nm 0)) Fd (Bq Ft (Aa (Ab 1) (Aa (Ab 2) Af)))
def NT:CQ:=
 Ck 1 [0,4] (Fz (Aa (Ab 1) Af)) (Pat.sem (.nm 0)) Fd (Bq Gz (Aa (Ab 1) (Aa (eOp oIx (Ab 2) (Ab 0)) Af)))
def NQ:CQ:=
 Ck 2 [] (Cz (Ab 8)) (Pat.sem (.tp [(.nm 0),(.nm 1)])) Fd (eCB RX (Aa (eCB VF (Aa (Ab 0) Af)) (Aa (eCB VF (Aa (Ab 1) Af)) Af)))
def Nb:BP:=
 (BZ (Ci 8 (eCB Lf (Aa (Bk NT) Af)))
  (BZ (sIf (Nu (BX (eOp (oEq true) (Ab 5) (Bk Af))) (BX (eOp oLt (Bq Ar (Aa (Ab 0) (Aa (eC (.int 3)) Af))) (Ab 6))))
  (Ci 8 (Bq Jr (Aa (Ab 0) (Aa (eOp oIx (Ab 5) (Bq Ar (Aa (Ab 0) (Aa (eCB DQ (Aa (Ab 5) Af)) Af)))) (Aa (Ab 4) Af)))))
  Dp)
  (sIf (BX (eOp oLe (eCB UW (Aa (Bk NQ) Af)) (eOp Fq (eC (.int 10)) (eC (.int 9)))))
  (Ge (Jv Hh (Ab 5) (Aa (Ab 8) Af)))
  Dp)))
def Qm:BP:=
 K4 (Fz (Aa (Ab 3) Af)) (Pat.sem (.nm 7))
  Nb
def Rx:BP:=
 (BZ (Ci 3 (eOp oIx (Bk (Aa (Bq Ar (Aa (Ab 0) (Aa (eOp Bo (eCB RW (Aa (Ab 2) (Aa (eC (.int 4)) Af))) (eC (.int 1))) Af))) (Aa (Bq Ar (Aa (Ab 0) (Aa (eOp Bo (Ab 2) (eC (.int 1))) Af))) (Aa (Ab 2) Af)))) (Bq Ar (Aa (Ab 0) (Aa (eC (.int 3)) Af)))))
  (BZ (Ci 4 (Bk NZ))
  (BZ (Ci 5 (Ld Af))
  (BZ (Ci 6 (Bq Ar (Aa (Ab 0) (Aa (eC (.int 3)) Af))))
  (BZ Qm
  (CN (Di (Aa (Ab 1) (Aa (Ab 5) Af)))))))))
def Hs:Li:=runM 3 9 Rx
def Io:CQ:=
 Ck 1 [0] (Fz (Aa (Ab 2) Af)) (Pat.sem (.nm 0)) Fd (eOp G6 (Bq Ar (Aa (Ab 1) (Aa (eOp Bo (eOp Hx (eC (.int 2)) (eOp Fq (eC (.int 10)) (eC (.int 9)))) (eC (.int 1))) Af))) (eOp Fq (eC (.int 10)) (eC (.int 9))))
def NP:BP:=
 (Ge (Jv Hh (Ab 5) (Aa (eOp oIx (Bk (Aa (Ab 6) (Aa (eOp G6 (Ab 7) (eC (.int 1))) (Aa (Ab 7) (Aa (eOp G6 (Ab 6) (eC (.int 1))) (Aa (eOp oDiv (eOp Bo (Ab 6) (Ab 7)) (eC (.int 2))) (Aa (Ab 6) Af))))))) (Bq Ar (Aa (Ab 0) (Aa (eC (.int 6)) Af)))) Af)))
def Qj:BP:=
 K4 (Cz (Ab 4)) (Pat.sem (.tp [(.nm 6),(.nm 7)]))
  NP
def Qk:CQ:=
 Ck 1 [] (Cz (Ab 5)) (Pat.sem (.nm 0)) Fd (eCB RX (Aa (eUn HS (eOp Fq (eC (.int 10)) (eC (.int 9)))) (Aa (eCB RW (Aa (eOp Fq (eC (.int 10)) (eC (.int 9))) (Aa (Ab 0) Af))) Af)))
def Wh:BP:=
 (BZ (Sq (Ab 1) (Pat.sem (.tp [(.nm 2),(.nm 3)])))
  (BZ (sIf (tOr (BX (eOp (oEq false) (Ab 3) (Bk Af))) (BX (eOp (oEq false) (Bq Ar (Aa (Ab 0) (Aa (eC (.int 5)) Af))) (eC (.int 0)))))
  (CN (eCB Lf (Aa (Bk Io) Af)))
  Dp)
  (BZ (Ci 4 (eOp oIx (Ab 3) (Bq Ar (Aa (Ab 0) (Aa (eCB DQ (Aa (Ab 3) Af)) Af)))))
  (BZ (Ci 5 (Ld Af))
  (BZ Qj
  (CN (eCB Lf (Aa (Bk Qk) Af))))))))
def Jq:Li:=runM 2 8 Wh
def J7:BP:=
 (sIf (tOr (BX (eOp oLt (eOp oIx (Ab 1) (Ab 2)) (eOp oIx (eOp oIx (Ab 0) (Ab 2)) (eC (.int 0))))) (BX (eOp oGe (eOp oIx (Ab 1) (Ab 2)) (eOp oIx (eOp oIx (Ab 0) (Ab 2)) (eC (.int 1))))))
  (CN (eC (.bl false)))
  Dp)
def Ju:BP:=
 K4 (Fz (Aa (eCB DQ (Aa (Ab 0) Af)) Af)) (Pat.sem (.nm 2))
  J7
def Ux:BP:=
 (BZ Ju
  (CN (eC (.bl true))))
def KR:Ca:=Dr 2 3 Ux
def Og:CQ:=
 Ck 1 [0] (Cz (Ab 1)) (Pat.sem (.nm 0)) Fd (Am N7 (Aa (Di (Aa (Ab 1) (Aa (Bk (Aa (Ab 0) Af)) Af))) (Aa (eC (.int 0)) Af)))
def oR:BP:=
 (CN (eCB VD (Aa (Bk Og) Af)))
def JV:Ca:=Dr 2 2 oR
def Ks(fa:Nat->Addr):CQ:=
 Ck 1 [6] (Cz (Ab 4)) (Pat.sem (.nm 0)) (BX (Am KR (Aa (Ab 0) (Aa (Ab 1) Af)))) (Ab 0)
def Ku(fa:Nat->Addr):BP:=
 (BZ (Ci 6 (Bq Jq (Aa (Ab 0) (Aa (Ab 1) Af))))
  (BZ (Ci 7 (Bk (Ks fa)))
  (sIf (tOr (BX (eOp oGt (eCB DQ (Aa (Ab 7) Af)) (eC (.int 1)))) (BX (eOp (oEq true) (eOp (oEq true) (Ab 7) (Bk Af)) (eOp oGt (Am IV (Aa (Ab 1) (Aa (Ab 6) Af))) (eC (.int 0))))))
  (CN (eC (.bl false)))
  Dp)))
def Kr(fa:Nat->Addr):BP:=
 K4 (Fz (Aa (eC (.int 4)) Af)) (Pat.sem (.nm 5))
  (Ku fa)
def X7(fa:Nat->Addr):BP:=
 (BZ (Sq (Ab 1) (Pat.sem (.tp [(.nm 2),(.nm 3)])))
  (BZ (Ci 4 (Am (DR fa) (Aa (Ab 1) Af)))
  (BZ (sIf (tOr (BX (eOp (gU true) (Am (Hi fa) (Aa (Ab 1) (Aa (Ab 4) Af))) (eC (.bl true)))) (BX (eOp (oEq true) (Ab 4) (T5 (Ab 4)))))
  (CN (eC (.bl false)))
  Dp)
  (BZ (sIf (BX (eOp (oEq true) (Am JV (Aa (Ab 2) (Aa (Ab 4) Af))) (Am Gm (Aa (Ab 1) Af))))
  (CN (eC (.bl false)))
  Dp)
  (BZ (sIf (Nu (BX (eOp oLt (eCB DQ (Aa (Ab 4) Af)) (eOp oIx (Bk (Aa (eC (.int 0)) (Aa (eC (.int 21)) (Aa (eC (.int 11)) (Aa (eC (.int 7)) Af))))) (Ab 2)))) (BX (eOp (oEq true) (Am (DR fa) (Aa (Di (Aa (Ab 2) (Aa (Ab 4) Af))) Af)) (Ab 4))))
  (CN (eC (.bl false)))
  Dp)
  (BZ (sIf (tOr (BX (eOp (oEq true) (Am (DR fa) (Aa (Di (Aa (Ab 2) (Aa (eUn Vy (Ab 3)) Af))) Af)) (Ab 4))) (BX (eOp (oEq true) (Am (DR fa) (Aa (Di (Aa (Ab 2) (Aa (eOp Bo (eSl oSl (Ab 3) FN (FJ (eC (.int 1)))) (Ab 3)) Af))) Af)) (Ab 4))))
  (CN (eC (.bl false)))
  Dp)
  (BZ (sIf (tOr (BX (eOp (oEq true) (Am (Ey fa) (Aa (Ab 1) (Aa (Ab 1) Af))) (Bk Af))) (BX (eOp (oEq true) (Am (Fb fa) (Aa (Ab 1) (Aa (Ab 1) Af))) (Ab 4))))
  (CN (eC (.bl false)))
  Dp)
  (BZ (Kr fa)
  (CN (eC (.bl true)))))))))))
def Iv(fa:Nat->Addr):Li:=runM 2 8 (X7 fa)
def X6(fa:Nat->Addr):BP:=
 (BZ (Ci 2 (Am (Ey fa) (Aa (Ab 0) (Aa (Ab 1) Af))))
  (BZ (Ci 3 (Am (Fb fa) (Aa (Ab 0) (Aa (Ab 1) Af))))
  (BZ (sIf (tOr (G7 (BX (Am (Hi fa) (Aa (Ab 0) (Aa (eOp Bo (Ab 2) (Ab 3)) Af))))) (BX (eOp (oEq true) (Am (Fb fa) (Aa (Ab 1) (Aa (Ab 0) Af))) (Ab 3))))
  (CN (eC (.bl false)))
  Dp)
  (BZ (Ci 4 (Am (Ey fa) (Aa (Ab 1) (Aa (Ab 0) Af))))
  (BZ (sIf (BX (eOp (oEq true) (Am (Ij fa) (Aa (Ab 0) (Aa (Ab 1) Af))) (Nv (eOp (oEq false) (Ab 2) (Bk Af)) (eOp (oEq false) (Ab 4) (Bk Af)))))
  (CN (eC (.bl false)))
  Dp)
  (CN (eOp (oEq false) (eOp Bo (Am JV (Aa (eOp oIx (Ab 0) (eC (.int 0))) (Aa (Ab 2) Af))) (Am JV (Aa (eOp oIx (Ab 0) (eC (.int 0))) (Aa (Ab 3) Af)))) (Am Gm (Aa (Ab 0) Af)))))))))
def Iu(fa:Nat->Addr):Ca:=Dr 2 5 (X6 fa)
def Zu(fa:Nat->Addr):BP:=
 (BZ (Ci 2 (T4 Jp (Aa (Ab 1) Af)))
  (BZ (Ci 3 (eOp Bo (eC (.int 1)) (Bq Ar (Aa (Ab 2) (Aa (eC (.int 3)) Af)))))
  (BZ (Ci 4 (eOp oIx (Bk (Aa (eC (.int 0)) (Aa (eC (.int 6)) (Aa (eC (.int 6)) (Aa (eC (.int 3)) Af))))) (Ab 3)))
  (BZ (Ci 5 (Bq Hs (Aa (Ab 2) (Aa (Ab 3) (Aa (Ab 4) Af)))))
  (BZ (Ci 6 (eOp oIx (Bk (Aa (Bq Hs (Aa (Ab 2) (Aa (Ab 3) (Aa (Ab 4) Af)))) (Aa (Di (Aa (Ab 3) (Aa (eSl oSl (eOp oIx (Ab 5) (eC (.int 1))) (FJ (eC (.int 1))) FN) Af))) Af))) (Bq Ar (Aa (Ab 2) (Aa (eC (.int 2)) Af)))))
  (sIf (tOr (G7 (BX (Bq (Iv fa) (Aa (Ab 2) (Aa (Ab 5) Af))))) (G7 (BX (Am (Iu fa) (Aa (Ab 5) (Aa (Ab 6) Af))))))
  (CN (eC (.bl false)))
  Dp))))))
def Zt(fa:Nat->Addr):BP:=
 K4 (Cz (eOp Bo (Bk (Aa (eC (.int 0)) (Aa (eC (.int 5)) Af))) (eSl oSl (Ab 0) FN (FJ (eC (.int 6)))))) (Pat.sem (.nm 1))
  (Zu fa)
def Jeg(fa:Nat->Addr):BP:=
 (BZ (Zt fa)
  (CN (eC (.bl true))))
def eY(fa:Nat->Addr):Ca:=Dr 1 7 (Jeg fa)
end W42
end
section
namespace W42
open PySem PySem.Spec L2 VS
def top (i : Nat) : Stmt := PySem.Challenge.pw_boxcover_k42_whole_parts.main.body.getD i (.Pass ⟨0, 0, 0, 0⟩)
def pq:List (Str×Nat):=((["is_whole","are_ways","is_stretch","is_box","is_heap","need_heap","need_spot","numbered_box","box_size","holds","size_of","boxes_at","how_often","ends_along","steps_along","cells_from","cells_of","size_together","cut_boxes","joined_alike","by_first","by_first_alone","by_both","parts_where","parting_of","signed_corners","corner_sums","is_parting","need_two_heaps","covers_same","covered_without","covered_both","covered_size","_law_well","_law_draw","_law_marks","_law_stretch","_law_near","_law_heap","_law_spot","_law_holds","_law_sum","_law_one_right","_law_two_right","law"]:List String).map U2w).zip [8,9,10,11,12,13,14,15,16,17,18,19,20,22,23,24,25,26,28,29,31,32,33,34,35,36,37,38,39,40,41,42,44,46,47,48,49,50,51,53,54,55,56,57,58]
def zsL:List Str:=["zip","enumerate","sum","dict"]
structure To(K:U0e)(mg:Str->Option Value)(fa:Nat->Addr)(P:Program)(w:World):Prop extends Tp top K mg pq zsL where
 m_MOST_BOXES:∃d,mg "MOST_BOXES"=some (.ref d)/\∀h,K.In h->U7a P w h d Bc.D3
 v_by_first:mg "by_first"=some (.ref (fa 0))
 v_by_first_alone:mg "by_first_alone"=some (.ref (fa 1))
 v_by_both:mg "by_both"=some (.ref (fa 2))
def bn1{x:Str}{st:Stmt}{ps:List Str}(e:ps.length=1)(h:∀a0,Bi x st ps [a0]):J5 x st ps:=λ_ _ _ _ _ _ us hl=>match us,hl.trans e with|[a0],_=>h _ _ _ _ _ _ _
def bn2{x:Str}{st:Stmt}{ps:List Str}(e:ps.length=2)(h:∀a0 a1,Bi x st ps [a0,a1]):J5 x st ps:=λ_ _ _ _ _ _ us hl=>match us,hl.trans e with|[a0,a1],_=>h _ _ _ _ _ _ _ _
def bn3{x:Str}{st:Stmt}{ps:List Str}(e:ps.length=3)(h:∀a0 a1 a2,Bi x st ps [a0,a1,a2]):J5 x st ps:=λ_ _ _ _ _ _ us hl=>match us,hl.trans e with|[a0,a1,a2],_=>h _ _ _ _ _ _ _ _ _
def bn4{x:Str}{st:Stmt}{ps:List Str}(e:ps.length=4)(h:∀a0 a1 a2 a3,Bi x st ps [a0,a1,a2,a3]):J5 x st ps:=λ_ _ _ _ _ _ us hl=>match us,hl.trans e with|[a0,a1,a2,a3],_=>h _ _ _ _ _ _ _ _ _ _
section
variable{P:Program}{w:World}{K:U0e}{mg:Str->Option Value}{base:Heap}{fa:Nat->Addr}
def Lz(t:To K mg fa P w):Dm P w K mg base "is_whole" 1 Gs:=by
 have B:=t.B;exact t.cP (j:=8) (N:=["thing"]) 0 1 rfl (by decide +kernel) (bn1 rfl λ_ _ _ _ _ _ _=>rfl) λnd hr=>
  (Aq (Bb (PK (Bw Jk LC rfl (B.is "isinstance") GR (Ad (Ac 0) (Ad (Q9 (n:="int") rfl (B.is "int") lZ) Ag))) (Qu (lG (Bw Jk LC rfl (B.is "isinstance") GR (Ad (Ac 0) (Ad (Q9 (n:="bool") rfl (B.is "bool") yV) Ag))))))))
def Wz(t:To K mg fa P w):Dm P w K mg base "are_ways" 2 Ht:=by
 have B:=t.B;obtain⟨d_MOST_BOXES,M_MOST_BOXES,T_MOST_BOXES⟩:=t.m_MOST_BOXES;exact t.cP (j:=9) (N:=["thing"]) 1 1 rfl (by decide +kernel) (bn1 rfl λ_ _ _ _ _ _ _=>rfl) λnd hr=>
  (Aq (Bb (PK (Ax (Lz t) hr (ar0) rfl (Ad (Ac 0) Ag)) (Qu (sU T_MOST_BOXES (Ac 0) rfl M_MOST_BOXES)))))
def cT(t:To K mg fa P w):Dm P w K mg base "is_stretch" 2 Jy:=by
 have B:=t.B;exact t.cP (j:=10) (N:=["thing"]) 2 1 rfl (by decide +kernel) (bn1 rfl λ_ _ _ _ _ _ _=>rfl) λnd hr=>
  (Aj (Dw (Hw (HX (Ho (Gd (Bw Jk LC rfl (B.is "isinstance") GR (Ad (Ac 0) (Ad (Q9 (n:="tuple") rfl (B.is "tuple") Jl) Ag))))) (Hl (Cm (Ga hr) GX (Bw Cy FW rfl (B.is "len") Fw (Ad (Ac 0) Ag)) Ah (CG _)))))
   (Aq (Bb HY))
   Cw)
   (Aq (Bb (PK (Ax (Lz t) hr (ar0) rfl (Ad (Bl BK BJ (Ac 0) Ah (λ_ _=>rfl)) Ag)) (PK (Ax (Lz t) hr (ar0) rfl (Ad (Bl BK BJ (Ac 0) Ah (λ_ _=>rfl)) Ag)) (Qu (Jh OJ Lq (Bl BK BJ (Ac 0) Ah (λ_ _=>rfl)) (Bl BK BJ (Ac 0) Ah (λ_ _=>rfl)) (CG _))))))))
def bw(t:To K mg fa P w):Dm P w K mg base "is_box" 3 Ls:=by
 have B:=t.B;exact t.cP (j:=11) (N:=["ways","thing"]) 3 2 rfl (by decide +kernel) (bn2 rfl λ_ _ _ _ _ _ _ _=>rfl) λnd hr=>
  (Aj (Dw (Hw (HX (Ho (Gd (Ax (Wz t) hr (by omega) rfl (Ad (Ac 0) Ag)))) (HX (Ho (Gd (Bw Jk LC rfl (B.is "isinstance") GR (Ad (Ac 1) (Ad (Q9 (n:="tuple") rfl (B.is "tuple") Jl) Ag))))) (Hl (Cm (Ga hr) GX (Bw Cy FW rfl (B.is "len") Fw (Ad (Ac 1) Ag)) (Ac 0) (CG _))))))
   (Aq (Bb HY))
   Cw)
   (Aq (Bb (Bw (Pn rfl) Qx rfl (B.is "all") TF (Ad (Ef rfl (Dl.of (sc:=Br (top 11)) (N:=["ways","thing"]) (N2:=["part"]) (k:=1) (caps:=[]) (by decide +kernel)) rfl (Dv (Ac 1)) ⟨λ_ _ _ _ _=>⟨(BR (i:=0) (show U1q (["part"]:List Str) by decide +kernel)),Et,(Ax (cT t) hr (by omega) rfl (Ad (Ac 0) Ag))⟩⟩) Ag)))))
def pI(t:To K mg fa P w):Dm P w K mg base "is_heap" 4 N8:=by
 have B:=t.B;obtain⟨d_MOST_BOXES,M_MOST_BOXES,T_MOST_BOXES⟩:=t.m_MOST_BOXES;exact t.cP (j:=12) (N:=["thing","ways","boxes"]) 4 1 rfl (by decide +kernel) (bn1 rfl λ_ _ _ _ _ _ _=>rfl) λnd hr=>
  (Aj (Dw (Hw (HX (Ho (Gd (Bw Jk LC rfl (B.is "isinstance") GR (Ad (Ac 0) (Ad (Q9 (n:="tuple") rfl (B.is "tuple") Jl) Ag))))) (Hl (Cm (Ga hr) GX (Bw Cy FW rfl (B.is "len") Fw (Ad (Ac 0) Ag)) Ah (CG _)))))
   (Aq (Bb HY))
   Cw)
   (Aj (Cu (i:=1) nd (Bl BK BJ (Ac 0) Ah (λ_ _=>rfl)))
   (Aj (Cu (i:=2) nd (Bl BK BJ (Ac 0) Ah (λ_ _=>rfl)))
   (Aj (Dw (Hw (HX (Ho (Gd (Ax (Wz t) hr (by omega) rfl (Ad (Ac 1) Ag)))) (HX (Ho (Gd (Bw Jk LC rfl (B.is "isinstance") GR (Ad (Ac 2) (Ad (Q9 (n:="list") rfl (B.is "list") Xv) Ag))))) (Hl (Cm Q6 Ng (Bw Cy FW rfl (B.is "len") Fw (Ad (Ac 2) Ag)) (sS T_MOST_BOXES (Ac 1) rfl M_MOST_BOXES (λ_ _=>rfl)) (CG _))))))
   (Aq (Bb HY))
   Cw)
   (Aq (Bb (Bw (Pn rfl) Qx rfl (B.is "all") TF (Ad (Ef rfl (Dl.of (sc:=Br (top 12)) (N:=["thing","ways","boxes"]) (N2:=["box","ways"]) (k:=1) (caps:=[1]) (by decide +kernel)) rfl (Dv (Ac 2)) ⟨λ_ _ _ _ _=>⟨(BR (i:=0) (show U1q (["box","ways"]:List Str) by decide +kernel)),Et,(Ax (bw t) hr (by omega) rfl (Ad (Ac 1) (Ad (Ac 0) Ag)))⟩⟩) Ag))))))))
def Ip(t:To K mg fa P w):Dm P w K mg base "need_heap" 5 Dc:=by
 exact t.cP (j:=13) (N:=["heap"]) 5 1 rfl (by decide +kernel) (bn1 rfl λ_ _ _ _ _ _ _=>rfl) λnd hr=>
  (Aq (Dw (Ho (Gd (Ax (pI t) hr (by omega) rfl (Ad (Ac 0) Ag))))
   (Aq Rg)
   Cw))
def dJ(t:To K mg fa P w):Dm P w K mg base "need_spot" 2 JM:=by
 have B:=t.B;exact t.cP (j:=14) (N:=["heap","spot"]) 6 2 rfl (by decide +kernel) (bn2 rfl λ_ _ _ _ _ _ _ _=>rfl) λnd hr=>
  (Aq (Dw (Hw (HX (Ho (Gd (Bw Jk LC rfl (B.is "isinstance") GR (Ad (Ac 1) (Ad (Q9 (n:="tuple") rfl (B.is "tuple") Jl) Ag))))) (HX (Cm (Ga hr) GX (Bw Cy FW rfl (B.is "len") Fw (Ad (Ac 1) Ag)) (Bl BK BJ (Ac 0) Ah (λ_ _=>rfl)) (CG _)) (Hl (Ho (Gd (Bw (Pn rfl) Qx rfl (B.is "all") TF (Ad (Ef rfl (Dl.of (sc:=Br (top 14)) (N:=["heap","spot"]) (N2:=["number"]) (k:=1) (caps:=[]) (by decide +kernel)) rfl (Dv (Ac 1)) ⟨λ_ _ _ _ _=>⟨(BR (i:=0) (show U1q (["number"]:List Str) by decide +kernel)),Et,(Ax (Lz t) hr (ar0) rfl (Ad (Ac 0) Ag))⟩⟩) Ag))))))))
   (Aq Rg)
   Cw))
def Y6(t:To K mg fa P w):Dm P w K mg base "numbered_box" 2 JL:=by
 have B:=t.B;exact t.cP (j:=15) (N:=["heap","number"]) 7 2 rfl (by decide +kernel) (bn2 rfl λ_ _ _ _ _ _ _ _=>rfl) λnd hr=>
  (Aj (Dw (Hw (HX (Ho (Gd (Ax (Lz t) hr (ar0) rfl (Ad (Ac 1) Ag)))) (HX (Cm OJ Lq (Ac 1) Ah (CG _)) (Hl (Cm iQ Zj (Ac 1) (Bw Cy FW rfl (B.is "len") Fw (Ad (Bl BK BJ (Ac 0) Ah (λ_ _=>rfl)) Ag)) (CG _))))))
   (Aq Rg)
   Cw)
   (Aq (Bb (Bl BK BJ (Bl BK BJ (Ac 0) Ah (λ_ _=>rfl)) (Ac 1) (λ_ _=>rfl)))))
def Wy(t:To K mg fa P w):Dm P w K mg base "box_size" 1 Jt:=by
 exact t.cP (j:=16) (N:=["box","size","low","high"]) 8 1 rfl (by decide +kernel) (bn1 rfl λ_ _ _ _ _ _ _=>rfl) λnd hr=>
  (Aj (Cu (i:=1) nd Ah)
   (Aj (Ih rfl (Dv (Ac 0)) (GC rfl (CV (BR (i:=2) nd) (CV (BR (i:=3) nd) Fi)))
   (Aq (Cu (i:=1) nd (BL LK Kz (Ac 1) (BL Ig Gw (Ac 3) (Ac 2))))) U2n)
   (Aq (Bb (Ac 1)))))
def yU(t:To K mg fa P w):Dm P w K mg base "holds" 1 QH:=by
 have B:=t.B;have Bz:=t.Z "zip" (by decide);exact t.cP (j:=17) (N:=["box","spot"]) 9 2 rfl (by decide +kernel) (bn2 rfl λ_ _ _ _ _ _ _ _=>rfl) λnd hr=>
  (Aq (Bb (Bw (Pn rfl) Qx rfl (B.is "all") TF (Ad (Ef rfl (Dl.of (sc:=Br (top 17)) (N:=["box","spot"]) (N2:=["stretch","number"]) (k:=2) (caps:=[]) (by decide +kernel)) rfl (Jb5 rfl Bz (Ad (Ac 0) (Ad (Ac 1) Ag))) ⟨λ_ _ _ _ _=>⟨(GC rfl (CV (BR (i:=0) (show U1q (["stretch","number"]:List Str) by decide +kernel)) (CV (BR (i:=1) (show U1q (["stretch","number"]:List Str) by decide +kernel)) Fi))),Et,(sY ZC W2 OJ Lq (Bl BK BJ (Ac 0) Ah (λ_ _=>rfl)) (Ac 1) (Bl BK BJ (Ac 0) Ah (λ_ _=>rfl)))⟩⟩) Ag))))
def pH(t:To K mg fa P w):Dm P w K mg base "size_of" 6 N7:=by
 exact t.cP (j:=18) (N:=["heap","number"]) 10 2 rfl (by decide +kernel) (bn2 rfl λ_ _ _ _ _ _ _ _=>rfl) λnd hr=>
  (Aj (Gq (Ax (Ip t) hr (by omega) rfl (Ad (Ac 0) Ag)))
   (Aq (Bb (Ax (Wy t) hr (by omega) rfl (Ad (Ax (Y6 t) hr (by omega) rfl (Ad (Ac 0) (Ad (Ac 1) Ag))) Ag)))))
def jq(t:To K mg fa P w):Dm P w K mg base "boxes_at" 6 M4:=by
 have B:=t.B;have Be:=t.Z "enumerate" (by decide);exact t.cP (j:=19) (N:=["heap","spot"]) 11 2 rfl (by decide +kernel) (bn2 rfl λ_ _ _ _ _ _ _ _=>rfl) λnd hr=>
  (Aj (Gq (Ax (Ip t) hr (by omega) rfl (Ad (Ac 0) Ag)))
   (Aj (Gq (Ax (dJ t) hr (by omega) rfl (Ad (Ac 0) (Ad (Ac 1) Ag))))
   (Aq (Bb (Ef rfl (Dl.of (sc:=Br (top 19)) (N:=["heap","spot"]) (N2:=["number","box","spot"]) (k:=2) (caps:=[1]) (by decide +kernel)) rfl (xW rfl Be (Ad (Bl BK BJ (Ac 0) Ah (λ_ _=>rfl)) Ag)) ⟨λ_ _ _ _ _=>⟨(GC rfl (CV (BR (i:=0) (show U1q (["number","box","spot"]:List Str) by decide +kernel)) (CV (BR (i:=1) (show U1q (["number","box","spot"]:List Str) by decide +kernel)) Fi))),(R0 (Gd (Ax (yU t) hr (by omega) rfl (Ad (Ac 1) (Ad (Ac 2) Ag))))),(Ac 0)⟩⟩)))))
def dR(t:To K mg fa P w):Dm P w K mg base "how_often" 7 IV:=by
 have B:=t.B;exact t.cP (j:=20) (N:=["heap","spot"]) 12 2 rfl (by decide +kernel) (bn2 rfl λ_ _ _ _ _ _ _ _=>rfl) λnd hr=>
  (Aq (Bb (Bw Cy FW rfl (B.is "len") Fw (Ad (Ax (jq t) hr (by omega) rfl (Ad (Ac 0) (Ad (Ac 1) Ag))) Ag))))
def cU(t:To K mg fa P w):Dm P w K mg base "ends_along" 1 J8:=by
 have B:=t.B;exact t.cP (j:=22) (N:=["boxes","way"]) 13 2 rfl (by decide +kernel) (bn2 rfl λ_ _ _ _ _ _ _ _=>rfl) λnd hr=>
  (Aq (Bb (Wb rfl (BL CK CJ (Ef rfl (Dl.of (sc:=Br (top 22)) (N:=["boxes","way"]) (N2:=["box","way"]) (k:=1) (caps:=[1]) (by decide +kernel)) rfl (Dv (Ac 0)) ⟨λ_ _ _ _ _=>⟨(BR (i:=0) (show U1q (["box","way"]:List Str) by decide +kernel)),Et,(Bl BK BJ (Bl BK BJ (Ac 0) (Ac 1) (λ_ _=>rfl)) Ah (λ_ _=>rfl))⟩⟩) (Ef rfl (Dl.of (sc:=Br (top 22)) (N:=["boxes","way"]) (N2:=["box","way"]) (k:=1) (caps:=[1]) (by decide +kernel)) rfl (Dv (Ac 0)) ⟨λ_ _ _ _ _=>⟨(BR (i:=0) (show U1q (["box","way"]:List Str) by decide +kernel)),Et,(Bl BK BJ (Bl BK BJ (Ac 0) (Ac 1) (λ_ _=>rfl)) Ah (λ_ _=>rfl))⟩⟩)) rfl (B.is "sorted") rfl (B.is "set"))))
def SQ(t:To K mg fa P w):Dm P w K mg base "steps_along" 2 Ed:=by
 have B:=t.B;have Bz:=t.Z "zip" (by decide);exact t.cP (j:=23) (N:=["boxes","way","ends"]) 14 2 rfl (by decide +kernel) (bn2 rfl λ_ _ _ _ _ _ _ _=>rfl) λnd hr=>
  (Aj (Cu (i:=2) nd (Ax (cU t) hr (ar0) rfl (Ad (Ac 0) (Ad (Ac 1) Ag))))
   (Aq (Bb (jQ rfl (Ad (Ac 2) (Ad (GJ Ib Ie (Ac 2) (Gx Ah) Gy) Ag)) rfl (B.is "list") rfl Bz))))
def M5(t:To K mg fa P w){n k:Nat}(hk:2<=k)(Px:Dm P w K mg base "cells_from" k (Dq n)):Dm P w K mg base "cells_from" (k+1) (Dq (n+1)):=by
 have B:=t.B;exact t.cP (j:=24) (N:=["boxes","numbers","way","ways","cells","low","high","there","rest","held_by"]) 15 4 rfl (by decide +kernel) (bn4 rfl λ_ _ _ _ _ _ _ _ _ _=>rfl) λnd hr=>
  (Aj (Dw (Cm (Gb hr) GZ (Bw Cy FW rfl (B.is "len") Fw (Ad (Ac 1) Ag)) Ah (CG _))
   (Aq (Bb (EY Ag BW)))
   Cw)
   (Aj (Dw (Cm (Gb hr) GZ (Ac 2) (Ac 3) (CG _))
   (Aq (Bb (EY (Ad (Dj (Ad (Dj Ag BW) (Ad (Ac 1) Ag)) (Ao (Ao BW))) Ag) (Ao BW))))
   Cw)
   (Aj (Cu (i:=4) nd (Oq Ag BW))
   (Aj (Ih rfl (Dv (Ax (SQ t) hr (by omega) rfl (Ad (Ef rfl (Dl.of (sc:=Br (top 24)) (N:=["boxes","numbers","way","ways","cells","low","high","there","rest","held_by"]) (N2:=["number","boxes"]) (k:=1) (caps:=[0]) (by decide +kernel)) rfl (Dv (Ac 1)) ⟨λ_ _ _ _ _=>⟨(BR (i:=0) (show U1q (["number","boxes"]:List Str) by decide +kernel)),Et,(Bl BK BJ (Ac 1) (Ac 0) (λ_ _=>rfl))⟩⟩) (Ad (Ac 2) Ag)))) (GC rfl (CV (BR (i:=5) nd) (CV (BR (i:=6) nd) Fi)))
   (Aj (KD (i:=7) rfl nd (Dl.of (sc:=Br (top 24)) (N:=["boxes","numbers","way","ways","cells","low","high","there","rest","held_by"]) (N2:=["number","boxes","way","low"]) (k:=1) (caps:=[0,2,5]) (by decide +kernel)) rfl (Dv (Ac 1)) ⟨λ_ _ _ _ _=>⟨(BR (i:=0) (show U1q (["number","boxes","way","low"]:List Str) by decide +kernel)),(R0 (bF ZC W2 OJ Lq (Bl BK BJ (Bl BK BJ (Bl BK BJ (Ac 1) (Ac 0) (λ_ _=>rfl)) (Ac 2) (λ_ _=>rfl)) Ah (λ_ _=>rfl)) (Ac 3) (Bl BK BJ (Bl BK BJ (Bl BK BJ (Ac 1) (Ac 0) (λ_ _=>rfl)) (Ac 2) (λ_ _=>rfl)) Ah (λ_ _=>rfl)))),(Ac 0)⟩⟩)
   (Aq (Ih rfl (Dv (Ax Px hr (by omega) rfl (Ad (Ac 0) (Ad (Ac 7) (Ad (BL CK CJ (Ac 2) Ah) (Ad (Ac 3) Ag)))))) (GC rfl (CV (BR (i:=8) nd) (CV (BR (i:=9) nd) Fi)))
   (Aq (Gq (Oo U3n U33 U34 Nq Nm (Ac 4) (Ad (Dj (Ad (BL CK CJ (Dj (Ad (Dj (Ad (Ac 5) (Ad (Ac 6) Ag)) (Ao (Ao BW))) Ag) (Ao BW)) (Ac 8)) (Ad (Ac 9) Ag)) (Ao (Ao BW))) Ag)))) U2n))) U2n)
   (Aq (Bb (Ac 4)))))))
def Px(t:To K mg fa P w):Dm P w K mg base "cells_from" 6 (Dq 4):=by
 have c:Dm P w K mg base "cells_from" 2 (Dq 0):=by obtain⟨h,X,G⟩:=t.X;obtain⟨_,D⟩:=t.D;obtain⟨f,d⟩:=D.get (i:=15) (x:="cells_from") (j:=24) rfl;exact d.qC X G (ps:=["boxes","numbers","way","ways"]) (bn4 rfl λ_ _ _ _ _ _ _ _ _ _=>rfl) (λ_ _=>fu rfl) λds r h=>by cases h
 have c:=M5 t (by decide) c;have c:=M5 t (by decide) c;have c:=M5 t (by decide) c;have c:=M5 t (by decide) c;exact c
def jj(t:To K mg fa P w):Dm P w K mg base "cells_of" 7 J6:=by
 have B:=t.B;exact t.cP (j:=25) (N:=["heap"]) 16 1 rfl (by decide +kernel) (bn1 rfl λ_ _ _ _ _ _ _=>rfl) λnd hr=>
  (Aq (Bb (Ax (Px t) hr (by omega) rfl (Ad (Bl BK BJ (Ac 0) Ah (λ_ _=>rfl)) (Ad (M6 rfl (Ad (Bw Cy FW rfl (B.is "len") Fw (Ad (Bl BK BJ (Ac 0) Ah (λ_ _=>rfl)) Ag)) Ag) rfl (B.is "list") rfl (B.is "range")) (Ad Ah (Ad (Bl BK BJ (Ac 0) Ah (λ_ _=>rfl)) Ag)))))))
def X8(t:To K mg fa P w):Dm P w K mg base "size_together" 2 HN:=by
 have B:=t.B;have Bs:=t.Z "sum" (by decide);exact t.cP (j:=26) (N:=["cells"]) 17 1 rfl (by decide +kernel) (bn1 rfl λ_ _ _ _ _ _ _=>rfl) λnd hr=>
  (Aq (Bb (Bw (Yo rfl) eX rfl Bs lX (Ad (Ef rfl (Dl.of (sc:=Br (top 26)) (N:=["cells"]) (N2:=["cell","numbers"]) (k:=2) (caps:=[]) (by decide +kernel)) rfl (Dv (Ac 0)) ⟨λ_ _ _ _ _=>⟨(GC rfl (CV (BR (i:=0) (show U1q (["cell","numbers"]:List Str) by decide +kernel)) (CV (BR (i:=1) (show U1q (["cell","numbers"]:List Str) by decide +kernel)) Fi))),Et,(Ax (Wy t) hr (ar0) rfl (Ad (Ac 0) Ag))⟩⟩) Ag))))
def V1(t:To K mg fa P w):Dm P w K mg base "cut_boxes" 1 Fv:=by
 exact t.cP (j:=28) (N:=["boxes","way","number","there"]) 18 3 rfl (by decide +kernel) (bn3 rfl λ_ _ _ _ _ _ _ _ _=>rfl) λnd hr=>
  (Aj (KD (i:=3) rfl nd (Dl.of (sc:=Br (top 28)) (N:=["boxes","way","number","there"]) (N2:=["box","way","number"]) (k:=1) (caps:=[1,2]) (by decide +kernel)) rfl (Dv (Ac 0)) ⟨λ_ _ _ _ _=>⟨(BR (i:=0) (show U1q (["box","way","number"]:List Str) by decide +kernel)),(R0 (bF ZC W2 OJ Lq (Bl BK BJ (Bl BK BJ (Ac 0) (Ac 1) (λ_ _=>rfl)) Ah (λ_ _=>rfl)) (Ac 2) (Bl BK BJ (Bl BK BJ (Ac 0) (Ac 1) (λ_ _=>rfl)) Ah (λ_ _=>rfl)))),(Ac 0)⟩⟩)
   (Aq (Bb (Ef rfl (Dl.of (sc:=Br (top 28)) (N:=["boxes","way","number","there"]) (N2:=["box","way"]) (k:=1) (caps:=[1]) (by decide +kernel)) rfl (Dv (Ac 3)) ⟨λ_ _ _ _ _=>⟨(BR (i:=0) (show U1q (["box","way"]:List Str) by decide +kernel)),Et,(BL CK CJ (GJ Ib Ie (Ac 0) Gy (Gx (Ac 1))) (GJ Ib Ie (Ac 0) (Gx (BL CK CJ (Ac 1) Ah)) Gy))⟩⟩))))
def Y7(t:To K mg fa P w):Dm P w K mg base "joined_alike" 1 Gk:=by
 have B:=t.B;exact t.cP (j:=29) (N:=["steps","longest","low","high","what"]) 19 1 rfl (by decide +kernel) (bn1 rfl λ_ _ _ _ _ _ _=>rfl) λnd hr=>
  (Aj (Cu (i:=1) nd (Oq Ag BW))
   (Aj (Ih rfl (Dv (Ac 0)) (GC rfl (CV (BR (i:=2) nd) (CV (BR (i:=3) nd) (CV (BR (i:=4) nd) Fi))))
   (Aq (Dw (Hw (W6 (Cm Q6 Ng (Bw Cy FW rfl (B.is "len") Fw (Ad (Ac 1) Ag)) Ah (CG _)) (W6 (Cm (Gb hr) GZ (Bl BK BJ (Bl BK BJ (Ac 1) (Q8 Lp Ky Ah) (λ_ _=>rfl)) Ah (λ_ _=>rfl)) (Ac 2) (CG _)) (Xp (Cm (Gb hr) GZ (Bl BK BJ (Bl BK BJ (Ac 1) (Q8 Lp Ky Ah) (λ_ _=>rfl)) Ah (λ_ _=>rfl)) (Ac 4) (CG _))))))
   (Aq (Vc (Dj (Ad (Bl BK BJ (Bl BK BJ (Ac 1) (Q8 Lp Ky Ah) (λ_ _=>rfl)) Ah (λ_ _=>rfl)) (Ad (Ac 3) (Ad (Ac 4) Ag))) (Ao (Ao (Ao BW)))) (Ac 1) (Q8 Lp Ky Ah)))
   (Aq (Gq (Oo U3n U33 U34 Nq Nm (Ac 1) (Ad (Dj (Ad (Ac 2) (Ad (Ac 3) (Ad (Ac 4) Ag))) (Ao (Ao (Ao BW)))) Ag)))))) U2n)
   (Aq (Bb (Ac 1)))))
def jk(t:To K mg fa P w):Dm P w K mg base "by_first" 1 Js:=by
 exact t.cP (j:=31) (N:=["first","second"]) 20 2 rfl (by decide +kernel) (bn2 rfl λ_ _ _ _ _ _ _ _=>rfl) λnd hr=>
  (Aq (Bb (Ac 0)))
def Vw(t:To K mg fa P w):Dm P w K mg base "by_first_alone" 1 Gv:=by
 exact t.cP (j:=32) (N:=["first","second"]) 21 2 rfl (by decide +kernel) (bn2 rfl λ_ _ _ _ _ _ _ _=>rfl) λnd hr=>
  (Aq (Bb (PK (Ac 0) (Qu (lG (Ac 1))))))
def pJ(t:To K mg fa P w):Dm P w K mg base "by_both" 1 KC:=by
 exact t.cP (j:=33) (N:=["first","second"]) 22 2 rfl (by decide +kernel) (bn2 rfl λ_ _ _ _ _ _ _ _=>rfl) λnd hr=>
  (Aq (Bb (PK (Ac 0) (Qu (Ac 1)))))
def Jar(t:To K mg fa P w):∀n u,RV fa n=some u->Qi P w K mg base u.1 1 u.2:=λn u h=>by
 match n,h with
 |0,h=>cases h;exact(Qi.of (jk t) t.v_by_first).mono (by decide)
 |1,h=>cases h;exact(Qi.of (Vw t) t.v_by_first_alone).mono (by decide)
 |2,h=>cases h;exact(Qi.of (pJ t) t.v_by_both).mono (by decide)
 |n+3,h=>cases h
def KY(t:To K mg fa P w){n k:Nat}(hk:2<=k)(JQ:Dm P w K mg base "parts_where" k (CP fa n)):Dm P w K mg base "parts_where" (k+1) (CP fa (n+1)):=by
 have B:=t.B;exact t.cP (j:=34) (N:=["wanted","first","second","ways","steps","low","high","rest","parts"]) 23 4 rfl (by decide +kernel) (bn4 rfl λ_ _ _ _ _ _ _ _ _ _=>rfl) λnd hr=>
  (Aj (Dw (Cm (Gb hr) GZ (Ac 3) Ah (CG _))
   (Aq (Bb (sV (Gd (sZ (Jar t) hr (by omega) (i:=0) (Ad (Jh Q6 Ng (Bw Cy FW rfl (B.is "len") Fw (Ad (Ac 1) Ag)) Ah (CG _)) (Ad (Jh Q6 Ng (Bw Cy FW rfl (B.is "len") Fw (Ad (Ac 2) Ag)) Ah (CG _)) Ag)))) (EY (Ad (Dj Ag BW) Ag) (Ao BW)) (EY Ag BW))))
   Cw)
   (Aj (Cu (i:=4) nd (Oq Ag BW))
   (Aj (Ih rfl (Dv (Ax (SQ t) hr (by omega) rfl (Ad (BL CK CJ (Ac 1) (Ac 2)) (Ad Ah Ag)))) (GC rfl (CV (BR (i:=5) nd) (CV (BR (i:=6) nd) Fi)))
   (Aj (Cu (i:=7) nd (Ax JQ hr (by omega) rfl (Ad (Ac 0) (Ad (Ax (V1 t) hr (by omega) rfl (Ad (Ac 1) (Ad Ah (Ad (Ac 5) Ag)))) (Ad (Ax (V1 t) hr (by omega) rfl (Ad (Ac 2) (Ad Ah (Ad (Ac 5) Ag)))) (Ad (BL Ig Gw (Ac 3) Ah) Ag))))))
   (Aq (Gq (Oo U3n U33 U34 Nq Nm (Ac 4) (Ad (Dj (Ad (Ac 5) (Ad (Ac 6) (Ad (Ac 7) Ag))) (Ao (Ao (Ao BW)))) Ag))))) U2n)
   (Aj (Cu (i:=8) nd (Oq Ag BW))
   (Aj (Ih rfl (Dv (su (Y7 t) hr (by omega) rfl (Ad (Ac 4) Ag))) (GC rfl (CV (BR (i:=5) nd) (CV (BR (i:=6) nd) (CV (BR (i:=7) nd) Fi))))
   (Aq (Gq (Oo U3n PySem.F.slot_list_extend PySem.F.type_list_extend nZ mV (Ac 8) (Ad (Ef rfl (Dl.of (sc:=Br (top 34)) (N:=["wanted","first","second","ways","steps","low","high","rest","parts"]) (N2:=["box","low","high"]) (k:=1) (caps:=[5,6]) (by decide +kernel)) rfl (Dv (Ac 7)) ⟨λ_ _ _ _ _=>⟨(BR (i:=0) (show U1q (["box","low","high"]:List Str) by decide +kernel)),Et,(BL CK CJ (Dj (Ad (Dj (Ad (Ac 1) (Ad (Ac 2) Ag)) (Ao (Ao BW))) Ag) (Ao BW)) (Ac 0))⟩⟩) Ag)))) U2n)
   (Aq (Bb (Ac 8))))))))
def JQ(t:To K mg fa P w):Dm P w K mg base "parts_where" 6 (CP fa 4):=by
 have c:Dm P w K mg base "parts_where" 2 (CP fa 0):=by obtain⟨h,X,G⟩:=t.X;obtain⟨_,D⟩:=t.D;obtain⟨f,d⟩:=D.get (i:=23) (x:="parts_where") (j:=34) rfl;exact d.qC X G (ps:=["wanted","first","second","ways"]) (bn4 rfl λ_ _ _ _ _ _ _ _ _ _=>rfl) (λ_ _=>fu rfl) λds r h=>by cases h
 have c:=KY t (by decide) c;have c:=KY t (by decide) c;have c:=KY t (by decide) c;have c:=KY t (by decide) c;exact c
def Hv(t:To K mg fa P w):Dm P w K mg base "parting_of" 7 (DR fa):=by
 have fv_by_first:=t.v_by_first;exact t.cP (j:=35) (N:=["heap"]) 24 1 rfl (by decide +kernel) (bn1 rfl λ_ _ _ _ _ _ _=>rfl) λnd hr=>
  (Aj (Gq (Ax (Ip t) hr (by omega) rfl (Ad (Ac 0) Ag)))
   (Aq (Bb (Ax (JQ t) hr (by omega) rfl (Ad (Zw (n:=0) rfl fv_by_first) (Ad (Bl BK BJ (Ac 0) Ah (λ_ _=>rfl)) (Ad (EY Ag BW) (Ad (Bl BK BJ (Ac 0) Ah (λ_ _=>rfl)) Ag))))))))
def Vv(t:To K mg fa P w):Dm P w K mg base "signed_corners" 1 Gu:=by
 exact t.cP (j:=36) (N:=["box","corners","low","high","nearer"]) 25 1 rfl (by decide +kernel) (bn1 rfl λ_ _ _ _ _ _ _=>rfl) λnd hr=>
  (Aj (Cu (i:=1) nd (EY (Ad (Dj (Ad (Dj Ag BW) (Ad Ah Ag)) (Ao (Ao BW))) Ag) (Ao BW)))
   (Aj (Ih rfl (Dv (Ac 0)) (GC rfl (CV (BR (i:=2) nd) (CV (BR (i:=3) nd) Fi)))
   (Aj (KD (i:=4) rfl nd (Dl.of (sc:=Br (top 36)) (N:=["box","corners","low","high","nearer"]) (N2:=["corner","sign","low"]) (k:=2) (caps:=[2]) (by decide +kernel)) rfl (Dv (Ac 1)) ⟨λ_ _ _ _ _=>⟨(GC rfl (CV (BR (i:=0) (show U1q (["corner","sign","low"]:List Str) by decide +kernel)) (CV (BR (i:=1) (show U1q (["corner","sign","low"]:List Str) by decide +kernel)) Fi))),Et,(Dj (Ad (BL CK CJ (Ac 0) (Dj (Ad (Ac 2) Ag) (Ao BW))) (Ad (Ac 1) Ag)) (Ao (Ao BW)))⟩⟩)
   (Aq (Cu (i:=1) nd (BL CK CJ (Ac 4) (Ef rfl (Dl.of (sc:=Br (top 36)) (N:=["box","corners","low","high","nearer"]) (N2:=["corner","sign","high"]) (k:=2) (caps:=[3]) (by decide +kernel)) rfl (Dv (Ac 1)) ⟨λ_ _ _ _ _=>⟨(GC rfl (CV (BR (i:=0) (show U1q (["corner","sign","high"]:List Str) by decide +kernel)) (CV (BR (i:=1) (show U1q (["corner","sign","high"]:List Str) by decide +kernel)) Fi))),Et,(Dj (Ad (BL CK CJ (Ac 0) (Dj (Ad (Ac 2) Ag) (Ao BW))) (Ad (Q8 Lp Ky (Ac 1)) Ag)) (Ao (Ao BW)))⟩⟩))))) U2n)
   (Aq (Bb (Ac 1)))))
def Sd(t:To K mg fa P w):Dm P w K mg base "corner_sums" 2 HF:=by
 have B:=t.B;have Bd:=t.Z "dict" (by decide);exact t.cP (j:=37) (N:=["boxes","sums","box","corner","sign"]) 26 1 rfl (by decide +kernel) (bn1 rfl λ_ _ _ _ _ _ _=>rfl) λnd hr=>
  (Aj (Cu (i:=1) nd sW)
   (Aj (Ih rfl (Dv (Ac 0)) (BR (i:=2) nd)
   (Aq (Ih rfl (Dv (Ax (Vv t) hr (ar0) rfl (Ad (Ac 2) Ag))) (GC rfl (CV (BR (i:=3) nd) (CV (BR (i:=4) nd) Fi)))
   (Aq (rm (iW hr) (BL CK CJ (sX (iW hr) (Ac 1) (Ac 3) Ah ⟨rfl,rfl,rfl,rfl⟩) (Ac 4)) (Ac 1) (Ac 3))) U2n)) U2n)
   (Aq (Bb (Lb (je rfl (Jcb hr)) mZ rfl Bd uE (Ad (Ef rfl (Dl.of (sc:=Br (top 37)) (N:=["boxes","sums","box","corner","sign"]) (N2:=["corner","total"]) (k:=2) (caps:=[]) (by decide +kernel)) rfl (sI (Ac 1)) ⟨λ_ _ _ _ _=>⟨(GC rfl (CV (BR (i:=0) (show U1q (["corner","total"]:List Str) by decide +kernel)) (CV (BR (i:=1) (show U1q (["corner","total"]:List Str) by decide +kernel)) Fi))),(R0 (Cm (Ga hr) GX (Ac 1) Ah (CG _))),(Dj (Ad (Ac 0) (Ad (Ac 1) Ag)) (Ao (Ao BW)))⟩⟩) Ag))))))
def UJ(t:To K mg fa P w):Dm P w K mg base "is_parting" 8 (Hi fa):=by
 have B:=t.B;exact t.cP (j:=38) (N:=["heap","thing"]) 27 2 rfl (by decide +kernel) (bn2 rfl λ_ _ _ _ _ _ _ _=>rfl) λnd hr=>
  (Aj (Gq (Ax (Ip t) hr (by omega) rfl (Ad (Ac 0) Ag)))
   (Aj (Dw (Hw (HX (Ho (Gd (Bw Jk LC rfl (B.is "isinstance") GR (Ad (Ac 1) (Ad (Q9 (n:="list") rfl (B.is "list") Xv) Ag))))) (Hl (Ho (Gd (Bw (Pn rfl) Qx rfl (B.is "all") TF (Ad (Ef rfl (Dl.of (sc:=Br (top 38)) (N:=["heap","thing"]) (N2:=["box","heap"]) (k:=1) (caps:=[0]) (by decide +kernel)) rfl (Dv (Ac 1)) ⟨λ_ _ _ _ _=>⟨(BR (i:=0) (show U1q (["box","heap"]:List Str) by decide +kernel)),Et,(Ax (bw t) hr (by omega) rfl (Ad (Bl BK BJ (Ac 1) Ah (λ_ _=>rfl)) (Ad (Ac 0) Ag)))⟩⟩) Ag)))))))
   (Aq (Bb HY))
   Cw)
   (Aq (Bb (Jh (Jbj (iW hr)) vf (Ax (Sd t) hr (by omega) rfl (Ad (Ac 1) Ag)) (Ax (Sd t) hr (by omega) rfl (Ad (Ax (Hv t) hr (by omega) rfl (Ad (Ac 0) Ag)) Ag)) (CG _))))))
def Kv(t:To K mg fa P w):Dm P w K mg base "need_two_heaps" 6 G4:=by
 exact t.cP (j:=39) (N:=["heap","other"]) 28 2 rfl (by decide +kernel) (bn2 rfl λ_ _ _ _ _ _ _ _=>rfl) λnd hr=>
  (Aj (Gq (Ax (Ip t) hr (by omega) rfl (Ad (Ac 0) Ag)))
   (Aj (Gq (Ax (Ip t) hr (by omega) rfl (Ad (Ac 1) Ag)))
   (Aq (Dw (Cm (Ga hr) GX (Bl BK BJ (Ac 0) Ah (λ_ _=>rfl)) (Bl BK BJ (Ac 1) Ah (λ_ _=>rfl)) (CG _))
   (Aq Rg)
   Cw))))
def Z7(t:To K mg fa P w):Dm P w K mg base "covers_same" 8 (Ij fa):=by
 exact t.cP (j:=40) (N:=["heap","other"]) 29 2 rfl (by decide +kernel) (bn2 rfl λ_ _ _ _ _ _ _ _=>rfl) λnd hr=>
  (Aj (Gq (Ax (Kv t) hr (by omega) rfl (Ad (Ac 0) (Ad (Ac 1) Ag))))
   (Aq (Bb (Jh (Gb hr) GZ (Ax (Hv t) hr (by omega) rfl (Ad (Ac 0) Ag)) (Ax (Hv t) hr (by omega) rfl (Ad (Ac 1) Ag)) (CG _)))))
def K7(t:To K mg fa P w):Dm P w K mg base "covered_without" 7 (Ey fa):=by
 have fv_by_first_alone:=t.v_by_first_alone;exact t.cP (j:=41) (N:=["heap","other"]) 30 2 rfl (by decide +kernel) (bn2 rfl λ_ _ _ _ _ _ _ _=>rfl) λnd hr=>
  (Aj (Gq (Ax (Kv t) hr (by omega) rfl (Ad (Ac 0) (Ad (Ac 1) Ag))))
   (Aq (Bb (Ax (JQ t) hr (by omega) rfl (Ad (Zw (n:=1) rfl fv_by_first_alone) (Ad (Bl BK BJ (Ac 0) Ah (λ_ _=>rfl)) (Ad (Bl BK BJ (Ac 1) Ah (λ_ _=>rfl)) (Ad (Bl BK BJ (Ac 0) Ah (λ_ _=>rfl)) Ag))))))))
def Mx(t:To K mg fa P w):Dm P w K mg base "covered_both" 7 (Fb fa):=by
 have fv_by_both:=t.v_by_both;exact t.cP (j:=42) (N:=["heap","other"]) 31 2 rfl (by decide +kernel) (bn2 rfl λ_ _ _ _ _ _ _ _=>rfl) λnd hr=>
  (Aj (Gq (Ax (Kv t) hr (by omega) rfl (Ad (Ac 0) (Ad (Ac 1) Ag))))
   (Aq (Bb (Ax (JQ t) hr (by omega) rfl (Ad (Zw (n:=2) rfl fv_by_both) (Ad (Bl BK BJ (Ac 0) Ah (λ_ _=>rfl)) (Ad (Bl BK BJ (Ac 1) Ah (λ_ _=>rfl)) (Ad (Bl BK BJ (Ac 0) Ah (λ_ _=>rfl)) Ag))))))))
def RK(t:To K mg fa P w):Dm P w K mg base "covered_size" 8 Gm:=by
 exact t.cP (j:=44) (N:=["heap"]) 32 1 rfl (by decide +kernel) (bn1 rfl λ_ _ _ _ _ _ _=>rfl) λnd hr=>
  (Aj (Gq (Ax (Ip t) hr (by omega) rfl (Ad (Ac 0) Ag)))
   (Aq (Bb (Ax (X8 t) hr (by omega) rfl (Ad (Ax (jj t) hr (by omega) rfl (Ad (Ac 0) Ag)) Ag)))))
def jg(t:To K mg fa P w):Dm P w K mg base "_law_well" 1 Jp:=by
 exact t.cP (j:=46) (N:=["cell"]) 33 1 rfl (by decide +kernel) (bn1 rfl λ_ _ _ _ _ _ _=>rfl) λnd hr=>
  (Aj (Dw (Cm iQ Zj (Ac 0) (BL J3 Hg Ah Ah) (CG _))
   (Aq (Bb (EY (Ad (Ac 0) (Ad (BL PJ Ma (Ac 0) Ah) Ag)) (Ao (Ao BW)))))
   Cw)
   (Aq (Bb (EY (Ad Ah (Ad (BL PJ Ma (Ac 0) Ah) Ag)) (Ao (Ao BW))))))
def DX(t:To K mg fa P w):Qh P w K mg base "_law_draw" 1 Ar:=by
 have B:=t.B;exact t.cM (j:=47) (N:=["well","many","got","stirred"]) 34 2 rfl (by decide +kernel) (bn2 rfl λ_ _ _ _ _ _ _ _=>rfl) λnd hr=>
  (Aj (Dw (Cm Q6 Ng (Bl BK BJ (Ac 0) Ah (λ_ _=>rfl)) Ah (CG _))
   (Aj (Cu (i:=2) nd (BL PJ Ma (Bl BK BJ (Ac 0) Ah (λ_ _=>rfl)) (Ac 1)))
   (Aj (Vc (BL VP Xh (Bl BK BJ (Ac 0) Ah (λ_ _=>rfl)) (Ac 1)) (Ac 0) Ah)
   (Aq (Bb (Ac 2)))))
   Cw)
   (Aj (Cu (i:=3) nd (BL PJ Ma (BL CK CJ (BL LK Kz (Bl BK BJ (Ac 0) Ah (λ_ _=>rfl)) Ah) Ah) Ah))
   (Aj (Cu (i:=3) nd (BL PJ Ma (BL LK Kz (Ac 3) (Ac 3)) Ah))
   (Aj (Vc (BL PJ Ma (BL CK CJ (BL LK Kz (Ac 3) Ah) Ah) Ah) (Ac 0) Ah)
   (Aq (Bb (BL PJ Ma (BL LK Kz (BL VP Xh (Bl BK BJ (Ac 0) Ah (λ_ _=>rfl)) Ah) (Bl BK BJ (EY (Ad Ah (Ad Ah Ag)) (Ao (Ao BW))) (Lb pG vd rfl (B.is "int") lZ (Ad (Jh Q6 Ng (Ac 1) (BL J3 Hg Ah Ah) (CG _)) Ag)) (λ_ _=>rfl))) (Ac 1))))))))
def dN(t:To K mg fa P w):Qh P w K mg base "_law_marks" 2 Ft:=by
 have B:=t.B;exact t.cM (j:=48) (N:=["well","many","far","way","some"]) 35 2 rfl (by decide +kernel) (bn2 rfl λ_ _ _ _ _ _ _ _=>rfl) λnd hr=>
  (Aj (Cu (i:=2) nd (BL CK CJ (BL Ig Gw (DG (DX t) hr (ar0) rfl (Ad (Ac 0) (Ad (BL Ig Gw (BL LK Kz Ah (BL J3 Hg Ah Ah)) Ah) Ag))) (BL J3 Hg Ah Ah)) Ah))
   (Aj (Cu (i:=3) nd (DG (DX t) hr (ar0) rfl (Ad (Ac 0) (Ad Ah Ag))))
   (Aj (Dw (Cm OJ Lq (Ac 3) Ah (CG _))
   (Aq (Bb (Bl BK BJ (EY (Ad (M6 rfl (Ad Ah Ag) rfl (B.is "list") rfl (B.is "range")) (Ad (M6 rfl (Ad (Q8 Lp Ky Ah) (Ad Ah Ag)) rfl (B.is "list") rfl (B.is "range")) Ag)) (Ao (Ao BW))) (Ac 3) (λ_ _=>rfl))))
   Cw)
   (Aj (Dw (Cm (Gb hr) GZ (Ac 3) Ah (CG _))
   (Aq (Bb (M6 rfl (Ad (Ac 2) (Ad (BL CK CJ (Ac 2) Ah) Ag)) rfl (B.is "list") rfl (B.is "range"))))
   Cw)
   (Aj (KD (i:=4) rfl nd (Dl.of (sc:=Br (top 48)) (N:=["well","many","far","way","some"]) (N2:=["k","well"]) (k:=1) (caps:=[0]) (by decide +kernel)) rfl (Jm rfl (B.is "range") (Ad (BL CK CJ Ah (Ac 1)) Ag)) ⟨λ_ _ _ _ _=>⟨(BR (i:=0) (show U1q (["k","well"]:List Str) by decide +kernel)),Et,(BL Ig Gw (DG (DX t) hr (ar0) rfl (Ad (Ac 1) (Ad (BL CK CJ (BL LK Kz Ah (BL J3 Hg Ah Ah)) Ah) Ag))) (BL J3 Hg Ah Ah))⟩⟩)
   (Aj (Dw (Cm (Gb hr) GZ (Ac 3) Ah (CG _))
   (Aq (Cu (i:=4) nd (BL CK CJ (Ac 4) (EY (Ad (Q8 Lp Ky (BL J3 Hg Ah Ah)) (Ad (BL J3 Hg Ah Ah) Ag)) (Ao (Ao BW))))))
   Cw)
   (Aq (Bb (Wb rfl (BL CK CJ (Ac 4) (EY (Ad (Ac 2) (Ad (BL CK CJ (Ac 2) Ah) Ag)) (Ao (Ao BW)))) rfl (B.is "sorted") rfl (B.is "set"))))))))))
def SX(t:To K mg fa P w):Qh P w K mg base "_law_stretch" 2 Gz:=by
 have B:=t.B;exact t.cM (j:=49) (N:=["well","marks","at"]) 36 2 rfl (by decide +kernel) (bn2 rfl λ_ _ _ _ _ _ _ _=>rfl) λnd hr=>
  (Aj (Cu (i:=2) nd (DG (DX t) hr (ar0) rfl (Ad (Ac 0) (Ad (BL Ig Gw (Bw Cy FW rfl (B.is "len") Fw (Ad (Ac 1) Ag)) Ah) Ag))))
   (Aq (Bb (Dj (Ad (Bl BK BJ (Ac 1) (Ac 2) (λ_ _=>rfl)) (Ad (Bl BK BJ (Ac 1) (BL CK CJ (BL CK CJ (Ac 2) Ah) (DG (DX t) hr (ar0) rfl (Ad (Ac 0) (Ad (BL Ig Gw (BL Ig Gw (Bw Cy FW rfl (B.is "len") Fw (Ad (Ac 1) Ag)) Ah) (Ac 2)) Ag)))) (λ_ _=>rfl)) Ag)) (Ao (Ao BW))))))
def ji(t:To K mg fa P w):Qh P w K mg base "_law_near" 3 Jr:=by
 have B:=t.B;exact t.cM (j:=50) (N:=["well","box","marks","way","at","low","high","inner"]) 37 3 rfl (by decide +kernel) (bn3 rfl λ_ _ _ _ _ _ _ _ _=>rfl) λnd hr=>
  (Aj (Cu (i:=3) nd (DG (DX t) hr (by omega) rfl (Ad (Ac 0) (Ad Ah Ag))))
   (Aj (Cu (i:=4) nd (DG (DX t) hr (by omega) rfl (Ad (Ac 0) (Ad (Bw Cy FW rfl (B.is "len") Fw (Ad (Ac 1) Ag)) Ag))))
   (Aj (Zv (Bl BK BJ (Ac 1) (Ac 4) (λ_ _=>rfl)) (GC rfl (CV (BR (i:=5) nd) (CV (BR (i:=6) nd) Fi))))
   (Aj (Dw (Cm (Gb hr) GZ (Ac 3) Ah (CG _))
   (Aq (Bb (BL CK CJ (BL CK CJ (GJ Ib Ie (Ac 1) Gy (Gx (Ac 4))) (Dj (Ad (Dj (Ad (Ac 6) (Ad (BL CK CJ (BL CK CJ (Ac 6) Ah) (DG (DX t) hr (by omega) rfl (Ad (Ac 0) (Ad Ah Ag)))) Ag)) (Ao (Ao BW))) Ag) (Ao BW))) (GJ Ib Ie (Ac 1) (Gx (BL CK CJ (Ac 4) Ah)) Gy))))
   Cw)
   (Aj (Dw (Cm (Gb hr) GZ (Ac 3) Ah (CG _))
   (Aj (Cu (i:=7) nd (BL CK CJ (Ac 5) (DG (DX t) hr (by omega) rfl (Ad (Ac 0) (Ad (BL Ig Gw (Ac 6) (Ac 5)) Ag)))))
   (Aq (Bb (BL CK CJ (BL CK CJ (GJ Ib Ie (Ac 1) Gy (Gx (Ac 4))) (Dj (Ad (Dj (Ad (Ac 7) (Ad (Ac 6) Ag)) (Ao (Ao BW))) Ag) (Ao BW))) (GJ Ib Ie (Ac 1) (Gx (BL CK CJ (Ac 4) Ah)) Gy)))))
   Cw)
   (Aj (Dw (Cm (Gb hr) GZ (Ac 3) Ah (CG _))
   (Aq (Bb (BL CK CJ (BL CK CJ (GJ Ib Ie (Ac 1) Gy (Gx (Ac 4))) (Dj (Ad (DG (SX t) hr (by omega) rfl (Ad (Ac 0) (Ad (Bl BK BJ (Ac 2) (Ac 4) (λ_ _=>rfl)) Ag))) Ag) (Ao BW))) (GJ Ib Ie (Ac 1) (Gx (BL CK CJ (Ac 4) Ah)) Gy))))
   Cw)
   (Aj (Dw (Cm (Gb hr) GZ (Ac 3) Ah (CG _))
   (Aq (Bb (BL CK CJ (BL CK CJ (GJ Ib Ie (Ac 1) Gy (Gx (Ac 4))) (Dj (Ad (Dj (Ad (BL Ig Gw (BL Ig Gw (Ac 5) Ah) (DG (DX t) hr (by omega) rfl (Ad (Ac 0) (Ad Ah Ag)))) (Ad (Ac 5) Ag)) (Ao (Ao BW))) Ag) (Ao BW))) (GJ Ib Ie (Ac 1) (Gx (BL CK CJ (Ac 4) Ah)) Gy))))
   Cw)
   (Aj (Dw (Cm (Gb hr) GZ (Ac 3) Ah (CG _))
   (Aq (Bb (Lb Ke QG rfl (B.is "tuple") Jl (Ad (Ef rfl (Dl.of (sc:=Br (top 50)) (N:=["well","box","marks","way","at","low","high","inner"]) (N2:=["one"]) (k:=1) (caps:=[]) (by decide +kernel)) rfl (Dv (Ac 1)) ⟨λ_ _ _ _ _=>⟨(BR (i:=0) (show U1q (["one"]:List Str) by decide +kernel)),Et,(Dj (Ad (Bl BK BJ (Ac 0) Ah (λ_ _=>rfl)) (Ad (BL CK CJ (Bl BK BJ (Ac 0) Ah (λ_ _=>rfl)) Ah) Ag)) (Ao (Ao BW)))⟩⟩) Ag))))
   Cw)
   (Aq (Bb (Ac 1)))))))))))
def Wx(t:To K mg fa P w):Qh P w K mg base "_law_heap" 4 Hs:=by
 have B:=t.B;exact t.cM (j:=51) (N:=["well","ways","most","many","marks","boxes","alike","k","box"]) 38 3 rfl (by decide +kernel) (bn3 rfl λ_ _ _ _ _ _ _ _ _=>rfl) λnd hr=>
  (Aj (Cu (i:=3) nd (Bl BK BJ (EY (Ad (DG (DX t) hr (by omega) rfl (Ad (Ac 0) (Ad (BL CK CJ (Bw (Yp rfl) aV rfl (B.is "min") lY (Ad (Ac 2) (Ad Ah Ag))) Ah) Ag))) (Ad (DG (DX t) hr (by omega) rfl (Ad (Ac 0) (Ad (BL CK CJ (Ac 2) Ah) Ag))) (Ad (Ac 2) Ag))) (Ao (Ao (Ao BW)))) (DG (DX t) hr (by omega) rfl (Ad (Ac 0) (Ad Ah Ag))) (λ_ _=>rfl)))
   (Aj (Cu (i:=4) nd (Ef rfl (Dl.of (sc:=Br (top 51)) (N:=["well","ways","most","many","marks","boxes","alike","k","box"]) (N2:=["way","well","many"]) (k:=1) (caps:=[0,3]) (by decide +kernel)) rfl (Jm rfl (B.is "range") (Ad (Ac 1) Ag)) ⟨λ_ _ _ _ _=>⟨(BR (i:=0) (show U1q (["way","well","many"]:List Str) by decide +kernel)),Et,(DG (dN t) hr (by omega) rfl (Ad (Ac 1) (Ad (Ac 2) Ag)))⟩⟩))
   (Aj (Cu (i:=5) nd (Oq Ag BW))
   (Aj (Cu (i:=6) nd (DG (DX t) hr (by omega) rfl (Ad (Ac 0) (Ad Ah Ag))))
   (Aj (Ih rfl (Jm rfl (B.is "range") (Ad (Ac 3) Ag)) (BR (i:=7) nd)
   (Aj (Cu (i:=8) nd (Lb Ke QG rfl (B.is "tuple") Jl (Ad (Ef rfl (Dl.of (sc:=Br (top 51)) (N:=["well","ways","most","many","marks","boxes","alike","k","box"]) (N2:=["way","well","marks"]) (k:=1) (caps:=[0,4]) (by decide +kernel)) rfl (Jm rfl (B.is "range") (Ad (Ac 1) Ag)) ⟨λ_ _ _ _ _=>⟨(BR (i:=0) (show U1q (["way","well","marks"]:List Str) by decide +kernel)),Et,(DG (SX t) hr (by omega) rfl (Ad (Ac 1) (Ad (Bl BK BJ (Ac 2) (Ac 0) (λ_ _=>rfl)) Ag)))⟩⟩) Ag)))
   (Aj (Dw (Hw (W6 (Cm (Ga hr) GX (Ac 5) (EY Ag BW) (CG _)) (Xp (Cm OJ Lq (DG (DX t) hr (by omega) rfl (Ad (Ac 0) (Ad Ah Ag))) (Ac 6) (CG _)))))
   (Aq (Cu (i:=8) nd (DG (ji t) hr (by omega) rfl (Ad (Ac 0) (Ad (Bl BK BJ (Ac 5) (DG (DX t) hr (by omega) rfl (Ad (Ac 0) (Ad (Bw Cy FW rfl (B.is "len") Fw (Ad (Ac 5) Ag)) Ag))) (λ_ _=>rfl)) (Ad (Ac 4) Ag))))))
   Cw)
   (Aq (Dw (Cm ZC W2 (Bw (pF rfl rfl) qZ rfl (B.is "max") Zy (Ad (Ef rfl (Dl.of (sc:=Br (top 51)) (N:=["well","ways","most","many","marks","boxes","alike","k","box"]) (N2:=["low","high"]) (k:=2) (caps:=[]) (by decide +kernel)) rfl (Dv (Ac 8)) ⟨λ_ _ _ _ _=>⟨(GC rfl (CV (BR (i:=0) (show U1q (["low","high"]:List Str) by decide +kernel)) (CV (BR (i:=1) (show U1q (["low","high"]:List Str) by decide +kernel)) Fi))),Et,(Bw (Yq rfl) aW rfl (B.is "max") Zy (Ad (Bw bY eZ rfl (B.is "abs") lg (Ad (Ac 0) Ag)) (Ad (Bw bY eZ rfl (B.is "abs") lg (Ad (Ac 1) Ag)) Ag)))⟩⟩) Ag)) (BL J3 Hg Ah Ah) (CG _))
   (Aq (Gq (Oo U3n U33 U34 Nq Nm (Ac 5) (Ad (Ac 8) Ag))))
   Cw)))) U2n)
   (Aq (Bb (Dj (Ad (Ac 1) (Ad (Ac 5) Ag)) (Ao (Ao BW))))))))))
def jh(t:To K mg fa P w):Qh P w K mg base "_law_spot" 2 Jq:=by
 have B:=t.B;exact t.cM (j:=53) (N:=["well","heap","ways","boxes","box","found","low","high"]) 39 2 rfl (by decide +kernel) (bn2 rfl λ_ _ _ _ _ _ _ _=>rfl) λnd hr=>
  (Aj (Zv (Ac 1) (GC rfl (CV (BR (i:=2) nd) (CV (BR (i:=3) nd) Fi))))
   (Aj (Dw (Hw (HX (Cm (Gb hr) GZ (Ac 3) (EY Ag BW) (CG _)) (Hl (Cm (Gb hr) GZ (DG (DX t) hr (ar0) rfl (Ad (Ac 0) (Ad Ah Ag))) Ah (CG _)))))
   (Aq (Bb (Lb Ke QG rfl (B.is "tuple") Jl (Ad (Ef rfl (Dl.of (sc:=Br (top 53)) (N:=["well","heap","ways","boxes","box","found","low","high"]) (N2:=["way","well"]) (k:=1) (caps:=[0]) (by decide +kernel)) rfl (Jm rfl (B.is "range") (Ad (Ac 2) Ag)) ⟨λ_ _ _ _ _=>⟨(BR (i:=0) (show U1q (["way","well"]:List Str) by decide +kernel)),Et,(BL Ig Gw (DG (DX t) hr (ar0) rfl (Ad (Ac 1) (Ad (BL CK CJ (BL LK Kz Ah (BL J3 Hg Ah Ah)) Ah) Ag))) (BL J3 Hg Ah Ah))⟩⟩) Ag))))
   Cw)
   (Aj (Cu (i:=4) nd (Bl BK BJ (Ac 3) (DG (DX t) hr (ar0) rfl (Ad (Ac 0) (Ad (Bw Cy FW rfl (B.is "len") Fw (Ad (Ac 3) Ag)) Ag))) (λ_ _=>rfl)))
   (Aj (Cu (i:=5) nd (Oq Ag BW))
   (Aj (Ih rfl (Dv (Ac 4)) (GC rfl (CV (BR (i:=6) nd) (CV (BR (i:=7) nd) Fi)))
   (Aq (Gq (Oo U3n U33 U34 Nq Nm (Ac 5) (Ad (Bl BK BJ (EY (Ad (Ac 6) (Ad (BL Ig Gw (Ac 7) Ah) (Ad (Ac 7) (Ad (BL Ig Gw (Ac 6) Ah) (Ad (BL VP Xh (BL CK CJ (Ac 6) (Ac 7)) Ah) (Ad (Ac 6) Ag)))))) (Ao (Ao (Ao (Ao (Ao (Ao BW))))))) (DG (DX t) hr (ar0) rfl (Ad (Ac 0) (Ad Ah Ag))) (λ_ _=>rfl)) Ag)))) U2n)
   (Aq (Bb (Lb Ke QG rfl (B.is "tuple") Jl (Ad (Ef rfl (Dl.of (sc:=Br (top 53)) (N:=["well","heap","ways","boxes","box","found","low","high"]) (N2:=["one"]) (k:=1) (caps:=[]) (by decide +kernel)) rfl (Dv (Ac 5)) ⟨λ_ _ _ _ _=>⟨(BR (i:=0) (show U1q (["one"]:List Str) by decide +kernel)),Et,(Bw (Yq rfl) aW rfl (B.is "max") Zy (Ad (Q8 Lp Ky (BL J3 Hg Ah Ah)) (Ad (Bw (Yp rfl) aV rfl (B.is "min") lY (Ad (BL J3 Hg Ah Ah) (Ad (Ac 0) Ag))) Ag)))⟩⟩) Ag)))))))))
def dO(t:To K mg fa P w):Dm P w K mg base "_law_holds" 1 KR:=by
 have B:=t.B;exact t.cP (j:=54) (N:=["box","spot","k"]) 40 2 rfl (by decide +kernel) (bn2 rfl λ_ _ _ _ _ _ _ _=>rfl) λnd hr=>
  (Aj (Ih rfl (Jm rfl (B.is "range") (Ad (Bw Cy FW rfl (B.is "len") Fw (Ad (Ac 0) Ag)) Ag)) (BR (i:=2) nd)
   (Aq (Dw (Hw (HX (Cm OJ Lq (Bl BK BJ (Ac 1) (Ac 2) (λ_ _=>rfl)) (Bl BK BJ (Bl BK BJ (Ac 0) (Ac 2) (λ_ _=>rfl)) Ah (λ_ _=>rfl)) (CG _)) (Hl (Cm iQ Zj (Bl BK BJ (Ac 1) (Ac 2) (λ_ _=>rfl)) (Bl BK BJ (Bl BK BJ (Ac 0) (Ac 2) (λ_ _=>rfl)) Ah (λ_ _=>rfl)) (CG _)))))
   (Aq (Bb HY))
   Cw)) U2n)
   (Aq (Bb HY)))
def Tq(t:To K mg fa P w):Dm P w K mg base "_law_sum" 7 JV:=by
 have B:=t.B;have Bs:=t.Z "sum" (by decide);exact t.cP (j:=55) (N:=["ways","boxes"]) 41 2 rfl (by decide +kernel) (bn2 rfl λ_ _ _ _ _ _ _ _=>rfl) λnd hr=>
  (Aq (Bb (Bw (Yo rfl) eX rfl Bs lX (Ad (Ef rfl (Dl.of (sc:=Br (top 55)) (N:=["ways","boxes"]) (N2:=["box","ways"]) (k:=1) (caps:=[0]) (by decide +kernel)) rfl (Dv (Ac 1)) ⟨λ_ _ _ _ _=>⟨(BR (i:=0) (show U1q (["box","ways"]:List Str) by decide +kernel)),Et,(Ax (pH t) hr (by omega) rfl (Ad (Dj (Ad (Ac 1) (Ad (EY (Ad (Ac 0) Ag) (Ao BW)) Ag)) (Ao (Ao BW))) (Ad Ah Ag)))⟩⟩) Ag))))
def XD(t:To K mg fa P w):Qh P w K mg base "_law_one_right" 9 (Iv fa):=by
 have B:=t.B;exact t.cM (j:=56) (N:=["well","heap","ways","boxes","parts","turn","spot","held"]) 42 2 rfl (by decide +kernel) (bn2 rfl λ_ _ _ _ _ _ _ _=>rfl) λnd hr=>
  (Aj (Zv (Ac 1) (GC rfl (CV (BR (i:=2) nd) (CV (BR (i:=3) nd) Fi))))
   (Aj (Cu (i:=4) nd (Ax (Hv t) hr (ar1) rfl (Ad (Ac 1) Ag)))
   (Aj (Dw (Hw (HX (Cm rG qb (Ax (UJ t) hr (by omega) rfl (Ad (Ac 1) (Ad (Ac 4) Ag))) HY (CG _)) (Hl (Cm (Ga hr) GX (Ac 4) (sO rfl hr rfl (B.is "sorted") (Ac 4)) (CG _)))))
   (Aq (Bb HY))
   Cw)
   (Aj (Dw (Cm (Ga hr) GX (Ax (Tq t) hr (ar1) rfl (Ad (Ac 2) (Ad (Ac 4) Ag))) (Ax (RK t) hr (by omega) rfl (Ad (Ac 1) Ag)) (CG _))
   (Aq (Bb HY))
   Cw)
   (Aj (Dw (Hw (W6 (Cm OJ Lq (Bw Cy FW rfl (B.is "len") Fw (Ad (Ac 4) Ag)) (Bl BK BJ (EY (Ad Ah (Ad Ah (Ad Ah (Ad Ah Ag)))) (Ao (Ao (Ao (Ao BW))))) (Ac 2) (λ_ _=>rfl)) (CG _)) (Xp (Cm (Ga hr) GX (Ax (Hv t) hr (ar1) rfl (Ad (Dj (Ad (Ac 2) (Ad (Ac 4) Ag)) (Ao (Ao BW))) Ag)) (Ac 4) (CG _)))))
   (Aq (Bb HY))
   Cw)
   (Aj (Dw (Hw (HX (Cm (Ga hr) GX (Ax (Hv t) hr (ar1) rfl (Ad (Dj (Ad (Ac 2) (Ad (xX (Ac 3)) Ag)) (Ao (Ao BW))) Ag)) (Ac 4) (CG _)) (Hl (Cm (Ga hr) GX (Ax (Hv t) hr (ar1) rfl (Ad (Dj (Ad (Ac 2) (Ad (BL CK CJ (GJ Ib Ie (Ac 3) Gy (Gx Ah)) (Ac 3)) Ag)) (Ao (Ao BW))) Ag)) (Ac 4) (CG _)))))
   (Aq (Bb HY))
   Cw)
   (Aj (Dw (Hw (HX (Cm (Ga hr) GX (Ax (K7 t) hr (ar1) rfl (Ad (Ac 1) (Ad (Ac 1) Ag))) (EY Ag BW) (CG _)) (Hl (Cm (Ga hr) GX (Ax (Mx t) hr (ar1) rfl (Ad (Ac 1) (Ad (Ac 1) Ag))) (Ac 4) (CG _)))))
   (Aq (Bb HY))
   Cw)
   (Aj (Ih rfl (Jm rfl (B.is "range") (Ad Ah Ag)) (BR (i:=5) nd)
   (Aj (Cu (i:=6) nd (DG (jh t) hr (by omega) rfl (Ad (Ac 0) (Ad (Ac 1) Ag))))
   (Aj (KD (i:=7) rfl nd (Dl.of (sc:=Br (top 56)) (N:=["well","heap","ways","boxes","parts","turn","spot","held"]) (N2:=["box","spot"]) (k:=1) (caps:=[6]) (by decide +kernel)) rfl (Dv (Ac 4)) ⟨λ_ _ _ _ _=>⟨(BR (i:=0) (show U1q (["box","spot"]:List Str) by decide +kernel)),(R0 (Gd (Ax (dO t) hr (by omega) rfl (Ad (Ac 0) (Ad (Ac 1) Ag))))),(Ac 0)⟩⟩)
   (Aq (Dw (Hw (HX (Cm Q6 Ng (Bw Cy FW rfl (B.is "len") Fw (Ad (Ac 7) Ag)) Ah (CG _)) (Hl (Cm (Ga hr) GX (Jh (Ga hr) GX (Ac 7) (EY Ag BW) (CG _)) (Jh Q6 Ng (Ax (dR t) hr (ar1) rfl (Ad (Ac 1) (Ad (Ac 6) Ag))) Ah (CG _)) (CG _)))))
   (Aq (Bb HY))
   Cw)))) U2n)
   (Aq (Bb HY))))))))))
def XC(t:To K mg fa P w):Dm P w K mg base "_law_two_right" 9 (Iu fa):=by
 exact t.cP (j:=57) (N:=["heap","other","less","both","more"]) 43 2 rfl (by decide +kernel) (bn2 rfl λ_ _ _ _ _ _ _ _=>rfl) λnd hr=>
  (Aj (Cu (i:=2) nd (Ax (K7 t) hr (ar1) rfl (Ad (Ac 0) (Ad (Ac 1) Ag))))
   (Aj (Cu (i:=3) nd (Ax (Mx t) hr (ar1) rfl (Ad (Ac 0) (Ad (Ac 1) Ag))))
   (Aj (Dw (Hw (HX (Ho (Gd (Ax (UJ t) hr (by omega) rfl (Ad (Ac 0) (Ad (BL CK CJ (Ac 2) (Ac 3)) Ag))))) (Hl (Cm (Ga hr) GX (Ax (Mx t) hr (ar1) rfl (Ad (Ac 1) (Ad (Ac 0) Ag))) (Ac 3) (CG _)))))
   (Aq (Bb HY))
   Cw)
   (Aj (Cu (i:=4) nd (Ax (K7 t) hr (ar1) rfl (Ad (Ac 1) (Ad (Ac 0) Ag))))
   (Aj (Dw (Cm (Ga hr) GX (Ax (Z7 t) hr (by omega) rfl (Ad (Ac 0) (Ad (Ac 1) Ag))) (PK (Jh (Gb hr) GZ (Ac 2) (EY Ag BW) (CG _)) (Qu (Jh (Gb hr) GZ (Ac 4) (EY Ag BW) (CG _)))) (CG _))
   (Aq (Bb HY))
   Cw)
   (Aq (Bb (Jh (Gb hr) GZ (BL CK CJ (Ax (Tq t) hr (ar1) rfl (Ad (Bl BK BJ (Ac 0) Ah (λ_ _=>rfl)) (Ad (Ac 2) Ag))) (Ax (Tq t) hr (ar1) rfl (Ad (Bl BK BJ (Ac 0) Ah (λ_ _=>rfl)) (Ad (Ac 3) Ag)))) (Ax (RK t) hr (by omega) rfl (Ad (Ac 0) Ag)) (CG _)))))))))
def Jbq(t:To K mg fa P w){f:Addr}{fd:FuncData}(F:Fun K "law" "law" (top 58) f fd):Hj P w K mg base CX0 10 f fd ["script"] (spP K (eY fa) 1):=by
 have nd:(["script","cell","well","ways","most","heap","other"]:List Str).Nodup:=by decide +kernel
 exact fnP F (Vx (N:=["script","cell","well","ways","most","heap","other"]) (by decide +kernel)) λcdv A outer s H E hr=>
  (Aj (Ih rfl (Dv (BL CK CJ (EY (Ad Ah (Ad Ah Ag)) (Ao (Ao BW))) (GJ Ib Ie (Ac 0) Gy (Gx Ah)))) (BR (i:=1) nd)
   (Aj (Cu (i:=2) nd (sJ (jg t) hr (by omega) rfl (Ad (Ac 1) Ag)))
   (Aj (Cu (i:=3) nd (BL CK CJ Ah (DG (DX t) hr (by omega) rfl (Ad (Ac 2) (Ad Ah Ag)))))
   (Aj (Cu (i:=4) nd (Bl BK BJ (EY (Ad Ah (Ad Ah (Ad Ah (Ad Ah Ag)))) (Ao (Ao (Ao (Ao BW))))) (Ac 3) (λ_ _=>rfl)))
   (Aj (Cu (i:=5) nd (DG (Wx t) hr (by omega) rfl (Ad (Ac 2) (Ad (Ac 3) (Ad (Ac 4) Ag)))))
   (Aj (Cu (i:=6) nd (Bl BK BJ (EY (Ad (DG (Wx t) hr (by omega) rfl (Ad (Ac 2) (Ad (Ac 3) (Ad (Ac 4) Ag)))) (Ad (Dj (Ad (Ac 3) (Ad (GJ Ib Ie (Bl BK BJ (Ac 5) Ah (λ_ _=>rfl)) (Gx Ah) Gy) Ag)) (Ao (Ao BW))) Ag)) (Ao (Ao BW))) (DG (DX t) hr (by omega) rfl (Ad (Ac 2) (Ad Ah Ag))) (λ_ _=>rfl)))
   (Aq (Dw (Hw (HX (Ho (Gd (DG (XD t) hr (by omega) rfl (Ad (Ac 2) (Ad (Ac 5) Ag))))) (Hl (Ho (Gd (Ax (XC t) hr (by omega) rfl (Ad (Ac 5) (Ad (Ac 6) Ag))))))))
   (Aq (Bb HY))
   Cw))))))) U2n)
   (Aq (Bb HY)))
end
end W42
end
section
namespace W42
open PySem L2 VS
def M7(i:Int):Gs [.int i]=some (.bl true):=by simp[Gs,Wi,CW,Ak,Cr,Ay,Al,Dk,R7,yO,Cv,den,-U0d,-U0b]
def V5{n:Int}(h:n=1∨n=2∨n=3):Ht [.int n]=some (.bl true):=by
 have e:(Spec.lookup (.int n) Bc.D3).isSome=true:=by rw[Bc.Jeb];exact decide_eq_true h
 simp[Ht,Wn,CW,Ak,Nj,Ay,Al,R7,Fp,Cv,den,Cp,age,Bf,Aw,Av,-U0d,-U0b,M7,ZP,e]
def Z4(p:St2):Jy [Bm p]=some (.bl (decide (p.1<p.2))):=by have h:El [] (Bm p)=some (pS p):=mq [] p;simp only[Bm]at h ⊢;simp[Jy,U9,Fx,CW,Em,Ei,Ak,Cr,Bg,Ay,Al,Dk,R7,DP,K8,MP,Fp,oI,FQ,oLt,oEq,oIx,DQ,VS.listOf,Bj,Cv,den,Cp,age,Bf,Aw,Av,-U0d,-U0b,M7,h,pS]
def tG(n:Nat)(b:List St2)(hb:∀p∈b,p.1<p.2)(hl:b.length<=1000):Td [some (.int n),some (Ae b)] []=some (b.map (λ_=>D.bl true),[]):=by
 unfold Td Ck;have e:Cz (Ab 1) [some (.int n),some (Ae b)] []=some ((b.map Bm,[]),[]):=by simp[Ak,VS.listOf,Bj,VS.idOf,Ea,-U0d,-U0b,Ae]
 rw[e];simp only[U0g];rw[Rn (by simp) (λ_=>.bl true) _ (by simp;lia)]
 .simp[U6f]
 .intro d hd;obtain⟨p,hp,rfl⟩:=U03.mp hd;refine⟨_,rfl,?_⟩;have h1:=Z4 p;rw[decide_eq_true (hb p hp)]at h1;simp[Ak,Ay,Al,Ew,Fp,Cp,Bf,Av,U0p,-U0d,-U0b,h1]
def Oi{Zp:Type}(l:List Zp):Il.boolsOf (l.map λ_=>D.bl true)=some (l.map λ_=>true):=by have:=V4 (l.map λ_=>true);rw[U0d]at this;exact this
def YZ{n:Nat}{b:List St2}(hn:n=1∨n=2∨n=3)(hb:∀p∈b,p.1<p.2)(hl:b.length=n):Ls [.int n,Ae b]=some (.bl true):=by
 have hw:Ht [.int n]=some (.bl true):=V5 (by lia);have hc:=tG n b hb (by lia);have h:El [] (Ae b)=some (pB b):=n6 [] b;have hlen:DQ [] [Ae b]=some (.int n):=by simp[DQ,Ae,Bj,hl]
 simp[Ls,bJ,BZ,sIf,CN,Dp,VS.tOr,VS.G7,BX,Am,eCB,Aa,Af,Ab,eC,eOp,Bk,Dr,den,Cp,age,Bf,Aw,Av,hw,h,pB,hlen,oEq,hc,Il,VS.listOf,Oi]
def xK{n:Nat}(h:n=1∨n=2∨n=3):W4 Bc.D3 [] (.int n)=some (.int ([0,20,10,6].getD n 0:Nat)):=by rcases h with h|h|h<;>subst h<;>rfl
def oH{n:Nat}{m:Bool}{bs:List (List St2)}(g:Good n bs):Rv [some (Ai m n bs),some (.int n),some (.lst m (bs.map Ae))] []=some (bs.map (λ_=>D.bl true),[]):=by
 have few:=g.few;unfold Rv Ck;have e:Cz (Ab 2) [some (Ai m n bs),some (.int n),some (.lst m (bs.map Ae))] []=some ((bs.map Ae,[]),[]):=by simp[Ak,VS.listOf,Bj,VS.idOf,Ea,-U0d,-U0b]
 rw[e];simp only[U0g];rw[Rn (by simp) (λ_=>.bl true) _ (by simp;lia)]
 .simp[U6f]
 .intro d hd;obtain⟨b,hb,rfl⟩:=U03.mp hd;refine⟨_,rfl,?_⟩;have h1:=YZ g.ways (λp hp=>((g.box b hb).2 p hp).1) (g.box b hb).1;simp[Ak,Ay,Al,Ew,Fp,den,Cp,age,Bf,Aw,Av,U0p,-U0d,-U0b,h1]
def jT{n:Nat}{m:Bool}{bs:List (List St2)}(g:Good n bs):N8 [Ai m n bs]=some (.bl true):=by
 have hw:Ht [.int n]=some (.bl true):=V5 (by have:=g.ways;lia);have hc:=oH (m:=m) g;have h:=mz [] m n bs;have h2:=JK [] m bs;have hm:=xK g.ways;have hle:¬(([0,20,10,6].getD n 0:Nat):Int)<(bs.length:Int):=by have:=g.most;lia
 unfold Ai at h hc ⊢;simp only[U1b]at hm hle;simp[N8,Yg,BZ,sIf,CN,Dp,Ci,VS.tOr,VS.G7,BX,Am,eCB,Aa,Af,Ab,eC,eOp,eUn,Bk,Dr,den,Cp,age,Bf,Aw,Av,hw,h,h2,hc,oEq,oIx,oGt,oI,FQ,DQ,VS.Bj,VS.listOf,Il,Oi,hm,hle]
def Hu{n:Nat}{m:Bool}{bs:List (List St2)}(g:Good n bs):Dc [Ai m n bs]=some .non:=by have h:=jT (m:=false) g;simp[Dc,Uw,Em,Ei,YG,Ak,Ay,Al,DP,MP,Fp,Cv,Cp,Bf,Av,-U0d,-U0b,h]
def vB(c:Int):∃x y,Jp [.int c]=some (.lst true [.int x,.int y]):=by by_cases h:(1000000000000000000:Int)<=c<;>simp[Jp,Wg,Fx,CW,Em,Ei,Ak,Cr,Bg,Ay,Al,DP,Cq,oI,FQ,ZR,Kh,oMod,Fq,oGe,Cv,den,Cp,-U0d,-U0b,h]
def Eu(x y m:Int)(h0:0<m)(h1:m<2^63):∃r x' y',Ar [x,y] [.int m]=some (.int r,[x',y'])/\0<=r/\r<m:=by
 have hm:m<18446744073709551616:=by lia
 by_cases h:0<x
 .simp[Ar,Ry,Fx,DW,CW,Em,Ei,TQ,Ak,Cr,Bg,Ay,Al,Dk,DP,Cq,oI,FQ,MN,ZV,ZR,Kh,Bo,Hx,oDiv,oMod,Fq,oGt,oIx,ZX,VS.listOf,Bj,Hy,intsOf,den,U0p,-U0d,-U0b,h,h0,hm];exact⟨Int.emod_nonneg _ (by lia),Int.emod_lt_of_pos _ h0⟩
 .have hc:∀t:Int,-18446744073709551616<t%2147483647/\t%2147483647<18446744073709551616:=λt=>by lia
  have hc2:∀t:Int,-18446744073709551616<t%2147483587/\t%2147483587<18446744073709551616:=λt=>by lia
  have hc3:∀t:Int,-18446744073709551616<t%2147483629/8/\t%2147483629/8<18446744073709551616:=λt=>by lia
  by_cases hb:1000000<m<;>simp[Ar,Ry,Fx,DW,CW,Em,Ei,TQ,Ak,Cr,Bg,Ay,Al,Dk,DP,Cq,oI,FQ,MN,ZV,ZR,Kh,Bo,Hx,oDiv,oMod,Fq,oGt,oIx,ZX,VS.listOf,Bj,Hy,intsOf,den,U0p,-U0d,-U0b,h,h0,hm,hb,hc,hc2,hc3]<;>exact⟨Int.emod_nonneg _ (by lia),Int.emod_lt_of_pos _ h0⟩
structure Marks(ms:List Int):Prop where
 rise:ms.Pairwise (·<·)
 two:2<=ms.length
 few:ms.length<=60
 near:∀x∈ms,-1000000000<=x/\x<=1000000000
def VJ{lo:Int}{n:Nat}(h1:2<=n)(h2:n<=60)(h3:-1000000000<=lo)(h4:lo+n<=1000000000):Marks ((U07 n).map λ(i:Nat)=>lo+(i:Int)):=by
 refine⟨?_,by simpa using h1,by simpa using h2,λx hx=>?_⟩
 .rw[U6g];exact U6l.imp λh=>by lia
 .obtain⟨i,hi,rfl⟩:=U03.mp hx;have:=U3l.mp hi;lia
def xM(x y many f w:Int)(h0:0<=many)(h1:many<=40):∃(ns:List Int)(x' y':Int),Pr [some (.ref 0),some (.int many),some (.int f),some (.int w),none] [some [.int x,.int y]]=some (ns.map .int,[some [.int x',.int y']])/\ns.length<=42/\∀n∈ns,-1000000000<=n/\n<=1000000000:=by
 have e:Fz (Aa (eOp Bo (eC (.int 2)) (Ab 1)) Af) [some (.ref 0),some (.int many),some (.int f),some (.int w),none] [some [.int x,.int y]]=some ((upD 0 (2+many).toNat,[]),[some [.int x,.int y]]):=by exact P0 _ (by simp[Ak,Cr,Bg,Ay,Al,Bo,VS.listOf,-U0d,-U0b]) rfl (by lia) (by lia)
 unfold Pr Ck;rw[e];simp only[U0g];obtain⟨ys,S',e2,⟨ns,x',y',rfl,rfl,hl,hb⟩⟩:=Rm (w:=[]) (e0:=Ew 1 [0] [some (.ref 0),some (.int many),some (.int f),some (.int w),none]) (g:=Pat.sem (.nm 0)) (ds:=upD 0 (2+many).toNat) (S:=[some [.int x,.int y]])
  (f:=(eOp G6 (Bq Ar (Aa (Ab 1) (Aa (eOp Bo (eOp Hx (eC (.int 2)) (eOp Fq (eC (.int 10)) (eC (.int 9)))) (eC (.int 1))) Af))) (eOp Fq (eC (.int 10)) (eC (.int 9)))))
  (λi ys S=>∃(ns:List Int)(x' y':Int),ys=ns.map D.int/\S=[some [.int x',.int y']]/\ns.length=min i 42/\∀n∈ns,-1000000000<=n/\n<=1000000000)
  ⟨[],x,y,rfl,rfl,rfl,λn hn=>by simp at hn⟩ (λi ys S ⟨ns,x',y',h1,h2,h3,h4⟩=>⟨by simp,by rw[h1,U0i,h3];lia⟩)
  (λi d ys S hd ⟨ns,x',y',h1,h2,h3,h4⟩=>by
   obtain⟨hi,rfl⟩:=Ol hd;obtain⟨r,x2,y2,e3,r0,r1⟩:=Eu x' y' 2000000001 (by decide) (by decide);subst h1 h2;refine⟨_,.int (r-1000000000),[some [.int x2,.int y2]],rfl,?_,ns++[r-1000000000],x2,y2,by simp,rfl,by simp;lia,λn hn=>?_⟩
   .simp[Ak,Cr,Bg,Ay,Al,Ew,Dh,oI,FQ,MN,Kh,Bo,G6,Hx,Fq,VS.listOf,intsOf,den,Cp,age,Bf,Aw,Av,U0p,-U0d,-U0b,e3]
   .rcases U0x.mp hn with z|z
    .exact h4 n z
    .have:n=r-1000000000:=by simpa using z
     lia)
 refine⟨ns,x',y',e2,by lia,hb⟩
def WW{ns:List Int}{f:Int}(hl:ns.length<=44)(hb:∀n∈ns,-1000000000<=n/\n<=1000000000)(h1:-1000000000<=f)(h2:f+1<=1000000000):Marks (Ep (ns++[f,f+1]))/\(SetP.once (ns++[f,f+1])).length<64:=by
 obtain⟨o1,o2,o3⟩:=SetP.Ph (ns++[f,f+1]);have hp:(Ep (ns++[f,f+1])).Perm (SetP.once (ns++[f,f+1])):=U41 _ _;have hlen:(ns++[f,f+1]).length<=46:=by simp;lia
 have hs:(Ep (ns++[f,f+1])).Pairwise (·<=·):=by have:=U6 (le:=λa b:Int=>decide (a<=b)) (by intro a b c h1 h2;simp at *;lia) (by intro a b;simp;lia) (SetP.once (ns++[f,f+1]));exact this.imp λh=>by simpa using h
 have mem:∀z,z∈Ep (ns++[f,f+1])↔z∈ns++[f,f+1]:=λz=>hp.mem_iff.trans (o3 z);refine⟨⟨?_,?_,by rw[hp.length_eq];lia,λz hz=>?_⟩,by lia⟩
 .have nd:=hp.nodup_iff.mpr o1;exact(hs.and nd).imp λ⟨h,n⟩=>by lia
 .have m1:f∈Ep (ns++[f,f+1]):=(mem f).mpr (by simp);have m2:f+1∈Ep (ns++[f,f+1]):=(mem _).mpr (by simp)
  match Ep (ns++[f,f+1]),m1,m2 with
  |[],m1,_=>simp at m1
  |[z],m1,m2=>simp at m1 m2;lia
  |_::_::_,_,_=>simp
 .rcases U0x.mp ((mem z).mp hz) with q|q
  .exact hb z q
  .simp at q;lia
def rK(x y many:Int)(h0:0<=many)(h1:many<=40):∃ms x' y',Ft [x,y] [.int many]=some (.lst true (ms.map .int),[x',y'])/\Marks ms:=by
 obtain⟨r,x1,y1,e1,r0,r1⟩:=Eu x y 1999999980 (by decide) (by decide);obtain⟨w,x2,y2,e2,w0,w1⟩:=Eu x1 y1 5 (by decide) (by decide);obtain⟨ns,x3,y3,e3,hl,hb⟩:=xM x2 y2 many (r-1000000000+10) w h0 h1;have hw:w=0∨w=1∨w=2∨w=3∨w=4:=by lia
 rcases hw with rfl|rfl|rfl|rfl|rfl
 .refine⟨_,x2,y2,?_,VJ (lo:=0) (n:=7) (by decide) (by decide) (by decide) (by decide)⟩;rw[←Pb];simp[Ft,JZ,Fx,DW,CW,Em,Ei,Ak,Cr,Bg,Nj,Ay,Al,DP,Cq,Dh,Ia,Ja,oI,FQ,MN,Kh,Bo,G6,Hx,Fq,oLt,HS,oEq,oIx,VS.listOf,Bj,Hy,intsOf,den,Cp,age,Bf,Aw,Av,U0p,-U0d,-U0b,e1,e2,r62]
 .refine⟨_,x2,y2,?_,VJ (lo:=-3) (n:=7) (by decide) (by decide) (by decide) (by decide)⟩;rw[←Pb];simp[Ft,JZ,Fx,DW,CW,Em,Ei,Ak,Cr,Bg,Nj,Ay,Al,DP,Cq,Dh,Ia,Ja,oI,FQ,MN,Kh,Bo,G6,Hx,Fq,oLt,HS,oEq,oIx,VS.listOf,Bj,Hy,intsOf,den,Cp,age,Bf,Aw,Av,U0p,-U0d,-U0b,e1,e2,r62]
 .refine⟨_,x2,y2,?_,VJ (lo:=r-1000000000+10) (n:=6) (by decide) (by decide) (by lia) (by lia)⟩;rw[←Pb];have hr:r62 (r-1000000000+10)/\r62 (r-1000000000+10+6):=by unfold r62;lia
  have h6:(r-1000000000+10+6-(r-1000000000+10)).toNat=6:=by lia
  have h7:r-1000000000+10+6-(r-1000000000+10)<=100000:=by lia
  simp[Ft,JZ,Fx,DW,CW,Em,Ei,Ak,Cr,Bg,Nj,Ay,Al,DP,Cq,Dh,Ia,Ja,oI,FQ,MN,Kh,Bo,G6,Hx,Fq,oLt,HS,oEq,oIx,VS.listOf,Bj,Hy,intsOf,den,Cp,age,Bf,Aw,Av,U0p,-U0d,-U0b,e1,e2,hr,h6,h7]
 .obtain⟨hm,ho⟩:=WW (ns:=ns++[-1000000000,1000000000]) (f:=r-1000000000+10) (by simp;lia) (λn hn=>by
   rcases U0x.mp hn with z|z
   .exact hb n z
   .simp at z;lia) (by lia) (by lia)
  refine⟨_,x3,y3,?_,hm⟩;rw[U3o]at ho ⊢;have hi:intsOf (ns.map D.int++[.int (-1000000000),.int 1000000000,.int (r-1000000000+10),.int (r-1000000000+10+1)])=some (ns++([-1000000000,1000000000]++[r-1000000000+10,r-1000000000+10+1])):=by rw[←Ly (ns++([-1000000000,1000000000]++[r-1000000000+10,r-1000000000+10+1]))];simp
  have hl2:ns.length+4<1000/\ns.length+4<=1000000/\ns.length+2<=1000000/\ns.length+2+2<=1000000/\ns.length<=999998/\ns.length<=999996:=by lia
  simp only[U16,U1i]at hi ho ⊢;simp[Ft,JZ,Fx,DW,CW,Em,Ei,Ak,Cr,Bg,Nj,Ay,Al,DP,Cq,Dh,Ia,Ja,oI,FQ,MN,Kh,Bo,G6,Hx,Fq,oLt,HS,oEq,oIx,VS.listOf,Bj,Hy,intsOf,den,Cp,age,Bf,Aw,Av,U0p,-U0d,-U0b,e1,e2,e3,hi,ho,hl2]
 .obtain⟨hm,ho⟩:=WW (ns:=ns) (f:=r-1000000000+10) (by lia) hb (by lia) (by lia);refine⟨_,x3,y3,?_,hm⟩;have hi:intsOf (ns.map D.int++[.int (r-1000000000+10),.int (r-1000000000+10+1)])=some (ns++[r-1000000000+10,r-1000000000+10+1]):=by rw[←Ly (ns++[r-1000000000+10,r-1000000000+10+1])];simp
  have hl2:ns.length+2<1000/\ns.length+2<=1000000/\ns.length<=999998:=by lia
  simp[Ft,JZ,Fx,DW,CW,Em,Ei,Ak,Cr,Bg,Nj,Ay,Al,DP,Cq,Dh,Ia,Ja,oI,FQ,MN,Kh,Bo,G6,Hx,Fq,oLt,HS,oEq,oIx,VS.listOf,Bj,Hy,intsOf,den,Cp,age,Bf,Aw,Av,U0p,-U0d,-U0b,e1,e2,e3,hi,ho,hl2]
def WQ(x y:Int)(m:Bool){ms:List Int}(M:Marks ms):∃p x' y',Gz [x,y] [.lst m (ms.map .int)]=some (Bm p,[x',y'])/\p.1<p.2/\-1000000000<=p.1/\p.2<=1000000000:=by
 have h2:=M.two;have h6:=M.few;obtain⟨a,x1,y1,e1,a0,a1⟩:=Eu x y ((ms.length:Int)-1) (by lia) (by lia);obtain⟨c,x2,y2,e2,c0,c1⟩:=Eu x1 y1 ((ms.length:Int)-1-a) (by lia) (by lia);obtain⟨u,f1,g1⟩:=Mg (F:=D.int) (l:=ms) (i:=a) a0 (by lia);obtain⟨v,f2,g2⟩:=Mg (F:=D.int) (l:=ms) (i:=a+1+c) (by lia) (by lia);have hu:=M.near u (U00 g1);have hv:=M.near v (U00 g2);have huv:u<v:=by obtain⟨l1,q1⟩:=U0l.mp g1;obtain⟨l2,q2⟩:=U0l.mp g2;rw[←q1,←q2];exact List.pairwise_iff_getElem.mp M.rise _ _ _ _ (by lia)
 refine⟨(u,v),x2,y2,?_,huv,hu.1,hv.2⟩;simp[Gz,SJ,Fx,DW,CW,Ak,Cr,Bg,Ay,Al,Dk,Hz,Dh,oI,FQ,Bo,G6,oIx,DQ,VS.listOf,Bj,Hy,intsOf,den,Cp,age,Bf,Aw,Av,U0p,-U0d,-U0b,e1,e2,f1,f2,Bm]
def encM(m:Bool)(mss:List (List Int)):D:=.lst m (mss.map λms=>.lst m (ms.map .int))
def Jbs(x y:Int)(b:List St2)(r:VS.Env)(S:Store)(hl:b.length<=3)(d0:Option D):Ql (d0::some (Ae b)::r) S=some (b.map (λp=>Bm (p.2,p.2+1)),S):=by
 unfold Ql Ck;have e:Cz (Ab 1) (d0::some (Ae b)::r) S=some ((b.map Bm,[]),S):=by simp[Ak,VS.listOf,Bj,VS.idOf,Ea,-U0d,-U0b,Ae]
 rw[e];simp only[U0g];have:=Rn (w:=[]) (e0:=Ew 1 [] (d0::some (Ae b)::r)) (g:=Pat.sem (.nm 0)) (S:=S) (f:=Di (Aa (eOp oIx (Ab 0) (eC (.int 1))) (Aa (eOp Bo (eOp oIx (Ab 0) (eC (.int 1))) (eC (.int 1))) Af)))
  (by simp) (λd=>match d with|.tup [_,.int h]=>Bm (h,h+1)|_=>.non) (b.map Bm) (by simp;lia) (λd hd=>by
   obtain⟨p,hp,rfl⟩:=U03.mp hd;exact⟨_,rfl,by simp[Ak,Cr,Bg,Ay,Al,Hz,Ew,Bo,oIx,VS.listOf,Bj,U0p,-U0d,-U0b,Bm]⟩)
 rw[this];simp[Bm,U6f]
def T9{x y x' y' m r:Int}{e:Bh}{env:VS.Env}(h:Ar [x,y] [.int m]=some (.int r,[x',y']))(h0:env[0]?=some (some (.ref 0)))(he:e env [some [.int x,.int y]]=some (.int m,[some [.int x,.int y]])):Bq Ar (Aa (Ab 0) (Aa e Af)) env [some [.int x,.int y]]=some (.int r,[some [.int x',.int y']]):=by simp[Ak,Ay,Al,Dh,intsOf,den,Cp,age,Bf,Aw,Av,-U0d,-U0b,h0,he,h]
def Rc{b:List St2}{a:Int}(a0:0<=a)(a1:a<b.length)(h3:b.length<=3){q:St2}{e:Bh}{env:VS.Env}{S S':Store}(h1:env[1]?=some (some (Ae b)))(h4:env[4]?=some (some (.int a)))(he:e env S=some (Bm q,S')) :
  (CN (eOp Bo (eOp Bo (eSl oSl (Ab 1) FN (FJ (Ab 4))) (Di (Aa e Af))) (eSl oSl (Ab 1) (FJ (eOp Bo (Ab 4) (eC (.int 1)))) FN))) env S=some (.ret (Ae (b.take a.toNat++q::b.drop (a.toNat+1))),env,S'):=by
 have c1:=lU (xs:=b.map Bm) (a:=a) a0 (by simp;lia);have c2:=Vm (xs:=b.map Bm) (a:=a+1) (by lia) (by simp;lia);have t1:(a+1).toNat=a.toNat+1:=by lia
 have hlen:min a.toNat b.length<=999999/\min a.toNat b.length+1+(b.length-(a.toNat+1))<=1000000/\min a.toNat b.length+(b.length-(a.toNat+1)+1)<=1000000/\min a.toNat b.length+(1+(b.length-(a.toNat+1)))<=1000000:=by lia
 unfold Ae at *
 simp[CW,Ak,Cr,Bg,Ay,Al,au,aq,W8,Hz,Bo,oSl,VS.listOf,Bj,-U0d,-U0b,h1,h4,he,c1,c2,t1,hlen,U7x,U7y]
def xG(x y:Int)(b:List St2)(m:Bool)(mss:List (List Int))(h0:1<=b.length)(h3:b.length<=3)(hb:∀p∈b,p.1<p.2/\-1000000000<=p.1/\p.2<=1000000000)(hm:mss.length=b.length)(hM:∀ms∈mss,Marks ms) :
  ∃c x' y',Jr [x,y] [Ae b,encM m mss]=some (Ae c,[x',y'])/\c.length=b.length/\∀p∈c,p.1<p.2:=by
 obtain⟨w,x1,y1,e1,w0,w1⟩:=Eu x y 6 (by decide) (by decide);obtain⟨a,x2,y2,e2,a0,a1⟩:=Eu x1 y1 (b.length:Int) (by lia) (by lia);obtain⟨⟨lo,hi⟩,f1,g1⟩:=Mg (F:=Bm) (l:=b) (i:=a) a0 a1;have hp:=hb _ (U00 g1);simp only at hp;obtain⟨nE,hE⟩:∃f:Option D->VS.Env,f=λe7=>[some (.ref 0),some (Ae b),some (encM m mss),some (.int w),some (.int a),some (.int lo),some (.int hi),e7]:=⟨_,rfl⟩;have n1:∀e,(nE e)[1]?=some (some (Ae b)):=λe=>by rw[hE];rfl
 have n4:∀e,(nE e)[4]?=some (some (.int a)):=λe=>by rw[hE];rfl
 have fin:∀(c:List St2)(x' y':Int)(env:VS.Env),Hf [some (.ref 0),some (Ae b),some (encM m mss),none,none,none,none,none] [some [.int x,.int y]]=some (.ret (Ae c),env,[some [.int x',.int y']])->Jr [x,y] [Ae b,encM m mss]=some (Ae c,[x',y']):=λc x' y' env h=>by unfold Jr;rw[Hy];show(Hf [some (.ref 0),some (Ae b),some (encM m mss),none,none,none,none,none] [some [.int x,.int y]]).bind _=_;rw[h];show((den 1 _ (Ae c)).map _)=_;rw[Jj 1 _ (GQ (Fo c))];rfl
 have put:∀q:St2,q.1<q.2->(b.take a.toNat++q::b.drop (a.toNat+1)).length=b.length/\∀p∈b.take a.toNat++q::b.drop (a.toNat+1),p.1<p.2:=λq hq=>by
  refine⟨by simp;lia,λp hp'=>?_⟩;rcases U0x.mp hp' with z|z
  .exact(hb p (U5r z)).1
  .rcases U0q.mp z with z|z
   .rw[z];exact hq
   .exact(hb p (List.mem_of_mem_drop z)).1
 have s1:(Ci 3 (Bq Ar (Aa (Ab 0) (Aa (eC (.int 6)) Af)))) [some (.ref 0),some (Ae b),some (encM m mss),none,none,none,none,none] [some [.int x,.int y]]=some (.nx,[some (.ref 0),some (Ae b),some (encM m mss),some (.int w),none,none,none,none],[some [.int x1,.int y1]]):=by rw[DW,T9 e1 rfl rfl];rfl
 have s2:(Ci 4 (Bq Ar (Aa (Ab 0) (Aa (eCB DQ (Aa (Ab 1) Af)) Af)))) [some (.ref 0),some (Ae b),some (encM m mss),some (.int w),none,none,none,none] [some [.int x1,.int y1]]=some (.nx,[some (.ref 0),some (Ae b),some (encM m mss),some (.int w),some (.int a),none,none,none],[some [.int x2,.int y2]]):=by rw[DW,T9 e2 rfl (by show some (D.int ((b.map Bm).length:Int),_)=_;rw[U0i])];rfl
 have s3:(Sq (eOp oIx (Ab 1) (Ab 4)) (Pat.sem (.tp [(.nm 5),(.nm 6)]))) [some (.ref 0),some (Ae b),some (encM m mss),some (.int w),some (.int a),none,none,none] [some [.int x2,.int y2]]=some (.nx,nE none,[some [.int x2,.int y2]]):=by
  have i1:eOp oIx (Ab 1) (Ab 4) [some (.ref 0),some (Ae b),some (encM m mss),some (.int w),some (.int a),none,none,none] [some [.int x2,.int y2]]=some (Bm (lo,hi),[some [.int x2,.int y2]]):=by show U5d _ (atI (b.map Bm) a)=_;rw[f1];rfl
  rw[Xi,i1,hE];simp[Eb,Iz,Gi,G3,-U0d,-U0b,Bm]
 have tw:∀(v:Int)(S:Store),BX (eOp (oEq false) (Ab 3) (eC (.int v))) (nE none) S=some (decide (w=v),S):=λv S=>by rw[hE];show some (false ^^ decide (w=v),S)=_;rw[U5m]
 have no:∀(v:Int)(p q:BP)(S:Store),¬w=v->BZ (sIf (BX (eOp (oEq false) (Ab 3) (eC (.int v)))) p Dp) q (nE none) S=q (nE none) S:=λv p q S h=>by refine Bp ?_;rw[RT (by rw[tw,decide_eq_false h])];rfl
 have yes:∀(v:Int)(p q:BP)(S:Store)(d:D)(env:VS.Env)(S':Store),w=v->p (nE none) S=some (.ret d,env,S')->BZ (sIf (BX (eOp (oEq false) (Ab 3) (eC (.int v)))) p Dp) q (nE none) S=some (.ret d,env,S'):=λv p q S d env S' h k=>by refine Qw ?_;rw[T3 (by rw[tw,decide_eq_true h]),k]
 have hw:w=0∨w=1∨w=2∨w=3∨w=4∨w=5:=ar2 w0 w1;rcases hw with rfl|rfl|rfl|rfl|rfl|rfl
 .refine⟨b,x2,y2,fin b x2 y2 (nE none) ?_,rfl,λp hp=>(hb p hp).1⟩;unfold Hf;rw[Bp s1,Bp s2,Bp s3,no _ _ _ _ (by decide),no _ _ _ _ (by decide),no _ _ _ _ (by decide),no _ _ _ _ (by decide),no _ _ _ _ (by decide),hE];rfl
 .obtain⟨r,x3,y3,e3,r0,r1⟩:=Eu x2 y2 3 (by decide) (by decide);obtain⟨hl,hlt⟩:=put (hi,hi+1+r) (by show hi<hi+1+r;lia);refine⟨_,x3,y3,fin _ x3 y3 (nE none) ?_,hl,hlt⟩;unfold Hf;rw[Bp s1,Bp s2,Bp s3,yes 1 _ _ _ _ _ _ rfl (Rc a0 a1 h3 (n1 _) (n4 _) (q:=(hi,hi+1+r)) (S':=[some [.int x3,.int y3]]) ?_)];have o:eOp Bo (eOp Bo (Ab 6) (eC (.int 1))) (Bq Ar (Aa (Ab 0) (Aa (eC (.int 3)) Af))) (nE none) [some [.int x2,.int y2]]=some (.int (hi+1+r),[some [.int x3,.int y3]]):=by rw[hE,Bg];show((Bq Ar _ _ _).bind _)=_;rw[T9 e3 rfl rfl];rfl
  have v6:Ab 6 (nE none) [some [.int x2,.int y2]]=some (.int hi,[some [.int x2,.int y2]]):=by rw[hE];rfl
  rw[Hz,Al,v6,U0g,Al,o];rfl
 .obtain⟨r,x3,y3,e3,r0,r1⟩:=Eu x2 y2 (hi-lo) (by lia) (by lia);obtain⟨hl,hlt⟩:=put (lo+r,hi) (by show lo+r<hi;lia);refine⟨_,x3,y3,fin _ x3 y3 (nE (some (.int (lo+r)))) ?_,hl,hlt⟩;unfold Hf;rw[Bp s1,Bp s2,Bp s3,no _ _ _ _ (by decide),yes 2 _ _ _ _ _ _ rfl ?_];have s7:(Ci 7 (eOp Bo (Ab 5) (Bq Ar (Aa (Ab 0) (Aa (eOp G6 (Ab 6) (Ab 5)) Af))))) (nE none) [some [.int x2,.int y2]]=some (.nx,nE (some (.int (lo+r))),[some [.int x3,.int y3]]):=by rw[hE,DW,Bg];show(((Bq Ar _ _ _).bind _).bind _)=_;rw[T9 e3 rfl rfl];rfl
  rw[Bp s7];exact Rc a0 a1 h3 (n1 _) (n4 _) (q:=(lo+r,hi)) (by rw[hE];rfl)
 .obtain⟨ms,f3,g3⟩:=Mg (F:=λms=>D.lst m (ms.map D.int)) (l:=mss) (i:=a) a0 (by lia);obtain⟨⟨u,v⟩,x3,y3,e3,huv,_,_⟩:=WQ x2 y2 false (hM ms (U00 g3));obtain⟨hl,hlt⟩:=put (u,v) huv;refine⟨_,x3,y3,fin _ x3 y3 (nE none) ?_,hl,hlt⟩;unfold Hf;rw[Bp s1,Bp s2,Bp s3,no _ _ _ _ (by decide),no _ _ _ _ (by decide),yes 3 _ _ _ _ _ _ rfl (Rc a0 a1 h3 (n1 _) (n4 _) (q:=(u,v)) (S':=[some [.int x3,.int y3]]) ?_)];rw[hE];unfold encM;simp[Ak,Bg,Ay,Al,Dh,oIx,VS.listOf,Bj,intsOf,den,Cp,age,Bf,Aw,Av,-U0d,-U0b,f3,e3]
 .obtain⟨r,x3,y3,e3,r0,r1⟩:=Eu x2 y2 3 (by decide) (by decide);obtain⟨hl,hlt⟩:=put (lo-1-r,lo) (by show lo-1-r<lo;lia);refine⟨_,x3,y3,fin _ x3 y3 (nE none) ?_,hl,hlt⟩;unfold Hf;rw[Bp s1,Bp s2,Bp s3,no _ _ _ _ (by decide),no _ _ _ _ (by decide),no _ _ _ _ (by decide),yes 4 _ _ _ _ _ _ rfl (Rc a0 a1 h3 (n1 _) (n4 _) (q:=(lo-1-r,lo)) (S':=[some [.int x3,.int y3]]) ?_)];rw[hE,Hz,Al,Bg];show(((((Bq Ar _ _ _).bind _).bind _).bind _)=_);rw[T9 e3 rfl rfl];rfl
 .refine⟨b.map λp=>(p.2,p.2+1),x2,y2,fin _ x2 y2 (nE none) ?_,by simp,λp hp=>?_⟩
  .unfold Hf;rw[Bp s1,Bp s2,Bp s3,no _ _ _ _ (by decide),no _ _ _ _ (by decide),no _ _ _ _ (by decide),no _ _ _ _ (by decide),yes 5 _ _ _ _ _ _ rfl ?_];rw[hE,CW,Dk,Al,Cq,Jbs x y b _ _ h3];unfold Ae;rw[U0d];rfl
  .obtain⟨q,_,rfl⟩:=U03.mp hp;show q.2<q.2+1;lia
def yF(x y:Int)(n:Nat)(many:Int)(most:D)(hn:n<=3)(h0:0<=many)(h1:many<=40):∃(mss:List (List Int))(x' y':Int),NZ [some (.ref 0),some (.int n),some most,some (.int many),none,none,none,none,none] [some [.int x,.int y]]=some (mss.map (λms=>.lst true (ms.map .int)),[some [.int x',.int y']])/\mss.length=n/\∀ms∈mss,Marks ms:=by
 have e:Fz (Aa (Ab 1) Af) [some (.ref 0),some (.int n),some most,some (.int many),none,none,none,none,none] [some [.int x,.int y]]=some ((upD 0 n,[]),[some [.int x,.int y]]):=by exact P0 _ (by simp[Ak,Ay,Al,-U0d,-U0b];rfl) (by simp) (by lia) (by lia)
 unfold NZ Ck;rw[e];simp only[U0g];obtain⟨ys,S',e2,⟨mss,x',y',rfl,rfl,hl,hb⟩⟩:=Rm (w:=[]) (e0:=Ew 1 [0,3] [some (.ref 0),some (.int n),some most,some (.int many),none,none,none,none,none]) (g:=Pat.sem (.nm 0)) (ds:=upD 0 n) (S:=[some [.int x,.int y]])
  (f:=(Bq Ft (Aa (Ab 1) (Aa (Ab 2) Af))))
  (λi ys S=>∃(mss:List (List Int))(x' y':Int),ys=mss.map (λms=>D.lst true (ms.map D.int))/\S=[some [.int x',.int y']]/\mss.length=min i 3/\∀ms∈mss,Marks ms)
  ⟨[],x,y,rfl,rfl,rfl,λn hn=>by simp at hn⟩ (λi ys S ⟨ns,x',y',h1,h2,h3,h4⟩=>⟨by simp,by rw[h1,U0i,h3];exact ar5⟩)
  (λi d ys S hd ⟨mss,x',y',h1,h2,h3,h4⟩=>by
   obtain⟨hi,rfl⟩:=Ol hd;obtain⟨ms,x2,y2,e3,M⟩:=rK x' y' many h0 (by lia);subst h1 h2;refine⟨_,.lst true (ms.map .int),[some [.int x2,.int y2]],rfl,?_,mss++[ms],x2,y2,by simp,rfl,by simp;exact Jab hn h3 hi,λn hn=>?_⟩
   .simp[Ak,Ay,Al,Ew,Dh,intsOf,den,Cp,age,Bf,Aw,Av,U0p,-U0d,-U0b,e3]
   .rcases U0x.mp hn with z|z
    .exact h4 n z
    .have:n=ms:=by simpa using z
     rw[this];exact M)
 rw[Oj]at hl;exact⟨mss,x',y',e2,by lia,hb⟩
def yE(x y:Int)(n:Nat)(most many alike:D)(d7 d8:Option D)(mss:List (List Int))(bs:List D)(hn:n<=3)(hl:mss.length=n)(hM:∀ms∈mss,Marks ms):∃(b:List St2)(x' y':Int),
  NT [some (.ref 0),some (.int n),some most,some many,some (encM true mss),some (.ref 1),some alike,d7,d8] [some [.int x,.int y],some bs]=some (b.map Bm,[some [.int x',.int y'],some bs])/\b.length=n/\∀p∈b,p.1<p.2/\-1000000000<=p.1/\p.2<=1000000000:=by
 have e:Fz (Aa (Ab 1) Af) [some (.ref 0),some (.int n),some most,some many,some (encM true mss),some (.ref 1),some alike,d7,d8] [some [.int x,.int y],some bs]=some ((upD 0 n,[]),[some [.int x,.int y],some bs]):=by exact P0 _ (by simp[Ak,Ay,Al,-U0d,-U0b];rfl) (by simp) (by lia) (by lia)
 unfold NT Ck;rw[e];simp only[U0g];obtain⟨ys,S',e2,⟨b,x',y',rfl,rfl,hl,hb⟩⟩:=Rm (w:=[]) (e0:=Ew 1 [0,4] [some (.ref 0),some (.int n),some most,some many,some (encM true mss),some (.ref 1),some alike,d7,d8]) (g:=Pat.sem (.nm 0)) (ds:=upD 0 n) (S:=[some [.int x,.int y],some bs])
  (f:=(Bq Gz (Aa (Ab 1) (Aa (eOp oIx (Ab 2) (Ab 0)) Af))))
  (λi ys S=>∃(b:List St2)(x' y':Int),ys=b.map Bm/\S=[some [.int x',.int y'],some bs]/\b.length=min i 3/\∀p∈b,p.1<p.2/\-1000000000<=p.1/\p.2<=1000000000)
  ⟨[],x,y,rfl,rfl,rfl,λn hn=>by simp at hn⟩ (λi ys S ⟨ns,x',y',h1,h2,h3,h4⟩=>⟨by simp,by rw[h1,U0i,h3];exact ar5⟩)
  (λi d ys S hd ⟨b,x',y',h1,h2,h3,h4⟩=>by
   obtain⟨hi,rfl⟩:=Ol hd;obtain⟨ms,f1,g1⟩:=Mg (F:=λms=>D.lst true (ms.map D.int)) (l:=mss) (i:=0+(i:Int)) (by lia) (by lia);obtain⟨p,x2,y2,e3,q1,q2,q3⟩:=WQ x' y' false (hM ms (U00 g1));subst h1 h2;simp only[U81]at f1;refine⟨_,Bm p,[some [.int x2,.int y2],some bs],rfl,?_,b++[p],x2,y2,by simp,rfl,by simp;exact Jab hn h3 hi,λn hn=>?_⟩
   .simp[Ak,Bg,Ay,Al,Ew,Dh,oIx,VS.listOf,Bj,intsOf,den,Cp,age,Bf,Aw,Av,U0p,-U0d,-U0b,encM,e3,f1]
   .rcases U0x.mp hn with z|z
    .exact h4 n z
    .have:n=p:=by simpa using z
     rw[this];exact⟨q1,q2,q3⟩)
 rw[Oj]at hl;exact⟨b,x',y',e2,by lia,hb⟩
def Xb(i:Int):Int:=if i<0 then -i else i
def VB(p:St2):Int:=if Xb p.2>Xb p.1 then Xb p.2 else Xb p.1
def yD(r:VS.Env)(b:List St2)(S:Store)(h8:r[8]?=some (some (Ae b)))(hl:b.length<=3):NQ r S=some ((b.map VB).map .int,S):=by
 have e:Cz (Ab 8) r S=some ((b.map Bm,[]),S):=by simp[Ak,VS.listOf,Bj,VS.idOf,Ea,-U0d,-U0b,h8,Ae]
 unfold NQ Ck;rw[e];simp only[U0g];have:=Rn (w:=[]) (e0:=Ew 2 [] r) (g:=Pat.sem (.tp [.nm 0,.nm 1])) (S:=S) (f:=eCB RX (Aa (eCB VF (Aa (Ab 0) Af)) (Aa (eCB VF (Aa (Ab 1) Af)) Af)))
  (by simp) (λd=>match d with|.tup [.int l,.int h]=>.int (VB (l,h))|_=>.non) (b.map Bm) (by simp;lia) (λd hd=>by
   obtain⟨p,hp,rfl⟩:=U03.mp hd;exact⟨_,rfl,by simp[Ak,Ay,Al,Dk,Ew,RX,VF,U0p,-U0d,-U0b,Bm,VB,Xb]⟩)
 rw[this];simp[Bm,U6f]
def Jck{p:St2}(h:VB p<=1000000000):-1000000000<=p.1/\p.2<=1000000000:=by
 unfold VB Xb at h
 repeat' split at h
 all_goals lia
structure Ok1(n:Nat)(b:List St2):Prop where
 len:b.length=n
 all:∀p∈b,p.1<p.2/\-1000000000<=p.1/\p.2<=1000000000
theorem Zm{m:Bool}:∀(mss:List (List Int)),Av (mss.map λms=>D.lst m (ms.map D.int))=true
 |[]=>rfl
 |ms::r=>by rw[U0j,Av,Aw,Oc,Zm r];rfl
theorem uo{m:Bool}:∀(mss:List (List Int)),Bf (mss.map λms=>D.lst m (ms.map D.int))=mss.map λms=>D.lst false (ms.map D.int)
 |[]=>by rw[U09,Bf];rfl
 |ms::r=>by rw[U0j,Bf,age,Yx,uo r];rfl
def nj{ns:List Int}(h:ns≠[]):∃m,pW ns=some m:=by
 cases ns with
 |nil=>exact absurd rfl h
 |cons a r=>exact⟨_,rfl⟩
def Jch(x y:Int)(n:Nat)(most many:D)(alike k:Int)(d8:Option D)(mss:List (List Int))(bs:List (List St2))(h1:1<=n)(hn:n<=3)(hl:mss.length=n)(hM:∀ms∈mss,Marks ms)(hb:∀b∈bs,Ok1 n b)(few:bs.length<=20):∃(d8':Option D)(bs':List (List St2))(x' y':Int),
  Nb [some (.ref 0),some (.int n),some most,some many,some (encM true mss),some (.ref 1),some (.int alike),some (.int k),d8] [some [.int x,.int y],some (bs.map Ae)]=some (.nx,[some (.ref 0),some (.int n),some most,some many,some (encM true mss),some (.ref 1),some (.int alike),some (.int k),d8'],[some [.int x',.int y'],some (bs'.map Ae)])
  /\ bs'.length<=bs.length+1/\∀b∈bs',Ok1 n b:=by
 obtain⟨b,x1,y1,e1,bl,hb1⟩:=yE x y n most many (.int alike) (some (.int k)) d8 mss (bs.map Ae) hn hl hM;have fin:∀(c:List St2)(x2 y2:Int),c.length=n->(∀p∈c,p.1<p.2)->∃(d8':Option D)(bs':List (List St2))(x' y':Int),
   (sIf (BX (eOp oLe (eCB UW (Aa (Bk NQ) Af)) (eOp Fq (eC (.int 10)) (eC (.int 9))))) (Ge (Jv Hh (Ab 5) (Aa (Ab 8) Af))) Dp)
    [some (.ref 0),some (.int n),some most,some many,some (encM true mss),some (.ref 1),some (.int alike),some (.int k),some (Ae c)] [some [.int x2,.int y2],some (bs.map Ae)]=some (.nx,[some (.ref 0),some (.int n),some most,some many,some (encM true mss),some (.ref 1),some (.int alike),some (.int k),d8'],[some [.int x',.int y'],some (bs'.map Ae)])
   /\ bs'.length<=bs.length+1/\∀b∈bs',Ok1 n b:=λc x2 y2 cl hc=>by
  have e3:=yD [some (.ref 0),some (.int n),some most,some many,some (encM true mss),some (.ref 1),some (.int alike),some (.int k),some (Ae c)] c [some [.int x2,.int y2],some (bs.map Ae)] rfl (by lia);obtain⟨m,hm⟩:=nj (ns:=c.map VB) (by intro z;have:=congrArg U4t z;simp at this;rw[this]at cl;simp at cl;lia);by_cases hle:m<=1000000000
  .refine⟨some (Ae c),bs++[c],x2,y2,?_,by simp,λd hd=>?_⟩
   .have:bs.length<1000000:=by lia
    simp[Em,Fy,Ei,Ak,Cr,Bg,Ay,Al,Dk,DP,Cq,Pk,oI,FQ,Kh,Fq,oLe,UW,VS.listOf,Hh,-U0d,-U0b,e3,hm,hle,this]
   .rcases U0x.mp hd with z|z
    .exact hb d z
    .have:d=c:=by simpa using z
     subst this;refine⟨cl,λp hp=>?_⟩;have:=(fW hm).2 (VB p) (U7f hp);have:=Jck (p:=p) (by lia);exact⟨hc p hp,this.1,this.2⟩
  .refine⟨some (Ae c),bs,x2,y2,?_,by lia,hb⟩;simp[Em,Fy,Ei,Ak,Cr,Bg,Ay,Al,Dk,DP,Cq,Pk,oI,FQ,Kh,Fq,oLe,UW,VS.listOf,Hh,-U0d,-U0b,e3,hm,hle]
 have s1:(Ci 8 (eCB Lf (Aa (Bk NT) Af))) [some (.ref 0),some (.int n),some most,some many,some (encM true mss),some (.ref 1),some (.int alike),some (.int k),d8] [some [.int x,.int y],some (bs.map Ae)]=some (.nx,[some (.ref 0),some (.int n),some most,some many,some (encM true mss),some (.ref 1),some (.int alike),some (.int k),some (Ae b)],[some [.int x1,.int y1],some (bs.map Ae)]):=by simp[DW,Ay,Al,Dk,Cq,Lf,VS.listOf,Bj,-U0d,-U0b,e1,Ae]
 have hne:eqP true [some [.int x1,.int y1],some (bs.map Ae)] (.ref 1) (.lst true [])=some (.bl (true ^^ (bs.map pB).isEmpty)):=gB 3 (qd rfl) (QM 0 bs) (by decide);unfold Nb;rw[Bp s1];by_cases hbs:bs=[]
 .obtain⟨d8',bs',x',y',e,q1,q2⟩:=fin b x1 y1 bl λp hp=>(hb1 p hp).1;refine⟨d8',bs',x',y',?_,q1,q2⟩;rw[Bp (env1:=[some (.ref 0),some (.int n),some most,some many,some (encM true mss),some (.ref 1),some (.int alike),some (.int k),some (Ae b)]) (S1:=[some [.int x1,.int y1],some (bs.map Ae)])]
  .exact e
  .subst hbs;simp only[U09]at hne;simp[DW,Em,Ei,Ak,Cr,Bg,Ay,Al,Dk,DP,Kw,Cq,Dh,oI,FQ,oLt,oEq,oIx,DQ,VS.listOf,Bj,den,Cp,age,Bf,Aw,Av,-U0d,-U0b,hne]
 .obtain⟨r,x2,y2,e2,r0,r1⟩:=Eu x1 y1 3 (by decide) (by decide);have hne':eqP true [some [.int x1,.int y1],some (bs.map Ae)] (.ref 1) (.lst true [])=some (.bl true):=by
   rw[hne];cases bs with
   |nil=>exact absurd rfl hbs
   |cons a r=>rfl
  have pos:0<bs.length:=U4.mpr hbs;by_cases hr:r<alike
  .obtain⟨j,x3,y3,e3,j0,j1⟩:=Eu x2 y2 (bs.length:Int) (by lia) (by lia);obtain⟨c,f1,g1⟩:=Mg (F:=Ae) (l:=bs) (i:=j) j0 (by lia);have oc:=hb c (U00 g1);obtain⟨c',x4,y4,e4,cl,hc⟩:=xG x3 y3 c false mss (by rw[oc.len];exact h1) (by rw[oc.len];exact hn) oc.all (by rw[oc.len];exact hl) hM;obtain⟨d8',bs',x',y',e,q1,q2⟩:=fin c' x4 y4 (by rw[cl,oc.len]) hc;refine⟨d8',bs',x',y',?_,q1,q2⟩;have dm:∀S:Store,den 0 S (encM true mss)=some (encM true mss):=λS=>by
    unfold encM;rw[den,Dn 0 S]
    .rfl
    .exact Zm mss
   have am:age (encM true mss)=encM false mss:=by unfold encM;rw[age,uo]
   have pm:Aw (encM true mss)=true:=by unfold encM;rw[Aw];exact Zm mss
   rw[Bp (env1:=[some (.ref 0),some (.int n),some most,some many,some (encM true mss),some (.ref 1),some (.int alike),some (.int k),some (Ae c')]) (S1:=[some [.int x4,.int y4],some (bs.map Ae)])]
   .exact e
   .simp[DW,Em,Ei,Ak,Cr,Bg,Ay,Al,Dk,DP,Kw,Cq,Dh,oI,FQ,oLt,oEq,oIx,DQ,VS.listOf,Bj,intsOf,den,Cp,age,Bf,Aw,Av,-U0d,-U0b,hne',e2,hr,e3,f1,e4,dm,am,pm]
  .obtain⟨d8',bs',x',y',e,q1,q2⟩:=fin b x2 y2 bl λp hp=>(hb1 p hp).1;refine⟨d8',bs',x',y',?_,q1,q2⟩;rw[Bp (env1:=[some (.ref 0),some (.int n),some most,some many,some (encM true mss),some (.ref 1),some (.int alike),some (.int k),some (Ae b)]) (S1:=[some [.int x2,.int y2],some (bs.map Ae)])]
   .exact e
   .simp[DW,Em,Ei,Ak,Cr,Bg,Ay,Al,Dk,DP,Kw,Cq,Dh,oI,FQ,oLt,oEq,oIx,DQ,VS.listOf,Bj,intsOf,den,Cp,age,Bf,Aw,Av,-U0d,-U0b,hne',e2,hr]
def Jcg(x y:Int)(n:Nat)(most:D)(many alike:Int)(mss:List (List Int))(h1:1<=n)(hn:n<=3)(hl:mss.length=n)(hM:∀ms∈mss,Marks ms)(m0:0<=many)(m1:many<=20):∃(d7 d8:Option D)(bs:List (List St2))(x' y':Int),
  Qm [some (.ref 0),some (.int n),some most,some (.int many),some (encM true mss),some (.ref 1),some (.int alike),none,none] [some [.int x,.int y],some []]=some (.nx,[some (.ref 0),some (.int n),some most,some (.int many),some (encM true mss),some (.ref 1),some (.int alike),d7,d8],[some [.int x',.int y'],some (bs.map Ae)])
  /\ bs.length<=many.toNat/\∀b∈bs,Ok1 n b:=by
 have e:Fz (Aa (Ab 3) Af) [some (.ref 0),some (.int n),some most,some (.int many),some (encM true mss),some (.ref 1),some (.int alike),none,none] [some [.int x,.int y],some []]=some ((upD 0 many.toNat,[]),[some [.int x,.int y],some []]):=
  P0 _ (by simp[Ak,Ay,Al,-U0d,-U0b]) rfl (by lia) (by lia)
 unfold Qm;rw[Gg,e];simp only[U0g];obtain⟨env',S',e2,⟨d7,d8,bs,x',y',rfl,rfl,hb1,hb2⟩⟩:=Gj (w:=[]) (g:=Pat.sem (.nm 7)) (b:=Nb) (ds:=upD 0 many.toNat) (env:=[some (.ref 0),some (.int n),some most,some (.int many),some (encM true mss),some (.ref 1),some (.int alike),none,none]) (S:=[some [.int x,.int y],some []])
  (λi env S=>∃(d7 d8:Option D)(bs:List (List St2))(x' y':Int),env=[some (.ref 0),some (.int n),some most,some (.int many),some (encM true mss),some (.ref 1),some (.int alike),d7,d8]/\S=[some [.int x',.int y'],some (bs.map Ae)]/\bs.length<=min i many.toNat/\∀b∈bs,Ok1 n b)
  ⟨none,none,[],x,y,rfl,rfl,by simp,λb hb=>by simp at hb⟩ (λi env S _=>by simp) (λi d env S hd ⟨d7,d8,bs,x',y',h1',h2',h3',h4'⟩=>by
   obtain⟨hi,rfl⟩:=Ol hd;subst h1' h2';obtain⟨d8',bs',x2,y2,e3,q1,q2⟩:=Jch x' y' n most (.int many) alike (0+i) d8 mss bs h1 hn hl hM h4' (by lia);exact⟨_,by rw[Eb];rfl,_,_,e3,_,d8',bs',x2,y2,rfl,rfl,by lia,q2⟩)
 rw[Oj]at hb1;exact⟨d7,d8,bs,x',y',e2,by lia,hb2⟩
def yC(x y:Int)(n most:Nat)(h1:1<=n)(hn:n<=3)(hm:most<=20):∃(bs:List (List St2))(x' y':Int),Hs [x,y] [.int n,.int most]=some (Ai true n bs,[x',y'])/\bs.length<=most/\∀b∈bs,Ok1 n b:=by
 obtain⟨r1,x1,y1,e1,p1,p2⟩:=Eu x y ((if (4:Int)<(most:Int) then (4:Int) else (most:Int))+1) (by split<;>lia) (by split<;>lia);obtain⟨r2,x2,y2,e2,p3,p4⟩:=Eu x1 y1 ((most:Int)+1) (by lia) (by lia);obtain⟨r3,x3,y3,e3,p5,p6⟩:=Eu x2 y2 3 (by decide) (by decide);obtain⟨many,f1,m0,m1⟩:∃many:Int,atI [D.int r1,D.int r2,D.int most] r3=some (.int many)/\0<=many/\many<=most:=by
  have:r3=0∨r3=1∨r3=2:=by lia
  rcases this with rfl|rfl|rfl
  .exact⟨r1,by simp,p1,by split at p2<;>lia⟩
  .exact⟨r2,by simp,p3,by lia⟩
  .exact⟨most,by simp,by lia,by lia⟩
 obtain⟨mss,x4,y4,e4,hl,hM⟩:=yF x3 y3 n many (.int most) hn m0 (by lia);obtain⟨al,x5,y5,e5,_,_⟩:=Eu x4 y4 3 (by decide) (by decide);obtain⟨d7,d8,bs,x6,y6,e6,hb1,hb2⟩:=Jcg x5 y5 n (.int most) many al mss h1 hn hl hM m0 (by lia);refine⟨bs,x6,y6,?_,by lia,hb2⟩;have s1:(Ci 3 (eOp oIx (Bk (Aa (Bq Ar (Aa (Ab 0) (Aa (eOp Bo (eCB RW (Aa (Ab 2) (Aa (eC (.int 4)) Af))) (eC (.int 1))) Af))) (Aa (Bq Ar (Aa (Ab 0) (Aa (eOp Bo (Ab 2) (eC (.int 1))) Af))) (Aa (Ab 2) Af)))) (Bq Ar (Aa (Ab 0) (Aa (eC (.int 3)) Af))))) [some (.ref 0),some (.int n),some (.int most),none,none,none,none,none,none] [some [.int x,.int y]]=some (.nx,[some (.ref 0),some (.int n),some (.int most),some (.int many),none,none,none,none,none],[some [.int x3,.int y3]]):=by simp[DW,Ak,Cr,Bg,Ay,Al,Dk,Cq,Dh,Bo,oIx,RW,VS.listOf,Bj,intsOf,den,Cp,age,Bf,Aw,Av,-U0d,-U0b,e1,e2,e3,f1]
 have s2:(Ci 4 (Bk NZ)) [some (.ref 0),some (.int n),some (.int most),some (.int many),none,none,none,none,none] [some [.int x3,.int y3]]=some (.nx,[some (.ref 0),some (.int n),some (.int most),some (.int many),some (encM true mss),none,none,none,none],[some [.int x4,.int y4]]):=by simp[DW,Cq,-U0d,-U0b,e4,encM]
 have s3:(Ci 5 (Ld Af)) [some (.ref 0),some (.int n),some (.int most),some (.int many),some (encM true mss),none,none,none,none] [some [.int x4,.int y4]]=some (.nx,[some (.ref 0),some (.int n),some (.int most),some (.int many),some (encM true mss),some (.ref 1),none,none,none],[some [.int x4,.int y4],some []]):=by simp[DW,Ay,R6,-U0d,-U0b]
 have s4:(Ci 6 (Bq Ar (Aa (Ab 0) (Aa (eC (.int 3)) Af)))) [some (.ref 0),some (.int n),some (.int most),some (.int many),some (encM true mss),some (.ref 1),none,none,none] [some [.int x4,.int y4],some []]=some (.nx,[some (.ref 0),some (.int n),some (.int most),some (.int many),some (encM true mss),some (.ref 1),some (.int al),none,none],[some [.int x5,.int y5],some []]):=by simp[DW,Ak,Cr,Ay,Al,Dh,intsOf,den,Cp,age,Bf,Aw,Av,-U0d,-U0b,e5]
 have run:Rx [some (.ref 0),some (.int n),some (.int most),none,none,none,none,none,none] [some [.int x,.int y]]=some (.ret (.tup [.int n,.ref 1]),[some (.ref 0),some (.int n),some (.int most),some (.int many),some (encM true mss),some (.ref 1),some (.int al),d7,d8],[some [.int x6,.int y6],some (bs.map Ae)]):=by unfold Rx;rw[Bp s1,Bp s2,Bp s3,Bp s4,Bp e6];simp[CW,Ak,Ay,Al,Hz,-U0d,-U0b]
 unfold Hs;rw[Hy];exact`zg;rw[run];simp[intsOf,den,Cp,-U0d,-U0b,Ai]
def Du{sem:Ca}{a:CQ}{env:VS.Env}{S S':Store}{ds es:List D}{r:D}(h:a env S=some (ds,S'))(hp:Av ds=true)(ha:Bf ds=es)(hr:sem es=some r):Am sem a env S=some (r,S'):=by rw[Fp,h];simp only[U0g,Dn 0 S' hp,ha,hr,hp,U80,if_true]
def Fe(bs:List (List St2))(w:Nat):List Int:=bs.map λb=>(b.getD w (0,0)).1
def En(bs:List (List St2))(w:Nat):List Int:=bs.map λb=>(b.getD w (0,0)).2
def col{bs:List (List St2)}{w:Nat}(hw:∀b∈bs,w<b.length)(hl:bs.length<=1000)(S:Store)(e0:VS.Env)(h0:∀d:D,(e0.set 0 (some d))[0]?=some (some d)/\(e0.set 0 (some d))[1]?=some (some (.int w))) :
  Gn [] e0 (Pat.sem (.nm 0)) Fd (eOp oIx (eOp oIx (Ab 0) (Ab 1)) (eC (.int 0))) (bs.map Ae) [] S=some ((Fe bs w).map .int,S) /\
  Gn [] e0 (Pat.sem (.nm 0)) Fd (eOp oIx (eOp oIx (Ab 0) (Ab 1)) (eC (.int 1))) (bs.map Ae) [] S=some ((En bs w).map .int,S):=by
 have key:∀b∈bs,atI (b.map Bm) (w:Int)=some (Bm (b.getD w (0,0))):=λb hb=>by have h:=hw b hb;refine LR ?_;rw[U0z,U0v h];simp[h]
 constructor
 .rw[IK (by simp) Ae (λb=>.int (b.getD w (0,0)).1) bs (by lia)]
  .rw[Fe,U0d];rfl
  .intro b hb;refine⟨_,Eb _ _ _,?_⟩;have ha:=key b hb;simp only[Bm]at ha;simp[Ak,Cr,Bg,oIx,VS.listOf,Bj,-U0d,-U0b,h0,Ae,ha]
 .rw[IK (by simp) Ae (λb=>.int (b.getD w (0,0)).2) bs (by lia)]
  .rw[En,U0d];rfl
  .intro b hb;refine⟨_,Eb _ _ _,?_⟩;have ha:=key b hb;simp only[Bm]at ha;simp[Ak,Cr,Bg,oIx,VS.listOf,Bj,-U0d,-U0b,h0,Ae,ha]
def bM{cs:List (List St2)}{w:Nat}(hl:cs.length<=20):(SetP.once (Fe cs w++En cs w)).length<64/\(Fe cs w++En cs w).length<1000:=by
 have h1:=(SetP.Ph (Fe cs w++En cs w)).2.1;have h2:(Fe cs w++En cs w).length=cs.length+cs.length:=by simp[Fe,En]
 lia
def oV(a b:List Int):intsOf (a.map D.int++b.map D.int)=some (a++b):=by rw[←U2a];exact Ly _
def gC{m:Bool}{cs:List (List St2)}{w:Nat}(hw:∀b∈cs,w<b.length)(hl:cs.length<=20):J8 [.lst m (cs.map Ae),.int w]=some (.lst true ((Ep (Fe cs w++En cs w)).map .int)):=by
 obtain⟨c1,c2⟩:=col hw (by lia) [] [none,some (.int w)] λd=>⟨rfl,rfl⟩;have e:Cz (Ab 0) [some (.lst m (cs.map Ae)),some (.int w)] []=some ((cs.map Ae,[]),[]):=by simp[Ak,VS.listOf,Bj,VS.idOf,Ea,-U0d,-U0b]
 have e1:O5 [some (.lst m (cs.map Ae)),some (.int w)] []=some ((Fe cs w).map .int,[]):=by unfold O5 Ck;rw[e];exact c1
 have e2:O4 [some (.lst m (cs.map Ae)),some (.int w)] []=some ((En cs w).map .int,[]):=by unfold O4 Ck;rw[e];exact c2
 obtain⟨h1,h2⟩:=bM (w:=w) hl;have h3:(Fe cs w).length+(En cs w).length<=1000000:=by simp at h2;lia
 have h4:(Fe cs w).length+(En cs w).length<1000:=by simpa using h2
 simp[J8,UG,CW,Bg,Cq,Ja,Bo,VS.listOf,Cv,den,-U0d,-U0b,e1,e2,oV,h1,h3,h4]
theorem Zz:∀a b:List Int,Ek (a.map D.int) (b.map D.int)=(a.zip b).map Bm
 |[],_=>by simp[Ek]
 |_::_,[]=>by simp[Ek]
 |p::a,q::b=>by simp[Ek,Zz a b,Bm]
def mL(E:List Int):Ek (E.map D.int) (E.map D.int).tail=(steps E).map Bm:=by rw[←List.map_tail,Zz];rfl
def Nk(E:List Int):(steps E).length<=E.length:=by simp[steps]
def aR{m:Bool}{cs:List (List St2)}{w:Nat}(hw:∀b∈cs,w<b.length)(hl:cs.length<=20)(hne:cs≠[]):Ed [.lst m (cs.map Ae),.int w]=some (.lst true ((steps (Ep (Fe cs w++En cs w))).map Bm)):=by
 have h0:=gC (m:=false) hw hl;have hl1:=QF (Fe cs w++En cs w);obtain⟨_,h2⟩:=bM (w:=w) hl;have pos:1<=(Ep (Fe cs w++En cs w)).length:=by
  cases cs with
  |nil=>exact absurd rfl hne
  |cons b r=>
   have:(b.getD w (0,0)).1∈Ep (Fe (b::r) w++En (b::r) w):=JB.mpr (by simp[Fe]);exact U6o this
 generalize Ep (Fe cs w++En cs w)=E at *
 have c:=Vm (xs:=E.map D.int) (a:=1) (by decide) (by simp;lia);have z:=mL E;have hz:(steps E).length<=1000000:=by have:=Nk E;lia
 have c':cut (E.map D.int) (some 1) none=(E.map D.int).drop 1:=c;have hd:∀(k:Nat)(S:Store),Cp k S ((steps E).map Bm)=some ((steps E).map Bm):=λk S=>Dn k S (Bv (QT _ λp _=>Jo p));simp[Ed,O1,Fx,DW,CW,Ak,Cr,Ay,Al,au,aq,W8,Fp,dF,oSl,VS.listOf,Bj,Cv,den,Cp,age,Bf,Aw,Av,U0p,-U0d,-U0b,h0,c',z,hz,hd]
def RM(w:Nat)(x:Int)(b:List St2):Bool:=decide ((b.getD w (0,0)).1<=x)&&decide (x<(b.getD w (0,0)).2)
def CZ(bs:List (List St2))(w:Nat)(x:Int):List (List St2):=(bs.filter (RM w x)).map λb=>b.eraseIdx w
def Jcs{b:List St2}{w:Nat}(h:w<b.length):atI (b.map Bm) (w:Int)=some (Bm (b.getD w (0,0))):=by refine LR ?_;rw[U0z,U1b,U0v h];rfl
def Jcq(r:VS.Env)(S:Store)(bs:List (List St2))(w:Nat)(x:Int)(hl:bs.length<=1000)(hb:∀b∈bs,w<b.length)(h0:r[0]?=some (some (.lst false (bs.map Ae))))(h1:r[1]?=some (some (.int w)))(h2:r[2]?=some (some (.int x))):M9 r S=some ((bs.filter (RM w x)).map Ae,S):=by
 have e:Cz (Ab 0) r S=some ((bs.map Ae,[]),S):=by simp[Ak,VS.listOf,Bj,VS.idOf,Ea,-U0d,-U0b,h0]
 have ec:Ew 1 [1,2] r=[none,some (.int w),some (.int x)]:=by simp[Ew,h1,h2]
 unfold M9 Ck;rw[e,ec];simp only[U0g];rw[LQ (by simp) Ae (RM w x) Ae _ _ (by simp;lia)]
 .simp
 .intro b hm;have ha:=Jcs (hb b hm);refine⟨[some (Ae b),some (.int w),some (.int x)],by rw[Eb];rfl,?_,λ_=>rfl⟩;have i1:∀k:D,eOp oIx (Ab 0) (Ab 1) [some (Ae b),some (.int w),some (.int x)] S=some (Bm (b.getD w (0,0)),S):=λ_=>by show U5d _ (atI (b.map Bm) (w:Int))=_;rw[ha];rfl
  unfold RM;generalize b.getD w (0,0)=p at *
  by_cases q1:p.1<=x<;>simp[Ak,Cr,Bg,Tf,DP,oI,FQ,oLt,oLe,oIx,VS.listOf,Bj,-U0d,-U0b,i1 .non,Bm,Ae,ha,q1]
def Jcp(r:VS.Env)(S:Store)(bs:List (List St2))(w:Nat)(hl:bs.length<=1000)(hb:∀b∈bs,w<b.length/\b.length<=3)(h1:r[1]?=some (some (.int w)))(h3:r[3]?=some (some (.lst true (bs.map Ae)))):Pu r S=some ((bs.map λb=>b.eraseIdx w).map Ae,S):=by
 have e:Cz (Ab 3) r S=some ((bs.map Ae,[]),S):=by simp[Ak,VS.listOf,Bj,VS.idOf,Ea,-U0d,-U0b,h3]
 have ec:Ew 1 [1] r=[none,some (.int w)]:=by simp[Ew,h1]
 unfold Pu Ck;rw[e,ec];simp only[U0g];rw[IK (by simp) Ae (λb=>Ae (b.eraseIdx w)) bs (by lia),U0d]
 .rfl
 .intro b hm;obtain⟨q1,q2⟩:=hb b hm;refine⟨[some (Ae b),some (.int w)],by rw[Eb];rfl,?_⟩;have c1:cut (b.map Bm) none (some (w:Int))=(b.take w).map Bm:=by rw[lU (by lia) (by rw[U0i];lia),U7x];rfl
  have c2:cut (b.map Bm) (some ((w:Int)+1)) none=(b.drop (w+1)).map Bm:=by rw[Vm (by lia) (by rw[U0i];lia),U7y];rfl
  have v0:Ab 0 [some (Ae b),some (.int w)] S=some (Ae b,S):=rfl;have v1:Ab 1 [some (Ae b),some (.int w)] S=some (.int w,S):=rfl;have l1:eSl oSl (Ab 0) FN (FJ (Ab 1)) [some (Ae b),some (.int w)] S=some (Ae (b.take w),S):=by show(some (D.tup (cut (b.map Bm) none (some (w:Int))),S):Option (D×Store))=_;rw[c1];rfl
  have l2:eSl oSl (Ab 0) (FJ (eOp Bo (Ab 1) (eC (.int 1)))) FN [some (Ae b),some (.int w)] S=some (Ae (b.drop (w+1)),S):=by show(some (D.tup (cut (b.map Bm) (some ((w:Int)+1)) none),S):Option (D×Store))=_;rw[c2];rfl
  rw[Bg,l1,U0g,l2,U0g];show U5d _ (if ((b.take w).map Bm).length+((b.drop (w+1)).map Bm).length<=1000000 then some (D.tup ((b.take w).map Bm++(b.drop (w+1)).map Bm)) else none)=_;rw[if_pos (by rw[U0i,U0i,U2e,U4b];lia),←U2a,←List.eraseIdx_eq_take_drop_succ];rfl
def qW{sem:Ca}{a:CQ}{env:VS.Env}{S S':Store}{d d':D}{cs:List D}(h:Am sem a env S=some (d,S'))(ht:XH S'.length d=some (d',cs)):T4 sem a env S=some (d',S'++[some cs]):=by rw[oX,h,U0g];show(XH S'.length d).bind _=_;rw[ht];rfl
def bh{sem:Li}{a:CQ}{env:VS.Env}{S S':Store}{i:Nat}{rest es:List D}{ns ms:List Int}{r:D}(h:a env S=some (.ref i::rest,S'))(hi:S'[i]?=some (some (ns.map D.int)))(hp:Av rest=true)(ha:Bf rest=es)(hr:sem ns es=some (r,ms)):Bq sem a env S=some (r,S'.set i (some (ms.map D.int))):=by rw[Dh,h];simp only[U0g,hi,Ly,Dn 0 _ hp,ha,hr,hp,U80,if_true]
def fV{g:Store->D->List D->Option (D×Store)}{o:Bh}{a:CQ}{env:VS.Env}{S S1 S2 S3:Store}{d r:D}{cs ds:List D}(h:o env S=some (d,S1))(hl:VS.listOf S1 d=some cs)(h2:a env S1=some (ds,S2))(h3:g S2 d ds=some (r,S3)):Jv g o a env S=some (r,S3):=by rw[Pk,h,U0g];show(if (VS.listOf S1 d).isSome=true then _ else _)=_;rw[hl];show(a env S1).bind _=_;rw[h2];exact h3
def Jfm(S:Store)(a:Option (List D))(l:List (Option (List D))):(S++a::l)[S.length]?=some a:=by simp
def Je7(S:Store)(a c:Option (List D))(l:List (Option (List D))):(S++a::l).set S.length c=S++c::l:=by rw[List.set_append_right _ _ (by lia)];simp
def fY{r:VS.Env}{L:List D}{d:D}{j:Nat}(h1:r[j]?=some (some (.ref 0))):eOp oIx (Ab j) (eUn HS (eC (.int 1))) r [some (L++[d])]=some (d,[some (L++[d])]):=by
 have v1:Ab j r [some (L++[d])]=some (.ref 0,[some (L++[d])]):=by simp[Ak,h1]
 rw[Bg,v1,U0g];show U5d _ (atI (L++[d]) (-1))=_;rw[uF];rfl
def tD(n:Nat):ixN (n+(0+1)) (-1)=some n:=by unfold ixN;rw[if_neg (by decide),if_pos (by lia)];congr 1;lia
def rT{r:VS.Env}{L:List D}{d e:D}{v:Bh}{j:Nat}(h1:r[j]?=some (some (.ref 0)))(hv:v r [some (L++[d])]=some (e,[some (L++[d])])):Qs v (Ab j) (eUn HS (eC (.int 1))) r [some (L++[d])]=some (.nx,r,[some (L++[e])]):=by
 have v1:Ab j r [some (L++[d])]=some (.ref 0,[some (L++[d])]):=by simp[Ak,h1]
 rw[TQ,hv,U0g,v1,U0g];show(ixN (L++[d]).length (-1)).bind _=_;rw[U0n,U0f,U0y,tD];show some (Fl.nx,r,[some ((L++[d]).set L.length e)])=_;rw[List.set_append_right _ _ (U0o _)];simp
def mC{r:VS.Env}{L:List D}{d:D}{a:Bh}{j:Nat}(h1:r[j]?=some (some (.ref 0)))(ha:a r [some L]=some (d,[some L]))(hl:L.length<1000000):Ge (Jv Hh (Ab j) (Aa a Af)) r [some L]=some (.nx,r,[some (L++[d])]):=by
 rw[Fy,fV (d:=.ref 0) (cs:=L) (ds:=[d]) (r:=.non) (S1:=[some L]) (S2:=[some L]) (S3:=[some (L++[d])]) (by simp[Ak,h1]) rfl (by rw[Al,ha];rfl) (by
  show(if L.length<1000000 then some (D.non,[some (L++[d])]) else none)=_;rw[if_pos hl])]
 rfl
abbrev Bx:=List St2
abbrev Row:=Int×Int×List Bx
def Ba(m:Bool)(r:Row):D:=.tup [.int r.1,.int r.2.1,.lst m (r.2.2.map Ae)]
def joinR(acc:List Row)(r:Row):List Row:=match acc.getLast? with
 |some l=>if l.2.1=r.1/\l.2.2=r.2.2 then acc.dropLast++[(l.1,r.2.1,r.2.2)] else acc++[r]
 |none=>acc++[r]
def oF(acc:List Row)(p:Row):(joinR acc p).length<=acc.length+1:=by
 unfold joinR;split
 .split
  .rw[U0n,List.length_dropLast];simp
  .simp
 .simp
theorem Vd:∀(l acc:List Row),(l.foldl joinR acc).length<=acc.length+l.length
 |[],acc=>by simp
 |r::l,acc=>by have:=Vd l (joinR acc r);have:=oF acc r;rw[U2l,U0f];lia
def oA{acc:List Row}{x r:Row}(h:r∈joinR acc x):r∈acc∨r.2.2=x.2.2:=by
 unfold joinR at h;split at h
 .split at h
  .rcases U0x.mp h with h|h
   .exact .inl (U66 _ h)
   .rw[U0r.mp h];exact .inr rfl
  .rcases U0x.mp h with h|h
   .exact .inl h
   .rw[U0r.mp h];exact .inr rfl
 .rcases U0x.mp h with h|h
  .exact .inl h
  .rw[U0r.mp h];exact .inr rfl
theorem Kp:∀{l acc:List Row} {r:Row},r∈l.foldl joinR acc->r∈acc∨∃x∈l,r.2.2=x.2.2
 |[],acc,r,h=>.inl h
 |x::l,acc,r,h=>by
  rcases Kp (l:=l) h with h|⟨y,hy,e⟩
  .rcases oA h with h|h
   .exact .inl h
   .exact .inr ⟨x,U0h,h⟩
  .exact .inr ⟨y,U0k _ hy,e⟩
structure Up(rs:List Row)(hi:Int):Prop where
 one:∀r∈rs,r.1<r.2.1/\r.2.1<=hi
 two:rs.Pairwise λr q=>r.2.1<=q.1
def Up.push{rs:List Row}{hi:Int}(h:Up rs hi){x:Row}(h1:hi<=x.1)(h2:x.1<x.2.1):Up (rs++[x]) x.2.1:=by
 refine⟨λr hr=>?_,U3c.mpr ⟨h.two,U39 _ _,λa ha b hb=>?_⟩⟩
 .rcases U0x.mp hr with w|w
  .have:=h.one r w;lia
  .rw[U0r.mp w];lia
 .rw[U0r.mp hb];have:=h.one a ha;lia
def sH{acc:List Row}{hi:Int}{x:Row}(h:Up acc hi)(h1:hi<=x.1)(h2:x.1<x.2.1):Up (joinR acc x) x.2.1:=by
 unfold joinR;rcases U6w acc with k|⟨l,q,k⟩
 .subst k;exact h.push h1 h2
 .rw[U6x]at k;subst k;rw[U67];show Up (if q.2.1=x.1/\q.2.2=x.2.2 then (l++[q]).dropLast++[(q.1,x.2.1,x.2.2)] else l++[q]++[x]) x.2.1;split
  .rename_i e;rw[U68];have hq:=h.one q (by simp);have hp:=U3c.mp h.two;refine⟨λr hr=>?_,U3c.mpr ⟨hp.1,U39 _ _,λa ha b hb=>?_⟩⟩
   .rcases U0x.mp hr with w|w
    .have:=h.one r (U10 _ w);lia
    .rw[U0r.mp w];show q.1<x.2.1/\x.2.1<=x.2.1;lia
   .rw[U0r.mp hb];exact hp.2.2 a ha q (by simp)
  .exact h.push h1 h2
theorem fZ:∀{l acc:List Row} {hi:Int},Up acc hi->(∀x∈l,hi<=x.1/\x.1<x.2.1)->(l.Pairwise λr q=>r.2.1<=q.1)->∃hi',Up (l.foldl joinR acc) hi'
 |[],acc,hi,h,_,_=>⟨hi,h⟩
 |x::l,acc,hi,h,h1,h2=>by have hx:=h1 x U0h;have hp:=U1k.mp h2;exact fZ (l:=l) (sH h hx.1 hx.2) (λy hy=>⟨hp.1 y hy,(h1 y (U0k _ hy)).2⟩) hp.2
def Ej(bs:List Bx):List Int:=Ep (Fe bs 0++En bs 0)
def Bu:Nat->List Bx->List Bx
 |0,bs=>if bs.isEmpty=true then [] else [[]]
 |k+1,bs=>(((steps (Ej bs)).map λs=>((s.1,s.2,Bu k (CZ bs 0 s.1)):Row)).foldl joinR []).flatMap λr=>r.2.2.map λb=>(r.1,r.2.1)::b
def Mj(bs:List Bx)(x:Int):(CZ bs 0 x).length<=bs.length:=by unfold CZ;rw[U0i];exact U3x ..
theorem Mi{Zp Zl:Type}(f:Zp->List Zl)(M:Nat):∀l:List Zp,(∀x∈l,(f x).length<=M)->(l.flatMap f).length<=l.length*M
 |[],_=>by simp
 |x::l,h=>by have h1:=h x U0h;have h2:=Mi f M l λy hy=>h y (U0k _ hy);rw[U24,U0n,U0f,U84,U85];lia
theorem VN:∀(k:Nat)(bs:List Bx),∀b∈Bu k bs,b.length=k
 |0,bs,b,h=>by
  unfold Bu at h;split at h
  .cases h
  .rw[U0r.mp h];rfl
 |k+1,bs,b,h=>by
  unfold Bu at h;obtain⟨r,hr,hb⟩:=U4d.mp h;obtain⟨c,hc,rfl⟩:=U03.mp hb;rcases Kp hr with z|⟨y,hy,e⟩
  .cases z
  .obtain⟨s,hs,rfl⟩:=U03.mp hy;rw[e]at hc;rw[U0f,VN k _ c hc]
theorem kj:∀(a b:Bx),ltB a b=true->ltB b a=false
 |[],[],h=>by cases h
 |[],_::_,_=>rfl
 |_::_,[],h=>by cases h
 |p::r,q::t,h=>by
  unfold ltB at h ⊢;by_cases e:p=q
  .subst e;rw[if_pos rfl]at h ⊢;exact kj r t h
  .rw[if_neg e]at h;rw[if_neg λz=>e z.symm];unfold ltS at h ⊢;by_cases e1:p.1=q.1
   .rw[if_pos e1]at h;rw[if_pos e1.symm];have:=of_decide_eq_true h;exact decide_eq_false (by lia)
   .rw[if_neg e1]at h;rw[if_neg λz=>e1 z.symm];have:=of_decide_eq_true h;exact decide_eq_false (by lia)
theorem m9:∀{l:List Bx},(l.Pairwise λa b=>ltB a b=true)->Ox l=true
 |[],_=>rfl
 |[_],_=>rfl
 |a::b::r,h=>by have hp:=U1k.mp h;unfold Ox;rw[kj a b (hp.1 b U0h),m9 hp.2];rfl
def oO{l:List Row}(hu:∀r∈l,r.1<r.2.1)(h2:l.Pairwise λr q=>r.2.1<=q.1)(hi:∀r∈l,r.2.2.Pairwise λa b=>ltB a b=true):(l.flatMap λr=>r.2.2.map λb=>(r.1,r.2.1)::b).Pairwise λa b=>ltB a b=true:=by
 induction l with
 |nil=>simp
 |cons r l ih=>
  have hp:=U1k.mp h2;rw[U24,U3c];refine⟨?_,ih (λq hq=>hu q (U0k _ hq)) hp.2 (λq hq=>hi q (U0k _ hq)),λa ha b hb=>?_⟩
  .rw[U6g];refine(hi r U0h).imp fun {a b} h=>?_;show ltB ((r.1,r.2.1)::a) ((r.1,r.2.1)::b)=true;unfold ltB;rw[if_pos rfl];exact h
  .obtain⟨c,_,rfl⟩:=U03.mp ha;obtain⟨q,hq,hb⟩:=U4d.mp hb;obtain⟨d,_,rfl⟩:=U03.mp hb;have h1:=hp.1 q hq;have h3:=hu r U0h;unfold ltB;rw[if_neg λz=>by have:(r.1,r.2.1).1=(q.1,q.2.1).1:=congrArg Prod.fst z;have:r.1=q.1:=this;lia];unfold ltS;rw[if_neg (by show r.1≠q.1;lia)];exact decide_eq_true (by show r.1<q.1;lia)
def GK(bs:List Bx):(Ej bs).Pairwise (·<·):=Rq _
theorem Rp:∀{E:List Int},E.Pairwise (·<·)->(steps E).Pairwise λp q=>p.2<=q.1
 |[],_=>by simp[steps]
 |[a],_=>by simp[steps]
 |a::b::r,h=>by
  have hh:=U1k.mp h;show((a,b)::steps (b::r)).Pairwise _;refine U1k.mpr ⟨λp hp=>?_,Rp hh.2⟩;obtain⟨_,g2,_⟩:=J9 hh.2 p hp;rcases U0q.mp g2 with e|e
  .rw[e];exact U30 _
  .have:=(U1k.mp hh.2).1 _ e;show b<=p.1;lia
def vo(bs:List Bx)(f:Int->List Bx):∃hi,Up (((steps (Ej bs)).map λs=>((s.1,s.2,f s.1):Row)).foldl joinR []) hi:=by
 obtain⟨lo,hlo⟩:∃lo:Int,∀p∈steps (Ej bs),lo<=p.1:=by
  generalize steps (Ej bs)=l;induction l with
  |nil=>exact⟨0,λp h=>by cases h⟩
  |cons a l ih=>
   obtain⟨lo,h⟩:=ih;refine⟨min lo a.1,λp hp=>?_⟩;rcases U0q.mp hp with rfl|hp
   .lia
   .have:=h p hp;lia
 refine fZ (hi:=lo) ⟨λr h=>(by cases h),.nil⟩ (λx hx=>?_) ?_
 .obtain⟨s,hs,rfl⟩:=U03.mp hx;exact⟨hlo s hs,(J9 (GK bs) s hs).1⟩
 .rw[U6g];exact Rp (GK bs)
theorem YK:∀(k:Nat)(bs:List Bx),(Bu k bs).Pairwise λa b=>ltB a b=true
 |0,bs=>by unfold Bu;split<;>simp
 |k+1,bs=>by
  unfold Bu;obtain⟨hi,hu⟩:=vo bs λx=>Bu k (CZ bs 0 x);refine oO (λr hr=>(hu.one r hr).1) hu.two λr hr=>?_;rcases Kp hr with z|⟨y,hy,e⟩
  .cases z
  .obtain⟨s,hs,rfl⟩:=U03.mp hy;rw[e];exact YK k _
theorem Te{Zp:Type}[DecidableEq Zp](f:Zp->PyData)(hf:∀x y,U5a (f x) (f y)=decide (x=y)):∀a b:List Zp,U7z (a.map f) (b.map f)=decide (a=b)
 |[],[]=>rfl
 |[],_::_=>rfl
 |_::_,[]=>rfl
 |x::a,y::b=>by
  rw[U0j,U0j,U7z,Te f hf a b,hf];by_cases h:x=y
  .subst h;simp
  .simp[h]
def Jeh(p q:St2):U5a (pS p) (pS q)=decide (p=q):=by obtain⟨a,b⟩:=p;obtain⟨c,d⟩:=q;rw[U28];simp[pS,U5a,U7z]
def Jei(a b:Bx):U5a (pB a) (pB b)=decide (a=b):=Te pS Jeh a b
def Pj(neg:Bool)(S:Store)(m1 m2:Bool)(a b:List Bx):oEq neg S (.lst m1 (a.map Ae)) (.lst m2 (b.map Ae))=some (.bl (neg ^^ decide (a=b))):=by show eqP neg S (.lst m1 (a.map Ae)) (.lst m2 (b.map Ae))=_;unfold eqP;rw[JK,JK];simp only[U0g];rw[Ru (QM 0 a) (by decide),Ru (QM 0 b) (by decide)];show some (D.bl (neg ^^ U7z (a.map pB) (b.map pB)))=_;rw[Te pB Jei]
def qp(m:Bool)(r:Row):Aw (Ba m r)=true:=by simp[Ba,Aw,Av,Bv (Az r.2.2)]
theorem TV(m:Bool):∀l:List Row,Av (l.map (Ba m))=true
 |[]=>by rw[U09,Av]
 |r::l=>by rw[U0j,Av,qp,TV m l];rfl
def yc(m:Bool)(r:Row):VS.age (Ba m r)=Ba false r:=by simp[Ba,VS.age,Bf,Dg (Az r.2.2)]
theorem cB(m:Bool):∀l:List Row,Bf (l.map (Ba m))=l.map (Ba false)
 |[]=>by rw[U09,Bf];rfl
 |r::l=>by rw[U0j,Bf,yc,cB m l];rfl
def sG{c:Gf}{s1 s2:BP}{r:VS.Env}{j:Nat}{m:Bool}(acc:List Row)(x:Row)(hl:acc.length<1000000)(h1:r[j]?=some (some (.ref 0)))
  (ht:∀(l:List Row) d,c r [some (l.map (Ba m)++[Ba m d])]=some (decide (d.2.1=x.1)&&decide (d.2.2=x.2.2),[some (l.map (Ba m)++[Ba m d])])) (h0:c r [some []]=some (false,[some []]))
  (hs:∀L d,s1 r [some (L++[Ba m d])]=some (.nx,r,[some (L++[Ba m (d.1,x.2.1,x.2.2)])])) (ha:∀L,L.length<1000000->s2 r [some L]=some (.nx,r,[some (L++[Ba m x])])) :
  sIf c s1 s2 r [some (acc.map (Ba m))]=some (.nx,r,[some ((joinR acc x).map (Ba m))]):=by
 rcases U6w acc with k|⟨l,q,k⟩
 .subst k;rw[U09,RT h0,ha _ (by decide)];rfl
 .rw[U6x]at k;subst k;unfold joinR;rw[U67,U2a,U0j,U09];have ht:=ht l q;by_cases e:q.2.1=x.1/\q.2.2=x.2.2
  .rw[decide_eq_true e.1,decide_eq_true e.2]at ht;rw[T3 ht,hs];show _=some (Fl.nx,r,[some ((if q.2.1=x.1/\q.2.2=x.2.2 then (l++[q]).dropLast++[(q.1,x.2.1,x.2.2)] else l++[q]++[x]).map (Ba m))]);rw[if_pos e,U68,U2a];rfl
  .have e':(decide (q.2.1=x.1)&&decide (q.2.2=x.2.2))=false:=by rw[←Bool.decide_and];exact decide_eq_false e
   rw[e']at ht;rw[RT ht];show s2 r [some (l.map (Ba m)++[Ba m q])]=some (Fl.nx,r,[some ((if q.2.1=x.1/\q.2.2=x.2.2 then (l++[q]).dropLast++[(q.1,x.2.1,x.2.2)] else l++[q]++[x]).map (Ba m))]);rw[ha _ (by rw[U0n,U0i]at *;exact hl),if_neg e,U2a,U2a];rfl
def sE(C:D)(acc:List Row)(x:Row)(hl:acc.length<1000000):Je [some C,some (.ref 0),some (.int x.1),some (.int x.2.1),some (.lst false (x.2.2.map Ae))] [some (acc.map (Ba false))]=some (.nx,[some C,some (.ref 0),some (.int x.1),some (.int x.2.1),some (.lst false (x.2.2.map Ae))],[some ((joinR acc x).map (Ba false))]):=by
 have len:∀L:List D,BX (eOp oGt (eCB DQ (Aa (Ab 1) Af)) (eC (.int 0))) [some C,some (.ref 0),some (.int x.1),some (.int x.2.1),some (.lst false (x.2.2.map Ae))] [some L]=some (decide (0<(L.length:Int)),[some L]):=λL=>rfl;unfold Je;refine sG (j:=1) acc x hl rfl (λl d=>?_) ?_ (λL d=>?_) (λL h=>mC (j:=1) rfl rfl h)
 .generalize l.map (Ba false)=L;have la:=fY (r:=[some C,some (.ref 0),some (.int x.1),some (.int x.2.1),some (.lst false (x.2.2.map Ae))]) (L:=L) (d:=Ba false d) (j:=1) rfl;have t1:BX (eOp (oEq false) (eOp oIx (eOp oIx (Ab 1) (eUn HS (eC (.int 1)))) (eC (.int 1))) (Ab 2)) [some C,some (.ref 0),some (.int x.1),some (.int x.2.1),some (.lst false (x.2.2.map Ae))] [some (L++[Ba false d])]=some (decide (d.2.1=x.1),[some (L++[Ba false d])]):=by rw[DP,Bg,Bg,la];show some ((false ^^ decide (d.2.1=x.1)),_)=_;rw[U5m]
  have t2:BX (eOp (oEq false) (eOp oIx (eOp oIx (Ab 1) (eUn HS (eC (.int 1)))) (eC (.int 2))) (Ab 4)) [some C,some (.ref 0),some (.int x.1),some (.int x.2.1),some (.lst false (x.2.2.map Ae))] [some (L++[Ba false d])]=some (decide (d.2.2=x.2.2),[some (L++[Ba false d])]):=by
   have q:eOp oIx (eOp oIx (Ab 1) (eUn HS (eC (.int 1)))) (eC (.int 2)) [some C,some (.ref 0),some (.int x.1),some (.int x.2.1),some (.lst false (x.2.2.map Ae))] [some (L++[Ba false d])]=some (.lst false (d.2.2.map Ae),[some (L++[Ba false d])]):=by rw[Bg,la];rfl
   have v4:Ab 4 [some C,some (.ref 0),some (.int x.1),some (.int x.2.1),some (.lst false (x.2.2.map Ae))] [some (L++[Ba false d])]=some (.lst false (x.2.2.map Ae),[some (L++[Ba false d])]):=rfl;rw[DP,Bg,q,U0g,v4,U0g,Pj,U5m];rfl
  rw[Kw,len,decide_eq_true (by simp)];show VS.Nu _ _ _ _=_;rw[Kw,t1];simp only[U0g,t2];cases decide (d.2.1=x.1)<;>rfl
 .rw[Kw,len];rfl
 .have la:=fY (r:=[some C,some (.ref 0),some (.int x.1),some (.int x.2.1),some (.lst false (x.2.2.map Ae))]) (L:=L) (d:=Ba false d) (j:=1) rfl;refine rT rfl ?_;have q:eOp oIx (eOp oIx (Ab 1) (eUn HS (eC (.int 1)))) (eC (.int 0)) [some C,some (.ref 0),some (.int x.1),some (.int x.2.1),some (.lst false (x.2.2.map Ae))] [some (L++[Ba false d])]=some (.int d.1,[some (L++[Ba false d])]):=by rw[Bg,la];rfl
  rw[Hz,Al,q];rfl
def o9(l:List Row)(hl:l.length<=1000):Gk [.lent (l.map (Ba false))]=some (.lst true ((l.foldl joinR []).map (Ba false))):=by
 have s1:(Ci 1 (Ld Af)) [some (.lent (l.map (Ba false))),none,none,none,none] []=some (.nx,[some (.lent (l.map (Ba false))),some (.ref 0),none,none,none],[some []]):=rfl;have e:Cz (Ab 0) [some (.lent (l.map (Ba false))),some (.ref 0),none,none,none] [some []]=some ((l.map (Ba false),[]),[some []]):=rfl;obtain⟨env',S',e2,y2,y3,y4,he,hS⟩:=Gj (w:=[]) (g:=Pat.sem (.tp [(.nm 2),(.nm 3),(.nm 4)])) (b:=Je) (ds:=l.map (Ba false)) (env:=[some (.lent (l.map (Ba false))),some (.ref 0),none,none,none]) (S:=[some []])
  (λi env S=>∃y2 y3 y4:Option D,env=[some (.lent (l.map (Ba false))),some (.ref 0),y2,y3,y4]/\S=[some (((l.take i).foldl joinR []).map (Ba false))])
  ⟨none,none,none,rfl,rfl⟩ (λi env S _=>by simp) (λi d env S hd q=>by
   obtain⟨y2,y3,y4,he,hS⟩:=q;subst he hS;rw[U0z]at hd;obtain⟨x,hx,rfl⟩:=U19.mp hd;have jf:=Vd (l.take i) [];rw[U2e]at jf;refine⟨[some (.lent (l.map (Ba false))),some (.ref 0),some (.int x.1),some (.int x.2.1),some (.lst false (x.2.2.map Ae))],by simp[Eb,Iz,Gi,G3,-U0d,-U0b,Ba],_,_,sE _ ((l.take i).foldl joinR []) x (by simp at jf;lia),_,_,_,rfl,?_⟩;rw[U3y,hx,U3z,U36];rfl)
 subst he hS;rw[U0i,U2y]at e2;unfold Gk;rw[Cv];exact`zg;unfold R9;have l1:MF [some (.lent (l.map (Ba false))),some (.ref 0),none,none,none] [some []]=some (.nx,[some (.lent (l.map (Ba false))),some (.ref 0),y2,y3,y4],[some ((l.foldl joinR []).map (Ba false))]):=by unfold MF;rw[Gg,e];exact e2
 rw[Bp s1,Bp l1];show den 0 [some ((l.foldl joinR []).map (Ba false))] (.ref 0)=_;rw[den,if_neg (by lia)];show(if Av ((l.foldl joinR []).map (Ba false))=true then _ else _)=_;rw[if_pos (TV ..)]
def bL:Ep (Fe [] 0++En [] 0)=[]:=by
 have h:∀x,x ∉ Ep (Fe [] 0++En [] 0):=λx hx=>by have:=JB.mp hx;simp[Fe,En]at this
 exact List.eq_nil_iff_forall_not_mem.mpr h
def mO{m:Bool}:Ed [.lst m [],.int 0]=some (.lst true []):=by have h0:=gC (m:=false) (cs:=[]) (w:=0) (λb h=>by cases h) (by decide);have e:Ep (Fe [] 0++En [] 0)=[]:=bL;rw[e]at h0;have c:∀S:Store,Am J8 (Aa (Ab 0) (Aa (Ab 1) Af)) [some (.lst m []),some (.int 0),none] S=some (.lst true [],S):=λS=>Du (ds:=[.lst m [],.int 0]) (es:=[.lst false [],.int 0]) rfl (by simp[Av,Aw]) (by simp[Bf,age]) h0;unfold Ed;rw[Cv];exact`zg;unfold O1;rw[Bp (by rw[DW,c];rfl)];rfl
def mQ{m:Bool}{cs:List Bx}(hw:∀b∈cs,0<b.length)(hl:cs.length<=20):Ed [.lst m (cs.map Ae),.int 0]=some (.lst true ((steps (Ej cs)).map Bm)):=by
 by_cases h:cs=[]
 .subst h;rw[U09,mO];unfold Ej;rw[bL];rfl
 .exact aR (w:=0) hw hl h
def gH{m:Bool}{bs:List Bx}(hl:bs.length<=20)(hb:∀b∈bs,0<b.length/\b.length<=3)(x:Int):Fv [.lst false (bs.map Ae),.int 0,.int x]=some (.lst true ((CZ bs 0 x).map Ae)):=by
 have c1:=Jcq [some (.lst false (bs.map Ae)),some (.int 0),some (.int x),none] [] bs 0 x (by lia) (λb h=>(hb b h).1) rfl rfl rfl;have c2:=Jcp [some (.lst false (bs.map Ae)),some (.int 0),some (.int x),some (.lst true ((bs.filter (RM 0 x)).map Ae))] [] (bs.filter (RM 0 x)) 0 (U01 (U3x ..) (by lia)) (λb h=>hb b (U1t.mp h).1) rfl rfl;have s1:(Ci 3 (Bk M9)) [some (.lst false (bs.map Ae)),some (.int 0),some (.int x),none] []=some (.nx,[some (.lst false (bs.map Ae)),some (.int 0),some (.int x),some (.lst true ((bs.filter (RM 0 x)).map Ae))],[]):=by rw[DW,Cq,c1];rfl
 unfold Fv;rw[Cv];exact`zg;unfold Uz;rw[Bp s1,CW,Cq,c2];show den 0 _ (.lst true _)=_;rw[den,Dn 0 _ (Bv (Az _))];rfl
def Ir(l:List Row):List Bx:=l.flatMap λr=>r.2.2.map λb=>(r.1,r.2.1)::b
structure Can(lo:Int)(f:Int->List Bx)(R:List Row):Prop where
 low:∀r∈R,lo<=r.1
 one:∀r∈R,r.1<r.2.1/\r.2.2≠[]/\∀x,r.1<=x->x<r.2.1->f x=r.2.2
 two:R.Pairwise λr q=>r.2.1<=q.1/\(r.2.1=q.1->r.2.2≠q.2.2)
 all:∀x,lo<=x->f x≠[]->∃r∈R,r.1<=x/\x<r.2.1
def Can.first{lo:Int}{f:Int->List Bx}{r q:Row}{R Q:List Row}(h:Can lo f (r::R))(k:Can lo f (q::Q)):q.1<=r.1:=by
 have hr:=h.one r U0h;obtain⟨p,hp,p1,p2⟩:=k.all r.1 (h.low r U0h) (by rw[hr.2.2 r.1 (U30 _) hr.1];exact hr.2.1);have hq:=k.one q U0h;rcases U0q.mp hp with e|e
 .rw[←e];exact p1
 .have:=((U1k.mp k.two).1 p e).1;lia
def Can.ends{lo:Int}{f:Int->List Bx}{r q:Row}{R Q:List Row}(h:Can lo f (r::R))(k:Can lo f (q::Q))(e1:r.1=q.1)(e2:r.2.2=q.2.2):q.2.1<=r.2.1:=by
 have hr:=h.one r U0h;have hq:=k.one q U0h;have hl:=h.low r U0h;rcases Int.lt_or_le r.2.1 q.2.1 with z|z
 .have fx:=hq.2.2 r.2.1 (by lia) z;obtain⟨p,hp,p1,p2⟩:=h.all r.2.1 (by lia) (by rw[fx];exact hq.2.1);rcases U0q.mp hp with e|e
  .rw[e]at p2;lia
  .obtain⟨w1,w2⟩:=(U1k.mp h.two).1 p e;have hpp:=h.one p hp;have e4:r.2.1=p.1:=by lia
   exact absurd (by rw[e2,←fx,e4];exact hpp.2.2 p.1 (U30 _) hpp.1) (w2 e4)
 .exact z
def Can.tail{lo:Int}{f:Int->List Bx}{r:Row}{R:List Row}(h:Can lo f (r::R)):Can r.2.1 f R:=by
 have hp:=U1k.mp h.two;have hr:=h.one r U0h;have hl:=h.low r U0h;refine⟨λq hq=>(hp.1 q hq).1,λq hq=>h.one q (U0k _ hq),hp.2,λx hx hf=>?_⟩;obtain⟨q,hq,q1,q2⟩:=h.all x (by lia) hf;rcases U0q.mp hq with e|e
 .rw[e]at q2;lia
 .exact⟨q,e,q1,q2⟩
theorem Can.uniq{f:Int->List Bx}:∀{R Q:List Row} {lo:Int},Can lo f R->Can lo f Q->R=Q
 |[],[],_,_,_=>rfl
 |[],q::Q,_,h,k=>by have hq:=k.one q U0h;obtain⟨p,hp,_⟩:=h.all q.1 (k.low q U0h) (by rw[hq.2.2 q.1 (U30 _) hq.1];exact hq.2.1);cases hp
 |r::R,[],_,h,k=>by have hq:=h.one r U0h;obtain⟨p,hp,_⟩:=k.all r.1 (h.low r U0h) (by rw[hq.2.2 r.1 (U30 _) hq.1];exact hq.2.1);cases hp
 |r::R,q::Q,lo,h,k=>by
  have e1:r.1=q.1:=U64 (k.first h) (h.first k);have hr:=h.one r U0h;have hq:=k.one q U0h;have e2:r.2.2=q.2.2:=by rw[←hr.2.2 r.1 (U30 _) hr.1,e1];exact hq.2.2 q.1 (U30 _) hq.1
  have e3:r.2.1=q.2.1:=U64 (k.ends h e1.symm e2.symm) (h.ends k e1 e2);have e:r=q:=U86 e1 (U86 e3 e2);subst e;rw[h.tail.uniq k.tail]
structure Jn(f:Int->List Bx)(hi:Int)(R:List Row):Prop where
 one:∀r∈R,r.1<r.2.1/\r.2.1<=hi/\∀x,r.1<=x->x<r.2.1->f x=r.2.2
 two:R.Pairwise λr q=>r.2.1<=q.1/\(r.2.1=q.1->r.2.2≠q.2.2)
def Jn.join{f:Int->List Bx}{hi:Int}{R:List Row}(h:Jn f hi R){x:Row}(h1:hi<=x.1)(h2:x.1<x.2.1)(h3:∀y,x.1<=y->y<x.2.1->f y=x.2.2) :
  Jn f x.2.1 (joinR R x)/\∀y,(y<x.1->(∃r∈R,r.1<=y/\y<r.2.1)->∃r∈joinR R x,r.1<=y/\y<r.2.1)/\(x.1<=y->y<x.2.1->∃r∈joinR R x,r.1<=y/\y<r.2.1):=by
 rcases U6w R with k|⟨l,q,k⟩
 .subst k;have e:joinR [] x=[x]:=rfl;rw[e];refine⟨⟨λr hr=>?_,U39 _ _⟩,λy=>⟨λ_ z=>?_,λy1 y2=>⟨x,U0r.mpr rfl,y1,y2⟩⟩⟩
  .rw[U0r.mp hr];exact⟨h2,U30 _,h3⟩
  .obtain⟨r,hr,_⟩:=z;cases hr
 .rw[U6x]at k;subst k;have hq:=h.one q (by simp);have hp:=U3c.mp h.two;have e:joinR (l++[q]) x=if q.2.1=x.1/\q.2.2=x.2.2 then l++[(q.1,x.2.1,x.2.2)] else l++[q]++[x]:=by unfold joinR;rw[U67];show(if q.2.1=x.1/\q.2.2=x.2.2 then (l++[q]).dropLast++[(q.1,x.2.1,x.2.2)] else l++[q]++[x])=_;rw[U68]
  rw[e];by_cases c:q.2.1=x.1/\q.2.2=x.2.2
  .rw[if_pos c];refine⟨⟨λr hr=>?_,U3c.mpr ⟨hp.1,U39 _ _,λa ha b hb=>?_⟩⟩,λy=>⟨λy1 z=>?_,λy1 y2=>?_⟩⟩
   .rcases U0x.mp hr with w|w
    .have:=h.one r (U10 _ w);exact⟨this.1,by lia,this.2.2⟩
    .rw[U0r.mp w];refine⟨show q.1<x.2.1 by lia,U30 _,λy y1 y2=>?_⟩;have y1:q.1<=y:=y1;have y2:y<x.2.1:=y2;rcases Int.lt_or_le y x.1 with z|z
     .rw[hq.2.2 y y1 (by lia)];exact c.2
     .exact h3 y z y2
   .rw[U0r.mp hb];have:=hp.2.2 a ha q (by simp);exact⟨this.1,λz=>by rw[←c.2];exact this.2 z⟩
   .obtain⟨r,hr,r1,r2⟩:=z;rcases U0x.mp hr with w|w
    .exact⟨r,U10 _ w,r1,r2⟩
    .rw[U0r.mp w]at r1 r2;exact⟨_,U04 _ (U0r.mpr rfl),r1,show y<x.2.1 by lia⟩
   .exact⟨_,U04 _ (U0r.mpr rfl),show q.1<=y by lia,y2⟩
  .rw[if_neg c];refine⟨⟨λr hr=>?_,U3c.mpr ⟨h.two,U39 _ _,λa ha b hb=>?_⟩⟩,λy=>⟨λy1 z=>?_,λy1 y2=>?_⟩⟩
   .rcases U0x.mp hr with w|w
    .have:=h.one r w;exact⟨this.1,by lia,this.2.2⟩
    .rw[U0r.mp w];exact⟨h2,U30 _,h3⟩
   .rw[U0r.mp hb];have hA:=h.one a ha;refine⟨by lia,λz=>?_⟩;rcases U0x.mp ha with w|w
    .have:=(hp.2.2 a w q (by simp)).1;lia
    .rw[U0r.mp w]at z ⊢;exactλe=>c ⟨z,e⟩
   .obtain⟨r,hr,r1,r2⟩:=z;exact⟨r,U10 _ hr,r1,r2⟩
   .exact⟨x,U04 _ (U0r.mpr rfl),y1,y2⟩
theorem Jn.fold{f:Int->List Bx}:∀{l R:List Row} {hi:Int},Jn f hi R->(∀x∈l,hi<=x.1/\x.1<x.2.1/\∀y,x.1<=y->y<x.2.1->f y=x.2.2)->(l.Pairwise λr q=>r.2.1<=q.1) ->
  (∃hi',Jn f hi' (l.foldl joinR R))/\∀y,((∃r∈R,r.1<=y/\y<r.2.1)∨(∃r∈l,r.1<=y/\y<r.2.1))->∃r∈l.foldl joinR R,r.1<=y/\y<r.2.1
 |[],R,hi,h,_,_=>⟨⟨hi,h⟩,λy z=>by
  rcases z with z|⟨r,hr,_⟩
  .exact z
  .cases hr⟩
 |x::l,R,hi,h,h1,h2=>by
  have hx:=h1 x U0h;have hp:=U1k.mp h2;obtain⟨j,cv⟩:=h.join hx.1 hx.2.1 hx.2.2;obtain⟨a,b⟩:=Jn.fold (l:=l) j (λy hy=>⟨hp.1 y hy,(h1 y (U0k _ hy)).2⟩) hp.2;refine⟨a,λy z=>b y ?_⟩;rcases z with ⟨r,hr,r1,r2⟩|⟨r,hr,r1,r2⟩
  .have:=(h.one r hr).2.1;exact .inl ((cv y).1 (by lia) ⟨r,hr,r1,r2⟩)
  .rcases U0q.mp hr with e|e
   .rw[e]at r1 r2;exact .inl ((cv y).2 r1 r2)
   .exact .inr ⟨r,e,r1,r2⟩
structure Mk(M:List Int)(f:Int->List Bx):Prop where
 rise:M.Pairwise (·<·)
 same:∀s∈steps M,∀x,s.1<=x->x<s.2->f x=f s.1
 out:∀x,(∀s∈steps M,¬(s.1<=x/\x<s.2))->f x=[]
def HW(M:List Int)(f:Int->List Bx):List Row:=(steps M).map λs=>(s.1,s.2,f s.1)
def lA(l:List St2):∃lo:Int,∀p∈l,lo<=p.1:=by
 induction l with
 |nil=>exact⟨0,λp h=>by cases h⟩
 |cons a l ih=>
  obtain⟨lo,h⟩:=ih;refine⟨min lo a.1,λp hp=>?_⟩;rcases U0q.mp hp with rfl|hp
  .lia
  .have:=h p hp;lia
def Mk.joined{M:List Int}{f:Int->List Bx}(h:Mk M f):(∃hi,Jn f hi ((HW M f).foldl joinR []))/\∀y,f y≠[]->∃r∈(HW M f).foldl joinR [],r.1<=y/\y<r.2.1:=by
 obtain⟨lo,hlo⟩:=lA (steps M);obtain⟨a,b⟩:=Jn.fold (f:=f) (l:=HW M f) (R:=[]) (hi:=lo) ⟨λr h=>(by cases h),.nil⟩ (λx hx=>by
  obtain⟨s,hs,rfl⟩:=U03.mp hx;exact⟨hlo s hs,(J9 h.rise s hs).1,h.same s hs⟩) (by
  unfold HW;rw[U6g];exact Rp h.rise)
 refine⟨a,λy hy=>b y (.inr ?_)⟩;by_cases z:∃s∈steps M,s.1<=y/\y<s.2
 .obtain⟨s,hs,z⟩:=z;exact⟨_,U03.mpr ⟨s,hs,rfl⟩,z⟩
 .exact absurd (h.out y λs hs w=>z ⟨s,hs,w⟩) hy
def Yd(l:List Row):Ir l=Ir (l.filter λr=>!r.2.2.isEmpty):=by
 unfold Ir;induction l with
 |nil=>rfl
 |cons r l ih=>
  rw[U24,ih,U2z];cases h:r.2.2 with
  |nil=>simp
  |cons a t=>simp[h]
def Mk.can{M:List Int}{f:Int->List Bx}(h:Mk M f)(lo:Int)(hlo:∀r∈(HW M f).foldl joinR [],lo<=r.1):Can lo f (((HW M f).foldl joinR []).filter λr=>!r.2.2.isEmpty):=by
 obtain⟨⟨hi,j⟩,cv⟩:=h.joined;refine⟨λr hr=>hlo r (U1t.mp hr).1,λr hr=>?_,j.two.filter _,λx _ hx=>?_⟩
 .obtain⟨h1,h2⟩:=U1t.mp hr;have:=j.one r h1;refine⟨this.1,λz=>?_,this.2.2⟩;rw[z]at h2;cases h2
 .obtain⟨r,hr,r1,r2⟩:=cv x hx;refine⟨r,U1t.mpr ⟨hr,?_⟩,r1,r2⟩;have:=(j.one r hr).2.2 x r1 r2;cases z:r.2.2 with
  |nil=>rw[this,z]at hx;exact absurd rfl hx
  |cons=>rfl
def jU{M M':List Int}{f:Int->List Bx}(h:Mk M f)(k:Mk M' f):Ir ((HW M f).foldl joinR [])=Ir ((HW M' f).foldl joinR []):=by obtain⟨lo,hlo⟩:=lA ((((HW M f).foldl joinR [])++((HW M' f).foldl joinR [])).map λr=>(r.1,r.1));have hl:∀r∈((HW M f).foldl joinR [])++((HW M' f).foldl joinR []),lo<=r.1:=λr hr=>hlo (r.1,r.1) (U03.mpr ⟨r,hr,rfl⟩);rw[Yd,Yd ((HW M' f).foldl joinR []),(h.can lo λr hr=>hl r (U10 _ hr)).uniq (k.can lo λr hr=>hl r (U04 _ hr))]
def Jf:Bx->List Int->Bool
 |[],[]=>true
 |p::b,x::t=>inS p x&&Jf b t
 |_,_=>false
def cov(bs:List Bx)(x:List Int):Bool:=bs.any λb=>Jf b x
theorem WR:∀{E:List Int} {a b x:Int},E.Pairwise (·<·)->a∈E->b∈E->a<=x->x<b->∃s∈steps E,s.1<=x/\x<s.2
 |[],a,b,x,_,ha,_,_,_=>by cases ha
 |[c],a,b,x,_,ha,hb,h1,h2=>by rw[U0r.mp ha]at h1;rw[U0r.mp hb]at h2;lia
 |c::d::r,a,b,x,h,ha,hb,h1,h2=>by
  have hp:=U1k.mp h;rw[Lr];by_cases z:x<d
  .by_cases w:c<=x
   .exact⟨(c,d),U0h,w,z⟩
   .rcases U0q.mp ha with e|e
    .lia
    .have:=hp.1 a e;lia
  .rcases U0q.mp hb with e|e
   .have:=hp.1 d U0h;lia
   .obtain⟨s,hs,q⟩:=WR (a:=d) hp.2 U0h e (by lia) h2;exact⟨s,U0k _ hs,q⟩
def Uj{bs:List Bx}{b:Bx}(hb:b∈bs):(b.getD 0 (0,0)).1∈Ej bs/\(b.getD 0 (0,0)).2∈Ej bs:=by unfold Ej;rw[JB,JB];exact⟨U10 _ (U03.mpr ⟨b,hb,rfl⟩),U04 _ (U03.mpr ⟨b,hb,rfl⟩)⟩
def Ot(b:Bx)(x:Int):RM 0 x b=inS (b.getD 0 (0,0)) x:=rfl
def Vl{bs:List Bx}{E:List Int}(hE:E.Pairwise (·<·))(hm:∀b∈bs,(b.getD 0 (0,0)).1∈E/\(b.getD 0 (0,0)).2∈E){s:St2}(hs:s∈steps E){x:Int}(h1:s.1<=x)(h2:x<s.2):CZ bs 0 x=CZ bs 0 s.1:=by unfold CZ;obtain⟨g1,_,_,g4⟩:=J9 hE s hs;rw[U6e (q:=RM 0 s.1) λb hb=>?_];obtain⟨m1,m2⟩:=hm b hb;have a1:=g4 _ m1;have a2:=g4 _ m2;rw[Ot,Ot,U28,Gh,Gh];lia
def Xu{bs:List Bx}{E:List Int}(hE:E.Pairwise (·<·))(hm:∀b∈bs,(b.getD 0 (0,0)).1∈E/\(b.getD 0 (0,0)).2∈E){x:Int}(h:∀s∈steps E,¬(s.1<=x/\x<s.2)):CZ bs 0 x=[]:=by unfold CZ;rw[List.map_eq_nil_iff,List.filter_eq_nil_iff];intro b hb z;rw[Ot,Gh]at z;obtain⟨s,hs,q⟩:=WR hE (hm b hb).1 (hm b hb).2 z.1 z.2;exact h s hs q
def Ou{k:Nat}{bs:List Bx}(hd:∀b∈bs,b.length=k+1)(x:Int)(t:List Int):cov (CZ bs 0 x) t=cov bs (x::t):=by
 unfold cov CZ;induction bs with
 |nil=>rfl
 |cons b bs ih=>
  have ih:=ih λc hc=>hd c (U0k _ hc);have hb:=hd b U0h
  match b,hb with
  |p::b,_=>
   rw[U2z,Ot,U4m];show _=(inS p x&&Jf b t||_);show List.any (U52 _ (if inS p x=true then _ else _)) _=_;cases inS p x with
   |true=>rw[if_pos rfl,U0j,U4m,ih];rfl
   |false=>rw[if_neg (by simp),ih];rfl
def JR{k:Nat}{bs:List Bx}(hd:∀b∈bs,b.length=k+1)(x:Int):∀b∈CZ bs 0 x,b.length=k:=λb hb=>by unfold CZ at hb;obtain⟨c,hc,rfl⟩:=U03.mp hb;have:=hd c (U1t.mp hc).1;rw[List.length_eraseIdx,if_pos (by lia)];exact qH this
def Cg(w:Bool->Bool->Bool):Nat->List Bx->List Bx->List Bx
 |0,a,b=>if w (!a.isEmpty) (!b.isEmpty)=true then [[]] else []
 |k+1,a,b=>Ir ((HW (Ej (a++b)) λx=>Cg w k (CZ a 0 x) (CZ b 0 x)).foldl joinR [])
def Rr(k:Nat)(bs:List Bx):Bu (k+1) bs=Ir ((HW (Ej bs) λx=>Bu k (CZ bs 0 x)).foldl joinR []):=rfl
def Yk:Ej []=[]:=(WX (ns:=[]) (ms:=[]) (by decide) (by decide)).symm
def QL(k:Nat):Bu k []=[]:=by
 cases k with
 |zero=>rfl
 |succ k=>rw[Rr,Yk];rfl
def nP{w:Bool->Bool->Bool}(hw:w false false=false)(k:Nat):Cg w k [] []=[]:=by
 cases k with
 |zero=>show(if w false false=true then _ else _)=_;rw[hw];rfl
 |succ k=>rw[Cg,U17,Yk];rfl
def zp(k:Nat)(bs:List Bx):Mk (Ej bs) λx=>Bu k (CZ bs 0 x):=
 ⟨GK bs,λs hs x h1 h2=>by
  show Bu k (CZ bs 0 x)=_;rw[Vl (GK bs) (λb hb=>Uj hb) hs h1 h2],λx h=>by
  show Bu k (CZ bs 0 x)=_;rw[Xu (GK bs) (λb hb=>Uj hb) h,QL]⟩
def pU{w:Bool->Bool->Bool}(hw:w false false=false)(k:Nat)(a b:List Bx):Mk (Ej (a++b)) λx=>Cg w k (CZ a 0 x) (CZ b 0 x):=by
 have ha:∀c∈a,(c.getD 0 (0,0)).1∈Ej (a++b)/\(c.getD 0 (0,0)).2∈Ej (a++b):=λc hc=>Uj (U10 _ hc);have hb:∀c∈b,(c.getD 0 (0,0)).1∈Ej (a++b)/\(c.getD 0 (0,0)).2∈Ej (a++b):=λc hc=>Uj (U04 _ hc);refine⟨GK _,λs hs x h1 h2=>?_,λx h=>?_⟩
 .show Cg w k (CZ a 0 x) (CZ b 0 x)=_;rw[Vl (GK _) ha hs h1 h2,Vl (GK _) hb hs h1 h2]
 .show Cg w k (CZ a 0 x) (CZ b 0 x)=_;rw[Xu (GK _) ha h,Xu (GK _) hb h,nP hw]
theorem JH{w:Bool->Bool->Bool}(hw:w false false=false):∀(k:Nat)(a b c:List Bx),(∀x∈a,x.length=k)->(∀x∈b,x.length=k)->(∀x∈c,x.length=k)->(∀x:List Int,x.length=k->cov c x=w (cov a x) (cov b x))->Cg w k a b=Bu k c
 |0,a,b,c,ha,hb,hc,h=>by
  have e:∀l:List Bx,(∀x∈l,x.length=0)->cov l []=!l.isEmpty:=λl hl=>by
   cases l with
   |nil=>rfl
   |cons x l=>
    have:x=[]:=U1z.mp (hl x U0h);subst this;rfl
  have:=h [] rfl;rw[e a ha,e b hb,e c hc]at this;rw[Cg,←this];unfold Bu;cases c<;>rfl
 |k+1,a,b,c,ha,hb,hc,h=>by
  have ef:(λx=>Cg w k (CZ a 0 x) (CZ b 0 x))=λx=>Bu k (CZ c 0 x):=funext λx=>
   JH hw k _ _ _ (JR ha x) (JR hb x) (JR hc x) λt ht=>by rw[Ou hc,Ou ha,Ou hb];exact h (x::t) (by rw[U0f,ht])
  have m:=pU hw k a b;rw[Cg,Rr];rw[ef]at m ⊢;exact jU m (zp k c)
def Pg(k:Nat)(a c:List Bx)(ha:∀x∈a,x.length=k)(hc:∀x∈c,x.length=k)(h:∀x:List Int,x.length=k->cov c x=cov a x):Bu k a=Bu k c:=
 (JH (w:=λp _=>p) rfl k a [] a ha (λ_ z=>by cases z) ha λ_ _=>rfl).symm.trans (JH (w:=λp _=>p) rfl k a [] c ha (λ_ z=>by cases z) hc h)
theorem bT(x:Int)(t:List Int):∀l:List Row,cov (Ir l) (x::t)=l.any λr=>inS (r.1,r.2.1) x&&cov r.2.2 t
 |[]=>rfl
 |r::l=>by
  have ih:=bT x t l;unfold Ir at ih ⊢;rw[U24];unfold cov at ih ⊢;rw[List.any_append,ih,U4m];congr 1;rw[List.any_map];generalize r.2.2=bs;induction bs with
  |nil=>simp
  |cons b bs ih2=>
   rw[U4m,ih2,U4m];show(inS (r.1,r.2.1) x&&Jf b t||_)=_;cases inS (r.1,r.2.1) x<;>simp
theorem Ml:∀(k:Nat)(c:List Bx),(∀b∈c,b.length=k)->∀x:List Int,x.length=k->cov (Bu k c) x=cov c x
 |0,c,hc,x,hx=>by
  have:x=[]:=U1z.mp hx;subst this;unfold Bu;cases c with
  |nil=>rfl
  |cons b c=>
   have:b=[]:=U1z.mp (hc b U0h);subst this;rfl
 |k+1,c,hc,x::t,hx=>by
  have ht:t.length=k:=by simpa using hx
  obtain⟨⟨hi,j⟩,cv⟩:=(zp k c).joined;have ih:=Ml k (CZ c 0 x) (JR hc x) t ht;rw[Ou hc]at ih;rw[Rr,bT,←ih,U28,U5q];constructor
  .rintro⟨r,hr,h⟩;rw[U1a,Gh]at h;have e:Bu k (CZ c 0 x)=r.2.2:=(j.one r hr).2.2 x h.1.1 h.1.2;rw[e];exact h.2
  .intro h;obtain⟨r,hr,r1,r2⟩:=cv x (λz=>by
    have z:Bu k (CZ c 0 x)=[]:=z;rw[z]at h;cases h)
   refine⟨r,hr,?_⟩;rw[U1a,Gh];refine⟨⟨r1,r2⟩,?_⟩;have:=(j.one r hr).2.2 x r1 r2;rw[←this];exact h
def same_iff{k:Nat}{a b d e:List Bx}(ha:∀x∈a,x.length=k)(hb:∀x∈b,x.length=k)(hd:∀x∈d,x.length=k)(he:∀x∈e,x.length=k)(h1:∀x:List Int,x.length=k->cov d x=(cov a x&&!cov b x))(h2:∀x:List Int,x.length=k->cov e x=(cov b x&&!cov a x)) :
  Bu k a=Bu k b↔Bu k d=[]/\Bu k e=[]:=by
 constructor
 .intro h;have q:∀x:List Int,x.length=k->cov a x=cov b x:=λx hx=>by rw[←Ml k a ha x hx,h,Ml k b hb x hx]
  constructor
  .rw[←QL k];exact Pg k d [] hd (λ_ z=>by cases z) λx hx=>by rw[h1 x hx,q x hx];cases cov b x<;>rfl
  .rw[←QL k];exact Pg k e [] he (λ_ z=>by cases z) λx hx=>by rw[h2 x hx,q x hx];cases cov b x<;>rfl
 .rintro⟨z1,z2⟩;refine Pg k a b ha hb λx hx=>?_;have c1:=Ml k d hd x hx;have c2:=Ml k e he x hx;rw[z1,h1 x hx]at c1;rw[z2,h2 x hx]at c2;revert c1 c2;show false=_->false=_->_;cases cov a x<;>cases cov b x<;>simp
def pE(fa:Nat->Addr)(j:Nat)(AD BD:List D)(k:Int)(a4 a5 a6 a7 a8:Option D):VS.Env:=[some (.fn (fa j) j),some (.lst false AD),some (.lst false BD),some (.int k),a4,a5,a6,a7,a8]
abbrev p5(fa:Nat->Addr)(j:Nat)(bs cs:List Bx)(k:Nat)(x y z u:Option D):VS.Env:=pE fa j (bs.map Ae) (cs.map Ae) ((k+1:Nat):Int) (some (.ref 0)) x y z u
def Fj(w:Bool->Bool->Bool)(k:Nat)(bs cs:List Bx):List Row:=(steps (Ej (bs++cs))).map λs=>(s.1,s.2,Cg w k (CZ bs 0 s.1) (CZ cs 0 s.1))
def j5(p q:Bool):Js [.bl p,.bl q]=some (.bl p)/\Gv [.bl p,.bl q]=some (.bl (p&&!q))/\KC [.bl p,.bl q]=some (.bl (p&&q)):=by unfold Js Gv KC;rw[Cv,Cv,Cv];cases p<;>cases q<;>exact⟨rfl,rfl,rfl⟩
def bN(bs:List Bx):(Ej bs).length<=2*bs.length:=by have:=QF (Fe bs 0++En bs 0);unfold Ej;unfold Fe En at this ⊢;rw[U0n,U0i,U0i]at this;lia
theorem Np(w:Bool->Bool->Bool)(M:Nat):∀(k:Nat)(a b:List Bx),2*(a.length+b.length)<=M->(Cg w k a b).length<=M^k
 |0,a,b,_=>by unfold Cg;split<;>simp
 |k+1,a,b,h=>by
  rw[Cg];unfold Ir;have sl:=Nk (Ej (a++b));have el:=bN (a++b);rw[U0n]at el;have jl:=Vd (HW (Ej (a++b)) λx=>Cg w k (CZ a 0 x) (CZ b 0 x)) [];have fl:=Mi (λr:Row=>r.2.2.map λb=>(r.1,r.2.1)::b) (M^k) ((HW (Ej (a++b)) λx=>Cg w k (CZ a 0 x) (CZ b 0 x)).foldl joinR []) λr hr=>by
   rw[U0i];rcases Kp hr with z|⟨y,hy,e⟩
   .cases z
   .obtain⟨s,hs,rfl⟩:=U03.mp hy;rw[e];have:=Mj a s.1;have:=Mj b s.1;exact Np w M k _ _ (by lia)
  refine U01 fl ?_;rw[U82,U6z];refine Nat.mul_le_mul (U0o _) ?_;unfold HW at jl ⊢;rw[U0i,U0y]at jl;lia
theorem JD(w:Bool->Bool->Bool):∀(k:Nat)(a b:List Bx),∀c∈Cg w k a b,c.length=k
 |0,a,b,c,h=>by
  unfold Cg at h;split at h
  .rw[U0r.mp h];rfl
  .cases h
 |k+1,a,b,c,h=>by
  rw[Cg]at h;obtain⟨r,hr,hb⟩:=U4d.mp h;obtain⟨d,hd,rfl⟩:=U03.mp hb;rcases Kp hr with z|⟨y,hy,e⟩
  .cases z
  .obtain⟨s,hs,rfl⟩:=U03.mp hy;rw[e]at hd;rw[U0f,JD w k _ _ d hd]
def yN{env:VS.Env}{S S':Store}{o a:Bh}{i:Nat}{l ds:List D}{m:Bool}(ho:o env S=some (.ref i,S))(hi:S[i]?=some (some l))(ha:a env S=some (.lst m ds,S))(hl:l.length+ds.length<=1000000)(hS:S.set i (some (l++ds))=S'):Ge (Jv Qz o (Aa a Af)) env S=some (.nx,env,S'):=by
 rw[Fy,fV (d:=.ref i) (cs:=l) (ds:=[.lst m ds]) (r:=.non) (S1:=S) (S2:=S) (S3:=S') ho (by rw[VS.listOf,hi];rfl) (by rw[Al,ha];rfl) (by
  unfold Qz;simp only[hi,VS.listOf,U0g];rw[if_pos hl,hS])]
 rfl
theorem Tc(fa:Nat->Addr)(f j:Nat){sem:Ca}{w:Bool->Bool->Bool}(ht:RV fa j=some (fa j,sem))(hsm:∀p q,sem [.bl p,.bl q]=some (.bl (w p q))):∀(k:Nat)(bs cs:List Bx),(∀b∈bs,b.length=k)->bs.length<=20->(∀b∈cs,b.length=k)->cs.length<=20->bs.length+cs.length<=20->k<=3->CP fa (k+f+1) [.fn (fa j) j,.lst false (bs.map Ae),.lst false (cs.map Ae),.int k]=some (.lst true ((Cg w k bs cs).map Ae))
 |0,bs,cs,hb,hl,hc,hm,_,_=>by
  rw[CP,Cv];exact`zg;unfold O2;show((BZ _ _ (pE fa j (bs.map Ae) (cs.map Ae) 0 none none none none none) []).bind _)=_;have cv:T7 0 (RV fa) (Aa (eOp oGt (eCB DQ (Aa (Ab 1) Af)) (eC (.int 0))) (Aa (eOp oGt (eCB DQ (Aa (Ab 2) Af)) (eC (.int 0))) Af)) (pE fa j (bs.map Ae) (cs.map Ae) 0 none none none none none) []=some (.bl (w (decide (0<(bs.length:Int))) (decide (0<(cs.length:Int)))),[]):=by have e:T7 0 (RV fa) (Aa (eOp oGt (eCB DQ (Aa (Ab 1) Af)) (eC (.int 0))) (Aa (eOp oGt (eCB DQ (Aa (Ab 2) Af)) (eC (.int 0))) Af)) (pE fa j (bs.map Ae) (cs.map Ae) 0 none none none none none) []=(match RV fa j with|some t=>if fa j=t.1 then Am t.2 (Aa (eOp oGt (eCB DQ (Aa (Ab 1) Af)) (eC (.int 0))) (Aa (eOp oGt (eCB DQ (Aa (Ab 2) Af)) (eC (.int 0))) Af)) (pE fa j (bs.map Ae) (cs.map Ae) 0 none none none none none) [] else none|none=>none):=rfl;rw[e,ht];simp only[if_true];refine Du (ds:=[.bl (decide (0<(bs.length:Int))),.bl (decide (0<(cs.length:Int)))]) (es:=[.bl (decide (0<(bs.length:Int))),.bl (decide (0<(cs.length:Int)))]) ?_ (by simp[Av,Aw]) (by simp[Bf,age]) (hsm _ _);show some ([D.bl (decide ((((bs.map Ae).length:Nat):Int)>0)),.bl (decide ((((cs.map Ae).length:Nat):Int)>0))],([]:Store))=_;rw[U0i,U0i]
  have t0:BX (eOp (oEq false) (Ab 3) (eC (.int 0))) (pE fa j (bs.map Ae) (cs.map Ae) 0 none none none none none) []=some (true,[]):=rfl;rw[Qw (d:=.lst true ((Cg w 0 bs cs).map Ae)) (env1:=pE fa j (bs.map Ae) (cs.map Ae) 0 none none none none none) (S1:=[]) (by
   rw[T3 t0,CW,Jcl,DP,cv];have nz:∀l:List Bx,decide (0<(l.length:Int))=!l.isEmpty:=λl=>by
    cases l with
    |nil=>rfl
    |cons b r=>exact decide_eq_true (by rw[U0f];lia)
   rw[nz,nz,Cg];cases w (!bs.isEmpty) (!cs.isEmpty)<;>rfl)]
  show den 0 _ (.lst true _)=_;rw[den,Dn 0 _ (Bv (Az _))];rfl
 |k+1,bs,cs,hb,hl,hc,hm,hs2,h3=>by
  have el:(Ej (bs++cs)).length<=80:=by have:=bN (bs++cs);rw[U0n]at this;lia
  have sl:=Nk (Ej (bs++cs));have pos:∀b∈bs,0<b.length/\b.length<=3:=λb h=>by rw[hb b h];lia
  have pos2:∀b∈cs,0<b.length/\b.length<=3:=λb h=>by rw[hc b h];lia
  rw[show k+1+f=k+f+1 by lia,CP,Cv];exact`zg;unfold O2;show((BZ _ _ (pE fa j (bs.map Ae) (cs.map Ae) ((k+1:Nat):Int) none none none none none) []).bind _)=_;have t0:BX (eOp (oEq false) (Ab 3) (eC (.int 0))) (pE fa j (bs.map Ae) (cs.map Ae) ((k+1:Nat):Int) none none none none none) []=some (false,[]):=by show some ((false ^^ decide (((k+1:Nat):Int)=0)),([]:Store))=_;rw[U5m,decide_eq_false (by lia)]
  have s2:(Ci 4 (Ld Af)) (pE fa j (bs.map Ae) (cs.map Ae) ((k+1:Nat):Int) none none none none none) []=some (.nx,p5 fa j bs cs k none none none none,[some []]):=rfl;have ad:∀S:Store,eOp Bo (Ab 1) (Ab 2) (p5 fa j bs cs k none none none none) S=some (.lst true ((bs++cs).map Ae),S):=λS=>by show(U5d _ (if (bs.map Ae).length+(cs.map Ae).length<=1000000 then some (D.lst true (bs.map Ae++cs.map Ae)) else none))=_;rw[if_pos (by rw[U0i,U0i];lia),←U2a];rfl
  have ck:∀S:Store,Am Ed (Aa (eOp Bo (Ab 1) (Ab 2)) (Aa (eC (.int 0)) Af)) (p5 fa j bs cs k none none none none) S=some (.lst true ((steps (Ej (bs++cs))).map Bm),S):=λS=>
   Du (ds:=[.lst true ((bs++cs).map Ae),.int 0]) (es:=[.lst false ((bs++cs).map Ae),.int 0]) (by rw[Al,ad];rfl) (by rw[Av,Aw,Bv (Az (bs++cs))];rfl) (by rw[Bf,age,Dg (Az (bs++cs))];rfl) (mQ (λb h=>(U0x.mp h).elim (λh=>(pos b h).1) λh=>(pos2 b h).1) (by rw[U0n];lia))
  have e1:Cz (Am Ed (Aa (eOp Bo (Ab 1) (Ab 2)) (Aa (eC (.int 0)) Af))) (p5 fa j bs cs k none none none none) [some []]=some (((steps (Ej (bs++cs))).map Bm,[]),[some []]):=by rw[Ea,ck];rfl
  obtain⟨env',S',l1,y5,y6,y7,he,hS⟩:=Gj (w:=[]) (g:=Pat.sem (.tp [(.nm 5),(.nm 6)])) (b:=Mt fa (CP fa (k+f+1))) (ds:=(steps (Ej (bs++cs))).map Bm) (env:=p5 fa j bs cs k none none none none) (S:=[some []])
   (λi env S=>∃y5 y6 y7:Option D,env=p5 fa j bs cs k y5 y6 y7 none/\S=[some (((Fj w k bs cs).take i).map (Ba true))])
   ⟨none,none,none,rfl,rfl⟩ (λi env S _=>by simp) (λi d env S hd q=>by
    obtain⟨y5,y6,y7,he,hS⟩:=q;subst he hS;rw[U0z]at hd;obtain⟨s,hs,rfl⟩:=U19.mp hd;have hr:(Fj w k bs cs)[i]?=some (s.1,s.2,Cg w k (CZ bs 0 s.1) (CZ cs 0 s.1)):=by unfold Fj;rw[U0z,hs];rfl
    have ih:=Tc fa f j ht hsm k (CZ bs 0 s.1) (CZ cs 0 s.1) (JR hb s.1) (U01 (Mj bs s.1) hl) (JR hc s.1) (U01 (Mj cs s.1) hm) (U01 (Nat.add_le_add (Mj bs s.1) (Mj cs s.1)) hs2) (by lia);have rl:(Fj w k bs cs).length<=80:=by unfold Fj;rw[U0i];lia
    obtain⟨LL,hLL⟩:∃LL:List D,LL=((Fj w k bs cs).take i).map (Ba true):=⟨_,rfl⟩;have nLL:LL.length<1000000:=by rw[hLL,U0i,U2e];lia
    rw[←hLL];have q1:Am Fv (Aa (Ab 1) (Aa (eC (.int 0)) (Aa (Ab 5) Af))) (p5 fa j bs cs k (some (.int s.1)) (some (.int s.2)) y7 none) [some LL]=some (.lst true ((CZ bs 0 s.1).map Ae),[some LL]):=
     Du (ds:=[.lst false (bs.map Ae),.int 0,.int s.1]) (es:=[.lst false (bs.map Ae),.int 0,.int s.1]) rfl (by simp[Av,Aw,Bv (Az bs)]) (by simp[Bf,age,Dg (Az bs)]) (gH (m:=true) (U01 hl (by decide)) pos s.1)
    have q2:Am Fv (Aa (Ab 2) (Aa (eC (.int 0)) (Aa (Ab 5) Af))) (p5 fa j bs cs k (some (.int s.1)) (some (.int s.2)) y7 none) [some LL]=some (.lst true ((CZ cs 0 s.1).map Ae),[some LL]):=
     Du (ds:=[.lst false (cs.map Ae),.int 0,.int s.1]) (es:=[.lst false (cs.map Ae),.int 0,.int s.1]) rfl (by simp[Av,Aw,Bv (Az cs)]) (by simp[Bf,age,Dg (Az cs)]) (gH (m:=true) (U01 hm (by decide)) pos2 s.1)
    have q3:eOp G6 (Ab 3) (eC (.int 1)) (p5 fa j bs cs k (some (.int s.1)) (some (.int s.2)) y7 none) [some LL]=some (.int k,[some LL]):=by show some (D.int (((k+1:Nat):Int)-1),_)=_;rw[show((k+1:Nat):Int)-1=k by lia]
    have v0:Ab 0 (p5 fa j bs cs k (some (.int s.1)) (some (.int s.2)) y7 none) [some LL]=some (.fn (fa j) j,[some LL]):=rfl;have q4:Am (CP fa (k+f+1)) (Aa (Ab 0) (Aa (Am Fv (Aa (Ab 1) (Aa (eC (.int 0)) (Aa (Ab 5) Af)))) (Aa (Am Fv (Aa (Ab 2) (Aa (eC (.int 0)) (Aa (Ab 5) Af)))) (Aa (eOp G6 (Ab 3) (eC (.int 1))) Af)))) (p5 fa j bs cs k (some (.int s.1)) (some (.int s.2)) y7 none) [some LL]=some (.lst true ((Cg w k (CZ bs 0 s.1) (CZ cs 0 s.1)).map Ae),[some LL]):=
     Du (ds:=[.fn (fa j) j,.lst true ((CZ bs 0 s.1).map Ae),.lst true ((CZ cs 0 s.1).map Ae),.int k]) (es:=[.fn (fa j) j,.lst false ((CZ bs 0 s.1).map Ae),.lst false ((CZ cs 0 s.1).map Ae),.int k]) (by
      rw[Al,v0,U0g,Al,q1,U0g,Al,q2,U0g,Al,q3];rfl) (by simp[Av,Aw,Bv (Az _)]) (by simp[Bf,age,Dg (Az _)]) ih
    refine⟨p5 fa j bs cs k (some (.int s.1)) (some (.int s.2)) y7 none,by simp[Eb,Iz,Gi,G3,-U0d,-U0b,Bm,pE],p5 fa j bs cs k (some (.int s.1)) (some (.int s.2)) (some (.lst true ((Cg w k (CZ bs 0 s.1) (CZ cs 0 s.1)).map Ae))) none,[some (LL++[Ba true (s.1,s.2,Cg w k (CZ bs 0 s.1) (CZ cs 0 s.1))])],?_,some (.int s.1),some (.int s.2),some (.lst true ((Cg w k (CZ bs 0 s.1) (CZ cs 0 s.1)).map Ae)),rfl,?_⟩
    .unfold Mt;rw[Bp (by rw[DW,q4];rfl)];exact mC (j:=4) rfl rfl nLL
    .rw[U3y,hr,U3z,U2a,hLL];rfl)
  subst he hS;have rl:(Fj w k bs cs).length=(steps (Ej (bs++cs))).length:=by unfold Fj;rw[U0i]
  rw[U0i,←rl,U2y]at l1;have L1:Mq fa (CP fa (k+f+1)) (p5 fa j bs cs k none none none none) [some []]=some (.nx,p5 fa j bs cs k y5 y6 y7 none,[some ((Fj w k bs cs).map (Ba true))]):=by unfold Mq;rw[Gg,e1];exact l1
  have s3:(Ci 8 (Ld Af)) (p5 fa j bs cs k y5 y6 y7 none) [some ((Fj w k bs cs).map (Ba true))]=some (.nx,p5 fa j bs cs k y5 y6 y7 (some (.ref 1)),[some ((Fj w k bs cs).map (Ba true)),some []]):=rfl;have jo:=o9 (Fj w k bs cs) (by lia);have cl:∀T:List (Option (List D)),T8 Gk (Aa (Ab 4) Af) (p5 fa j bs cs k y5 y6 y7 (some (.ref 1))) (some ((Fj w k bs cs).map (Ba true))::T)=some (.lst true (((Fj w k bs cs).foldl joinR []).map (Ba false)),some ((Fj w k bs cs).map (Ba true))::T):=λT=>by
   have a:Aa (Ab 4) Af (p5 fa j bs cs k y5 y6 y7 (some (.ref 1))) (some ((Fj w k bs cs).map (Ba true))::T)=some ([.ref 0],some ((Fj w k bs cs).map (Ba true))::T):=rfl;have le:Q7 (some ((Fj w k bs cs).map (Ba true))::T) [.ref 0]=some [.lent ((Fj w k bs cs).map (Ba false))]:=by rw[Q7,if_neg (by simp[Aw])];show((if Av ((Fj w k bs cs).map (Ba true))=true then some (D.lent (Bf ((Fj w k bs cs).map (Ba true)))) else none).bind _)=_;rw[if_pos (TV ..),cB];rfl
   rw[oZ,a,U0g,le,U0g,jo];rfl
  have pl:=Np w 80 (k+1) bs cs (by lia);have pk:80^(k+1)<=512000:=by
   have:k=0∨k=1∨k=2:=by lia
   rcases this with rfl|rfl|rfl<;>decide
  have jm:=λr hr=>Kp (l:=Fj w k bs cs) (acc:=[]) (r:=r) hr;have ep:Cg w (k+1) bs cs=((Fj w k bs cs).foldl joinR []).flatMap λr=>r.2.2.map λb=>(r.1,r.2.1)::b:=rfl;rw[ep]at pl ⊢;generalize (Fj w k bs cs).foldl joinR []=J at *
  generalize (Fj w k bs cs).map (Ba true)=RR at *
  have e2:Cz (T8 Gk (Aa (Ab 4) Af)) (p5 fa j bs cs k y5 y6 y7 (some (.ref 1))) [some RR,some []]=some ((J.map (Ba false),[]),[some RR,some []]):=by rw[Ea,cl];rfl
  obtain⟨env',S',l2,z5,z6,z7,he,hS⟩:=Gj (w:=[]) (g:=Pat.sem (.tp [(.nm 5),(.nm 6),(.nm 7)])) (b:=Ms fa (CP fa (k+f+1))) (ds:=J.map (Ba false)) (env:=p5 fa j bs cs k y5 y6 y7 (some (.ref 1))) (S:=[some RR,some []])
   (λi env S=>∃z5 z6 z7:Option D,env=p5 fa j bs cs k z5 z6 z7 (some (.ref 1))/\S=[some RR,some (((J.take i).flatMap λr=>r.2.2.map λb=>(r.1,r.2.1)::b).map Ae)])
   ⟨y5,y6,y7,rfl,rfl⟩ (λi env S _=>by simp) (λi d env S hd q=>by
    obtain⟨z5,z6,z7,he,hS⟩:=q;subst he hS;rw[U0z]at hd;obtain⟨r,hr,rfl⟩:=U19.mp hd;have hi:i<J.length:=(U0l.mp hr).1;have tk:(J.take (i+1)).flatMap (λr:Row=>r.2.2.map λb=>(r.1,r.2.1)::b)=(J.take i).flatMap (λr:Row=>r.2.2.map λb=>(r.1,r.2.1)::b)++r.2.2.map λb=>(r.1,r.2.1)::b:=by rw[U3y,hr,U3z,U7g];simp
    have tl:((J.take (i+1)).flatMap (λr:Row=>r.2.2.map λb=>(r.1,r.2.1)::b)).length<=(J.flatMap λr=>r.2.2.map λb=>(r.1,r.2.1)::b).length:=by
     conv=>rhs;rw[←List.take_append_drop (i+1) J]
     rw[U7g,U0n];exact ar9
    rw[tk,U0n,U0i]at tl;obtain⟨LL,hLL⟩:∃LL:List Bx,LL=(J.take i).flatMap λr=>r.2.2.map λb=>(r.1,r.2.1)::b:=⟨_,rfl⟩;rw[←hLL]at tl ⊢;have c1:Mr fa (CP fa (k+f+1)) (p5 fa j bs cs k (some (.int r.1)) (some (.int r.2.1)) (some (.lst false (r.2.2.map Ae))) (some (.ref 1))) [some RR,some (LL.map Ae)]=some ((r.2.2.map λb=>(r.1,r.2.1)::b).map Ae,[some RR,some (LL.map Ae)]):=by
     have e0:Cz (Ab 7) (p5 fa j bs cs k (some (.int r.1)) (some (.int r.2.1)) (some (.lst false (r.2.2.map Ae))) (some (.ref 1))) [some RR,some (LL.map Ae)]=some ((r.2.2.map Ae,[]),[some RR,some (LL.map Ae)]):=rfl;unfold Mr Ck;rw[e0];simp only[U0g];rw[IK (by simp) Ae (λb=>Ae ((r.1,r.2.1)::b)) r.2.2 (by lia),U0d]
     .rfl
     .intro b hbm;refine⟨[some (Ae b),some (.int r.1),some (.int r.2.1)],rfl,?_⟩;have hbl:b.length<=3:=by
       rcases jm r (U00 hr) with z|⟨y,hy,e⟩
       .cases z
       .unfold Fj at hy;obtain⟨s,_,rfl⟩:=U03.mp hy;rw[e]at hbm;rw[JD w k _ _ b hbm];lia
      show(U5d _ (if 1+(b.map Bm).length<=1000000 then some (D.tup ([Bm (r.1,r.2.1)]++b.map Bm)) else none))=_;rw[if_pos (by rw[U0i];lia)];rfl
    refine⟨p5 fa j bs cs k (some (.int r.1)) (some (.int r.2.1)) (some (.lst false (r.2.2.map Ae))) (some (.ref 1)),by simp[Eb,Iz,Gi,G3,-U0d,-U0b,Ba,pE],p5 fa j bs cs k (some (.int r.1)) (some (.int r.2.1)) (some (.lst false (r.2.2.map Ae))) (some (.ref 1)),[some RR,some (LL.map Ae++(r.2.2.map λb=>(r.1,r.2.1)::b).map Ae)],?_,some (.int r.1),some (.int r.2.1),some (.lst false (r.2.2.map Ae)),rfl,?_⟩
    .unfold Ms;exact yN (i:=1) (m:=true) rfl rfl (by rw[Cq,c1];rfl) (by rw[U0i,U0i,U0i];lia) rfl
    .rw[tk,←hLL,U2a])
  subst he hS;rw[U0i,U2y]at l2;have L2:Mp fa (CP fa (k+f+1)) (p5 fa j bs cs k y5 y6 y7 (some (.ref 1))) [some RR,some []]=some (.nx,p5 fa j bs cs k z5 z6 z7 (some (.ref 1)),[some RR,some ((J.flatMap λr=>r.2.2.map λb=>(r.1,r.2.1)::b).map Ae)]):=by unfold Mp;rw[Gg,e2];exact l2
  rw[Bp (by rw[RT t0];rfl),Bp s2,Bp L1,Bp s3,Bp L2];show den 0 [some RR,some ((J.flatMap λr=>r.2.2.map λb=>(r.1,r.2.1)::b).map Ae)] (.ref 1)=_;rw[den,if_neg (by lia)];show(if Av ((J.flatMap λr=>r.2.2.map λb=>(r.1,r.2.1)::b).map Ae)=true then _ else _)=_;rw[if_pos (Bv (Az _))]
def wB(both:Bool)(p q:Bool):Bool:=p&&(q==both)
def Va{n:Nat}{a b:List Bx}(ga:Good n a)(gb:Good n b):G4 [Ai false n a,Ai false n b]=some .non:=by
 have c1:Am Dc (Aa (Ab 0) Af) [some (Ai false n a),some (Ai false n b)] []=some (.non,[]):=Du (ds:=[Ai false n a]) (es:=[Ai false n a]) rfl (by simp[Ai,Av,Aw,Bv (Az a)]) (by simp[Ai,Bf,age,Dg (Az a)]) (Hu ga);have c2:Am Dc (Aa (Ab 1) Af) [some (Ai false n a),some (Ai false n b)] []=some (.non,[]):=Du (ds:=[Ai false n b]) (es:=[Ai false n b]) rfl (by simp[Ai,Av,Aw,Bv (Az b)]) (by simp[Ai,Bf,age,Dg (Az b)]) (Hu gb);have t:BX (eOp (oEq true) (eOp oIx (Ab 0) (eC (.int 0))) (eOp oIx (Ab 1) (eC (.int 0)))) [some (Ai false n a),some (Ai false n b)] []=some (false,[]):=by show some ((true ^^ decide ((n:Int)=n)),([]:Store))=_;rw[decide_eq_true rfl];rfl
 unfold G4;rw[Cv];exact`zD;unfold Q0;rw[Bp (by rw[Fy,c1];rfl),Bp (by rw[Fy,c2];rfl),RT t];rfl
def Hr{sem:Ca}{env:VS.Env}{S:Store}{n:Nat}{a b:List Bx}{m m':Bool}{e1 e2:Bh}{r:D}(h1:e1 env S=some (Ai m n a,S))(h2:e2 env S=some (Ai m' n b,S))(hr:sem [Ai false n a,Ai false n b]=some r):Am sem (Aa e1 (Aa e2 Af)) env S=some (r,S):=
 Du (ds:=[Ai m n a,Ai m' n b]) (es:=[Ai false n a,Ai false n b]) (by rw[Al,h1,U0g,Al,h2];rfl) (by simp[Ai,Av,Aw,Bv (Az _)]) (by simp[Ai,Bf,age,Dg (Az _)]) hr
def uJ(both p q:Bool):wB both p q=(p&&(if both=true then q else !q)):=by cases both<;>cases p<;>cases q<;>rfl
def aF(fa:Nat->Addr){n:Nat}{a b:List Bx}(ga:Good n a)(gb:Good n b)(hab:a.length+b.length<=20)(j:Nat){sem:Ca}{w:Bool->Bool->Bool}(ht:RV fa j=some (fa j,sem))(hs:∀p q,sem [.bl p,.bl q]=some (.bl (w p q))):CP fa 4 [.fn (fa j) j,.lst false (a.map Ae),.lst false (b.map Ae),.int n]=some (.lst true ((Cg w n a b).map Ae)):=by have n3:=ga.n3;have:=Tc fa (3-n) j ht hs n a b (λx h=>(ga.box x h).1) ga.few (λx h=>(gb.box x h).1) gb.few hab (by lia);rw[show n+(3-n)+1=4 by lia]at this;exact this
def WL(fa:Nat->Addr){n:Nat}{a b:List Bx}{j:Nat}{r:D}{env:VS.Env}{S:Store}(h0:env[0]?=some (some (Ai false n a)))(h1:env[1]?=some (some (Ai false n b)))(hr:CP fa 4 [.fn (fa j) j,.lst false (a.map Ae),.lst false (b.map Ae),.int n]=some r) :
  Am (CP fa 4) (Aa (eC (.fn (fa j) j)) (Aa (eOp oIx (Ab 0) (eC (.int 1))) (Aa (eOp oIx (Ab 1) (eC (.int 1))) (Aa (eOp oIx (Ab 0) (eC (.int 0))) Af)))) env S=some (r,S):=by
 have v0:Ab 0 env S=some (Ai false n a,S):=by simp[Ak,h0]
 have v1:Ab 1 env S=some (Ai false n b,S):=by simp[Ak,h1]
 have i1:eOp oIx (Ab 0) (eC (.int 1)) env S=some (.lst false (a.map Ae),S):=by rw[Bg,v0];rfl
 have i2:eOp oIx (Ab 1) (eC (.int 1)) env S=some (.lst false (b.map Ae),S):=by rw[Bg,v1];rfl
 have i3:eOp oIx (Ab 0) (eC (.int 0)) env S=some (.int n,S):=by rw[Bg,v0];rfl
 exact Du (ds:=[.fn (fa j) j,.lst false (a.map Ae),.lst false (b.map Ae),.int n]) (es:=[.fn (fa j) j,.lst false (a.map Ae),.lst false (b.map Ae),.int n]) (by
  rw[Al,Cr,U0g,Al,i1,U0g,Al,i2,U0g,Al,i3];rfl) (by simp[Av,Aw,Bv (Az _)]) (by simp[Bf,age,Dg (Az _)]) hr
def Ro(fa:Nat->Addr){n:Nat}{a b:List Bx}(ga:Good n a)(gb:Good n b)(hab:a.length+b.length<=20):Ey fa [Ai false n a,Ai false n b]=some (.lst true ((Cg (wB false) n a b).map Ae)):=by
 have h:=aF fa ga gb hab 1 (sem:=Gv) (w:=wB false) rfl λp q=>by rw[(j5 p q).2.1,uJ];rfl
 have c1:=Hr (e1:=Ab 0) (e2:=Ab 1) (env:=[some (Ai false n a),some (Ai false n b)]) (S:=[]) rfl rfl (Va ga gb);have c2:=WL fa (env:=[some (Ai false n a),some (Ai false n b)]) (S:=[]) rfl rfl h;unfold Ey;rw[Cv];exact`zD;unfold OD;rw[Bp (by rw[Fy,c1];rfl),CW,c2];show den 0 _ (.lst true _)=_;rw[den,Dn 0 _ (Bv (Az _))];rfl
def Xw(fa:Nat->Addr){n:Nat}{a b:List Bx}(ga:Good n a)(gb:Good n b)(hab:a.length+b.length<=20):Fb fa [Ai false n a,Ai false n b]=some (.lst true ((Cg (wB true) n a b).map Ae)):=by
 have h:=aF fa ga gb hab 2 (sem:=KC) (w:=wB true) rfl λp q=>by rw[(j5 p q).2.2,uJ];rfl
 have c1:=Hr (e1:=Ab 0) (e2:=Ab 1) (env:=[some (Ai false n a),some (Ai false n b)]) (S:=[]) rfl rfl (Va ga gb);have c2:=WL fa (env:=[some (Ai false n a),some (Ai false n b)]) (S:=[]) rfl rfl h;unfold Fb;rw[Cv];exact`zD;unfold RG;rw[Bp (by rw[Fy,c1];rfl),CW,c2];show den 0 _ (.lst true _)=_;rw[den,Dn 0 _ (Bv (Az _))];rfl
def Od(fa:Nat->Addr){n:Nat}{bs:List Bx}(g:Good n bs):DR fa [Ai false n bs]=some (.lst true ((Bu n bs).map Ae)):=by
 have n3:=g.n3;have hd:∀x∈bs,x.length=n:=λx h=>(g.box x h).1;have e4:=Tc fa (3-n) 0 (sem:=Js) (w:=λp _=>p) rfl (λp q=>(j5 p q).1) n bs [] hd g.few (λ_ z=>by cases z) (by decide) (by simpa using g.few) (by lia);rw[show n+(3-n)+1=4 by lia,JH (w:=λp _=>p) rfl n bs [] bs hd (λ_ z=>by cases z) hd λ_ _=>rfl]at e4;have c1:Am Dc (Aa (Ab 0) Af) [some (Ai false n bs)] []=some (.non,[]):=Du (ds:=[Ai false n bs]) (es:=[Ai false n bs]) rfl (by simp[Ai,Av,Aw,Bv (Az bs)]) (by simp[Ai,Bf,age,Dg (Az bs)]) (Hu g);have c2:Am (CP fa 4) (Aa (eC (.fn (fa 0) 0)) (Aa (eOp oIx (Ab 0) (eC (.int 1))) (Aa (Bk Af) (Aa (eOp oIx (Ab 0) (eC (.int 0))) Af)))) [some (Ai false n bs)] []=some (.lst true ((Bu n bs).map Ae),[]):=
  Du (ds:=[.fn (fa 0) 0,.lst false (bs.map Ae),.lst true [],.int n]) (es:=[.fn (fa 0) 0,.lst false (bs.map Ae),.lst false [],.int n]) rfl (by simp[Av,Aw,Bv (Az bs)]) (by simp[Bf,age,Dg (Az bs)]) e4
 unfold DR;rw[Cv];exact`zD;unfold Tz;rw[Bp (by rw[Fy,c1];rfl),CW,c2];show den 0 _ (.lst true _)=_;rw[den,Dn 0 _ (Bv (Az _))];rfl
def tX(fa:Nat->Addr){n:Nat}{a b:List Bx}(ga:Good n a)(gb:Good n b):Ij fa [Ai false n a,Ai false n b]=some (.bl (decide (Bu n a=Bu n b))):=by have c1:=Hr (e1:=Ab 0) (e2:=Ab 1) (env:=[some (Ai false n a),some (Ai false n b)]) (S:=[]) rfl rfl (Va ga gb);have c2:Am (DR fa) (Aa (Ab 0) Af) [some (Ai false n a),some (Ai false n b)] []=some (.lst true ((Bu n a).map Ae),[]):=Du (ds:=[Ai false n a]) (es:=[Ai false n a]) rfl (by simp[Ai,Av,Aw,Bv (Az a)]) (by simp[Ai,Bf,age,Dg (Az a)]) (Od fa ga);have c3:Am (DR fa) (Aa (Ab 1) Af) [some (Ai false n a),some (Ai false n b)] []=some (.lst true ((Bu n b).map Ae),[]):=Du (ds:=[Ai false n b]) (es:=[Ai false n b]) rfl (by simp[Ai,Av,Aw,Bv (Az b)]) (by simp[Ai,Bf,age,Dg (Az b)]) (Od fa gb);have q:=Pj false [] true true (Bu n a) (Bu n b);rw[U5m]at q;unfold Ij;rw[Cv];exact`zD;unfold SM;rw[Bp (by rw[Fy,c1];rfl),CW,Bg,c2,U0g,c3,U0g,q];rfl
def mu(L:List Bx)(x:List Int):Nat:=(L.filter λb=>Jf b x).length
def Zq(a b:List Bx)(x:List Int):mu (a++b) x=mu a x+mu b x:=by unfold mu;rw[List.filter_append,U0n]
def lV(L:List Bx)(x:List Int):cov L x=decide (0<mu L x):=by
 unfold cov mu;rw[U28,decide_eq_true_iff,U5q,List.length_pos_iff_exists_mem];constructor
 .rintro⟨b,h1,h2⟩;exact⟨b,U1t.mpr ⟨h1,h2⟩⟩
 .rintro⟨b,h⟩;exact⟨b,(U1t.mp h).1,(U1t.mp h).2⟩
theorem Zo(p:St2)(x:Int)(t:List Int):∀bs:List Bx,mu (bs.map λb=>p::b) (x::t)=if inS p x=true then mu bs t else 0
 |[]=>by split<;>rfl
 |b::bs=>by
  have ih:=Zo p x t bs;unfold mu at ih ⊢;rw[U0j,U2z];show(if (inS p x&&Jf b t)=true then _ else _:List Bx).length=_;cases h:inS p x with
  |false=>rw[h]at ih;simpa using ih
  |true=>
   rw[h]at ih;rw[if_pos rfl]at ih ⊢;rw[U5v,U2z];split
   .rw[U0f,U0f,ih]
   .exact ih
theorem fQ{x:Int}{t:List Int}:∀{l:List Row},(∀r∈l,inS (r.1,r.2.1) x=false)->mu (Ir l) (x::t)=0
 |[],_=>rfl
 |r::l,h=>by unfold Ir;rw[U24,Zq,Zo,h r U0h,if_neg (by simp),U51];exact fQ λq hq=>h q (U0k _ hq)
theorem fP{x:Int}{t:List Int}{v:List Bx}:∀{l:List Row},(l.Pairwise λr q=>r.2.1<=q.1)->(∀r∈l,inS (r.1,r.2.1) x=true->r.2.2=v)->(v≠[]->∃r∈l,inS (r.1,r.2.1) x=true)->mu (Ir l) (x::t)=mu v t
 |[],_,_,h=>by
  cases v with
  |nil=>rfl
  |cons b v=>obtain⟨r,hr,_⟩:=h (by simp);cases hr
 |r::l,hp,h1,h2=>by
  have hp':=U1k.mp hp;unfold Ir;rw[U24,Zq,Zo];cases h:inS (r.1,r.2.1) x with
  |true=>
   rw[if_pos rfl,h1 r U0h h];have:mu (Ir l) (x::t)=0:=fQ λq hq=>by
    have a:=hp'.1 q hq;rw[Gh]at h;have h:r.1<=x/\x<r.2.1:=h;cases z:inS (q.1,q.2.1) x with
    |false=>rfl
    |true=>rw[Gh]at z;have z:q.1<=x/\x<q.2.1:=z;lia
   exact(congrArg (mu v t+·) this).trans (Nat.add_zero _)
  |false=>
   rw[if_neg (by simp),U51];refine fP hp'.2 (λq hq=>h1 q (U0k _ hq)) λhv=>?_;obtain⟨q,hq,e⟩:=h2 hv;rcases U0q.mp hq with rfl|hq
   .rw[h]at e;cases e
   .exact⟨q,hq,e⟩
def nY{M:List Int}{f:Int->List Bx}(h:Mk M f)(x:Int)(t:List Int):mu (Ir ((HW M f).foldl joinR [])) (x::t)=mu (f x) t:=by
 obtain⟨⟨hi,j⟩,cv⟩:=h.joined;refine fP (j.two.imp λa=>a.1) (λr hr e=>?_) λhv=>?_
 .rw[Gh]at e;exact((j.one r hr).2.2 x e.1 e.2).symm
 .obtain⟨r,hr,r1,r2⟩:=cv x hv;exact⟨r,hr,Gh.mpr ⟨r1,r2⟩⟩
def bR{l:List Bx}(hl:∀x∈l,x.length=0):cov l []=!l.isEmpty:=by
 cases l with
 |nil=>rfl
 |cons x l=>
  have:x=[]:=U1z.mp (hl x U0h);subst this;rfl
theorem ZQ{w:Bool->Bool->Bool}(hw:w false false=false):∀(k:Nat)(a b:List Bx),(∀x∈a,x.length=k)->(∀x∈b,x.length=k)->∀x:List Int,x.length=k->mu (Cg w k a b) x=if w (cov a x) (cov b x)=true then 1 else 0
 |0,a,b,ha,hb,x,hx=>by have:x=[]:=U1z.mp hx;subst this;rw[bR ha,bR hb,Cg];split<;>rfl
 |k+1,a,b,ha,hb,x::t,hx=>by have ih:=ZQ hw k (CZ a 0 x) (CZ b 0 x) (JR ha x) (JR hb x) t (by simpa using hx);rw[Ou ha,Ou hb]at ih;rw[Cg,nY (pU hw k a b)];exact ih
def ZG{w:Bool->Bool->Bool}(hw:w false false=false){k:Nat}{a b:List Bx}(ha:∀x∈a,x.length=k)(hb:∀x∈b,x.length=k){x:List Int}(hx:x.length=k):cov (Cg w k a b) x=w (cov a x) (cov b x):=by rw[lV,ZQ hw k a b ha hb x hx];cases w (cov a x) (cov b x)<;>rfl
def P_W(k:Nat)(a:List Bx)(ha:∀x∈a,x.length=k):Cg (λp _=>p) k a []=Bu k a:=JH rfl k a [] a ha (λ_ z=>by cases z) ha λ_ _=>rfl
def gW{k:Nat}{a:List Bx}(ha:∀x∈a,x.length=k){x:List Int}(hx:x.length=k):mu (Bu k a) x=if cov a x=true then 1 else 0:=by rw[←P_W k a ha,ZQ rfl k a [] ha (λ_ z=>by cases z) x hx]
def jP{acc:List Row}{x r:Row}(h:r∈joinR acc x):(r.1=x.1∨∃q∈acc,r.1=q.1)/\(r.2.1=x.2.1∨∃q∈acc,r.2.1=q.2.1):=by
 unfold joinR at h;split at h
 .rename_i l hl;split at h
  .rcases U0x.mp h with h|h
   .exact⟨.inr ⟨r,U66 _ h,rfl⟩,.inr ⟨r,U66 _ h,rfl⟩⟩
   .rw[U0r.mp h];exact⟨.inr ⟨l,List.mem_of_getLast? hl,rfl⟩,.inl rfl⟩
  .rcases U0x.mp h with h|h
   .exact⟨.inr ⟨r,h,rfl⟩,.inr ⟨r,h,rfl⟩⟩
   .rw[U0r.mp h];exact⟨.inl rfl,.inl rfl⟩
 .rcases U0x.mp h with h|h
  .exact⟨.inr ⟨r,h,rfl⟩,.inr ⟨r,h,rfl⟩⟩
  .rw[U0r.mp h];exact⟨.inl rfl,.inl rfl⟩
theorem Yc(P:Int->Prop):∀{l acc:List Row},(∀r∈acc,P r.1/\P r.2.1)->(∀r∈l,P r.1/\P r.2.1)->∀r∈l.foldl joinR acc,P r.1/\P r.2.1
 |[],acc,h,_,r,hr=>h r hr
 |x::l,acc,h,h2,r,hr=>by
  refine Yc P (l:=l) (acc:=joinR acc x) (λq hq=>?_) (λq hq=>h2 q (U0k _ hq)) r hr;have hx:=h2 x U0h;obtain⟨a,b⟩:=jP hq;constructor
  .rcases a with e|⟨t,ht,e⟩
   .rw[e];exact hx.1
   .rw[e];exact(h t ht).1
  .rcases b with e|⟨t,ht,e⟩
   .rw[e];exact hx.2
   .rw[e];exact(h t ht).2
theorem fM(P:Int->Prop){w:Bool->Bool->Bool}(hw:w false false=false):∀(k:Nat)(a b:List Bx),(∀c∈a++b,c.length=k)->(∀c∈a++b,∀p∈c,P p.1/\P p.2)->∀c∈Cg w k a b,∀p∈c,p.1<p.2/\P p.1/\P p.2
 |0,a,b,_,_,c,hc,p,hp=>by have:=JD w 0 a b c hc;rw[U1z.mp this]at hp;cases hp
 |k+1,a,b,hd,hP,c,hc,p,hp=>by
  rw[Cg]at hc;obtain⟨r,hr,hc0⟩:=U4d.mp hc;clear hc;obtain⟨c,hc,rfl⟩:=U03.mp hc0;obtain⟨⟨hi,j⟩,_⟩:=(pU hw k a b).joined;have hE:∀e∈Ej (a++b),P e:=λe he=>by
   unfold Ej at he;rw[JB]at he;rcases U0x.mp he with z|z <;>
   .obtain⟨d,hm,rfl⟩:=U03.mp z;have hl:=hd d hm;cases d with
    |nil=>cases hl
    |cons q d=>first|exact(hP _ hm q U0h).1|exact(hP _ hm q U0h).2
  rcases U0q.mp hp with e|e
  .rw[e];refine⟨(j.one r hr).1,Yc P (λ_ z=>by cases z) (λq hq=>?_) r hr⟩;obtain⟨s,hs,rfl⟩:=U03.mp hq;obtain⟨_,g2,g3,_⟩:=J9 (GK (a++b)) s hs;exact⟨hE _ g2,hE _ g3⟩
  .rcases Kp hr with z|⟨y,hy,e2⟩
   .cases z
   .obtain⟨s,hs,rfl⟩:=U03.mp hy;rw[e2]at hc;have sub:∀d∈CZ a 0 s.1++CZ b 0 s.1,∃d'∈a++b,d=d'.eraseIdx 0:=λd hm=>by
     unfold CZ at hm;rcases U0x.mp hm with hm|hm <;>
     .obtain⟨d',hm',rfl⟩:=U03.mp hm
      first|exact⟨d',U10 _ (U1t.mp hm').1,rfl⟩|exact⟨d',U04 _ (U1t.mp hm').1,rfl⟩
    refine fM P hw k (CZ a 0 s.1) (CZ b 0 s.1) (λd hm=>?_) (λd hm q hq=>?_) c hc p e
    .obtain⟨d',h1,rfl⟩:=sub d hm;have:=hd d' h1;rw[List.length_eraseIdx,if_pos (by lia)];exact qH this
    .obtain⟨d',h1,rfl⟩:=sub d hm;exact hP d' h1 q (List.mem_of_mem_eraseIdx hq)
abbrev Q:=List Int×Int
def cst(cs:List Q)(p:St2):List Q:=(cs.map λq=>(q.1++[p.1],q.2))++cs.map λq=>(q.1++[p.2],-q.2)
def sc(b:Bx):List Q:=b.foldl cst [([],1)]
def wt(l:List Q)(c:List Int):Int:=(l.map λq=>if q.1=c then q.2 else 0).sum
def dl(p:St2)(y:Int):Int:=(if p.1=y then 1 else 0)-if p.2=y then 1 else 0
def pr:Bx->List Int->Int
 |[],[]=>1
 |p::b,y::c=>dl p y*pr b c
 |_,_=>0
def Zh(a b:List Q)(c:List Int):wt (a++b) c=wt a c+wt b c:=by unfold wt;rw[U2a,List.sum_append]
def Xe(q:Q)(l:List Q)(c:List Int):wt (q::l) c=(if q.1=c then q.2 else 0)+wt l c:=by unfold wt;rw[U0j,U45]
def vQ{k c:List Int}{x y:Int}:(k++[x]=c++[y])=(k=c/\x=y):=by
 apply propext;constructor
 .intro h;have:=List.append_inj' h rfl;exact⟨this.1,by simpa using this.2⟩
 .rintro⟨rfl,rfl⟩;rfl
theorem Xd(x y s:Int)(c:List Int):∀cs:List Q,wt (cs.map λq=>(q.1++[x],s*q.2)) (c++[y])=(if x=y then s else 0)*wt cs c
 |[]=>by simp[wt]
 |q::cs=>by rw[U0j,Xe,Xe,Xd x y s c cs,Int.mul_add];congr 1;simp only[vQ];by_cases h1:q.1=c<;>by_cases h2:x=y<;>simp[h1,h2]
def Jal(cs:List Q)(p:St2)(c:List Int)(y:Int):wt (cst cs p) (c++[y])=wt cs c*dl p y:=by
 have a:=Xd p.1 y 1 c cs;have b:=Xd p.2 y (-1) c cs;simp only[U6n]at a;have e:(cs.map λq=>((q.1++[p.2],-1*q.2):Q))=cs.map λq=>(q.1++[p.2],-q.2):=by congr 1;funext q;rw[Int.neg_mul,U6n]
 rw[e]at b;unfold cst;rw[Zh,a,b];unfold dl;by_cases h1:p.1=y<;>by_cases h2:p.2=y<;>simp[h1,h2]<;>lia
theorem dj:∀(b:Bx)(cs:List Q)(c1 c2:List Int),c2.length=b.length->wt (b.foldl cst cs) (c1++c2)=wt cs c1*pr b c2
 |[],cs,c1,[],_=>by rw[List.foldl_nil,U17,pr,U83]
 |p::b,cs,c1,y::c2,h=>by rw[U2l,show c1++y::c2=(c1++[y])++c2 by simp,dj b _ _ c2 (by simpa using h),Jal,pr,U8u]
def Jdh{b:Bx}{c:List Int}(h:c.length=b.length):wt (sc b) c=pr b c:=by have:=dj b [([],1)] [] c h;rw[U1i]at this;unfold sc;rw[this];simp[wt]
def yQ{cs:List Q}{p:St2}{n:Nat}(h:∀q∈cs,q.1.length=n):∀q∈cst cs p,q.1.length=n+1:=by
 intro q hq;unfold cst at hq;rcases U0x.mp hq with hq|hq <;>
 .obtain⟨r,hr,rfl⟩:=U03.mp hq;simp[h r hr]
theorem Mh:∀(b:Bx)(cs:List Q)(n:Nat),(∀q∈cs,q.1.length=n)->∀q∈b.foldl cst cs,q.1.length=n+b.length
 |[],_,_,h,q,hq=>h q hq
 |p::b,cs,n,h,q,hq=>by have:=Mh b (cst cs p) (n+1) (yQ h) q hq;rw[U0f];lia
def Jaz{b:Bx}:∀q∈sc b,q.1.length=b.length:=λq hq=>by have:=Mh b [([],1)] 0 (by simp) q hq;lia
theorem Nr:∀(b:Bx)(cs:List Q),(b.foldl cst cs).length=2^b.length*cs.length
 |[],cs=>by simp
 |p::b,cs=>by rw[U2l,Nr b];unfold cst;rw[U0n,U0i,U0i,U0f,U82,Nat.mul_assoc,Nat.two_mul]
def prs(L:List Bx)(c:List Int):Int:=(L.map λb=>pr b c).sum
def fH{L:List Bx}{k:Nat}(hd:∀b∈L,b.length=k+1)(hp:∀b∈L,∀p∈b,p.1<p.2)(y:Int)(c:List Int):prs L (y::c)=prs (CZ L 0 y) c-prs (CZ L 0 (y-1)) c:=by
 induction L with
 |nil=>rfl
 |cons b L ih=>
  have ih:=ih (λd h=>hd d (U0k _ h)) λd h=>hp d (U0k _ h);have hb:=hd b U0h;have hq:=hp b U0h
  match b,hb,hq with
  |p::b,_,hq=>
   have h12:=hq p U0h;have cc:∀x,prs (CZ ((p::b)::L) 0 x) c=(if inS p x=true then pr b c else 0)+prs (CZ L 0 x) c:=λx=>by
    unfold CZ prs;rw[U2z,Ot];show(U52 _ (U52 _ (if inS p x=true then _ else _))).sum=_;cases inS p x with
    |true=>rw[if_pos rfl,if_pos rfl,U0j,U0j,U45];rfl
    |false=>rw[if_neg (by simp),if_neg (by simp),U81]
   rw[cc,cc];have e:prs ((p::b)::L) (y::c)=dl p y*pr b c+prs L (y::c):=by unfold prs;rw[U0j,U45];rfl
   rw[e,ih];have d:dl p y*pr b c=(if inS p y=true then pr b c else 0)-if inS p (y-1)=true then pr b c else 0:=by
    unfold dl;simp only[Gh];by_cases h1:p.1=y
    .rw[if_pos h1,if_neg (by lia),if_pos (by lia),if_neg (by lia)];simp
    .by_cases h2:p.2=y
     .rw[if_neg h1,if_pos h2,if_neg (by lia),if_pos (by lia),Int.zero_sub,Int.neg_mul,U6n,Int.zero_sub]
     .rw[if_neg h1,if_neg h2,Int.sub_zero,Int.zero_mul];by_cases h3:p.1<=y/\y<p.2
      .rw[if_pos h3,if_pos (by lia),Int.sub_self]
      .rw[if_neg h3,if_neg (by lia)];rfl
   rw[d];lia
def kh{k:Nat}{bs:List Bx}(hd:∀b∈bs,b.length=k+1)(x:Int)(t:List Int):mu (CZ bs 0 x) t=mu bs (x::t):=by
 unfold mu CZ;induction bs with
 |nil=>rfl
 |cons b bs ih=>
  have ih:=ih λc hc=>hd c (U0k _ hc);have hb:=hd b U0h
  match b,hb with
  |p::b,_=>
   rw[U2z,Ot,U2z];show _=(if (inS p x&&Jf b t)=true then _ else _:List Bx).length;show(List.filter _ (U52 _ (if inS p x=true then _ else _))).length=_;cases inS p x with
   |true=>
    rw[if_pos rfl,U0j,U2z,U5v];show(if Jf b t=true then _ else _:List Bx).length=_;split
    .rw[U0f,U0f,ih]
    .exact ih
   |false=>rw[if_neg (by simp),ih];rfl
def bO{L:List Bx}(hp:∀b∈L,∀p∈b,p.1<p.2)(x:Int):∀b∈CZ L 0 x,∀p∈b,p.1<p.2:=λb hb p h=>by unfold CZ at hb;obtain⟨d,hm,rfl⟩:=U03.mp hb;exact hp d (U1t.mp hm).1 p (List.mem_of_mem_eraseIdx h)
theorem kO:∀(k:Nat)(L M:List Bx),(∀b∈L,b.length=k)->(∀b∈M,b.length=k)->(∀b∈L,∀p∈b,p.1<p.2)->(∀b∈M,∀p∈b,p.1<p.2)->(∀x:List Int,x.length=k->mu L x=mu M x)->∀c:List Int,c.length=k->prs L c=prs M c
 |0,L,M,hL,hM,_,_,h,c,hc=>by
  have:c=[]:=U1z.mp hc;subst this;have e:∀L:List Bx,(∀b∈L,b.length=0)->prs L []=(mu L []:Nat):=λL hL=>by
   induction L with
   |nil=>rfl
   |cons b L ih=>
    have:b=[]:=U1z.mp (hL b U0h);subst this;have ih:=ih λd h=>hL d (U0k _ h);unfold prs mu at ih ⊢;rw[U0j,U45,ih,U2z];show 1+_=((U4t (if true=true then _ else _):Nat):Int);rw[if_pos rfl,U0f];lia
  rw[e L hL,e M hM,h [] rfl]
 |k+1,L,M,hL,hM,pL,pM,h,y::c,hc=>by have go:∀x,prs (CZ L 0 x) c=prs (CZ M 0 x) c:=λx=>kO k _ _ (JR hL x) (JR hM x) (bO pL x) (bO pM x) (λt ht=>by rw[kh hL,kh hM];exact h (x::t) (by simp[ht])) c (by simpa using hc);rw[fH hL pL,fH hM pM,go,go]
abbrev Tab:=List (List Key×V)
def kq(k:List Int):List Key:=k.map U5j
def Jb0{a b:List Int}(h:kq a=kq b):a=b:=by unfold kq at h;exact List.map_inj_right (λx y e=>U5j.inj e) |>.mp h
def XR(d:Tab)(k:List Key):Int:=match Dz d k with
 |some (.int n)=>n
 |_=>0
def dst(d:Tab)(q:Q):Tab:=putK d (kq q.1) (.int (XR d (kq q.1)+q.2))
structure DI(d:Tab)(l:List Q):Prop where
 nod:(d.map (·.1)).Nodup
 val:∀k,Dz d (kq k)=if k∈l.map (·.1) then some (.int (wt l k)) else none
 key:∀p∈d,∃k n,p=(kq k,V.int n)
def Zg{l:List Q}{k:List Int}(h:k ∉ l.map (·.1)):wt l k=0:=by
 induction l with
 |nil=>rfl
 |cons q l ih=>
  rw[U0j,U0q,not_or]at h;rw[Xe,if_neg (U1n h.1),ih h.2];rfl
def DI.get{d:Tab}{l:List Q}(h:DI d l)(k:List Int):XR d (kq k)=wt l k:=by
 unfold XR;rw[h.val];by_cases e:k∈l.map (·.1)
 .rw[if_pos e]
 .rw[if_neg e,Zg e]
def vq{d:Tab}{k:List Key}{v:V}(h:(d.map (·.1)).Nodup):((putK d k v).map (·.1)).Nodup:=by
 cases e:Dz d k with
 |none=>exact xH v h e
 |some w=>
  unfold putK;rw[Ji,e];show(U52 _ (U52 _ _)).Nodup;rw[U0d];have:((λx:List Key×V=>x.1)∘λkv:List Key×V=>if kv.1=k then (kv.1,v) else kv)=λx=>x.1:=by funext x;show(if x.1=k then (x.1,v) else x).1=x.1;split<;>rfl
  rw[this];exact h
def fG{d:Tab}{k:List Key}{v:V}{p:List Key×V}(h:p∈putK d k v):p∈d∨p=(k,v):=by
 unfold putK at h;split at h
 .obtain⟨x,hx,rfl⟩:=U03.mp h;by_cases e:x.1=k
  .rw[if_pos e,e];exact .inr rfl
  .rw[if_neg e];exact .inl hx
 .rcases U0x.mp h with h|h
  .exact .inl h
  .exact .inr (U0r.mp h)
def DI.step{d:Tab}{l:List Q}(h:DI d l)(q:Q):DI (dst d q) (l++[q]):=by
 refine⟨vq h.nod,λk=>?_,λp hp=>?_⟩
 .have w1:wt (l++[q]) k=wt l k+if q.1=k then q.2 else 0:=by rw[Zh];simp[wt]
  have m1:k∈(l++[q]).map (·.1)↔k∈l.map (·.1)∨q.1=k:=by simp[eq_comm]
  unfold dst;rw[qO,h.get,w1];by_cases e:q.1=k
  .subst e;rw[if_pos rfl,if_pos (m1.mpr (.inr rfl)),if_pos rfl]
  .rw[if_neg (λz=>e (Jb0 z).symm),if_neg e,Int.add_zero,h.val];by_cases z:k∈l.map (·.1)
   .rw[if_pos z,if_pos (m1.mpr (.inl z))]
   .rw[if_neg z,if_neg (λy=>(m1.mp y).elim z e)]
 .rcases fG hp with hp|hp
  .exact h.key p hp
  .exact⟨q.1,_,hp⟩
theorem DI.nil:DI [] []:=⟨.nil,λ_=>rfl,λp hp=>nomatch hp⟩
theorem DI.fold:∀(m:List Q){d:Tab}{l:List Q},DI d l->DI (m.foldl dst d) (l++m)
 |[],d,l,h=>by rw[U17];exact h
 |q::m,d,l,h=>by have:=DI.fold m (h.step q);rw[U3o]at this;exact this
def nz(p:List Key×V):Bool:=match p.2 with
 |.int n=>decide (n≠0)
 |_=>true
def G9(l:List Q):Tab:=(l.foldl dst []).filter nz
def Ul(l:List Q):DI (l.foldl dst []) l:=by have:=DI.fold l DI.nil;rwa [U1i]at this
theorem WM{p:List Key×V->Bool}:∀{d:Tab},(d.map (·.1)).Nodup->∀k,Dz (d.filter p) k=(Dz d k).bind λv=>if p (k,v)=true then some v else none
 |[],_,_=>rfl
 |x::d,h,k=>by
  rw[U0j,U3h]at h;have ih:=WM (p:=p) h.2 k;rw[U2z];by_cases e:x.1=k
  .have out:Dz d k=none:=by
    cases z:Dz d k with
    |none=>rfl
    |some v=>exact absurd (e ▸ Xf z) h.1
   rw[GD e,U0g,←e];by_cases q:p x=true
   .rw[if_pos q,if_pos q,GD rfl]
   .rw[if_neg q,if_neg q,e,ih,out];rfl
  .rw[GF e];split
   .rw[GF e,ih]
   .exact ih
def Tj(l:List Q)(k:List Int):Dz (G9 l) (kq k)=if wt l k=0 then none else some (.int (wt l k)):=by
 have h:=Ul l;unfold G9;rw[WM h.nod,h.val];by_cases e:k∈l.map (·.1)
 .rw[if_pos e,U0g];by_cases z:wt l k=0<;>simp[nz,z]
 .rw[if_neg e,Zg e];rfl
def QW(l:List Q):((G9 l).map (·.1)).Nodup:=((Ul l).nod).sublist ((List.filter_sublist).map _)
def Tn{l:List Q}{p:List Key×V}(h:p∈G9 l):∃k,p=(kq k,V.int (wt l k))/\wt l k≠0:=by
 obtain⟨k,n,rfl⟩:=(Ul l).key p (U1t.mp h).1;have hv:Dz (G9 l) (kq k)=some (V.int n):=val_of (QW l) h;rw[Tj]at hv;by_cases z:wt l k=0
 .rw[if_pos z]at hv;cases hv
 .rw[if_neg z]at hv;cases hv;exact⟨k,rfl,z⟩
where val_of:∀{d:Tab} {p:List Key×V},(d.map (·.1)).Nodup->p∈d->Dz d p.1=some p.2
 |x::d,p,h,hp=>by
  rw[U0j,U3h]at h;rcases U0q.mp hp with rfl|hp
  .exact GD rfl
  .rw[GF (λe=>h.1 (e ▸ U03.mpr ⟨p,hp,rfl⟩))];exact val_of h.2 hp
theorem sub_len{Zp:Type}[DecidableEq Zp]:∀{a b:List Zp},a.Nodup->(∀x∈a,x∈b)->a.length<=b.length
 |[],_,_,_=>U3 _
 |x::a,b,h,s=>by rw[U3h]at h;have hx:=s x U0h;have:=sub_len (b:=b.erase x) h.2 λy hy=>(List.mem_erase_of_ne (λe:y=x=>h.1 (e ▸ hy))).mpr (s y (U0k _ hy));rw[List.length_erase_of_mem hx]at this;have pos:0<b.length:=U6o hx;rw[U0f];lia
def Yn{l m:List Q}(h:∀k,wt l k=wt m k):∀x∈(G9 l).map (·.1),x∈(G9 m).map (·.1):=λx hx=>by obtain⟨p,hp,rfl⟩:=U03.mp hx;obtain⟨k,rfl,nz⟩:=Tn hp;exact Xf (v:=V.int (wt m k)) (by rw[Tj,if_neg (by rw[←h];exact nz)])
def jc{l m:List Q}(h:∀k,wt l k=wt m k):eqT (G9 l) (G9 m)=true:=by unfold eqT;have a:=sub_len (QW l) (Yn h);have b:=sub_len (QW m) (Yn λk=>(h k).symm);rw[U0i,U0i]at a b;rw[Nat.le_antisymm a b,beq_self_eq_true,U5v,U3k];intro p hp;obtain⟨k,rfl,nz⟩:=Tn hp;rw[Tj,if_neg (by rw[←h];exact nz),←h];show(_==_)=true;exact beq_self_eq_true _
def Ww(l:List Q):Lk (G9 l)=true:=by
 have:∀d:Tab,(∀p∈d,∃n,p.2=V.int n)->Lk d=true:=λd h=>by
  induction d with
  |nil=>rfl
  |cons p d ih=>
   obtain⟨n,e⟩:=h p U0h;obtain⟨k,v⟩:=p;cases e;exact ih λq hq=>h q (U0k _ hq)
 exact this _ λp hp=>by obtain⟨k,rfl,_⟩:=Tn hp;exact⟨_,rfl⟩
theorem bC:∀(d acc:Tab),((acc++d).map (·.1)).Nodup->d.foldl (λacc p=>putK acc p.1 p.2) acc=acc++d
 |[],acc,_=>by rw[U17];rfl
 |p::d,acc,h=>by
  have out:Dz acc p.1=none:=by
   cases z:Dz acc p.1 with
   |none=>rfl
   |some v=>
    rw[U2a,U0j]at h;have:=(List.nodup_append.mp h).2.2 _ (Xf z) p.1 U0h;exact absurd rfl this
  rw[U2l,aj _ out,bC d _ (by rw[U3o];exact h),U3o];rfl
def ni(l:List Q):mkT (G9 l)=G9 l:=by have:=bC (G9 l) [] (by rw[U1i];exact QW l);rw[U1i]at this;exact this
def dw{L:List Bx}{k:Nat}(hd:∀b∈L,b.length=k){c:List Int}(hc:c.length=k):wt (L.flatMap sc) c=prs L c:=by
 induction L with
 |nil=>rfl
 |cons b L ih=>
  have ih:=ih λd h=>hd d (U0k _ h);rw[U24,Zh,Jdh (by rw[hc,hd b U0h]),ih];unfold prs;rw[U0j,U45]
def jw{L:List Bx}{k:Nat}(hd:∀b∈L,b.length=k){c:List Int}(hc:c.length≠k):wt (L.flatMap sc) c=0:=Zg λh=>by obtain⟨q,hq,rfl⟩:=U03.mp h;obtain⟨b,hb,hq⟩:=U4d.mp hq;exact hc (by rw[Jaz q hq,hd b hb])
def alike{k:Nat}{L M:List Bx}(hL:∀b∈L,b.length=k)(hM:∀b∈M,b.length=k)(pL:∀b∈L,∀p∈b,p.1<p.2)(pM:∀b∈M,∀p∈b,p.1<p.2)(h:∀x:List Int,x.length=k->mu L x=mu M x):eqT (G9 (L.flatMap sc)) (G9 (M.flatMap sc))=true:=jc λc=>by
 by_cases hc:c.length=k
 .rw[dw hL hc,dw hM hc,kO k L M hL hM pL pM h c hc]
 .rw[jw hL hc,jw hM hc]
def Ce(s:List Int):D:=.tup (s.map D.int)
def in1(p:St2)(i:Int):Bool:=decide (p.1<=i)&&decide (i<p.2)
def Hq(b:List St2)(s:List Int):Bool:=(b.zip s).all λq=>in1 q.1 q.2
def Nt(s:List Int):Cd (Ce s)=true:=by simp[Ce,Cd]
def La(s:List Int):Aw (Ce s)=true:=GQ (Nt s)
@[simp] theorem Jga(s:List Int):age (Ce s)=Ce s:=Im (Nt s)
@[simp] theorem tW(k:Nat)(S:Store)(s:List Int):den k S (Ce s)=some (Ce s):=Jj k S (La s)
theorem YB:∀s:List Int,K3 (s.map D.int)=some (s.map PyData.int)
 |[]=>by rw[U09,K3];rfl
 |i::r=>by rw[U0j,K3,toP,YB r];rfl
def mj(S:Store)(s:List Int):El S (Ce s)=some (.tuple (s.map PyData.int)):=by rw[El,tW];show toP (Ce s)=_;rw[Ce,toP,YB];rfl
theorem aA:∀(b:List St2)(s:List Int),Ek (b.map Bm) (s.map D.int)=(b.zip s).map λq=>.tup [Bm q.1,.int q.2]
 |[],_=>by simp[Ek]
 |_::_,[]=>by simp[Ek]
 |p::a,q::b=>by simp[Ek,aA a b]
def xu(b:List St2)(s:List Int)(hl:b.length<=3):Vh [some (Ae b),some (Ce s)] []=some ((b.zip s).map (λq=>D.bl (in1 q.1 q.2)),[]):=by
 have e:ZD (Aa (Ab 0) (Aa (Ab 1) Af)) [some (Ae b),some (Ce s)] []=some (((b.zip s).map λq=>.tup [Bm q.1,.int q.2],[]),[]):=by rw[←aA];simp[Ak,Ay,Al,VS.listOf,VS.idOf,tL,-U0d,-U0b,Ae,Ce]
 unfold Vh Ck;rw[e];simp only[U0g];exact IK (by simp) _ _ _ (by simp;lia) λq hq=>⟨_,by simp[Ew,Eb,Iz,Gi,G3,U0p,-U0d,-U0b];rfl,by
  by_cases h:q.1.1<=q.2<;>simp[Ak,Cr,Bg,Tf,oI,FQ,oLt,oLe,oIx,VS.listOf,Bj,-U0d,-U0b,Bm,in1,h]⟩
def tM(b:List St2)(s:List Int)(hl:b.length<=3):QH [Ae b,Ce s]=some (.bl (Hq b s)):=by
 have c:=xu b s hl;have hb:Il.boolsOf ((b.zip s).map λq=>D.bl (in1 q.1 q.2))=some ((b.zip s).map λq=>in1 q.1 q.2):=by have:=V4 ((b.zip s).map λq=>in1 q.1 q.2);rw[U0d]at this;exact this
 have he:((b.zip s).map λq=>in1 q.1 q.2).all id=Hq b s:=by rw[U8z];rfl
 simp only[QH,gA,CW,Dk,Al,Ay,Cq,Cv,U0f,U0y,U0j,U09,U13,U14,U1d,U16,U1i,if_true,c,U0g,Il,VS.listOf,hb,U5c,he,den]
def cG{n:Nat}{bs:List (List St2)}{s:List Int}(hs:s.length=n)(hn:n<=3):JM [Ai false n bs,Ce s]=some .non:=by
 have c:Pq [some (Ai false n bs),some (Ce s)] []=some (s.map (λ_=>D.bl true),[]):=by
  unfold Pq Ck;have e:Cz (Ab 1) [some (Ai false n bs),some (Ce s)] []=some ((s.map D.int,[]),[]):=by simp[Ak,VS.listOf,Bj,VS.idOf,Ea,-U0d,-U0b,Ce]
  rw[e];simp only[U0g];exact IK (by simp) _ _ _ (by lia) λi hi=>⟨_,Eb _ _ _,by have:=M7 i;simp[Ak,Ay,Al,Ew,Fp,den,Cp,age,Bf,Aw,Av,U0p,-U0d,-U0b,this]⟩
 have h:=mj [] s;have hlen:DQ [] [Ce s]=some (.int n):=by simp[DQ,Ce,Bj,hs]
 simp[JM,Uv,Em,Ei,K8,MP,DP,Dk,Al,Ay,Ak,Cr,Bg,Cq,Cv,h,hlen,oEq,oIx,Ai,Bj];unfold Ai at c;simp[c,Il,VS.listOf,Oi,Ai]
theorem bK:∀(bs:List (List St2))(k:Nat),KJ k (bs.map Ae)=(bs.zipIdx k).map λq=>.tup [.int q.2,Ae q.1]
 |[],k=>by simp[KJ]
 |b::r,k=>by simp[KJ,bK r (k+1)]
def atN(bs:List (List St2))(s:List Int):List Nat:=((bs.zipIdx).filter λq=>Hq q.1 s).map λq=>q.2
def dU{n:Nat}{bs:List (List St2)}(g:Good n bs){s:List Int}(hs:s.length=n):M4 [Ai false n bs,Ce s]=some (.lst true ((atN bs s).map λ(i:Nat)=>D.int i)):=by
 have few:=g.few;have n3:=g.n3;have h1:=Hu (m:=false) g;have h2:=cG (bs:=bs) hs (by lia);have e:W7 (Aa (eOp oIx (Ab 0) (eC (.int 1))) Af) [some (Ai false n bs),some (Ce s)] []=some (((bs.zipIdx).map λq=>.tup [.int q.2,Ae q.1],[]),[]):=by rw[←bK bs 0];simp[Ak,Cr,Bg,Ay,Al,oIx,VS.listOf,Bj,VS.idOf,oM,-U0d,-U0b,Ai]
 have c:Qo [some (Ai false n bs),some (Ce s)] []=some ((atN bs s).map (λ(i:Nat)=>D.int i),[]):=by
  unfold Qo Ck;rw[e];simp only[U0g];rw[LQ (by simp) (λ(q:List St2×Nat)=>D.tup [.int q.2,Ae q.1]) (λq=>Hq q.1 s) (λq=>.int q.2) _ _ (by simp;lia)]
  .simp[atN]
  .intro q hq;have hb:q.1∈bs:=by obtain⟨i,hi,e⟩:=List.mem_iff_getElem.mp hq;rw[←e,List.getElem_zipIdx];exact U3d _
   have h3:=tM q.1 s (by rw[(g.box q.1 hb).1];lia);exact⟨_,by simp[Ew,Eb,Iz,Gi,G3,U0p,-U0d,-U0b];rfl,by simp[Ak,Ay,Al,DP,Fp,Cp,Bf,Av,-U0d,-U0b,h3,La],λ_=>by simp[Ak,-U0d,-U0b]⟩
 have hd:Cp 0 [] ((atN bs s).map λ(i:Nat)=>D.int i)=some ((atN bs s).map λ(i:Nat)=>D.int i):=by have:=Dn 0 [] (Oc ((atN bs s).map λ(i:Nat)=>(i:Int)));rw[U0d]at this;exact this
 have s1:(Ge (Am Dc (Aa (Ab 0) Af))) [some (Ai false n bs),some (Ce s)] []=some (.nx,[some (Ai false n bs),some (Ce s)],[]):=by simp[Fy,Ak,Ay,Al,Fp,Cp,Bf,Av,-U0d,-U0b,h1]
 have s2:(Ge (Am JM (Aa (Ab 0) (Aa (Ab 1) Af)))) [some (Ai false n bs),some (Ce s)] []=some (.nx,[some (Ai false n bs),some (Ce s)],[]):=by simp[Fy,Ak,Ay,Al,Fp,Cp,Bf,Av,-U0d,-U0b,h2,La]
 unfold M4;rw[Cv];exact`zg;unfold Wk;rw[Bp s1,Bp s2];simp[CW,Cq,c,den,hd]
def yW{bs:List (List St2)}{s:List Int}{i:Nat}{b:List St2}(h:bs[i]?=some b):i∈atN bs s↔Hq b s=true:=by
 unfold atN;rw[U03];constructor
 .rintro⟨q,hq,rfl⟩;obtain⟨h1,h2⟩:=U1t.mp hq;have:=List.mem_zipIdx_iff_getElem?.mp h1;rw[h]at this;cases this;exact h2
 .intro hb;exact⟨(b,i),U1t.mpr ⟨List.mem_zipIdx_iff_getElem?.mpr h,hb⟩,rfl⟩
def cI{n:Nat}{bs:List (List St2)}(g:Good n bs){s:List Int}(hs:s.length=n):IV [Ai false n bs,Ce s]=some (.int (atN bs s).length):=by have h:=dU g hs;simp[IV,Uy,CW,Ak,Ay,Al,Dk,Fp,DQ,VS.listOf,Bj,Cv,den,Cp,Bf,Av,-U0d,-U0b,h,La]
def Lj(b:List St2):Int:=b.foldl (λz p=>z*(p.2-p.1)) 1
def V2(b:List St2)(hb:∀p∈b,p.1<p.2/\-1000000000<=p.1/\p.2<=1000000000):Jt [Ae b]=some (.int (Lj b)):=by
 have e:Cz (Ab 0) [some (Ae b),some (.int 1),none,none] []=some ((b.map Bm,[]),[]):=by simp[Ak,VS.listOf,Bj,VS.idOf,Ea,-U0d,-U0b,Ae]
 obtain⟨env',S',e2,hS,z2,z3,he⟩:=Gj (w:=[]) (g:=Pat.sem (.tp [(.nm 2),(.nm 3)])) (b:=Qq) (ds:=b.map Bm) (env:=[some (Ae b),some (.int 1),none,none]) (S:=[])
  (λi env S=>S=[]/\∃z2 z3,env=[some (Ae b),some (.int (Lj (b.take i))),z2,z3]) ⟨rfl,none,none,by rw[List.take_zero];rfl⟩ (λi env S _=>by simp) (λi d env S hd ⟨hS,z2,z3,he⟩=>by
   rw[U0z]at hd;obtain⟨p,hp,rfl⟩:=U19.mp hd;subst hS he;have hm:-18446744073709551616<p.2-p.1/\p.2-p.1<18446744073709551616:=by have:=hb p (U00 hp);lia
   refine⟨[some (Ae b),some (.int (Lj (b.take i))),some (.int p.1),some (.int p.2)],by simp[Eb,Iz,Gi,G3,-U0d,-U0b,Bm],[some (Ae b),some (.int (Lj (b.take i)*(p.2-p.1))),some (.int p.1),some (.int p.2)],[],by simp[Qq,DW,Ak,Bg,oI,FQ,MN,G6,Hx,VS.listOf,-U0d,-U0b,hm],rfl,some (.int p.1),some (.int p.2),?_⟩;rw[U3y,hp,Lj,Lj,U3z,U36];rfl)
 subst hS he;have hlen:(b.map Bm).length=b.length:=by simp
 rw[hlen,U2y]at e2;have s1:(Ci 1 (eC (.int 1))) [some (Ae b),none,none,none] []=some (.nx,[some (Ae b),some (.int 1),none,none],[]):=by simp[DW,Cr,-U0d,-U0b]
 have l1:Qp [some (Ae b),some (.int 1),none,none] []=some (.nx,[some (Ae b),some (.int (Lj b)),z2,z3],[]):=by unfold Qp;rw[Gg,e];exact e2
 unfold Jt;rw[Cv];exact`zg;unfold Wm;rw[Bp s1,Bp l1];simp[CW,Ak,den,-U0d,-U0b]
def cu{n:Nat}{bs:List (List St2)}{i:Nat}{b:List St2}(h:bs[i]?=some b):JL [Ai false n bs,.int i]=some (Ae b):=by
 have hi:=(U0l.mp h).1;have ha:atI (bs.map Ae) (i:Int)=some (Ae b):=LR (by rw[U0z,h];rfl);have h1:¬((i:Int)<0):=by lia
 have h2:¬((bs.length:Int)<=(i:Int)):=by lia
 simp[JL,R8,Fx,CW,Em,Ei,YG,Ak,Cr,Bg,Ay,Al,Dk,DP,K8,MP,Fp,oI,FQ,oLt,oGe,oIx,DQ,VS.listOf,Bj,Cv,den,Cp,age,Bf,Aw,Av,-U0d,-U0b,M7,h1,h2,Ai,ha]
def jC{n:Nat}{bs:List (List St2)}(g:Good n bs){i:Nat}{b:List St2}(hi:bs[i]?=some b):N7 [Ai false n bs,.int i]=some (.int (Lj b)):=by have h1:=Hu (m:=false) g;have h2:=cu (n:=n) hi;have h0:=(g.box b (U00 hi)).1;have n3:=g.n3;have h3:=V2 b (g.box b (U00 hi)).2;simp[N7,Ye,Fx,CW,Fy,Ak,Ay,Al,Fp,Cv,den,Cp,age,Bf,Aw,Av,-U0d,-U0b,h1,h2,h3]
def cuT(xs:List D)(j:Nat):cut xs none (some (j:Int))=xs.take j:=by
 unfold cut;rw[HT.fB,show HT.sIx xs.length 0 none=0 from rfl,U7m,U79];by_cases h:j<=xs.length
 .rw[Nat.min_eq_left h]
 .rw[Nat.min_eq_right (by lia),U2y,U3f (by lia)]
def cuF(xs:List D)(j:Nat):cut xs (some (j:Int)) none=xs.drop j:=by
 unfold cut;rw[HT.fB,show HT.sIx xs.length xs.length none=xs.length from rfl,U3f (by rw[U4b];lia)];by_cases h:j<=xs.length
 .rw[Nat.min_eq_left h]
 .rw[Nat.min_eq_right (by lia),U8a,List.drop_eq_nil_of_le (by lia)]
section
variable{a b:Bh}{env:VS.Env}{S S1 S2:Store}{m m':Bool}{ds xs ys:List D}{j:Nat}
def Jdq(ha:a env S=some (.lst m ds,S1))(hb:b env S1=some (.int j,S2)):eSl oSl a FN (FJ b) env S=some (.lst true (ds.take j),S2):=by rw[W8,ha,U0g];show((b env S1).bind _).bind _=_;rw[hb,←cuT];rfl
def vV(ha:a env S=some (.lst m ds,S1))(hb:b env S1=some (.int j,S2)):eSl oSl a (FJ b) FN env S=some (.lst true (ds.drop j),S2):=by rw[W8,ha,U0g];show((b env S1).bind _).bind _=_;rw[hb,←cuF];rfl
def add_l(ha:a env S=some (.lst m xs,S1))(hb:b env S1=some (.lst m' ys,S2))(hl:xs.length+ys.length<=1000000):eOp Bo a b env S=some (.lst true (xs++ys),S2):=by rw[Bg,ha,U0g,hb];show U5d _ (if xs.length+ys.length<=1000000 then some (D.lst true (xs++ys)) else none)=_;rw[if_pos hl];rfl
def Jek(ha:a env S=some (.tup xs,S1))(hb:b env S1=some (.tup ys,S2))(hl:xs.length+ys.length<=1000000):eOp Bo a b env S=some (.tup (xs++ys),S2):=by rw[Bg,ha,U0g,hb];show U5d _ (if xs.length+ys.length<=1000000 then some (D.tup (xs++ys)) else none)=_;rw[if_pos hl];rfl
def iT:Bk Af env S=some (.lst true [],S):=rfl
def Jd:Af env S=some ([],S):=rfl
def FP{f:CQ}{d:D}(ha:a env S=some (d,S1))(hf:f env S1=some (ds,S2)):Aa a f env S=some (d::ds,S2):=by rw[Al,ha,U0g,hf];rfl
def V9{f:CQ}(hf:f env S=some (ds,S1)):Bk f env S=some (.lst true ds,S1):=by rw[Cq,hf];rfl
def ZJ{f:CQ}(hf:f env S=some (ds,S1)):Di f env S=some (.tup ds,S1):=by rw[Hz,hf];rfl
end
section
variable{a b:BP}{c d:Gf}{e f o:Bh}{env env1:VS.Env}{S S1 S2 S3:Store}{x y r:D}{g:Store->D->D->Option D}{p:Bool}
def nx{r:Option (Fl×VS.Env×Store)}(h:a env S=some (.nx,env1,S1))(k:b env1 S1=r):BZ a b env S=r:=(Bp h).trans k
def Kf{i:Nat}(h:e env S=some (x,S1)):Ci i e env S=some (.nx,env.set i (some x),S1):=by rw[DW,h];rfl
def V8(h:e env S=some (x,S1)):CN e env S=some (.ret x,env,S1):=by rw[CW,h];rfl
def ifN(h:c env S=some (false,S1)):sIf c a Dp env S=some (.nx,env,S1):=RT h
def op2(h:e env S=some (x,S1))(k:f env S1=some (y,S2))(q:g S2 x y=some r):eOp g e f env S=some (r,S2):=by rw[Bg,h,U0g,k,U0g,q];rfl
def tvl(h:e env S=some (.bl p,S1)):BX e env S=some (p,S1):=by rw[DP,h];rfl
def Jft(h:c env S=some (false,S1)):VS.Nu c d env S=some (false,S1):=by rw[Kw,h];rfl
def Jfs{r:Option (Bool×Store)}(h:c env S=some (true,S1))(k:d env S1=r):VS.Nu c d env S=r:=by rw[Kw,h];exact k
variable{Zp:Type}{enc:Zp->D}{m m':Bool}{k l:List Zp}{i j:Nat}
def slT(ha:e env S=some (.lst m (k.map enc),S1))(hb:f env S1=some (.int j,S2)):eSl oSl e FN (FJ f) env S=some (.lst true ((k.take j).map enc),S2):=by rw[U7x];exact Jdq ha hb
def slF(ha:e env S=some (.lst m (k.map enc),S1))(hb:f env S1=some (.int j,S2)):eSl oSl e (FJ f) FN env S=some (.lst true ((k.drop j).map enc),S2):=by rw[U7y];exact vV ha hb
def xT{c:Nat}(h:l.length<=c):(l.take j).length<=c:=U01 (List.length_take_le' ..) h
def adL{c d:Nat}(ha:e env S=some (.lst m (k.map enc),S1))(hb:f env S1=some (.lst m' (l.map enc),S2))(hk:k.length<=c)(hl:l.length<=d)(hc:c+d<=1000000):eOp Bo e f env S=some (.lst true ((k++l).map enc),S2):=by rw[U2a];exact add_l ha hb (by rw[U0i,U0i];exact U01 (Nat.add_le_add hk hl) hc)
end
def vm{np n:Nat}{f:BP}{ns ms:List Int}{ds:List D}{env:VS.Env}{S:Store}{d r:D}(h:ds.length+1=np)(e:f (some (.ref 0)::(ds.map some++U06 (n-1-ds.length) none)) [some (ns.map D.int)]=some (.ret d,env,some (ms.map D.int)::S))(k:den 1 (some (ms.map D.int)::S) d=some r):runM np n f ns ds=some (r,ms):=by rw[Hy,if_pos h,e,U0g];show(intsOf (ms.map D.int)).bind _=_;rw[Ly,U0g];show(den 1 _ d).map _=_;rw[k];rfl
section
variable{a b:BP}{c d:Gf}{e f o:Bh}{env env1:VS.Env}{S S1 S2 S3:Store}{x y r:D}
def no2(ha:c env S=some (false,S1))(hb:d env S1=some (false,S2)):VS.tOr c d env S=some (false,S2):=by rw[K8,ha];exact hb
def pQ{p:Bool}(h:c env S=some (p,S1)):VS.G7 c env S=some (!p,S1):=by rw[MP,h];rfl
def Jfr(h:e env S=some (.bl true,S1))(k:f env S1=some (x,S2)):VS.Nv e f env S=some (x,S2):=by rw[R7,h];exact k
end
def Om{np n:Nat}{f:BP}{ds:List D}{env:VS.Env}{S:Store}{d r:D}(h:ds.length=np)(e:f (ds.map some++U06 (n-ds.length) none) []=some (.ret d,env,S))(k:den 0 S d=some r):Dr np n f ds=some r:=by rw[Cv,if_pos h,e];exact k
def Jg(m:Bool)(n:Nat)(bs:List (List St2)):Aw (Ai m n bs)=true:=by simp[Av,Aw,Ai,Bv (Az bs)]
def Ln(m:Bool)(n:Nat)(bs:List (List St2)):age (Ai m n bs)=Ai false n bs:=by simp[Bf,age,Ai,Dg (Az bs)]
section
variable{env:VS.Env}{S S1 S2 S3:Store}{e f o:Bh}{neg:Bool}
def Oa{sem:Ca}{x y r:D}(he:e env S=some (x,S1))(hp:Aw x=true)(ha:age x=y)(h:sem [y]=some r):Am sem (Aa e Af) env S=some (r,S1):=Du (FP he Jd) (by rw[Av,hp];rfl) (by rw[Bf,ha,Bf]) h
def call2{sem:Ca}{x y x' y' r:D}(he:e env S=some (x,S1))(hf:f env S1=some (x',S2))(hp:Aw x=true)(hp':Aw x'=true)(ha:age x=y)(ha':age x'=y')(h:sem [y,y']=some r):Am sem (Aa e (Aa f Af)) env S=some (r,S2):=Du (FP he (FP hf Jd)) (by rw[Av,Av,hp,hp'];rfl) (by rw[Bf,Bf,ha,ha',Bf]) h
def Jfk{x:D}(h:e env S=some (x,S1)):Ge e env S=some (.nx,env,S1):=by rw[Fy,h];rfl
def Jfq{i j:Nat}{x y:D}(h:e env S=some (.tup [x,y],S1)):Sq e (Pat.sem (.tp [.nm i,.nm j])) env S=some (.nx,(env.set i (some x)).set j (some y),S1):=by rw[Xi,h];simp[Pat.sem,Ik]
def pat2{i j:Nat}{x y:D}:Pat.sem (.tp [.nm i,.nm j]) (.tup [x,y]) env=some ((env.set i (some x)).set j (some y)):=by simp[Pat.sem,Ik]
def eqI{x y:Int}(he:e env S=some (.int x,S1))(hf:f env S1=some (.int y,S2))(q:x=y):eOp (oEq neg) e f env S=some (.bl (neg ^^ true),S2):=by subst q;exact op2 he hf (congrArg (λb=>some (D.bl (neg ^^ b))) (decide_eq_true rfl))
def neI{x y:Int}(he:e env S=some (.int x,S1))(hf:f env S1=some (.int y,S2))(q:x≠y):eOp (oEq neg) e f env S=some (.bl (neg ^^ false),S2):=op2 he hf (congrArg (λb=>some (D.bl (neg ^^ b))) (decide_eq_false q))
def ltI{x y:Int}(he:e env S=some (.int x,S1))(hf:f env S1=some (.int y,S2)):eOp oLt e f env S=some (.bl (decide (x<y)),S2):=op2 he hf rfl
def gtI{x y:Int}(he:e env S=some (.int x,S1))(hf:f env S1=some (.int y,S2)):eOp oGt e f env S=some (.bl (decide (y<x)),S2):=op2 he hf rfl
end
def MK(q:Q):D:=.tup [Ce q.1,.int q.2]
def Jcj(l:List Q):Fg (l.map MK)=true:=by
 induction l with
 |nil=>rfl
 |cons q l ih=>
  rw[U0j,Fg,ih,Bool.and_true];show(Cd (Ce q.1)&&(Cd (D.int q.2)&&true))=true;rw[Nt];rfl
def Jel{a b:Bh}{env:VS.Env}{S:Store}{k l:List Int}(ha:a env S=some (Ce k,S))(hb:b env S=some (.tup (l.map D.int),S))(hl:k.length+l.length<=1000000):eOp Bo a b env S=some (Ce (k++l),S):=by have:=Jek ha hb (by rw[U0i,U0i];exact hl);rw[this];unfold Ce;rw[U2a]
def uP(neg:Bool)(j:Nat)(env:VS.Env)(cs:List Q)(y:Int)(h1:env[1]?=some (some (.lst true (cs.map MK))))(hy:env[j]?=some (some (.int y)))(hl:cs.length<=1000)(hk:∀q∈cs,q.1.length<=3)(s:Bh)(hs:∀(e:VS.Env)(q:Int),e[1]?=some (some (.int q))->s e []=some (.int (if neg=true then -q else q),[])) :
  Ck 2 [j] (Cz (Ab 1)) (Pat.sem (.tp [(.nm 0),(.nm 1)])) Fd (Di (Aa (eOp Bo (Ab 0) (Di (Aa (Ab 2) Af))) (Aa s Af))) env []=some ((cs.map λq=>((q.1++[y],if neg=true then -q.2 else q.2):Q)).map MK,[]):=by
 have e:Cz (Ab 1) env []=some ((cs.map MK,[]),[]):=by simp[Ak,VS.listOf,Bj,VS.idOf,Ea,-U0d,-U0b,h1]
 have ec:Ew 2 [j] env=[none,none,some (.int y)]:=by simp[Ew,hy]
 unfold Ck;rw[e,ec];simp only[U0g];rw[IK (by simp) MK (λq=>MK (q.1++[y],if neg=true then -q.2 else q.2)) cs (by lia),U0d]
 .rfl
 .intro q hq;refine⟨[some (Ce q.1),some (.int q.2),some (.int y)],pat2,?_⟩;have a:eOp Bo (Ab 0) (Di (Aa (Ab 2) Af)) [some (Ce q.1),some (.int q.2),some (.int y)] []=some (Ce (q.1++[y]),[]):=Jel (l:=[y]) rfl (ZJ (FP rfl Jd)) (by have:=hk q hq;simp;lia);exact ZJ (FP a (FP (hs _ q.2 rfl) Jd))
def mX(b:Bx)(hb:b.length<=3):Gu [Ae b]=some (.lst true ((sc b).map MK)):=by
 have e:∀z1 z2 z3 z4,Cz (Ab 0) [some (Ae b),z1,z2,z3,z4] []=some ((b.map Bm,[]),[]):=λ_ _ _ _=>by simp[Ak,VS.listOf,Bj,VS.idOf,Ea,-U0d,-U0b,Ae]
 obtain⟨env',S',e2,hS,z2,z3,z4,he⟩:=Gj (w:=[]) (g:=Pat.sem (.tp [(.nm 2),(.nm 3)])) (b:=O9) (ds:=b.map Bm) (env:=[some (Ae b),some (.lst true ([([],1)].map MK)),none,none,none]) (S:=[])
  (λi env S=>S=[]/\∃z2 z3 z4,env=[some (Ae b),some (.lst true (((b.take i).foldl cst [([],1)]).map MK)),z2,z3,z4]) ⟨rfl,none,none,none,by rw[List.take_zero];rfl⟩ (λi env S _=>by simp) (λi d env S hd ⟨hS,z2,z3,z4,he⟩=>by
   rw[U0z]at hd;obtain⟨p,hp,rfl⟩:=U19.mp hd;subst hS he;have hm:=Nr (b.take i) [([],1)];have hl:=Mh (b.take i) [([],1)] 0 (by simp);have ti:(b.take i).length<=3:=by rw[U2e];lia
   have few:((b.take i).foldl cst [([],1)]).length<=8:=by rw[hm];have:2^(b.take i).length<=2^3:=U3e (by decide) ti;simp only[U0f,U0y];lia
   have nxt:(b.take (i+1)).foldl cst [([],1)]=cst ((b.take i).foldl cst [([],1)]) p:=by rw[U3y,hp,U3z,U36];rfl
   rw[nxt];generalize (b.take i).foldl cst [([],1)]=cs at *
   have kk:∀q∈cs,q.1.length<=3:=λq hq=>by have:=hl q hq;lia
   refine⟨[some (Ae b),some (.lst true (cs.map MK)),some (.int p.1),some (.int p.2),z4],by simp[Eb,Iz,Gi,G3,-U0d,-U0b,Bm],_,[],nx (Kf (V9 (uP false 2 _ cs p.1 rfl rfl (by lia) kk (Ab 1) λe q h=>by simp[Ak,h]))) (Kf (add_l rfl (V9 (uP true 3 _ cs p.2 rfl rfl (by lia) kk (eUn HS (Ab 1)) λe q h=>by simp[Ak,Nj,HS,-U0d,-U0b,h])) (by simp;lia))),rfl,some (.int p.1),some (.int p.2),some (.lst true ((cs.map λq=>((q.1++[p.1],q.2):Q)).map MK)),?_⟩;rw[←U2a];rfl)
 subst hS he;have hlen:(b.map Bm).length=b.length:=by simp
 rw[hlen,U2y]at e2;exact Om rfl (nx (Kf rfl) (nx (show K6 _ _=_ by unfold K6;rw[Gg];exact(congrArg (Option.bind · _) (e _ _ _ _)).trans e2) (V8 rfl))) (by show den 0 [] (.lst true _)=_;rw[den,Dn _ _ (Bv (Jcj _))];rfl)
def lE(k:List Int):MJ (k.map D.int)=some (kq k):=by
 induction k with
 |nil=>rfl
 |cons i k ih=>rw[U0j,MJ,ih];rfl
def yP(d:Tab)(q:Q):(dst d q).length<=d.length+1:=NK d _ _
theorem Ri:∀(l:List Q)(d:Tab),(l.foldl dst d).length<=d.length+l.length
 |[],d=>U0o _
 |q::l,d=>by have:=Ri l (dst d q);have:=yP d q;rw[U2l,U0f];lia
def IT(d:Tab):Prop:=∀p∈d,∃n,p.2=V.int n
theorem IT.dst{d:Tab}(h:IT d)(q:Q):IT (dst d q):=λp hp=>by
 rcases fG hp with hp|hp
 .exact h p hp
 .exact⟨_,congrArg Prod.snd hp⟩
theorem IT.fold:∀(l:List Q){d:Tab},IT d->IT (l.foldl W42.dst d)
 |[],_,h=>h
 |q::l,_,h=>IT.fold l (h.dst q)
def Jee{d:Tab}(h:IT d){env:VS.Env}{k:List Int}(h1:env[1]?=some (some (.dref 0)))(h3:env[3]?=some (some (Ce k))):T6 (Ab 1) (Ab 3) (eC (.int 0)) env [some [.dcm (.inr d)]]=some (.int (XR d (kq k)),[some [.dcm (.inr d)]]):=by
 have v1:Ab 1 env [some [.dcm (.inr d)]]=some (.dref 0,[some [.dcm (.inr d)]]):=by simp[Ak,h1]
 have v3:Ab 3 env [some [.dcm (.inr d)]]=some (Ce k,[some [.dcm (.inr d)]]):=by simp[Ak,h3]
 unfold T6;rw[v1,U0g];show(if true=true then _ else _)=_;rw[if_pos rfl];show(Ab 3 env [some [.dcm (.inr d)]]).bind _=_;rw[v3,U0g,Cr,U0g];show(MJ (k.map D.int)).bind _=_;rw[lE,U0g];show(match Dz d (kq k) with|some w=>(ofV w).map _|none=>_)=_;unfold XR;cases e:Dz d (kq k) with
 |none=>rfl
 |some w=>
  obtain⟨n,hn⟩:=h _ (aG e);cases hn;rfl
def vM{d:Tab}(h:IT d)(hl:d.length<1000000)(C:D)(z2:Option D)(q:Q):K1 [some C,some (.dref 0),z2,some (Ce q.1),some (.int q.2)] [some [.dcm (.inr d)]]=some (.nx,[some C,some (.dref 0),z2,some (Ce q.1),some (.int q.2)],[some [.dcm (.inr (dst d q))]]):=by have a:eOp Bo (T6 (Ab 1) (Ab 3) (eC (.int 0))) (Ab 4) [some C,some (.dref 0),z2,some (Ce q.1),some (.int q.2)] [some [.dcm (.inr d)]]=some (.int (XR d (kq q.1)+q.2),[some [.dcm (.inr d)]]):=op2 (Jee h rfl rfl) rfl rfl;unfold K1 Zk;rw[a,U0g];show(MJ (q.1.map D.int)).bind _=_;rw[lE,U0g];show(if d.length<1000000 then _ else none)=_;rw[if_pos hl];rfl
def vK{d:Tab}(h:IT d)(C:D)(b:Bx)(hb:b.length<=3)(hl:d.length<=900000)(z3 z4:Option D):∃y3 y4,Mw [some C,some (.dref 0),some (Ae b),z3,z4] [some [.dcm (.inr d)]]=some (.nx,[some C,some (.dref 0),some (Ae b),y3,y4],[some [.dcm (.inr ((sc b).foldl dst d))]]):=by
 have many:(sc b).length<=8:=by unfold sc;rw[Nr];have:2^b.length<=2^3:=U3e (by decide) hb;simp only[U0f,U0y];lia
 have e:Cz (Am Gu (Aa (Ab 2) Af)) [some C,some (.dref 0),some (Ae b),z3,z4] [some [.dcm (.inr d)]]=some (((sc b).map MK,[]),[some [.dcm (.inr d)]]):=by have c:=Oa (sem:=Gu) (e:=Ab 2) (env:=[some C,some (.dref 0),some (Ae b),z3,z4]) (S:=[some [.dcm (.inr d)]]) rfl (GQ (Fo b)) (Im (Fo b)) (mX b hb);rw[Ea,c];rfl
 obtain⟨env',S',e2,y3,y4,he,hS⟩:=Gj (w:=[]) (g:=Pat.sem (.tp [(.nm 3),(.nm 4)])) (b:=K1) (ds:=(sc b).map MK) (env:=[some C,some (.dref 0),some (Ae b),z3,z4]) (S:=[some [.dcm (.inr d)]])
  (λi env S=>∃y3 y4,env=[some C,some (.dref 0),some (Ae b),y3,y4]/\S=[some [.dcm (.inr (((sc b).take i).foldl dst d))]]) ⟨z3,z4,rfl,rfl⟩ (λi env S _=>by simp) (λi x env S hd ⟨y3,y4,he,hS⟩=>by
   rw[U0z]at hd;obtain⟨q,hq,rfl⟩:=U19.mp hd;subst hS he;have f:=Ri ((sc b).take i) d;rw[U2e]at f;refine⟨_,pat2,_,_,vM (IT.fold _ h) (by lia) C _ q,_,_,rfl,?_⟩;rw[U3y,hq,U3z,U36];rfl)
 subst he hS;rw[U0i,U2y]at e2;refine⟨y3,y4,?_⟩;unfold Mw;rw[Gg,e];exact e2
def vJ(m:Bool)(L:List Bx)(hd:∀b∈L,b.length<=3)(hl:L.length<=100000):∃y2 y3 y4,Mv [some (.lst m (L.map Ae)),some (.dref 0),none,none,none] [some [.dcm (.inr [])]]=some (.nx,[some (.lst m (L.map Ae)),some (.dref 0),y2,y3,y4],[some [.dcm (.inr ((L.flatMap sc).foldl dst []))]]):=by
 have e:Cz (Ab 0) [some (.lst m (L.map Ae)),some (.dref 0),none,none,none] [some [.dcm (.inr [])]]=some ((L.map Ae,[]),[some [.dcm (.inr [])]]):=by simp[Ak,VS.listOf,Bj,VS.idOf,Ea,-U0d,-U0b]
 obtain⟨env',S',e2,y2,y3,y4,he,hS⟩:=Gj (w:=[]) (g:=Pat.sem (.nm 2)) (b:=RJ) (ds:=L.map Ae) (env:=[some (.lst m (L.map Ae)),some (.dref 0),none,none,none]) (S:=[some [.dcm (.inr [])]])
  (λi env S=>∃y2 y3 y4,env=[some (.lst m (L.map Ae)),some (.dref 0),y2,y3,y4]/\S=[some [.dcm (.inr (((L.take i).flatMap sc).foldl dst []))]]) ⟨none,none,none,rfl,rfl⟩ (λi env S _=>by simp) (λi x env S hd' ⟨y2,y3,y4,he,hS⟩=>by
   rw[U0z]at hd';obtain⟨b,hb,rfl⟩:=U19.mp hd';subst hS he;have f:=Ri ((L.take i).flatMap sc) [];have g:((L.take i).flatMap sc).length<=(L.take i).length*8:=Mi sc 8 _ λc hc=>by unfold sc;rw[Nr];have:2^c.length<=2^3:=U3e (by decide) (hd c (U5r hc));simp only[U0f,U0y];lia
   rw[U2e]at g;simp only[U0y]at f;obtain⟨w3,w4,q⟩:=vK (d:=((L.take i).flatMap sc).foldl dst []) (IT.fold _ λp hp=>nomatch hp) (.lst m (L.map Ae)) b (hd b (U00 hb)) (by lia) y3 y4;refine⟨[some (.lst m (L.map Ae)),some (.dref 0),some (Ae b),y3,y4],by rw[Eb];rfl,_,_,q,_,w3,w4,rfl,?_⟩;rw[U3y,hb,U3z,U7g,U36];simp)
 subst he hS;rw[U0i,U2y]at e2;refine⟨y2,y3,y4,?_⟩;unfold Mv;rw[Gg,e];exact e2
def encP(p:List Key×V):D:=.tup [.tup (p.1.map Ss),(ofV p.2).getD .non]
theorem bG:∀{d:Tab},IT d->PL d=some (d.map encP)
 |[],_=>rfl
 |(k,v)::d,h=>by obtain⟨n,hn⟩:=h _ U0h;cases hn;rw[PL,bG λp hp=>h p (U0k _ hp)];rfl
theorem lF:∀{k:List Int},MJ ((kq k).map Ss)=some (kq k)
 |[]=>rfl
 |i::k=>by show(MJ ((kq k).map Ss)).map _=_;rw[lF];rfl
theorem ao:∀{d:Tab},(∀p∈d,∃k n,p=(kq k,V.int n))->PB (d.map encP)=some d
 |[],_=>rfl
 |p::d,h=>by obtain⟨k,n,rfl⟩:=h _ U0h;rw[U0j];show(MJ ((kq k).map Ss)).bind _=_;rw[lF,U0g];show(PB (d.map encP)).map _=_;rw[ao λp hp=>h p (U0k _ hp)];rfl
def vL{d:Tab}(h:∀p∈d,∃k n,p=(kq k,V.int n))(hl:d.length<=1000000)(C:Option D)(y2 y3 y4:Option D):Jz [C,some (.dref 0),y2,y3,y4] [some [.dcm (.inr d)]]=some ((d.filter nz).map encP,[none]):=by
 have it:IT d:=λp hp=>by obtain⟨k,n,rfl⟩:=h p hp;exact⟨n,rfl⟩
 have e:Ui (Ab 1) [C,some (.dref 0),y2,y3,y4] [some [.dcm (.inr d)]]=some ((d.map encP,[]),[none]):=by unfold Ui;rw[show Ab 1 [C,some (.dref 0),y2,y3,y4] [some [.dcm (.inr d)]]=some (.dref 0,[some [.dcm (.inr d)]]) from rfl,U0g];show(PL d).map _=_;rw[bG it];rfl
 have ec:Ew 2 [] [C,some (.dref 0),y2,y3,y4]=[none,none]:=rfl;unfold Jz Ck;rw[e,ec];simp only[U0g];rw[LQ (by simp) encP nz encP _ _ (by simp;lia)]
 .simp
 .intro p hp;obtain⟨k,n,rfl⟩:=h p hp;refine⟨[some (.tup ((kq k).map Ss)),some (.int n)],pat2,?_,λ_=>rfl⟩;by_cases z:n=0
  .subst z;exact tvl (eqI (neg:=true) rfl rfl rfl)
  .have:nz (kq k,V.int n)=true:=decide_eq_true z;rw[this];exact tvl (neI (neg:=true) rfl rfl z)
def bQ(m:Bool)(L:List Bx)(hd:∀b∈L,b.length<=3)(hl:L.length<=100000):HF [.lst m (L.map Ae)]=some (.dcf (.inr (G9 (L.flatMap sc)))):=by
 obtain⟨y2,y3,y4,e⟩:=vJ m L hd hl;have f:=Ri (L.flatMap sc) [];have g:(L.flatMap sc).length<=L.length*8:=Mi sc 8 _ λc hc=>by unfold sc;rw[Nr];have:2^c.length<=2^3:=U3e (by decide) (hd c hc);simp only[U0f,U0y];lia
 simp only[U0y]at f;have k:=(Ul (L.flatMap sc)).key;have kc:∀p∈G9 (L.flatMap sc),∃k n,p=(kq k,V.int n):=λp hp=>k p (U1t.mp hp).1;have c:=vL k (by lia) (some (.lst m (L.map Ae))) y2 y3 y4;have r:eCB PX (Aa (Bk Jz) Af) [some (.lst m (L.map Ae)),some (.dref 0),y2,y3,y4] [some [.dcm (.inr ((L.flatMap sc).foldl dst []))]]=some (.dcf (.inr (G9 (L.flatMap sc))),[none]):=by
  rw[Dk,FP (V9 c) Jd,U0g];have b:PX [none] [.lst true ((G9 (L.flatMap sc)).map encP)]=some (.dcf (.inr (G9 (L.flatMap sc)))):=by unfold PX;show(PB _).map _=_;rw[ao kc,U5c,ni]
  show U5d _ (PX [none] [.lst true ((G9 (L.flatMap sc)).map encP)])=_;rw[b];rfl
 exact Om rfl (nx (Kf rfl) (nx e (V8 r))) rfl
theorem Wa:∀(b:List St2)(z:Int),b.foldl (λz p=>z*(p.2-p.1)) z=z*Ez b
 |[],z=>by simp[Ez]
 |p::b,z=>by rw[U2l,Wa b,Ez,U8u]
def eV(b:List St2):Lj b=Ez b:=by rw[Lj,Wa,U6n]
def Ds(m:Bool)(ns:List Nat):D:=.lst m (ns.map λ(i:Nat)=>D.int i)
def encC(c:List St2×List Nat):D:=.tup [Ae c.1,Ds false c.2]
def QJ(m:Bool)(ns:List Nat):Aw (Ds m ns)=true:=by have:=Oc (ns.map λ(i:Nat)=>(i:Int));rw[U0d]at this;rw[Ds,Aw];exact this
def Vp(m:Bool)(ns:List Nat):age (Ds m ns)=Ds false ns:=by have:=Yx (ns.map λ(i:Nat)=>(i:Int));rw[U0d]at this;rw[Ds,age];exact congrArg (D.lst false) this
def nH(c:List St2×List Nat):Aw (encC c)=true:=by rw[encC,Aw,Av,Av,Av,YJ,QJ];rfl
def uH(c:List St2×List Nat):age (encC c)=encC c:=by rw[encC,age,Bf,Bf,Bf,Im (Fo c.1),Vp]
theorem Lw:∀cs:List (List St2×List Nat),Av (cs.map encC)=true
 |[]=>rfl
 |c::r=>by rw[U0j,Av,nH,Lw r];rfl
def lu{n:Nat}{bs:List (List St2)}(hb:∀b∈bs,b.length=n){i w:Nat}(hi:i<bs.length)(hw:w<n):atI (bs.map Ae) (i:Int)=some (Ae (bs.getD i []))/\atI ((bs.getD i []).map Bm) (w:Int)=some (Bm (at1 bs i w)):=by
 have h1:bs[i]?=some bs[i]:=U0v hi;have h2:bs.getD i []=bs[i]:=by rw[U1b,h1];rfl
 have h3:w<bs[i].length:=by rw[hb _ (U3d hi)];exact hw
 refine⟨LR (by rw[U0z,h1,h2];rfl),LR ?_⟩;rw[at1,h2,U0z,U0v h3,U1b,U0v h3];rfl
def yK(rec:Ca){n:Nat}{m m':Bool}{bs:List (List St2)}(hb:∀b∈bs,b.length=n)(hn:0<n){ns:List Nat}(hi:∀i∈ns,i<bs.length)(hl:ns.length<=20)(r:VS.Env)(S:Store) :
  Ka rec (some (.lst m (bs.map Ae))::some (Ds m' ns)::r) S=some ((ns.map λi=>bs.getD i []).map Ae,S):=by
 unfold Ka Ck;have e:Cz (Ab 1) (some (.lst m (bs.map Ae))::some (Ds m' ns)::r) S=some ((ns.map λ(i:Nat)=>D.int i,[]),S):=by simp[Ak,VS.listOf,Bj,VS.idOf,Ea,-U0d,-U0b,Ds]
 rw[e];simp only[U0g];rw[IK (by simp) (λ(i:Nat)=>D.int i) (λi=>Ae (bs.getD i [])) ns (by lia)]
 .rw[U0d];rfl
 .intro i hi';obtain⟨h1,_⟩:=lu hb (hi i hi') hn;exact⟨_,Eb _ _ _,by simp[Ak,Bg,Ew,oIx,VS.listOf,Bj,U0p,-U0d,-U0b,h1]⟩
def yJ(rec:Ca){n:Nat}{m m':Bool}{bs:List (List St2)}(hb:∀b∈bs,b.length=n){ns:List Nat}(hi:∀i∈ns,i<bs.length)(hl:ns.length<=20){w:Nat}(hw:w<n)(x:Int)(z3 z4:Option D)(r:VS.Env)(S:Store) :
  KZ rec (some (.lst m (bs.map Ae))::some (Ds m' ns)::some (.int w)::z3::z4::some (.int x)::r) S=some ((Iw bs w x ns).map (λ(i:Nat)=>D.int i),S):=by
 unfold KZ Ck;have e:Cz (Ab 1) (some (.lst m (bs.map Ae))::some (Ds m' ns)::some (.int w)::z3::z4::some (.int x)::r) S=some ((ns.map λ(i:Nat)=>D.int i,[]),S):=by simp[Ak,VS.listOf,Bj,VS.idOf,Ea,-U0d,-U0b,Ds]
 rw[e];simp only[U0g];rw[LQ (by simp) (λ(i:Nat)=>D.int i) (λi=>inS (at1 bs i w) x) (λi=>.int i) _ _ (by simp;lia)]
 .rfl
 .intro i hi';obtain⟨h1,h2⟩:=lu hb (hi i hi') hw;refine⟨_,Eb _ _ _,?_,λ_=>by simp[Ak,Ew,U0p,-U0d,-U0b]⟩;simp only[Bm]at h2;generalize bs.getD i []=B at *
  generalize ((w:Nat):Int)=w' at *
  generalize ((i:Nat):Int)=i' at *
  by_cases g:(at1 bs i w).1<=x<;>simp[Ak,Cr,Bg,Tf,DP,Ew,oI,FQ,oLt,oLe,oIx,VS.listOf,Bj,U0p,-U0d,-U0b,h1,h2,Ae,inS,g]
theorem S6{bs:List (List St2)}:∀(k w:Nat)(ns:List Nat),ns.length<=20->(DN bs k w ns).length<=40^k
 |0,w,ns,_=>by rw[DN];split<;>simp
 |k+1,w,ns,hl=>by
  rw[DN];split
  .simp
  .have h1:(steps (Er bs w ns)).length<=40:=by have:=Nk (Er bs w ns);have h2:=QF (ns.map (λi=>(at1 bs i w).1)++ns.map (λi=>(at1 bs i w).2));rw[U0n,U0i,U0i]at h2;unfold Er at this ⊢;lia
   have h2:∀l:List St2,(l.flatMap λp=>(DN bs k (w+1) (Iw bs w p.1 ns)).map λc=>(p::c.1,c.2)).length<=l.length*40^k:=λl=>by
    induction l with
    |nil=>simp
    |cons p l ih=>
     rw[U24,U0n,U0i,U0f,U84,U85];have:=S6 (bs:=bs) k (w+1) (Iw bs w p.1 ns) (U01 (U3x _ _) hl);lia
   have h3:=h2 (steps (Er bs w ns));have h4:=Nat.mul_le_mul_right (40^k) h1;rw[U82,U6z];lia
def yL(rec:Ca)(e0 e1 e2 e3 z7:Option D)(p:St2)(c:List St2×List Nat)(acc:List D)(hl:acc.length<1000000)(hc:c.1.length<=3) :
  Kd rec [e0,e1,e2,e3,some (.ref 0),some (.int p.1),some (.int p.2),z7,some (Ae c.1),some (Ds false c.2)] [some acc]=some (.nx,[e0,e1,e2,e3,some (.ref 0),some (.int p.1),some (.int p.2),z7,some (Ae c.1),some (Ds false c.2)],[some (acc++[encC (p::c.1,c.2)])]):=by
 have h1:1+c.1.length<=1000000:=by lia
 have h2:c.1.length+1<=1000000:=by lia
 have h3:c.1.length<=999999:=by lia
 simp[Kd,Fy,Ak,Bg,Ay,Al,Hz,Pk,Bo,VS.listOf,Hh,-U0d,-U0b,hl,h1,h2,h3,Ae,encC,Bm]
def yI(rec:Ca){n w:Nat}{bs:List (List St2)}{there:List Nat}{cs:List (List St2×List Nat)}(hrec:rec [.lst false (bs.map Ae),Ds false there,.int ((w:Int)+1),.int n]=some (.lst true (cs.map encC)))(hcs:∀c∈cs,c.1.length<=3)(NS:D)(p:St2)(z8 z9:Option D)(acc:List D)(hl:acc.length+cs.length<=999999) :
  ∃z8' z9',O7 rec [some (.lst false (bs.map Ae)),some NS,some (.int w),some (.int n),some (.ref 0),some (.int p.1),some (.int p.2),some (Ds true there),z8,z9] [some acc] =
   some (.nx,[some (.lst false (bs.map Ae)),some NS,some (.int w),some (.int n),some (.ref 0),some (.int p.1),some (.int p.2),some (Ds true there),z8',z9'],[some (acc++(cs.map λc=>(p::c.1,c.2)).map encC)]):=by
 have e:Cz (Am rec (Aa (Ab 0) (Aa (Ab 7) (Aa (eOp Bo (Ab 2) (eC (.int 1))) (Aa (Ab 3) Af))))) [some (.lst false (bs.map Ae)),some NS,some (.int w),some (.int n),some (.ref 0),some (.int p.1),some (.int p.2),some (Ds true there),z8,z9] [some acc]=some ((cs.map encC,[]),[some acc]):=by rw[Ea,Du (ds:=[.lst false (bs.map Ae),Ds true there,.int ((w:Int)+1),.int n]) (S':=[some acc]) (by simp[Ak,Cr,Bg,Ay,Al,Bo,VS.listOf,-U0d,-U0b]) (by simp[Av,Aw,QJ]) (by simp[Bf,age,Vp]) hrec];simp[Bj,VS.listOf,VS.idOf]
 unfold O7;rw[Gg,e];obtain⟨env',S',e2,z8',z9',he,hS⟩:=Gj (w:=[]) (g:=Pat.sem (.tp [(.nm 8),(.nm 9)])) (b:=Kd rec) (ds:=cs.map encC) (env:=[some (.lst false (bs.map Ae)),some NS,some (.int w),some (.int n),some (.ref 0),some (.int p.1),some (.int p.2),some (Ds true there),z8,z9]) (S:=[some acc])
  (λi env S=>∃z8 z9,env=[some (.lst false (bs.map Ae)),some NS,some (.int w),some (.int n),some (.ref 0),some (.int p.1),some (.int p.2),some (Ds true there),z8,z9]/\S=[some (acc++((cs.take i).map λc=>(p::c.1,c.2)).map encC)])
  ⟨z8,z9,rfl,by simp⟩ (λi env S _=>by simp) (λi d env S hd q=>by
   obtain⟨z8,z9,he,hS⟩:=q;subst he hS;rw[U0z]at hd;obtain⟨c,hc,rfl⟩:=U19.mp hd;have hi:=(U0l.mp hc).1;refine⟨_,by simp[Eb,Iz,Gi,G3,-U0d,-U0b,encC],_,_,yL rec _ _ _ _ _ p c _ (by simp;lia) (hcs c (U00 hc)),_,_,rfl,?_⟩;rw[U3y,hc];simp)
 subst he hS;refine⟨z8',z9',e2.trans ?_⟩;have:(cs.map encC).length=cs.length:=by simp
 rw[this,U2y]
theorem Ym{bs:List (List St2)}:∀(k w:Nat)(ns:List Nat)(c:List St2×List Nat),c∈DN bs k w ns->c.1.length=k
 |0,w,ns,c,h=>by
  rw[DN]at h;split at h
  .simp at h
  .have:c=([],ns):=by simpa using h
   rw[this];rfl
 |k+1,w,ns,c,h=>by
  rw[DN]at h;split at h
  .simp at h
  .obtain⟨p,_,h2⟩:=U4d.mp h;obtain⟨d,h3,rfl⟩:=U03.mp h2;rw[U0f,Ym k (w+1) _ d h3]
def rN(bs:List (List St2))(w:Nat)(ns:List Nat):Ep (Fe (ns.map λi=>bs.getD i []) w++En (ns.map λi=>bs.getD i []) w)=Er bs w ns:=by unfold Fe En Er at1;rw[U0d,U0d];rfl
def yH(rec:Ca){n w k:Nat}{bs:List (List St2)}{ns:List Nat}(hb:∀b∈bs,b.length=n)(hi:∀i∈ns,i<bs.length)(hl:ns.length<=20)(hne:ns≠[])(hw:w<n)(hk:k<=2)
  (ih:∀ms:List Nat,(∀i∈ms,i<bs.length)->ms.length<=20->rec [.lst false (bs.map Ae),Ds false ms,.int ((w:Int)+1),.int n]=some (.lst true ((DN bs k (w+1) ms).map encC))) :
  ∃z5 z6 z7 z8 z9,O6 rec [some (.lst false (bs.map Ae)),some (Ds false ns),some (.int w),some (.int n),some (.ref 0),none,none,none,none,none] [some []] =
   some (.nx,[some (.lst false (bs.map Ae)),some (Ds false ns),some (.int w),some (.int n),some (.ref 0),z5,z6,z7,z8,z9],[some ((DN bs (k+1) w ns).map encC)]):=by
 have c1:=yK rec (m:=false) (m':=false) hb (by lia) hi hl [some (.int w),some (.int n),some (.ref 0),none,none,none,none,none] [some []];have h1:=aR (m:=false) (cs:=ns.map λi=>bs.getD i []) (w:=w) (λb hb'=>by
  obtain⟨i,hi',rfl⟩:=U03.mp hb';have h:=hi i hi';rw[U1b,U0v h];show w<bs[i].length;rw[hb _ (U3d h)];exact hw) (by rw[U0i];lia) (by simpa using hne)
 rw[rN]at h1;have e:Cz (Am Ed (Aa (Bk (Ka rec)) (Aa (Ab 2) Af))) [some (.lst false (bs.map Ae)),some (Ds false ns),some (.int w),some (.int n),some (.ref 0),none,none,none,none,none] [some []]=some (((steps (Er bs w ns)).map Bm,[]),[some []]):=by rw[Ea,Du (ds:=[.lst true ((ns.map λi=>bs.getD i []).map Ae),.int w]) (S':=[some []]) (by simp only[Al,Ay,Cq,Ak,c1,U0g];rfl) (by rw[Av,Aw,Us];rfl) (by rw[Bf,age,jt,Bf,Bf];rfl) h1];simp[Bj,VS.listOf,VS.idOf]
 have hst:(steps (Er bs w ns)).length<=40:=by have:=Nk (Er bs w ns);have h2:=QF (ns.map (λi=>(at1 bs i w).1)++ns.map (λi=>(at1 bs i w).2));rw[U0n,U0i,U0i]at h2;unfold Er at this ⊢;lia
 have hcl:∀x,(DN bs k (w+1) (Iw bs w x ns)).length<=1600:=λx=>by have:=S6 (bs:=bs) k (w+1) (Iw bs w x ns) (U01 (U3x _ _) hl);have h2:40^k<=40^2:=U3e (by decide) hk;lia
 let f:St2->List (List St2×List Nat):=λp=>(DN bs k (w+1) (Iw bs w p.1 ns)).map λc=>(p::c.1,c.2);have hf:∀l:List St2,(l.flatMap f).length<=l.length*1600:=λl=>by
  induction l with
  |nil=>simp
  |cons p l ih=>
   rw[U24,U0n,U0f,U84,U85];have:(f p).length<=1600:=by rw[U0i];exact hcl p.1
   lia
 unfold O6;rw[Gg,e];obtain⟨env',S',e2,z5,z6,z7,z8,z9,he,hS⟩:=Gj (w:=[]) (g:=Pat.sem (.tp [(.nm 5),(.nm 6)])) (b:=Kc rec) (ds:=(steps (Er bs w ns)).map Bm) (env:=[some (.lst false (bs.map Ae)),some (Ds false ns),some (.int w),some (.int n),some (.ref 0),none,none,none,none,none]) (S:=[some []])
  (λi env S=>∃z5 z6 z7 z8 z9,env=[some (.lst false (bs.map Ae)),some (Ds false ns),some (.int w),some (.int n),some (.ref 0),z5,z6,z7,z8,z9]/\S=[some ((((steps (Er bs w ns)).take i).flatMap f).map encC)])
  ⟨none,none,none,none,none,rfl,by simp⟩ (λi env S _=>by simp) (λi d env S hd q=>by
   obtain⟨z5,z6,z7,z8,z9,he,hS⟩:=q;subst he hS;rw[U0z]at hd;obtain⟨p,hp,rfl⟩:=U19.mp hd;have hi':=(U0l.mp hp).1;have h2:=hf ((steps (Er bs w ns)).take i);rw[U2e]at h2;obtain⟨z8',z9',l1⟩:=yI rec (n:=n) (w:=w) (bs:=bs) (there:=Iw bs w p.1 ns) (cs:=DN bs k (w+1) (Iw bs w p.1 ns)) (ih _ (λi hi'=>hi i (U1t.mp hi').1) (U01 (U3x _ _) hl)) (λc hc=>by rw[Ym _ _ _ _ hc];lia) (Ds false ns) p z8 z9 ((((steps (Er bs w ns)).take i).flatMap f).map encC) (by
    have h3:=hcl p.1;rw[U0i];have h4:min i (steps (Er bs w ns)).length<=40:=by lia
    have h5:=Nat.mul_le_mul_right 1600 h4;lia)
   have c2:=yJ rec (m:=false) (m':=false) hb hi hl hw p.1 (some (.int n)) (some (.ref 0)) [some (.int p.2),z7,z8,z9] [some ((((steps (Er bs w ns)).take i).flatMap f).map encC)];have s1:(Ci 7 (Bk (KZ rec))) [some (.lst false (bs.map Ae)),some (Ds false ns),some (.int w),some (.int n),some (.ref 0),some (.int p.1),some (.int p.2),z7,z8,z9] [some ((((steps (Er bs w ns)).take i).flatMap f).map encC)]=some (.nx,[some (.lst false (bs.map Ae)),some (Ds false ns),some (.int w),some (.int n),some (.ref 0),some (.int p.1),some (.int p.2),some (Ds true (Iw bs w p.1 ns)),z8,z9],[some ((((steps (Er bs w ns)).take i).flatMap f).map encC)]):=by rw[DW,Cq,c2];rfl
   refine⟨_,by simp[Eb,Iz,Gi,G3,-U0d,-U0b,Bm];rfl,_,_,(show Kc rec _ _=_ by unfold Kc;rw[Bp s1];exact l1),_,_,_,_,_,rfl,?_⟩;rw[U3y,hp];simp[f])
 subst he hS;refine⟨z5,z6,z7,z8,z9,e2.trans ?_⟩;have:((steps (Er bs w ns)).map Bm).length=(steps (Er bs w ns)).length:=by simp
 rw[this,U2y,DN,if_neg hne]
def yG{n:Nat}{bs:List (List St2)}(hb:∀b∈bs,b.length=n)(hn:n<=3):∀(k d w:Nat)(ns:List Nat),w+k=n->(∀i∈ns,i<bs.length)->ns.length<=20->Dq (d+k+1) [.lst false (bs.map Ae),Ds false ns,.int w,.int n]=some (.lst true ((DN bs k w ns).map encC)):=by
 have hlen:∀(ns:List Nat)(r:VS.Env)(S:Store),eCB DQ (Aa (Ab 1) Af) (some (.lst false (bs.map Ae))::some (Ds false ns)::r) S=some (.int ns.length,S):=λns r S=>by simp[Ak,Ay,Al,Dk,DQ,VS.listOf,Bj,-U0d,-U0b,Ds]
 have first:∀(ns:List Nat)(r:VS.Env),ns≠[]->(sIf (BX (eOp (oEq false) (eCB DQ (Aa (Ab 1) Af)) (eC (.int 0)))) (CN (Bk Af)) Dp) (some (.lst false (bs.map Ae))::some (Ds false ns)::r) []=some (.nx,some (.lst false (bs.map Ae))::some (Ds false ns)::r,[]):=λns r h=>by
  have h0:¬((ns.length:Int)=0):=by have:=U4.mpr h;lia
  simp only[Em,DP,Bg,hlen,U0g,Cr];simp[CW,Ei,Ay,Cq,oEq,-U0d,-U0b,h0];exact h
 have nil:∀(k w:Nat),Dq (k+1) [.lst false (bs.map Ae),Ds false [],.int w,.int n]=some (.lst true []):=λk w=>by simp[Dq,M8,Fx,DW,CW,Em,Ei,Ak,Cr,Bg,Ay,Al,Dk,DP,Cq,R6,Hz,oEq,DQ,VS.listOf,Bj,Cv,den,Cp,U0p,-U0d,-U0b,Ds]
 intro k;induction k with
 |zero=>
  intro d w ns hw hi hl;by_cases h:ns=[]
  .subst h;rw[nil,DN,if_pos rfl];rfl
  .rw[DN,if_neg h];have hwn:w=n:=by lia
   subst hwn;have f1:=first ns [some (.int w),some (.int w),none,none,none,none,none,none] h
   unfold Dq;rw[Cv];exact`zg;unfold M8;rw[Bp f1];have hd:=Jj 0 [] (QJ false ns);simp[Fx,DW,CW,Em,Ei,Ak,Bg,Ay,Al,DP,Cq,R6,Hz,oEq,den,Cp,-U0d,-U0b,hd,encC,Ae]
 |succ k ih=>
  intro d w ns hw hi hl;by_cases h:ns=[]
  .subst h;rw[nil,DN,if_pos rfl];rfl
  .have hwn:¬((w:Int)=(n:Int)):=by lia
   have f1:=first ns [some (.int w),some (.int n),none,none,none,none,none,none] h
   have f2:(sIf (BX (eOp (oEq false) (Ab 2) (Ab 3))) (CN (Bk (Aa (Di (Aa (Di Af) (Aa (Ab 1) Af))) Af))) Dp) [some (.lst false (bs.map Ae)),some (Ds false ns),some (.int w),some (.int n),none,none,none,none,none,none] []=some (.nx,[some (.lst false (bs.map Ae)),some (Ds false ns),some (.int w),some (.int n),none,none,none,none,none,none],[]):=by simp[CW,Em,Ei,Ak,Bg,Ay,Al,DP,Cq,Hz,oEq,-U0d,-U0b,hwn]
   have f3:(Ci 4 (Ld Af)) [some (.lst false (bs.map Ae)),some (Ds false ns),some (.int w),some (.int n),none,none,none,none,none,none] []=some (.nx,[some (.lst false (bs.map Ae)),some (Ds false ns),some (.int w),some (.int n),some (.ref 0),none,none,none,none,none],[some []]):=by simp[DW,Ay,R6,-U0d,-U0b]
   obtain⟨z5,z6,z7,z8,z9,f4⟩:=yH (Dq (d+(k+1))) (w:=w) (k:=k) hb hi hl h (by lia) (by lia) λms h1 h2=>by have:=ih d (w+1) ms (by lia) h1 h2;rw[show((w+1:Nat):Int)=(w:Int)+1 by lia]at this;exact this
   rw[Dq,Cv];exact`zg;unfold M8;rw[Bp f1,Bp f2,Bp f3,Bp f4];have hd:∀(j:Nat)(S:Store),Cp j S ((DN bs (k+1) w ns).map encC)=some ((DN bs (k+1) w ns).map encC):=λj S=>Dn j S (Lw (DN bs (k+1) w ns));simp[CW,Ak,den,-U0d,-U0b,hd,Lw]
def list_range{a:CQ}{env:VS.Env}{S S':Store}{n:Nat}(h:a env S=some ([.int n],S'))(hn:n<=1000):Ii a env S=some (Ds true (U07 n),S'):=by
 have hr:r62 (n:Int):=by unfold r62;lia
 have up:upD 0 n=(U07 n).map λ(i:Nat)=>D.int i:=by unfold upD;simp
 rw[Ia,h,U0g];show(if r62 (n:Int)/\(n:Int).toNat<=100000 then _ else _)=_;rw[if_pos ⟨hr,by lia⟩,U2t,up,Ds]
def tZ{n:Nat}{bs:List (List St2)}(g:Good n bs):J6 [Ai false n bs]=some (.lst true ((DN bs n 0 (U07 bs.length)).map encC)):=by
 have n3:=g.n3;have few:=g.few;have h:=yG (bs:=bs) (λb hb=>(g.box b hb).1) n3.2 n (3-n) 0 (U07 bs.length) (by lia) (λi hi=>U3l.mp hi) (by simpa using few);rw[show 3-n+n+1=4 by lia]at h;have hd:=λ(j:Nat) (S:Store)=>Dn j S (Lw (DN bs n 0 (U07 bs.length)));have t1:(eOp oIx (Ab 0) (eC (.int 1))) [some (Ai false n bs)] []=some (.lst false (bs.map Ae),[]):=by simp[Ak,Cr,Bg,oIx,VS.listOf,Bj,-U0d,-U0b,Ai]
 have t0:(eOp oIx (Ab 0) (eC (.int 0))) [some (Ai false n bs)] []=some (.int n,[]):=by simp[Ak,Cr,Bg,oIx,VS.listOf,Bj,-U0d,-U0b,Ai]
 have t2:(Aa (eCB DQ (Aa (eOp oIx (Ab 0) (eC (.int 1))) Af)) Af) [some (Ai false n bs)] []=some ([.int bs.length],[]):=by simp only[Al,Ay,Dk,t1,U0g];simp[DQ,Bj,VS.listOf]
 have t3:=list_range t2 (by lia);have a1:(Aa (eOp oIx (Ab 0) (eC (.int 1))) (Aa (Ii (Aa (eCB DQ (Aa (eOp oIx (Ab 0) (eC (.int 1))) Af)) Af)) (Aa (eC (.int 0)) (Aa (eOp oIx (Ab 0) (eC (.int 0))) Af)))) [some (Ai false n bs)] []=some ([.lst false (bs.map Ae),Ds true (U07 bs.length),.int 0,.int n],[]):=by rw[Al,t1,U0g,Al,t3,U0g,Al,Cr,U0g,Al,t0];rfl
 have c:=Du (sem:=Dq 4) a1 (by simp[Av,Aw,QJ]) (es:=[.lst false (bs.map Ae),Ds false (U07 bs.length),.int 0,.int n]) (by simp[Bf,age,Vp]) h;unfold J6;rw[Cv];simp only[U0f,U0y,U0j,U09,U13,U14,U1d,U16,U1i,if_true];unfold Wj;rw[CW,c];show den 0 [] (.lst true _)=_;rw[den,hd];rfl
def Yb{n:Nat}{bs:List (List St2)}(g:Good n bs):Wide bs (-1000000000) 2000000000 0 n (U07 bs.length):=λi hi v _ hv=>by
 have h:=U3l.mp hi;have hb:=g.box bs[i] (U3d h);have h2:v<bs[i].length:=by rw[hb.1];lia
 have e0:bs.getD i []=bs[i]:=by rw[U1b,U0v h];rfl
 have e:at1 bs i v=bs[i][v]:=by rw[at1,e0,U1b,U0v h2];rfl
 have:=hb.2 bs[i][v] (U3d h2);rw[e];lia
theorem bU{bs:List (List St2)}{A:Int}{N:Nat}:∀(k w:Nat)(ns:List Nat),Wide bs A N w k ns->∀c∈DN bs k w ns,(∀p∈c.1,p.1<p.2/\A<=p.1/\p.2<=A+N)/\1<=c.2.length/\c.2.length<=ns.length
 |0,w,ns,_,c,h=>by
  rw[DN]at h;split at h
  .simp at h
  .rename_i hn;have:c=([],ns):=by simpa using h
   rw[this];exact⟨λp hp=>by simp at hp,U4.mpr hn,U0o _⟩
 |k+1,w,ns,hw,c,h=>by
  rw[DN]at h;split at h
  .simp at h
  .obtain⟨p,h1,h2⟩:=U4d.mp h;obtain⟨d,h3,rfl⟩:=U03.mp h2;obtain⟨q1,q2,q3⟩:=bU k (w+1) _ (hw.sub λi hi=>(U1t.mp hi).1) d h3;obtain⟨s1,s2,s3,_⟩:=J9 (Rq _) p h1;refine⟨λp' hp=>?_,q2,U01 q3 (U3x ..)⟩;rcases U0q.mp hp with z|z
   .rw[z];exact⟨s1,(Qn hw _ s2).1,(Qn hw _ s3).2⟩
   .exact q1 p' z
def qK(k:Nat)(cs:List (List St2×List Nat)):Prop:=∀c∈cs,(∀p∈c.1,p.1<p.2/\-1000000000<=p.1/\p.2<=1000000000)/\1<=c.2.length/\c.2.length<=k
def Wu{n:Nat}{bs:List (List St2)}(g:Good n bs):qK bs.length (DN bs n 0 (U07 bs.length)):=λc hc=>by obtain⟨h1,h2,h3⟩:=bU n 0 _ (Yb g) c hc;exact⟨λp hp=>by have:=h1 p hp;lia,h2,by simpa using h3⟩
theorem Yw:∀cs:List (List St2×List Nat),Bf (cs.map encC)=cs.map encC
 |[]=>by rw[U09,Bf]
 |c::r=>by rw[U0j,Bf,uH,Yw r]
def cY(cs:List (List St2×List Nat))(k:Nat)(hl:cs.length<=100000)(hf:qK k cs)(S:Store):Kq [some (.lst false (cs.map encC))] S=some ((cs.map λc=>Ez c.1).map .int,S):=by
 have e:Cz (Ab 0) [some (.lst false (cs.map encC))] S=some ((cs.map encC,[]),S):=rfl;unfold Kq Ck;rw[e];simp only[U0g];rw[IK (by simp) encC (λc=>.int (Ez c.1)) cs (by lia),U0d]
 .rfl
 .intro c hc;have h1:=V2 c.1 (hf c hc).1;rw[eV]at h1;refine⟨[some (Ae c.1),some (Ds false c.2)],by simp[Ew,Eb,Iz,Gi,G3,U0p,-U0d,-U0b,encC],?_⟩;exact Du (ds:=[Ae c.1]) (es:=[Ae c.1]) rfl (by simp[Av,YJ]) (by simp[Bf]) h1
def cX(cs:List (List St2×List Nat))(k:Nat)(hl:cs.length<=100000)(hf:qK k cs):HN [.lst false (cs.map encC)]=some (.int (cs.map λc=>Ez c.1).sum):=by have c1:=cY cs k hl hf [];unfold HN;rw[Cv];exact`zD;unfold Qc;rw[CW,Dk,Al,Cq,c1];generalize (cs.map λc=>Ez c.1)=l;simp[Ay,VS.listOf,den,-U0d,-U0b,VD]
theorem Rw:∀(b:List St2)(s:List Int),Hq b s=true↔∀(j:Nat)(p:St2)(x:Int),b[j]?=some p->s[j]?=some x->in1 p x=true
 |[],_=>by simp[Hq]
 |_::_,[]=>by simp[Hq]
 |p::b,i::s=>by
  have ih:=Rw b s;unfold Hq at ih ⊢;rw[U47,U7w,U1a,ih];constructor
  .rintro⟨h0,h1⟩ j q x hq hx;cases j with
   |zero=>simp at hq hx;subst hq hx;exact h0
   |succ j=>exact h1 j q x (by simpa using hq) (by simpa using hx)
  .intro h;exact⟨h 0 p i rfl rfl,λj q x hq hx=>h (j+1) q x (by simpa using hq) (by simpa using hx)⟩
def rP(b:List St2)(s:List Int)(i:Nat)(p:St2)(x:Int)(hp:b[i]?=some p)(hx:s[i]?=some x) :
  J7 [some (Ae b),some (Ce s),some (.int i)] []=if in1 p x=true then some (.nx,[some (Ae b),some (Ce s),some (.int i)],[]) else some (.ret (.bl false),[some (Ae b),some (Ce s),some (.int i)],[]):=by
 have h1:atI (b.map Bm) (i:Int)=some (.tup [.int p.1,.int p.2]):=LR (by rw[U0z,hp];rfl);have h2:atI (s.map D.int) (i:Int)=some (.int x):=LR (by rw[U0z,hx];rfl);generalize (i:Int)=k at *
 by_cases g1:x<p.1
 .have:in1 p x=false:=by unfold in1;simp;lia
  rw[this];simp[J7,CW,Em,Ei,Ak,Cr,Bg,DP,K8,oI,FQ,oLt,oGe,oIx,VS.listOf,Bj,-U0d,-U0b,Ae,Ce,h1,h2,g1]
 .by_cases g2:p.2<=x
  .have:in1 p x=false:=by unfold in1;simp;lia
   rw[this];simp[J7,CW,Em,Ei,Ak,Cr,Bg,DP,K8,oI,FQ,oLt,oGe,oIx,VS.listOf,Bj,-U0d,-U0b,Ae,Ce,h1,h2,g1,g2]
  .have:in1 p x=true:=by unfold in1;simp;lia
   rw[this];simp[J7,CW,Em,Ei,Ak,Cr,Bg,DP,K8,oI,FQ,oLt,oGe,oIx,VS.listOf,Bj,-U0d,-U0b,Ae,Ce,h1,h2,g1,g2]
def nu(b:List St2)(s:List Int)(hl:b.length<=3)(hs:s.length=b.length):KR [Ae b,Ce s]=some (.bl (Hq b s)):=by
 have e:Fz (Aa (eCB DQ (Aa (Ab 0) Af)) Af) [some (Ae b),some (Ce s),none] []=some ((upD 0 b.length,[]),[]):=P0 _ (by simp[Ak,Ay,Al,Dk,DQ,VS.listOf,Bj,-U0d,-U0b,Ae];rfl) (by simp) (by lia) (by lia);have lp:=fX (w:=[]) (g:=Pat.sem (.nm 2)) (b:=J7) (ds:=upD 0 b.length) (env:=[some (Ae b),some (Ce s),none]) (S:=[])
  (λi env S=>S=[]/\(∃z2,env=[some (Ae b),some (Ce s),z2])/\∀(j:Nat)(p:St2)(x:Int),j<i->b[j]?=some p->s[j]?=some x->in1 p x=true) (λr S=>S=[]/\r=.bl false/\Hq b s=false)
  ⟨rfl,⟨none,rfl⟩,λj p x h=>by lia⟩ (λi env S _=>by simp) (λi d env S hd ⟨hS,⟨z2,he⟩,hk⟩=>by
   obtain⟨hi,rfl⟩:=Ol hd;subst hS he;rw[U81];obtain⟨p,hp⟩:∃p,b[i]?=some p:=⟨_,U0v hi⟩;obtain⟨x,hx⟩:∃x,s[i]?=some x:=⟨_,U0v (by lia)⟩;have hb:=rP b s i p x hp hx;refine⟨[some (Ae b),some (Ce s),some (.int i)],Eb _ _ _,?_⟩;rw[hb];by_cases h:in1 p x=true
   .rw[if_pos h];refine .inl ⟨_,_,.inl rfl,rfl,⟨_,rfl⟩,λj p' x' hj h1 h2=>?_⟩;by_cases hji:j=i
    .subst hji;rw[hp]at h1;rw[hx]at h2;cases h1;cases h2;exact h
    .exact hk j p' x' (Jae hj hji) h1 h2
   .rw[if_neg h];refine .inr ⟨_,_,_,rfl,rfl,rfl,?_⟩;cases hc:Hq b s with
    |false=>rfl
    |true=>exact absurd ((Rw b s).mp hc i p x hp hx) h)
 unfold KR;rw[Cv];exact`zg;unfold Ux;rcases lp with ⟨env',S',e2,hS,⟨z2,he⟩,hk⟩|⟨r,env',S',e2,hS,hr,hk⟩
 .subst hS he;have l1:Ju [some (Ae b),some (Ce s),none] []=some (.nx,[some (Ae b),some (Ce s),z2],[]):=by unfold Ju;rw[Gg,e];exact e2
  rw[Bp l1,(Rw b s).mpr λj p x h1 h2=>hk j p x (by rw[Oj];exact(U0l.mp h1).1) h1 h2];simp[CW,Cr,den,-U0d,-U0b]
 .subst hS hr;have l1:Ju [some (Ae b),some (Ce s),none] []=some (.ret (.bl false),env',[]):=by unfold Ju;rw[Gg,e];exact e2
  rw[Qw l1,hk];simp[den,-U0d,-U0b]
def vP(x y:Int)(n:Nat)(hn:n<=3)(d1:Option D)(d3 d4 d5 d6 d7:Option D):∃(ns:List Int)(x' y':Int),Io [some (.ref 0),d1,some (.int n),d3,d4,d5,d6,d7] [some [.int x,.int y]]=some (ns.map .int,[some [.int x',.int y']])/\ns.length=n:=by
 have e:Fz (Aa (Ab 2) Af) [some (.ref 0),d1,some (.int n),d3,d4,d5,d6,d7] [some [.int x,.int y]]=some ((upD 0 n,[]),[some [.int x,.int y]]):=
  P0 _ (by simp[Ak,Ay,Al,-U0d,-U0b];rfl) (by simp) (by lia) (by lia)
 unfold Io Ck;rw[e];simp only[U0g];obtain⟨ys,S',e2,⟨ns,x',y',rfl,rfl,hl⟩⟩:=Rm (w:=[]) (e0:=Ew 1 [0] [some (.ref 0),d1,some (.int n),d3,d4,d5,d6,d7]) (g:=Pat.sem (.nm 0)) (ds:=upD 0 n) (S:=[some [.int x,.int y]])
  (f:=(eOp G6 (Bq Ar (Aa (Ab 1) (Aa (eOp Bo (eOp Hx (eC (.int 2)) (eOp Fq (eC (.int 10)) (eC (.int 9)))) (eC (.int 1))) Af))) (eOp Fq (eC (.int 10)) (eC (.int 9)))))
  (λi ys S=>∃(ns:List Int)(x' y':Int),ys=ns.map D.int/\S=[some [.int x',.int y']]/\ns.length=min i n)
  ⟨[],x,y,rfl,rfl,by simp⟩ (λi ys S ⟨ns,x',y',h1,h2,h3⟩=>⟨by simp,by rw[h1,U0i,h3];lia⟩)
  (λi d ys S hd ⟨ns,x',y',h1,h2,h3⟩=>by
   obtain⟨hi,rfl⟩:=Ol hd;obtain⟨r,x2,y2,e3,r0,r1⟩:=Eu x' y' 2000000001 (by decide) (by decide);subst h1 h2;refine⟨_,.int (r-1000000000),[some [.int x2,.int y2]],rfl,?_,ns++[r-1000000000],x2,y2,by simp,rfl,by simp;exact Jac h3 hi⟩;simp[Ak,Cr,Bg,Ay,Al,Ew,Dh,oI,FQ,MN,Kh,Bo,G6,Hx,Fq,VS.listOf,intsOf,den,Cp,age,Bf,Aw,Av,U0p,-U0d,-U0b,e3])
 rw[Oj]at hl;exact⟨ns,x',y',e2,by lia⟩
def Jav(x y:Int)(ns:List Int)(p:St2)(d1 d2 d3 d4:Option D)(hl:ns.length<=3):∃(z:Int)(x' y':Int),NP [some (.ref 0),d1,d2,d3,d4,some (.ref 1),some (.int p.1),some (.int p.2)] [some [.int x,.int y],some (ns.map .int)]=some (.nx,[some (.ref 0),d1,d2,d3,d4,some (.ref 1),some (.int p.1),some (.int p.2)],[some [.int x',.int y'],some ((ns++[z]).map .int)]):=by
 obtain⟨r,x2,y2,e3,r0,r1⟩:=Eu x y 6 (by decide) (by decide);obtain⟨z,hz⟩:∃z,atI [D.int p.1,.int (p.2-1),.int p.2,.int (p.1-1),.int ((p.1+p.2)/2),.int p.1] r=some (.int z):=by
  have:r=0∨r=1∨r=2∨r=3∨r=4∨r=5:=ar2 r0 r1;rcases this with rfl|rfl|rfl|rfl|rfl|rfl
  .exact⟨_,rfl⟩
  .exact⟨_,rfl⟩
  .exact⟨_,rfl⟩
  .exact⟨_,rfl⟩
  .exact⟨_,rfl⟩
  .exact⟨_,rfl⟩
 have hl2:ns.length<1000000:=by lia
 refine⟨z,x2,y2,?_⟩;simp[NP,Fy,Ak,Cr,Bg,Ay,Al,Cq,Dh,Pk,oI,FQ,ZV,Bo,G6,oDiv,oIx,VS.listOf,Bj,Hh,intsOf,den,Cp,age,Bf,Aw,Av,-U0d,-U0b,e3,hz,hl2]
def vO(x y:Int){n:Nat}{bs:List (List St2)}(g:Good n bs):∃(s:List Int)(x' y':Int),Jq [x,y] [Ai false n bs]=some (Ce s,[x',y'])/\s.length=n:=by
 have few:=g.few;have n3:=g.n3;have hq:∀S:Store,eqP false S (.lst false (bs.map Ae)) (.lst true [])=some (.bl (bs.map pB).isEmpty):=λS=>by have:=gB (neg:=false) (S:=S) (m:=true) 3 (JK S false bs) (QM 0 bs) (by decide);simpa using this
 have s1:(Sq (Ab 1) (Pat.sem (.tp [(.nm 2),(.nm 3)]))) [some (.ref 0),some (Ai false n bs),none,none,none,none,none,none] [some [.int x,.int y]]=some (.nx,[some (.ref 0),some (Ai false n bs),some (.int n),some (.lst false (bs.map Ae)),none,none,none,none],[some [.int x,.int y]]):=by simp[Xi,Ak,Eb,Iz,Gi,G3,-U0d,-U0b,Ai]
 unfold Jq;rw[Hy];exact`zg;unfold Wh;rw[Bp s1];have any:∀x1 y1,∃(s:List Int)(x' y':Int),(CN (eCB Lf (Aa (Bk Io) Af))) [some (.ref 0),some (Ai false n bs),some (.int n),some (.lst false (bs.map Ae)),none,none,none,none] [some [.int x1,.int y1]]=some (.ret (Ce s),[some (.ref 0),some (Ai false n bs),some (.int n),some (.lst false (bs.map Ae)),none,none,none,none],[some [.int x',.int y']])/\s.length=n:=λx1 y1=>by obtain⟨ns,x',y',e,hl⟩:=vP x1 y1 n (by lia) (some (Ai false n bs)) (some (.lst false (bs.map Ae))) none none none none;exact⟨ns,x',y',by simp[CW,Ay,Al,Dk,Cq,Lf,VS.listOf,Bj,-U0d,-U0b,e,Ce],hl⟩
 by_cases hb:bs=[]
 .obtain⟨s,x',y',e,hl⟩:=any x y;have t:(tOr (BX (eOp (oEq false) (Ab 3) (Bk Af))) (BX (eOp (oEq false) (Bq Ar (Aa (Ab 0) (Aa (eC (.int 5)) Af))) (eC (.int 0))))) [some (.ref 0),some (Ai false n bs),some (.int n),some (.lst false (bs.map Ae)),none,none,none,none] [some [.int x,.int y]]=some (true,[some [.int x,.int y]]):=by have:=hq [some [.int x,.int y]];subst hb;simp only[U09]at this;simp[Ak,Cr,Bg,Ay,Al,DP,K8,Cq,Dh,oEq,den,Cp,age,Bf,Aw,Av,-U0d,-U0b,this]
  exact`zi;rw[Qw i1];exact⟨s,x',y',by simp[intsOf,-U0d,-U0b],hl⟩
 .obtain⟨r,x1,y1,e1,r0,r1⟩:=Eu x y 5 (by decide) (by decide);have hq':eqP false [some [.int x,.int y]] (.lst false (bs.map Ae)) (.lst true [])=some (.bl false):=by
   rw[hq];cases bs with
   |nil=>exact absurd rfl hb
   |cons a r=>rfl
  have t:(tOr (BX (eOp (oEq false) (Ab 3) (Bk Af))) (BX (eOp (oEq false) (Bq Ar (Aa (Ab 0) (Aa (eC (.int 5)) Af))) (eC (.int 0))))) [some (.ref 0),some (Ai false n bs),some (.int n),some (.lst false (bs.map Ae)),none,none,none,none] [some [.int x,.int y]]=some (decide (r=0),[some [.int x1,.int y1]]):=by simp[Ak,Cr,Bg,Ay,Al,DP,K8,Cq,Dh,oEq,intsOf,den,Cp,age,Bf,Aw,Av,-U0d,-U0b,hq',e1]
  by_cases hr:r=0
  .obtain⟨s,x',y',e,hl⟩:=any x1 y1;rw[decide_eq_true hr]at t;exact`zi;rw[Qw i1];exact⟨s,x',y',by simp[intsOf,-U0d,-U0b],hl⟩
  .rw[decide_eq_false hr]at t;have i1:(sIf (tOr (BX (eOp (oEq false) (Ab 3) (Bk Af))) (BX (eOp (oEq false) (Bq Ar (Aa (Ab 0) (Aa (eC (.int 5)) Af))) (eC (.int 0))))) (CN (eCB Lf (Aa (Bk Io) Af))) Dp) [some (.ref 0),some (Ai false n bs),some (.int n),some (.lst false (bs.map Ae)),none,none,none,none] [some [.int x,.int y]]=some (.nx,[some (.ref 0),some (Ai false n bs),some (.int n),some (.lst false (bs.map Ae)),none,none,none,none],[some [.int x1,.int y1]]):=by rw[RT t];rfl
   rw[Bp i1];have pos:0<bs.length:=U4.mpr hb;obtain⟨j,x2,y2,e2,j0,j1⟩:=Eu x1 y1 (bs.length:Int) (by lia) (by lia);obtain⟨b,f1,g1⟩:=Mg (F:=Ae) (l:=bs) (i:=j) j0 (by lia);have bl:=(g.box b (U00 g1)).1;have s2:(Ci 4 (eOp oIx (Ab 3) (Bq Ar (Aa (Ab 0) (Aa (eCB DQ (Aa (Ab 3) Af)) Af))))) [some (.ref 0),some (Ai false n bs),some (.int n),some (.lst false (bs.map Ae)),none,none,none,none] [some [.int x1,.int y1]]=some (.nx,[some (.ref 0),some (Ai false n bs),some (.int n),some (.lst false (bs.map Ae)),some (Ae b),none,none,none],[some [.int x2,.int y2]]):=by simp[DW,Ak,Bg,Ay,Al,Dk,Dh,oIx,DQ,VS.listOf,Bj,intsOf,den,Cp,age,Bf,Aw,Av,-U0d,-U0b,e2,f1]
   have s3:(Ci 5 (Ld Af)) [some (.ref 0),some (Ai false n bs),some (.int n),some (.lst false (bs.map Ae)),some (Ae b),none,none,none] [some [.int x2,.int y2]]=some (.nx,[some (.ref 0),some (Ai false n bs),some (.int n),some (.lst false (bs.map Ae)),some (Ae b),some (.ref 1),none,none],[some [.int x2,.int y2],some []]):=by simp[DW,Ay,R6,-U0d,-U0b]
   have e4:Cz (Ab 4) [some (.ref 0),some (Ai false n bs),some (.int n),some (.lst false (bs.map Ae)),some (Ae b),some (.ref 1),none,none] [some [.int x2,.int y2],some []]=some ((b.map Bm,[]),[some [.int x2,.int y2],some []]):=by simp[Ak,VS.listOf,Bj,VS.idOf,Ea,-U0d,-U0b,Ae]
   obtain⟨env',S',e5,ns,x3,y3,d6,d7,he,hS,hl⟩:=Gj (w:=[]) (g:=Pat.sem (.tp [(.nm 6),(.nm 7)])) (b:=NP) (ds:=b.map Bm) (env:=[some (.ref 0),some (Ai false n bs),some (.int n),some (.lst false (bs.map Ae)),some (Ae b),some (.ref 1),none,none]) (S:=[some [.int x2,.int y2],some []])
    (λi env S=>∃(ns:List Int)(x3 y3:Int)(d6 d7:Option D),env=[some (.ref 0),some (Ai false n bs),some (.int n),some (.lst false (bs.map Ae)),some (Ae b),some (.ref 1),d6,d7]/\S=[some [.int x3,.int y3],some (ns.map .int)]/\ns.length=min i b.length)
    ⟨[],x2,y2,none,none,rfl,rfl,by simp⟩ (λi env S _=>by simp) (λi d env S hd ⟨ns,x3,y3,d6,d7,he,hS,hl⟩=>by
     have hi:=(U0l.mp hd).1;rw[U0i]at hi;rw[U0z]at hd;obtain⟨p,hp,rfl⟩:=U19.mp hd;subst he hS;obtain⟨z,x4,y4,e6⟩:=Jav x3 y3 ns p (some (Ai false n bs)) (some (.int n)) (some (.lst false (bs.map Ae))) (some (Ae b)) (by lia);exact⟨_,by simp[Eb,Iz,Gi,G3,-U0d,-U0b,Bm],_,_,e6,ns++[z],x4,y4,_,_,rfl,rfl,by simp;exact Jac hl hi⟩)
   subst he hS;have l1:Qj [some (.ref 0),some (Ai false n bs),some (.int n),some (.lst false (bs.map Ae)),some (Ae b),some (.ref 1),none,none] [some [.int x2,.int y2],some []]=some (.nx,[some (.ref 0),some (Ai false n bs),some (.int n),some (.lst false (bs.map Ae)),some (Ae b),some (.ref 1),d6,d7],[some [.int x3,.int y3],some (ns.map .int)]):=by unfold Qj;rw[Gg,e4];exact e5
   rw[Bp s2,Bp s3,Bp l1];rw[U0i]at hl;have c2:Qk [some (.ref 0),some (Ai false n bs),some (.int n),some (.lst false (bs.map Ae)),some (Ae b),some (.ref 1),d6,d7] [some [.int x3,.int y3],some (ns.map .int)]=some ((ns.map λz=>mx (-1000000000) (mn 1000000000 z)).map .int,[some [.int x3,.int y3],some (ns.map .int)]):=by
    have e7:Cz (Ab 5) [some (.ref 0),some (Ai false n bs),some (.int n),some (.lst false (bs.map Ae)),some (Ae b),some (.ref 1),d6,d7] [some [.int x3,.int y3],some (ns.map .int)]=some ((ns.map .int,[(1,ns.map .int)]),[some [.int x3,.int y3],some (ns.map .int)]):=by simp[Ak,VS.listOf,Bj,VS.idOf,Ea,-U0d,-U0b]
    unfold Qk Ck;rw[e7,U0d];simp only[U0g];exact IK (by simp) _ _ _ (by lia) λz hz=>⟨_,Eb _ _ _,by simp[Ak,Cr,Bg,Nj,Ay,Al,Dk,Ew,oI,Kh,Fq,HS,RX,RW,U0p,-U0d,-U0b,mx,mn]<;>rfl⟩
   refine⟨ns.map λz=>mx (-1000000000) (mn 1000000000 z),x3,y3,?_,by rw[U0i];lia⟩;simp[CW,Ay,Al,Dk,Cq,Lf,VS.listOf,Bj,intsOf,den,-U0d,-U0b,c2,Ce]
structure Bs(n:Nat)(L:List Bx):Prop where
 box:∀b∈L,b.length=n/\∀p∈b,p.1<p.2/\-1000000000<=p.1/\p.2<=1000000000
 few:L.length<=100000
def Bs.dim{n:Nat}{L:List Bx}(h:Bs n L):∀b∈L,b.length=n:=λb hb=>(h.box b hb).1
def Bs.lt{n:Nat}{L:List Bx}(h:Bs n L):∀b∈L,∀p∈b,p.1<p.2:=λb hb p hp=>((h.box b hb).2 p hp).1
def wL{n:Nat}(h:n<=3):40^n<=64000:=U01 (U3e (by decide) h) (by decide)
def qF{n:Nat}{a b:List Bx}(ga:Good n a)(gb:Good n b)(hm:a.length+b.length<=20){w:Bool->Bool->Bool}(hw:w false false=false):Bs n (Cg w n a b):=by
 refine⟨λc hc=>⟨JD w n a b c hc,λp hp=>?_⟩,?_⟩
 .have:=fM (λx=>-1000000000<=x/\x<=1000000000) hw n a b (λc hc=>(U0x.mp hc).elim (λh=>(ga.box c h).1) λh=>(gb.box c h).1) (λc hc p hp=>by
   have:=(U0x.mp hc).elim (λh=>(ga.box c h).2 p hp) λh=>(gb.box c h).2 p hp;lia) c hc p hp
  lia
 .have:=Np w 40 n a b (by lia);have:=wL ga.n3.2;lia
def ZW{n:Nat}{a:List Bx}(ga:Good n a):Bs n (Bu n a):=by rw[←P_W n a λb hb=>(ga.box b hb).1];exact qF ga ⟨ga.ways,U3 _,λb hb=>by cases hb⟩ (by have:=ga.few;simp;lia) rfl
theorem lO:∀{s:List Int} {b pre:Bx},s.length=b.length->hol pre.length s (pre++b)=Jf b s
 |[],[],_,_=>rfl
 |x::s,p::b,pre,h=>by have e:=lO (s:=s) (b:=b) (pre:=pre++[p]) (by simpa using h);rw[U3o,U0n]at e;show(inS ((pre++p::b).getD pre.length (0,0)) x&&hol (pre.length+1) s (pre++p::b))=(inS p x&&Jf b s);rw[show hol (pre.length+1) s (pre++p::b)=Jf b s from e];congr 2;simp
def lW{n:Nat}{L:List Bx}(hd:∀b∈L,b.length=n){s:List Int}(hs:s.length=n):cnt L s=mu L s:=by unfold cnt mu;congr 1;refine U6e λb hb=>?_;have:=lO (s:=s) (b:=b) (pre:=[]) (by rw[hs,hd b hb]);exact this
def vW{n:Nat}{L:List Bx}(h:Bs n L):(L.map Ez).sum=ss (-1000000000) 2000000000 n λs=>(mu L s:Int):=by rw[←aU (A:=-1000000000) (N:=2000000000) λb hb=>⟨(h.box b hb).1,λp hp=>by have:=(h.box b hb).2 p hp;lia⟩];exact JF λs hs=>by rw[lW h.dim hs]
def tu{n:Nat}{bs:List Bx}(g:Good n bs):((DN bs n 0 (U07 bs.length)).map λc=>Ez c.1).sum=ss (-1000000000) 2000000000 n λs=>p1 (mu bs s):=by
 have a:=tY (A:=-1000000000) (N:=2000000000) p1 rfl (Yb g);have b:csum (λns=>p1 ns.length) (DN bs n 0 (U07 bs.length))=((DN bs n 0 (U07 bs.length)).map λc=>Ez c.1).sum:=by unfold csum;congr 1;refine U7c λc hc=>?_;have:=(Wu g c hc).2.1;show Ez c.1*p1 c.2.length=_;unfold p1;rw[if_neg (by lia),U83]
 rw[←b,a];exact JF λs hs=>by rw[lW (λb hb=>(g.box b hb).1) hs]
def eG{n:Nat}{bs L:List Bx}(g:Good n bs)(h:Bs n L)(hm:∀x:List Int,x.length=n->mu L x=if cov bs x=true then 1 else 0):(L.map Ez).sum=((DN bs n 0 (U07 bs.length)).map λc=>Ez c.1).sum:=by
 rw[vW h,tu g];refine JF λs hs=>?_;rw[hm s hs,lV];unfold p1;by_cases z:mu bs s=0
 .rw[z];rfl
 .rw[if_neg z,if_pos (decide_eq_true (by lia))];rfl
def Wr{n:Nat}{bs:List (List St2)}(g:Good n bs):Gm [Ai false n bs]=some (.int ((DN bs n 0 (U07 bs.length)).map λc=>Ez c.1).sum):=by
 have few:=g.few;have n3:=g.n3;have hl:=S6 (bs:=bs) n 0 (U07 bs.length) (by simpa using few);have hp:40^n<=40^3:=U3e (by decide) n3.2;have h1:=Hu (m:=false) g;have h2:=tZ g;have h3:=cX _ _ (by lia) (Wu g);have s1:(Ge (Am Dc (Aa (Ab 0) Af))) [some (Ai false n bs)] []=some (.nx,[some (Ai false n bs)],[]):=by rw[Fy,Du (ds:=[Ai false n bs]) (es:=[Ai false n bs]) (S':=[]) rfl (by simp[Av,Aw,Ai]) (by simp[Bf,age,Ai]) h1];rfl
 have c2:Am J6 (Aa (Ab 0) Af) [some (Ai false n bs)] []=some (.lst true ((DN bs n 0 (U07 bs.length)).map encC),[]):=
  Du (ds:=[Ai false n bs]) (es:=[Ai false n bs]) (S':=[]) rfl (by simp[Av,Aw,Ai]) (by simp[Bf,age,Ai]) h2
 have c3:Am HN (Aa (Am J6 (Aa (Ab 0) Af)) Af) [some (Ai false n bs)] []=some (.int ((DN bs n 0 (U07 bs.length)).map λc=>Ez c.1).sum,[]):=
  Du (ds:=[.lst true ((DN bs n 0 (U07 bs.length)).map encC)]) (es:=[.lst false ((DN bs n 0 (U07 bs.length)).map encC)]) (S':=[]) (by rw[Al,c2];rfl) (by rw[Av,Aw,Lw,Av];rfl) (by rw[Bf,age,Yw,Bf]) h3
 unfold Gm;rw[Cv];exact`zD;unfold RD;rw[Bp s1,CW,c3];rfl
def Xk{n:Nat}{L:List Bx}(hn:n=1∨n=2∨n=3)(h:Bs n L)(m:Bool):JV [.int n,.lst m (L.map Ae)]=some (.int (L.map Ez).sum):=by
 have few:=h.few;have c:Og [some (.int n),some (.lst m (L.map Ae))] []=some ((L.map Ez).map .int,[]):=by
  have e:Cz (Ab 1) [some (.int n),some (.lst m (L.map Ae))] []=some ((L.map Ae,[]),[]):=by simp[Ak,VS.listOf,Bj,VS.idOf,Ea,-U0d,-U0b]
  have ec:Ew 1 [0] [some (.int n),some (.lst m (L.map Ae))]=[none,some (.int n)]:=rfl;unfold Og Ck;rw[e,ec];simp only[U0g];rw[IK (by simp) Ae (λb=>D.int (Ez b)) L (by lia),U0d]
  .rfl
  .intro b hb;refine⟨[some (Ae b),some (.int n)],by rw[Eb];rfl,?_⟩;have g1:Good n [b]:=⟨hn,by rcases hn with rfl|rfl|rfl<;>(show 1<=_;decide),λc hc=>by rw[U0r.mp hc];exact h.box b hb⟩;have t:Di (Aa (Ab 1) (Aa (Bk (Aa (Ab 0) Af)) Af)) [some (Ae b),some (.int n)] []=some (Ai true n [b],[]):=rfl;have s:=jC g1 (i:=0) rfl;rw[eV]at s;exact call2 t rfl (Jg ..) rfl (Ln ..) rfl s
 have r:eCB VD (Aa (Bk Og) Af) [some (.int n),some (.lst m (L.map Ae))] []=some (.int (L.map Ez).sum,[]):=by rw[Dk,FP (V9 c) Jd,U0g];generalize L.map Ez=l;simp[VS.listOf,-U0d,-U0b,VD]
 exact Om rfl (V8 r) rfl
def Jea(fa:Nat->Addr){n:Nat}{bs L:List Bx}(g:Good n bs)(h:Bs n L)(m:Bool):IW fa [some (Ai false n bs),some (.lst m (L.map Ae))] []=some (L.map (λ_=>D.bl true),[]):=by
 have few:=h.few;have e:Cz (Ab 1) [some (Ai false n bs),some (.lst m (L.map Ae))] []=some ((L.map Ae,[]),[]):=by simp[Ak,VS.listOf,Bj,VS.idOf,Ea,-U0d,-U0b]
 have ec:Ew 1 [0] [some (Ai false n bs),some (.lst m (L.map Ae))]=[none,some (Ai false n bs)]:=rfl;unfold IW Ck;rw[e,ec];simp only[U0g];rw[IK (by simp) Ae (λ_=>D.bl true) L (by lia)];intro b hb;exact⟨[some (Ae b),some (Ai false n bs)],by rw[Eb];rfl,call2 (x:=.int n) rfl rfl rfl (GQ (Fo b)) rfl (Im (Fo b)) (YZ g.ways (h.lt b hb) (h.dim b hb))⟩
def lJ(fa:Nat->Addr){n:Nat}{bs L:List Bx}(g:Good n bs)(h:Bs n L)(hm:∀x:List Int,x.length=n->mu L x=if cov bs x=true then 1 else 0)(m:Bool):Hi fa [Ai false n bs,.lst m (L.map Ae)]=some (.bl true):=by
 have n3:=g.n3;have hP:=ZW g;have s1:Ge (Am Dc (Aa (Ab 0) Af)) [some (Ai false n bs),some (.lst m (L.map Ae))] []=some (.nx,[some (Ai false n bs),some (.lst m (L.map Ae))],[]):=Jfk (Oa rfl (Jg ..) (Ln ..) (Hu g));have t1:VS.tOr (G7 (BX (eCB Jc (Aa (Ab 1) (Aa (eC (.ty "list")) Af))))) (G7 (BX (eCB Il (Aa (Bk (IW fa)) Af)))) [some (Ai false n bs),some (.lst m (L.map Ae))] []=some (false,[]):=by
  have b:G7 (BX (eCB Il (Aa (Bk (IW fa)) Af))) [some (Ai false n bs),some (.lst m (L.map Ae))] []=some (false,[]):=by
   have:eCB Il (Aa (Bk (IW fa)) Af) [some (Ai false n bs),some (.lst m (L.map Ae))] []=some (.bl true,[]):=by rw[Dk,FP (V9 (Jea fa g h m)) Jd,U0g];simp[Il,VS.listOf,Oi]
   rw[MP,tvl this];rfl
  have a:VS.G7 (BX (eCB Jc (Aa (Ab 1) (Aa (eC (.ty "list")) Af)))) [some (Ai false n bs),some (.lst m (L.map Ae))] []=some (false,[]):=by have s:El [] (.lst m (L.map Ae))=some (.list (L.map pB)):=JK [] m L;simp[Ak,Cr,Ay,Al,Dk,DP,MP,-U0d,-U0b,s,isT,XQ]
  rw[K8,a];exact b
 have c1:Am HF (Aa (Ab 1) Af) [some (Ai false n bs),some (.lst m (L.map Ae))] []=some (.dcf (.inr (G9 (L.flatMap sc))),[]):=
  Oa rfl (by rw[Aw,Bv (Az L)]) (by rw[age,Dg (Az L)]) (bQ false L (λb hb=>by rw[h.dim b hb];exact n3.2) h.few)
 have p:Am (DR fa) (Aa (Ab 0) Af) [some (Ai false n bs),some (.lst m (L.map Ae))] []=some (.lst true ((Bu n bs).map Ae),[]):=Oa rfl (Jg ..) (Ln ..) (Od fa g);have c2:Am HF (Aa (Am (DR fa) (Aa (Ab 0) Af)) Af) [some (Ai false n bs),some (.lst m (L.map Ae))] []=some (.dcf (.inr (G9 ((Bu n bs).flatMap sc))),[]):=
  Oa p (by rw[Aw,Bv (Az _)]) (by rw[age,Dg (Az _)]) (bQ false (Bu n bs) (λb hb=>by rw[hP.dim b hb];exact n3.2) hP.few)
 have e:=alike h.dim hP.dim h.lt hP.lt λx hx=>by rw[hm x hx,gW (λb hb=>(g.box b hb).1) hx]
 refine Om rfl (nx s1 (nx (ifN t1) (V8 (op2 c1 c2 (r:=.bl true) ?_)))) rfl;show(if (Lk _&&Lk _)=true then _ else _)=_;rw[Ww,Ww,e];rfl
theorem uK:∀b:Bx,V6 (b.map Bm)=some b
 |[]=>rfl
 |p::b=>by rw[U0j,V6,uK b];rfl
theorem uL:∀l:List Bx,Sg (l.map Ae)=some l
 |[]=>rfl
 |b::l=>by rw[U0j,Sg,uL l];show(V6 (b.map Bm)).bind _=_;rw[uK];rfl
section
variable{n:Nat}{a b:List Bx}
def XS(g:Good n a):∀x∈a,x.length=n:=λx hx=>(g.box x hx).1
def mF(ha:∀x∈a,x.length=n)(hb:∀x∈b,x.length=n)(h:∀x:List Int,cov b x=cov a x):Bu n a=Bu n b:=Pg n a b ha hb λx _=>h x
def Jcx(ha:∀x∈a,x.length=n):Bu n (Bu n a)=Bu n a:=(Pg n a (Bu n a) ha (VN n a) λx hx=>Ml n a ha x hx).symm
def j6{w:Bool->Bool->Bool}(hw:w false false=false)(ha:∀x∈a,x.length=n)(hb:∀x∈b,x.length=n):Cg w n a b=Bu n (Cg w n a b):=JH hw n a b _ ha hb (JD w n a b) λx hx=>ZG hw ha hb hx
def Jcv(ha:∀x∈a,x.length=n):Cg (wB false) n a a=[]:=by rw[JH rfl n a a [] ha ha (λ_ z=>by cases z) λx _=>by cases cov a x<;>rfl,QL]
def Jcu(ha:∀x∈a,x.length=n):Cg (wB true) n a a=Bu n a:=JH rfl n a a a ha ha ha λx _=>by cases cov a x<;>rfl
def Jcw(ha:∀x∈a,x.length=n)(hb:∀x∈b,x.length=n):Cg (wB true) n b a=Cg (wB true) n a b:=by rw[j6 (w:=wB true) (a:=a) (b:=b) rfl ha hb];exact JH rfl n b a _ hb ha (JD _ n a b) λx hx=>by rw[ZG rfl ha hb hx];cases cov a x<;>cases cov b x<;>rfl
def Jbt(ha:∀x∈a,x.length=n)(hb:∀x∈b,x.length=n){x:List Int}(hx:x.length=n):mu (Cg (wB false) n a b++Cg (wB true) n a b) x=if cov a x=true then 1 else 0:=by rw[Zq,ZQ rfl n a b ha hb x hx,ZQ rfl n a b ha hb x hx];cases cov a x<;>cases cov b x<;>rfl
theorem Rh:∀{b:Bx} {s:List Int},s.length=b.length->Hq b s=Jf b s
 |[],[],_=>rfl
 |p::b,x::s,h=>by show(in1 p x&&Hq b s)=(inS p x&&Jf b s);rw[Rh (by simpa using h)];rfl
theorem nU(g:Good n a){s:List Int}(hs:s.length=n):decide (0<((atN a s).length:Int))=cov a s:=by
 rw[U28,decide_eq_true_iff];unfold cov;rw[U5q];constructor
 .intro h;have:0<(atN a s).length:=by lia
  obtain⟨i,hi⟩:=List.exists_mem_of_length_pos this;unfold atN at hi;obtain⟨q,hq,rfl⟩:=U03.mp hi;obtain⟨h1,h2⟩:=U1t.mp hq;have hm:q.1∈a:=(List.mem_zipIdx' h1).2 ▸ U3d _;exact⟨q.1,hm,by rw[←Rh (by rw[hs,XS g _ hm])];exact h2⟩
 .rintro⟨b,hb,h⟩;obtain⟨i,hi⟩:=U26.mp hb;have:=(yW (s:=s) hi).mpr (by rw[Rh (by rw[hs,XS g _ hb])];exact h);have:=U6o this;lia
end
section
variable{n:Nat}{bs:List Bx}(fa:Nat->Addr)
abbrev encL(m:Bool)(L:List Bx):D:=.lst m (L.map Ae)
def Sw(m:Bool)(L:List Bx):Aw (encL m L)=true:=by rw[Aw,Bv (Az L)]
def Vz(m:Bool)(L:List Bx):age (encL m L)=encL false L:=by rw[age,Dg (Az L)]
abbrev oE(n:Nat)(bs:List Bx)(z5 z6 z7:Option D):VS.Env:=[some (.ref 0),some (Ai false n bs),some (.int n),some (encL false bs),some (encL true (Bu n bs)),z5,z6,z7]
abbrev wS(x y:Int):Store:=[some [.int x,.int y]]
def Jcf(g:Good n bs){s:List Int}(hs:s.length=n)(z5 z7:Option D)(S:Store):Ks fa (oE n bs z5 (some (Ce s)) z7) S=some (((Bu n bs).filter λb=>Jf b s).map Ae,S):=by
 have hP:=ZW g;have few:=hP.few;have n3:=g.n3;have e:Cz (Ab 4) (oE n bs z5 (some (Ce s)) z7) S=some (((Bu n bs).map Ae,[]),S):=by simp[Ak,VS.listOf,Bj,VS.idOf,Ea,-U0d,-U0b]
 have ec:Ew 1 [6] (oE n bs z5 (some (Ce s)) z7)=[none,some (Ce s)]:=rfl;unfold Ks Ck;rw[e,ec];simp only[U0g];rw[LQ (by simp) Ae (λb=>Jf b s) Ae _ _ (by simp;lia)]
 .simp
 .intro b hb;have d:=hP.dim b hb;refine⟨[some (Ae b),some (Ce s)],by rw[Eb];rfl,tvl (call2 rfl rfl (GQ (Fo b)) (La s) (Im (Fo b)) (Im (Nt s)) ?_),λ_=>rfl⟩;rw[nu b s (by lia) (by lia),Rh (by lia)]
def Jbp(g:Good n bs)(z5 z6 z7:Option D)(x y:Int):∃z6' z7' x' y',Ku fa (oE n bs z5 z6 z7) (wS x y)=some (.nx,oE n bs z5 z6' z7',wS x' y'):=by
 obtain⟨s,x',y',h1,hs⟩:=vO x y g;have hP:=ZW g;have c1:Bq Jq (Aa (Ab 0) (Aa (Ab 1) Af)) (oE n bs z5 z6 z7) (wS x y)=some (Ce s,wS x' y'):=bh (S':=wS x y) (i:=0) (ns:=[x,y]) (ms:=[x',y']) (FP rfl (FP rfl Jd)) rfl (rest:=[Ai false n bs]) (es:=[Ai false n bs]) (by rw[Av,Jg false n bs];rfl) (by rw[Bf,Ln false n bs,Bf]) h1;have m:=gW (XS g) hs;have cv:=nU g hs;have hl:((Bu n bs).filter λb=>Jf b s).length=if cov bs s=true then 1 else 0:=m
 generalize hF:(Bu n bs).filter (λb=>Jf b s)=F at *
 refine⟨some (Ce s),some (encL true F),x',y',?_⟩;have c2:=Jcf fa g hs z5 z7 (wS x' y');rw[hF]at c2;have t1:BX (eOp oGt (eCB DQ (Aa (Ab 7) Af)) (eC (.int 1))) (oE n bs z5 (some (Ce s)) (some (encL true F))) (wS x' y')=some (false,wS x' y'):=by
  have l:eCB DQ (Aa (Ab 7) Af) (oE n bs z5 (some (Ce s)) (some (encL true F))) (wS x' y')=some (.int F.length,wS x' y'):=by simp[Ak,Ay,Al,Dk,DQ,VS.listOf,Bj,-U0d,-U0b]
  rw[tvl (gtI l rfl),decide_eq_false];rw[hl];split<;>decide
 have q1:eOp (oEq true) (Ab 7) (Bk Af) (oE n bs z5 (some (Ce s)) (some (encL true F))) (wS x' y')=some (.bl (cov bs s),wS x' y'):=by
  refine op2 rfl iT ((Pj true _ true true F []).trans ?_);cases cc:cov bs s with
  |true=>
   rw[cc,if_pos rfl]at hl;cases F with
   |nil=>cases hl
   |cons=>rfl
  |false=>
   rw[cc,if_neg (by simp)]at hl;rw[U1z.mp hl];rfl
 have q2:eOp oGt (Am IV (Aa (Ab 1) (Aa (Ab 6) Af))) (eC (.int 0)) (oE n bs z5 (some (Ce s)) (some (encL true F))) (wS x' y')=some (.bl (cov bs s),wS x' y'):=by rw[←cv];exact gtI (call2 rfl rfl (Jg ..) (La s) (Ln ..) (Im (Nt s)) (cI g hs)) rfl
 have q3:eOp (oEq true) (eOp (oEq true) (Ab 7) (Bk Af)) (eOp oGt (Am IV (Aa (Ab 1) (Aa (Ab 6) Af))) (eC (.int 0))) (oE n bs z5 (some (Ce s)) (some (encL true F))) (wS x' y')=some (.bl false,wS x' y'):=op2 q1 q2 (by cases cov bs s<;>rfl);exact nx (Kf c1) (nx (Kf (V9 c2)) (ifN (no2 t1 (tvl q3))))
theorem Jaw(g:Good n bs){e:Bh}{env:VS.Env}{S:Store}(h:e env S=some (encL true (Bu n bs),S)):T5 e env S=some (encL true (Bu n bs),S):=by
 have few:=(ZW g).few;have n3:=g.n3;have ha:(Bu n bs).all (λb=>!b.isEmpty)=true:=by
  rw[U3k];intro b hb;have:=VN n bs b hb;cases b with
  |nil=>simp at this;lia
  |cons=>rfl
 rw[oY,h,U0g];show((Sg ((Bu n bs).map Ae)).bind _)=_;rw[uL,U0g,if_pos];rw[ha,m9 (YK n bs),decide_eq_true (by rw[U0i];lia)];rfl
end
section
variable{n:Nat}{bs:List Bx}(fa:Nat->Addr)
def neP{e f:Bh}{env:VS.Env}{S:Store}{m m':Bool}{L M:List Bx}(h:L=M)(he:e env S=some (encL m L,S))(hf:f env S=some (encL m' M,S)):BX (eOp (oEq true) e f) env S=some (false,S):=by subst h;exact tvl (op2 he hf ((Pj true S m m' L L).trans (by rw[decide_eq_true rfl];rfl)))
def pgC(g:Good n bs){e:Bh}{env:VS.Env}{S:Store}{m:Bool}(he:e env S=some (Ai m n bs,S)):Am (DR fa) (Aa e Af) env S=some (encL true (Bu n bs),S):=Oa he (Jg ..) (Ln ..) (Od fa g)
def Jbo(g:Good n bs)(x y:Int):∃z5 z6 z7 x' y',Kr fa (oE n bs none none none) (wS x y)=some (.nx,oE n bs z5 z6 z7,wS x' y'):=by
 have e:Fz (Aa (eC (.int 4)) Af) (oE n bs none none none) (wS x y)=some ((upD 0 4,[]),wS x y):=P0 (j:=4) 4 (by simp[Cr,Ay,Al,-U0d,-U0b]) (by decide) (by decide) (by decide);obtain⟨env',S',e2,z5,z6,z7,x',y',he,hS⟩:=Gj (w:=[]) (g:=Pat.sem (.nm 5)) (b:=Ku fa) (ds:=upD 0 4) (env:=oE n bs none none none) (S:=wS x y)
  (λi env S=>∃z5 z6 z7 x' y',env=oE n bs z5 z6 z7/\S=wS x' y') ⟨none,none,none,x,y,rfl,rfl⟩ (λi env S _=>by simp) (λi d env S hd q=>by
   obtain⟨z5,z6,z7,x',y',he,hS⟩:=q;subst he hS;obtain⟨z6',z7',x2,y2,q⟩:=Jbp fa g (some d) z6 z7 x' y';exact⟨_,Eb _ _ _,_,_,q,_,_,_,_,_,rfl,rfl⟩)
 subst he hS;refine⟨z5,z6,z7,x',y',?_⟩;unfold Kr;rw[Gg,e];exact e2
def Jbn(g:Good n bs)(hm:bs.length+1<=[0,20,10,6].getD n 0)(hab:bs.length+bs.length<=20)(x y:Int):∃x' y',Iv fa [x,y] [Ai false n bs]=some (.bl true,[x',y']):=by
 have n3:=g.n3;have d:=XS g;have hP:=ZW g;have few:=g.few;have ways:=g.ways;obtain⟨z5,z6,z7,x',y',hl⟩:=Jbo fa g x y;have i1:eOp (gU true) (Am (Hi fa) (Aa (Ab 1) (Aa (Ab 4) Af))) (eC (.bl true)) (oE n bs none none none) (wS x y)=some (.bl false,wS x y):=
  op2 (call2 rfl rfl (Jg ..) (Sw ..) (Ln ..) (Vz ..) (lJ fa g hP (λs hs=>gW d hs) false)) rfl rfl
 have i2:BX (eOp (oEq true) (Ab 4) (T5 (Ab 4))) (oE n bs none none none) (wS x y)=some (false,wS x y):=neP rfl rfl (Jaw g rfl);have i3:BX (eOp (oEq true) (Am JV (Aa (Ab 2) (Aa (Ab 4) Af))) (Am Gm (Aa (Ab 1) Af))) (oE n bs none none none) (wS x y)=some (false,wS x y):=
  tvl (eqI (call2 rfl rfl rfl (Sw ..) rfl (Vz ..) (Xk ways hP false)) (Oa rfl (Jg ..) (Ln ..) (Wr g)) (eG g hP λs hs=>gW d hs))
 have ln:eCB DQ (Aa (Ab 4) Af) (oE n bs none none none) (wS x y)=some (.int (Bu n bs).length,wS x y):=by simp[Ak,Ay,Al,Dk,DQ,VS.listOf,Bj,-U0d,-U0b]
 have bd:eOp oIx (Bk (Aa (eC (.int 0)) (Aa (eC (.int 21)) (Aa (eC (.int 11)) (Aa (eC (.int 7)) Af))))) (Ab 2) (oE n bs none none none) (wS x y)=some (.int ([0,21,11,7].getD n 0:Nat),wS x y):=by rcases ways with rfl|rfl|rfl<;>rfl
 have i4:VS.Nu (BX (eOp oLt (eCB DQ (Aa (Ab 4) Af)) (eOp oIx (Bk (Aa (eC (.int 0)) (Aa (eC (.int 21)) (Aa (eC (.int 11)) (Aa (eC (.int 7)) Af))))) (Ab 2)))) (BX (eOp (oEq true) (Am (DR fa) (Aa (Di (Aa (Ab 2) (Aa (Ab 4) Af))) Af)) (Ab 4))) (oE n bs none none none) (wS x y)=some (false,wS x y):=by
  have t:=tvl (ltI ln bd);by_cases h:((Bu n bs).length:Int)<([0,21,11,7].getD n 0:Nat)
  .rw[decide_eq_true h]at t;have gP:Good n (Bu n bs):=⟨ways,by rcases ways with rfl|rfl|rfl<;>simp at h ⊢<;>lia,hP.box⟩;exact Jfs t (neP (Jcx d) (pgC fa gP rfl) rfl)
  .rw[decide_eq_false h]at t;exact Jft t
 have gr:Good n bs.reverse:=⟨ways,by rw[U7d];exact g.most,λb hb=>g.box b (List.mem_reverse.mp hb)⟩;have gd:Good n (bs.take 1++bs):=⟨ways,by rw[U0n,U2e];lia,λb hb=>g.box b ((U0x.mp hb).elim U5r id)⟩;have rv:Di (Aa (Ab 2) (Aa (eUn Vy (Ab 3)) Af)) (oE n bs none none none) (wS x y)=some (Ai true n bs.reverse,wS x y):=by
  have:eUn Vy (Ab 3) (oE n bs none none none) (wS x y)=some (encL true bs.reverse,wS x y):=by show some (D.lst true (bs.map Ae).reverse,wS x y)=_;rw[←List.map_reverse]
  exact ZJ (FP rfl (FP this Jd))
 have db:Di (Aa (Ab 2) (Aa (eOp Bo (eSl oSl (Ab 3) FN (FJ (eC (.int 1)))) (Ab 3)) Af)) (oE n bs none none none) (wS x y)=some (Ai true n (bs.take 1++bs),wS x y):=
  ZJ (FP rfl (FP (adL (c:=20) (d:=20) (slT (j:=1) rfl rfl) rfl (xT few) few (by decide)) Jd))
 have e1:Bu n bs.reverse=Bu n bs:=mF (λb hb=>d b (List.mem_reverse.mp hb)) d λs=>by unfold cov;rw[List.any_reverse]
 have e2:Bu n (bs.take 1++bs)=Bu n bs:=mF (λb hb=>d b ((U0x.mp hb).elim U5r id)) d λs=>by
  unfold cov;cases bs with
  |nil=>rfl
  |cons b bs=>
   show _=((b::[])++b::bs).any _;simp
 have w1:Am (Ey fa) (Aa (Ab 1) (Aa (Ab 1) Af)) (oE n bs none none none) (wS x y)=some (encL true (Cg (wB false) n bs bs),wS x y):=Hr rfl rfl (Ro fa g g hab);have w2:Am (Fb fa) (Aa (Ab 1) (Aa (Ab 1) Af)) (oE n bs none none none) (wS x y)=some (encL true (Cg (wB true) n bs bs),wS x y):=Hr rfl rfl (Xw fa g g hab);refine⟨x',y',vm (ns:=[x,y]) (ms:=[x',y']) (S:=[]) (d:=.bl true) rfl (nx (Jfq rfl) (nx (Kf (pgC fa g rfl)) (nx (ifN (no2 (tvl i1) i2)) (nx (ifN i3) (nx (ifN i4) (nx (ifN (no2 (neP e1 (pgC fa gr rv) rfl) (neP e2 (pgC fa gd db) rfl))) (nx (ifN (no2 (neP (m':=true) (M:=[]) (Jcv d) w1 iT) (neP (Jcu d) w2 rfl))) (nx hl (V8 rfl))))))))) rfl⟩
end
section
variable{n:Nat}{a b:List Bx}(fa:Nat->Addr)
def eqNil{e:Bh}{env:VS.Env}{S:Store}{m:Bool}{L:List Bx}(he:e env S=some (encL m L,S)):eOp (oEq false) e (Bk Af) env S=some (.bl (decide (L=[])),S):=op2 he iT ((Pj false S m true L []).trans (by rw[U5m]))
theorem vN(ga:Good n a)(hm:a.length+b.length<=12):(Cg (wB false) n a b).length+(Cg (wB true) n a b).length<=100000:=by have l1:=Np (wB false) 24 n a b (by lia);have l2:=Np (wB true) 24 n a b (by lia);have:24^n<=24^3:=U3e (by decide) ga.n3.2;lia
def Jaq(ga:Good n a)(gb:Good n b)(hm:a.length+b.length<=12):Iu fa [Ai false n a,Ai false n b]=some (.bl true):=by
 have da:=XS ga;have db:=XS gb;have ways:=ga.ways;have hl:=qF (w:=wB false) ga gb (by lia) rfl;have hb:=qF (w:=wB true) ga gb (by lia) rfl;have c1:=Ro fa ga gb (by lia);have c2:=Xw fa ga gb (by lia);have c3:=Xw fa gb ga (by lia);have c4:=Ro fa gb ga (by lia);have c5:=tX fa ga gb;rw[Jcw da db]at c3;have m2:=λx hx=>Jbt (x:=x) da db hx;have sm:Bu n a=Bu n b↔Cg (wB false) n a b=[]/\Cg (wB false) n b a=[]:=by
  have q:=same_iff (k:=n) (a:=a) (b:=b) (d:=Cg (wB false) n a b) (e:=Cg (wB false) n b a) da db (JD _ n a b) (JD _ n b a) (λx hx=>by rw[ZG rfl da db hx];cases cov a x<;>cases cov b x<;>rfl) λx hx=>by rw[ZG rfl db da hx];cases cov a x<;>cases cov b x<;>rfl
  rw[←j6 rfl da db,←j6 rfl db da]at q;exact q
 generalize hL:Cg (wB false) n a b=L at *
 generalize hB:Cg (wB true) n a b=B at *
 generalize hM:Cg (wB false) n b a=M at *
 have hLB:Bs n (L++B):=⟨λc hc=>(U0x.mp hc).elim (hl.box c) (hb.box c),by
  have f:=vN ga hm;rw[hL,hB]at f;rw[U0n];exact f⟩
 have E3:∀z4,eOp Bo (Ab 2) (Ab 3) [some (Ai false n a),some (Ai false n b),some (encL true L),some (encL true B),z4] []=some (encL true (L++B),[]):=λ_=>adL (c:=100000) (d:=100000) rfl rfl hl.few hb.few (by decide);have t1:VS.tOr (VS.G7 (BX (Am (Hi fa) (Aa (Ab 0) (Aa (eOp Bo (Ab 2) (Ab 3)) Af))))) (BX (eOp (oEq true) (Am (Fb fa) (Aa (Ab 1) (Aa (Ab 0) Af))) (Ab 3))) [some (Ai false n a),some (Ai false n b),some (encL true L),some (encL true B),none] []=some (false,[]):=
  no2 (pQ (tvl (call2 rfl (E3 none) (Jg ..) (Sw ..) (Ln ..) (Vz ..) (lJ fa ga hLB m2 false)))) (neP rfl (Hr rfl rfl c3) rfl)
 have t2:BX (eOp (oEq true) (Am (Ij fa) (Aa (Ab 0) (Aa (Ab 1) Af))) (VS.Nv (eOp (oEq false) (Ab 2) (Bk Af)) (eOp (oEq false) (Ab 4) (Bk Af)))) [some (Ai false n a),some (Ai false n b),some (encL true L),some (encL true B),some (encL true M)] []=some (false,[]):=by
  have q1:eOp (oEq false) (Ab 2) (Bk Af) [some (Ai false n a),some (Ai false n b),some (encL true L),some (encL true B),some (encL true M)] []=some (.bl (decide (L=[])),[]):=eqNil rfl;have q2:eOp (oEq false) (Ab 4) (Bk Af) [some (Ai false n a),some (Ai false n b),some (encL true L),some (encL true B),some (encL true M)] []=some (.bl (decide (M=[])),[]):=eqNil rfl;have q3:VS.Nv (eOp (oEq false) (Ab 2) (Bk Af)) (eOp (oEq false) (Ab 4) (Bk Af)) [some (Ai false n a),some (Ai false n b),some (encL true L),some (encL true B),some (encL true M)] []=some (.bl (decide (Bu n a=Bu n b)),[]):=by
   by_cases z:L=[]
   .rw[decide_eq_true z]at q1;rw[Jfr q1 q2];congr 3;exact decide_eq_decide.mpr ⟨λh=>sm.mpr ⟨z,h⟩,λh=>(sm.mp h).2⟩
   .rw[decide_eq_false z]at q1;rw[R7,q1,decide_eq_false λh=>z (sm.mp h).1];rfl
  exact tvl (op2 (Hr rfl rfl c5) q3 (by cases decide (Bu n a=Bu n b)<;>rfl))
 have sL:=Xk ways hl false;have sB:=Xk ways hb false;have tot:=eG ga hLB m2;rw[U2a,List.sum_append]at tot;refine Om rfl (nx (Kf (Hr rfl rfl c1)) (nx (Kf (Hr rfl rfl c2)) (nx (ifN t1) (nx (Kf (Hr rfl rfl c4)) (nx (ifN t2) (V8 (eqI (neg:=false) (op2 (call2 (x:=.int n) rfl rfl rfl (Sw ..) rfl (Vz ..) sL) (call2 (x:=.int n) rfl rfl rfl (Sw ..) rfl (Vz ..) sB) rfl) (Oa rfl (Jg ..) (Ln ..) (Wr ga)) tot))))))) rfl
end
section
variable(fa:Nat->Addr){S:Store}{env:VS.Env}
abbrev wQ(S:Store)(x y:Int):Store:=S++[some [.int x,.int y]]
def j4{sem:Li}{a:CQ}{rest es:List D}{x y x' y':Int}{r:D}(h:a env (wQ S x y)=some (.ref S.length::rest,wQ S x y))(hp:Av rest=true)(ha:Bf rest=es)(hr:sem [x,y] es=some (r,[x',y'])):Bq sem a env (wQ S x y)=some (r,wQ S x' y'):=by have q:=bh (sem:=sem) (a:=a) (env:=env) (S:=wQ S x y) (S':=wQ S x y) (i:=S.length) (rest:=rest) (es:=es) (ns:=[x,y]) (ms:=[x',y']) (r:=r) h (Jfm S _ []) hp ha hr;rw[q];show some (r,(S++some [D.int x,D.int y]::[]).set S.length _)=_;rw[Je7];rfl
def gO{i:Nat}{d:D}(h:env[i]?=some (some d)):Ab i env S=some (d,S):=by simp[Ak,h]
theorem um{x y:Int}(m:Nat)(h0:0<m)(h1:m<=1000)(h2:env[2]?=some (some (.ref S.length))):∃(j:Nat)(x' y':Int),Bq Ar (Aa (Ab 2) (Aa (eC (.int m)) Af)) env (wQ S x y)=some (.int j,wQ S x' y')/\j<m:=by obtain⟨r,x',y',e,r0,r1⟩:=Eu x y m (by lia) (Int.lt_of_le_of_lt (show(m:Int)<=1000 by lia) (by decide));obtain⟨j,rfl⟩:=Int.eq_ofNat_of_zero_le r0;exact⟨j,x',y',j4 (rest:=[.int m]) (FP (gO h2) (FP rfl Jd)) rfl rfl e,by lia⟩
def most(n:Nat):Nat:=[0,6,6,3].getD n 0
theorem uh{x y:Int}{n:Nat}(hn:n=1∨n=2∨n=3)(h2:env[2]?=some (some (.ref S.length)))(h3:env[3]?=some (some (.int n)))(h4:env[4]?=some (some (.int (most n)))):∃(bs:List Bx)(x' y':Int),Bq Hs (Aa (Ab 2) (Aa (Ab 3) (Aa (Ab 4) Af))) env (wQ S x y)=some (Ai true n bs,wQ S x' y')/\bs.length<=most n/\Good n bs:=by
 have mm:most n<=6/\most n+1<=[0,20,10,6].getD n 0:=by rcases hn with rfl|rfl|rfl<;>decide
 obtain⟨bs,x',y',e,hl,hb⟩:=yC x y n (most n) (by lia) (by lia) (by lia);exact⟨bs,x',y',j4 (rest:=[.int n,.int (most n)]) (FP (gO h2) (FP (gO h3) (FP (gO h4) Jd))) rfl rfl e,hl,hn,by lia,λb q=>⟨(hb b q).len,(hb b q).all⟩⟩
theorem turn(ns:List Int)(c:Int)(z2 z3 z4 z5 z6:Option D)(S:Store):∃S' w2 w3 w4 w5 w6,Zu fa [some (.scr ns),some (.int c),z2,z3,z4,z5,z6] S=some (.nx,[some (.scr ns),some (.int c),w2,w3,w4,w5,w6],S'):=by
 obtain⟨x,y,hw⟩:=vB c;have s2:Ci 2 (T4 Jp (Aa (Ab 1) Af)) [some (.scr ns),some (.int c),z2,z3,z4,z5,z6] S=some (.nx,[some (.scr ns),some (.int c),some (.ref S.length),z3,z4,z5,z6],wQ S x y):=
  Kf (qW (Oa rfl rfl rfl hw) rfl)
 obtain⟨j,x1,y1,d1,hj⟩:=um (S:=S) (x:=x) (y:=y) (env:=[some (.scr ns),some (.int c),some (.ref S.length),z3,z4,z5,z6]) 3 (by decide) (by decide) rfl;obtain⟨n,hn,nw⟩:∃n:Nat,n=1+j/\(n=1∨n=2∨n=3):=⟨1+j,rfl,by lia⟩;have s3:Ci 3 (eOp Bo (eC (.int 1)) (Bq Ar (Aa (Ab 2) (Aa (eC (.int 3)) Af)))) [some (.scr ns),some (.int c),some (.ref S.length),z3,z4,z5,z6] (wQ S x y)=some (.nx,[some (.scr ns),some (.int c),some (.ref S.length),some (.int n),z4,z5,z6],wQ S x1 y1):=
  Kf (op2 rfl d1 (by rw[hn];exact congrArg (λi:Int=>some (D.int i)) (by lia)))
 have s4:Ci 4 (eOp oIx (Bk (Aa (eC (.int 0)) (Aa (eC (.int 6)) (Aa (eC (.int 6)) (Aa (eC (.int 3)) Af))))) (Ab 3)) [some (.scr ns),some (.int c),some (.ref S.length),some (.int n),z4,z5,z6] (wQ S x1 y1)=some (.nx,[some (.scr ns),some (.int c),some (.ref S.length),some (.int n),some (.int (most n)),z5,z6],wQ S x1 y1):=
  Kf (by rcases nw with h|h|h<;>(rw[h];rfl))
 obtain⟨bs,x2,y2,e5,l5,g5⟩:=uh (S:=S) (x:=x1) (y:=y1) (env:=[some (.scr ns),some (.int c),some (.ref S.length),some (.int n),some (.int (most n)),z5,z6]) nw rfl rfl rfl;obtain⟨bs2,x3,y3,e6,l6,g6⟩:=uh (S:=S) (x:=x2) (y:=y2) (env:=[some (.scr ns),some (.int c),some (.ref S.length),some (.int n),some (.int (most n)),some (Ai true n bs),z6]) nw rfl rfl rfl;obtain⟨k,x4,y4,d4,hk⟩:=um (S:=S) (x:=x3) (y:=y3) (env:=[some (.scr ns),some (.int c),some (.ref S.length),some (.int n),some (.int (most n)),some (Ai true n bs),z6]) 2 (by decide) (by decide) rfl;have mm:most n<=6/\most n+1<=[0,20,10,6].getD n 0:=by rcases nw with rfl|rfl|rfl<;>decide
 have tl:∀T:Store,Di (Aa (Ab 3) (Aa (eSl oSl (eOp oIx (Ab 5) (eC (.int 1))) (FJ (eC (.int 1))) FN) Af)) [some (.scr ns),some (.int c),some (.ref S.length),some (.int n),some (.int (most n)),some (Ai true n bs),z6] T=some (Ai true n (bs.drop 1),T):=λT=>
  ZJ (FP rfl (FP (slF (j:=1) rfl rfl) Jd))
 obtain⟨o,ho,lo,go⟩:∃o:List Bx,atI [Ai true n bs2,Ai true n (bs.drop 1)] (k:Int)=some (Ai true n o)/\o.length<=most n/\Good n o:=by
  have:k=0∨k=1:=by lia
  rcases this with rfl|rfl
  .exact⟨bs2,rfl,l6,g6⟩
  .exact⟨bs.drop 1,rfl,by rw[U4b];lia,g5.ways,by rw[U4b];have:=g5.most;lia,λb hb=>g5.box b (List.mem_of_mem_drop hb)⟩
 have s6:Ci 6 (eOp oIx (Bk (Aa (Bq Hs (Aa (Ab 2) (Aa (Ab 3) (Aa (Ab 4) Af)))) (Aa (Di (Aa (Ab 3) (Aa (eSl oSl (eOp oIx (Ab 5) (eC (.int 1))) (FJ (eC (.int 1))) FN) Af))) Af))) (Bq Ar (Aa (Ab 2) (Aa (eC (.int 2)) Af)))) [some (.scr ns),some (.int c),some (.ref S.length),some (.int n),some (.int (most n)),some (Ai true n bs),z6] (wQ S x2 y2)=some (.nx,[some (.scr ns),some (.int c),some (.ref S.length),some (.int n),some (.int (most n)),some (Ai true n bs),some (Ai true n o)],wQ S x4 y4):=
  Kf (op2 (V9 (FP e6 (FP (tl _) Jd))) d4 ho)
 obtain⟨x5,y5,w5⟩:=Jbn fa g5 (by lia) (by lia) x4 y4;have w6:=Jaq fa g5 go (by lia);have t7:VS.tOr (VS.G7 (BX (Bq (Iv fa) (Aa (Ab 2) (Aa (Ab 5) Af))))) (VS.G7 (BX (Am (Iu fa) (Aa (Ab 5) (Aa (Ab 6) Af))))) [some (.scr ns),some (.int c),some (.ref S.length),some (.int n),some (.int (most n)),some (Ai true n bs),some (Ai true n o)] (wQ S x4 y4)=some (false,wQ S x5 y5):=
  no2 (pQ (tvl (j4 (rest:=[Ai true n bs]) (es:=[Ai false n bs]) rfl (by rw[Av,Jg true n bs];rfl) (by rw[Bf,Ln true n bs,Bf]) w5))) (pQ (tvl (Hr rfl rfl w6)))
 exact⟨_,_,_,_,_,_,nx s2 (nx s3 (nx s4 (nx (Kf e5) (nx s6 (ifN t7)))))⟩
theorem rQ:∀ns:List Int,ns.length<=63->eY fa [.scr ns]=some (.bl true):=by
 intro ns hns;obtain⟨l,e⟩:∃l:List Int,Cz (eOp Bo (Bk (Aa (eC (.int 0)) (Aa (eC (.int 5)) Af))) (eSl oSl (Ab 0) FN (FJ (eC (.int 6))))) [some (.scr ns),none,none,none,none,none,none] []=some ((l.map .int,[]),[]):=by
  obtain⟨cs,hc,hl⟩:∃cs:List Int,cut (ns.map D.int) none (some 6)=cs.map D.int/\cs.length<=63:=by unfold cut;rw[←U7y,←U7x];exact⟨_,rfl,by rw[U2e,U4b];lia⟩
  refine⟨[0,5]++cs,?_⟩;have a1:eSl oSl (Ab 0) FN (FJ (eC (.int 6))) [some (.scr ns),none,none,none,none,none,none] []=some (.lst true (cs.map .int),[]):=by show(some (D.lst true (cut (ns.map D.int) none (some 6)),([]:Store)):Option (D×Store))=_;rw[hc]
  rw[Ea,adL (enc:=D.int) (k:=[0,5]) (m:=true) (c:=2) (d:=63) rfl a1 (U0o 2) hl (by decide)];rfl
 obtain⟨env',S',r,_⟩:=Gj (w:=[]) (g:=Pat.sem (.nm 1)) (b:=Zu fa) (ds:=l.map .int) (env:=[some (.scr ns),none,none,none,none,none,none]) (S:=[])
   (λ_ env S=>∃y1 y2 y3 y4 y5 y6,env=[some (.scr ns),y1,y2,y3,y4,y5,y6]) ⟨_,_,_,_,_,_,rfl⟩ (λ_ _ _ _=>by simp) (λj d env S hd q=>by
    obtain⟨y1,y2,y3,y4,y5,y6,rfl⟩:=q;rw[U0z]at hd;obtain⟨c,hc,rfl⟩:=U19.mp hd;obtain⟨S',w2,w3,w4,w5,w6,e3⟩:=turn fa ns c y2 y3 y4 y5 y6 S;exact⟨_,Eb _ _ _,_,_,e3,_,_,_,_,_,_,rfl⟩)
 have l1:Zt fa [some (.scr ns),none,none,none,none,none,none] []=some (.nx,env',S'):=by unfold Zt;rw[Gg,e];exact r
 exact Om rfl (nx l1 (V8 rfl)) (by rw[den])
end
end W42
end
section
namespace W42
open PySem PySem.Spec L2 VS
def tops{l:U60}{w:World}{K:U0e}{h:Heap}{mg:Str->Option Value}{fl:Addr}{fs:List Addr}(X:K.In h)(G:h.Ns mainGlobals mg)(hfa:mg "law"=some (.ref fl))(dd:DAs top K pq fs)(z:Zs K (Vn++zsL)){dM:Addr}{ep:Nat}{h1 h2 h3:Int}{t1 t2 t3 u1 u2 u3:Tok}(aM:U8b K mainGlobals "MOST_BOXES"=some (some (.ref dM)))(hM:(dM==sysModules)=false)(lM:K.lookup dM=some { cls:=.type "dict",data:=.dict #[⟨h1,.int 1 t1,.int 20 u1⟩,⟨h2,.int 2 t2,.int 10 u2⟩,⟨h3,.int 3 t3,.int 6 u3⟩] ep })(e1:h1=hashInt 1)(e2:h2=hashInt 2)(e3:h3=hashInt 3):∃fd:FuncData,(∀(s:Shared)(v:Value),BindsTo s fd ⟨[v],[]⟩ [("script",v)])/\∀base:Heap,K.In base->base.Ns mainGlobals mg->Hj l.prog w K mg base CX0 10 fl fd ["script"] (W0 K):=by have zz:=z.no X G;have t0:Tp top K mg pq zsL:=⟨⟨h,X,G⟩,⟨fs,dd⟩,λx hx=>zz x (U10 _ hx),λx hx=>zz x (U04 _ hx)⟩;obtain⟨f,d⟩:=dd.get (i:=44) (x:="law") (j:=58) rfl;have e:=hfa.symm.trans (U6q X G d.ns);cases e;obtain⟨fd,F⟩:=d.ex;obtain⟨a0,v0⟩:=t0.is (x:="by_first") (j:=31) 20 rfl;obtain⟨a1,v1⟩:=t0.is (x:="by_first_alone") (j:=32) 21 rfl;obtain⟨a2,v2⟩:=t0.is (x:="by_both") (j:=33) 22 rfl;obtain⟨fT,hT⟩:∃fT:Nat->Addr,fT=λn=>[a0,a1,a2].getD n 0:=⟨_,rfl⟩;have t:To K mg fT l.prog w:={ toTp:=t0,m_MOST_BOXES:=⟨_,U6q X G aM,Je0 hM lM e1 e2 e3 (by decide)⟩,v_by_first:=by rw[hT];exact v0,v_by_first_alone:=by rw[hT];exact v1,v_by_both:=by rw[hT];exact v2 };exact⟨fd,λs v=>by obtain⟨_,_,_,_,_,_,_,_,_,rfl,_⟩:=F.ex;exact .of_eq rfl,λbase _ _=>(Jbq t F).imp (Jbz (rQ fT))⟩
def walk{l:U60}{q:Program}{loose:List Str}{XP:(Str->Option Value)->Heap->Prop}{YP:World->Heap->Prop}{d:DefRec}{K:Params->U0e}(hn:l.most=some 63)(hdf:d.params.defaults=[])
  (hY:∀(w:World)(h:Heap),YP w h->(K w.params).In h)
  (F:∀(w:World)(mg:Str->Option Value)(fa:Addr)(h:Heap),(K w.params).In h->h.Ns mainGlobals mg->mg d.name=some (.ref fa) ->
   ∃fd:FuncData,(∀(s:Shared)(u:Value),BindsTo s fd ⟨[u],[]⟩ [("script",u)])/\∀base:Heap,(K w.params).In base->base.Ns mainGlobals mg->Hj l.prog w (K w.params) mg base CX0 10 fa fd ["script"] (W0 (K w.params))) :
  U8t q loose XP YP l.row.toRowW d [] (λf vs=>U8s f vs):=
 L2.qN (n:=63) (k:=10) (x:="script") (CX:=CX0) (sp:=W0) hn (by decide) hdf ⟨rfl,by decide,by decide,rfl⟩ hY F (λ_ _ a ns hl hO hS=>⟨a,ns,rfl,hO,hl,hS,λ_=>rfl⟩) λ_ _ _ _ z=>z
end W42
open PySem PySem.W PyProof.Rows
set_option maxRecDepth 100000 in
set_option maxHeartbeats 0 in
theorem PySem.Challenge.cw_boxcover_k42_whole_parts_holds : PySem.Challenge.rw_boxcover_k42_whole_parts.Holds := by
 w_on;o_law;k_head;(case hw=>w_witness2);k_fill;refine W42.walk (l := PySem.Challenge.rw_boxcover_k42_whole_parts) rfl rfl (fun w h Y => PySem.W.kIn_of Y) ?F
 case F=>
  intro w mg fa h KX G hmg;refine' W42.tops (fs:=[_,_,_,_,_,_,_,_,_,_,_,_,_,_,_,_,_,_,_,_,_,_,_,_,_,_,_,_,_,_,_,_,_,_,_,_,_,_,_,_,_,_,_,_,_]) KX G hmg ⟨(.of ?_ ?_ ?_ ?_),(.of ?_ ?_ ?_ ?_),(.of ?_ ?_ ?_ ?_),(.of ?_ ?_ ?_ ?_),(.of ?_ ?_ ?_ ?_),(.of ?_ ?_ ?_ ?_),(.of ?_ ?_ ?_ ?_),(.of ?_ ?_ ?_ ?_),(.of ?_ ?_ ?_ ?_),(.of ?_ ?_ ?_ ?_),(.of ?_ ?_ ?_ ?_),(.of ?_ ?_ ?_ ?_),(.of ?_ ?_ ?_ ?_),(.of ?_ ?_ ?_ ?_),(.of ?_ ?_ ?_ ?_),(.of ?_ ?_ ?_ ?_),(.of ?_ ?_ ?_ ?_),(.of ?_ ?_ ?_ ?_),(.of ?_ ?_ ?_ ?_),(.of ?_ ?_ ?_ ?_),(.of ?_ ?_ ?_ ?_),(.of ?_ ?_ ?_ ?_),(.of ?_ ?_ ?_ ?_),(.of ?_ ?_ ?_ ?_),(.of ?_ ?_ ?_ ?_),(.of ?_ ?_ ?_ ?_),(.of ?_ ?_ ?_ ?_),(.of ?_ ?_ ?_ ?_),(.of ?_ ?_ ?_ ?_),(.of ?_ ?_ ?_ ?_),(.of ?_ ?_ ?_ ?_),(.of ?_ ?_ ?_ ?_),(.of ?_ ?_ ?_ ?_),(.of ?_ ?_ ?_ ?_),(.of ?_ ?_ ?_ ?_),(.of ?_ ?_ ?_ ?_),(.of ?_ ?_ ?_ ?_),(.of ?_ ?_ ?_ ?_),(.of ?_ ?_ ?_ ?_),(.of ?_ ?_ ?_ ?_),(.of ?_ ?_ ?_ ?_),(.of ?_ ?_ ?_ ?_),(.of ?_ ?_ ?_ ?_),(.of ?_ ?_ ?_ ?_),(.of ?_ ?_ ?_ ?_),trivial⟩ ⟨?_,?_,?_,?_,?_,?_,?_,?_,?_,?_,?_,?_,?_,?_,?_,?_,?_,?_,?_,trivial⟩ ?_ ?_ ?_ ?_ ?_ ?_
  all_goals try first|k_is|rfl
end
