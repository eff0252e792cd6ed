import PyProof.Rows.All
import Wide.All
import OpenK.AllK
import Wide.FinOn
import Lean
import PyProof.EqAt
import PyProof.EqKinds
import PyProof.TupleCall
import KE.KDictSum
import PyProof.AttrMissHeap
import PyProof.WalksMore
import KE.LcSums
import PyProof.AutoListH
import PyProof.ListMulRoad
import KE.KSortTup
import PyProof.ZipIter
import PyProof.Draws
import PyProof.EnumFor
import PyProof.ReprRoads
import PyProof.ListRange
import PyProof.ListNew
import PySem.Challenge.RW_leastrecord_k30_stuck_hands
open Option renaming some->fv,none->Rv,getD_some->Sk,map_eq_some_iff->Uc,map_some->Ut,isSome_iff_exists->Vr,isSome_map->WJ,isSome_some->YF,getD_none->Zg
open PySem renaming wpAny_bind->Ru,Value->RA,Shared->RD,sizeLine->RF,wpAny_pure->RG,Addr->RQ,wpAny->RX,model->R4,compareOp->R9,mainGlobals->Sg,wpAny_mono->Sq,starEach->Ss,Program->Sv,Expr->Sy,foldedSetIterable->SD,World->SQ,Paired->SW,assignEach->S3,Heap->S6,bootBuiltins->Ta,binaryOp->Td,sysModules->Te,wpAny_field->Tf,wpAny_newObj_type->Tg,Around->Ti,behindInMarks->Tj,wpAny_ite_split->Tr,wpAny_callSpecial?_slot->Tu,eval->Tw,wpAny_holding->Tx,wpAny_truthy_bool->TC,wpAny_call_entry->TQ,call_meets->TR,wpAny_pyIter_tuple->TV,attributeBase->TX,wpAny_seqItems->T1,compEnvC->T9,wpAny_setField_rec->Uj,PyData->Uo,wpAny_passesOwn->Ur,mem_of_lookup->UE,tupleKind_room_in1->UN,bindArgs->UR,swapsWith->UX,cellsFrom->UY,wpAny_load->U8,wpAny_typeOf->Vd,cLine->Vp,FuncData->Vq,wpAny_execs_nil->Vv,Builtin->Vw,backTo->VT,wpAny_newList->VY,wpAny_onRaise->VZ,NameKind->V1,wpAny_updateSeq_pair->V4,assign->V7,codeAny_builtin->Wa,getItem->We,wpAny_Call_Name_kw->Wn,PlainAttrs->Wr,wpAny_binaryOp_repeat_ref->Wy,Scope->WA,holding->WC,subscripted->WG,sliceBounds->WH,swapsWithSole->WN,swappedStores->WO,wpAny_comprehension_free->WT,IsPair->WX,tupleKind->W4,Stmt->W5,PassesOwn->W6,noFill_tuple_add->W8,pushCells->Xc,BindsTo->Xp,codeAny->Xq,IsPart->Xr,typeIs_int->Xu,wpAny_Call_method_late->Xv,valueAt->Xx,wpAny_rule->XA,letOwnedTupleGo->XI,wpAny_specialOf->XM,pushCells_keeps->XN,wpAny_isTrue_Compare1->XS,wpAny_notOrdered_dict->XW,wpAny_letTemporaryGo->X3,newFunctionEnv->X4,field->Yd,Keyword->Yi,callerA->Yj,wpAny_standAt->Yt,seq_tuple_add->Yu,typeIs_str->YD,wpAny_assign_Name->YM,codeAny_mono->YQ,concat_meets->YS,wpAny_sequenceKey->YT,seqIndex_neg->YU,slot_list_getitem->YV,wpAny_pyIter_list->Y3,ZipApart->Y6,wpAny_pyIter_enum->Y7,isTrue->Y8,wpAny_execs_cons->Y9,pyNext->Za,pyIter->Zb,seqIndex?->Zf,wpAny_getItem_of->Zh,kt_code_dict_new->Zi,seqSlot_of->Zk,wpAny_isInstance->Zn,wpAny_pyIter_zip->Zp,seqIndex_of->Zu,keywordEach->Zv,atKey->Zw,Meets->Zy,wpAny_letGo->ZA,wpAny_operating->ZE,standAt->ZO,builtinsNs->ZS,wpAny_Name->ZT,rawInt->ZU,typeLookup->ZY,typeOf->Z0,call->Z2,checkCount->Z4,Within->aae
open PySem.W renaming Frag->Rx,fnOf->S4,kia_one->S9,nsIn->To,mg_of->Tp,emptyDict->TH,instObj->Up,keepIn->UH,kas_sort->UU,findIn->VI,cellsFrom_some->VJ,OpenLaw->V3,kia_tup->Wh,kitOne->Wm,kitx_list->WQ,kitx_dict->WR,codeIn->Xw,lookIn->X2,kitAny->Yc,specialIn->YO,plainGet->Zc,WalkO->ZQ,kitx_float->ZV,kitx_tuple->ZW,isFn->aag
open PySem.Heap renaming get?_push_of_some->Ry,lt_size->RI,get?_push_size->RO,size_push->SK,push->Tv,get?_none_of_le->TY,get?_push_ne->VN,size_update->Xh,SameBut->Xo,get?_update_other->Xt,get?_update_self->XT,get?_update_ne->Yo
open List renaming replicate->Rz,length_map->RB,getElem?_eq_some_iff->RC,getElem?_eq_getElem->RH,range->RJ,map_cons->RL,mem_of_getElem?->RN,getElem?_map->RP,mem_cons_of_mem->RS,mem_cons_self->RU,mem_cons->RW,length_cons->R3,size_toArray->R6,mem_append_right->R7,getD_eq_getElem?_getD->R8,getElem?_append_right->Sa,length_append->Sd,mem_map->Se,mem_range->Sf,forall_mem_cons->Sl,getElem?_append_left->So,mem_singleton->Sr,length_set->Su,filter_cons_of_pos->Sw,not_mem_nil->Sz,length_range->SH,filter_cons_of_neg->SO,append_assoc->SR,mem_or_eq_of_mem_set->SV,map_nil->SX,nil_append->SY,getElem?_replicate->S7,getElem?_cons_succ->S8,map_map->Tc,append_nil->Tq,length_take->Tt,any_cons->Tz,getElem?_set_self->TB,mem_filter->TL,map_append->TM,getElem?_set_ne->TZ,getElem?_set->T6,getElem?_range->Ua,drop_eq_nil_of_le->Ud,lookup_cons->Uh,cons_append->Ui,length_replicate->Uk,eq_replicate_iff->Ul,mem_append->Uq,nodup_cons->Us,length_nil->Uu,filterMap_cons_none->UC,filterMap_cons_some->UD,pairwise_mergeSort->UI,take_of_length_le->UO,forIn_cons->UT,all_cons->UZ,reverse_cons->U2,getElem?_inj->U4,idxOf_lt_length_of_mem->U5,mem_append_left->U7,range_eq_range'->U9,getElem_mem->Ve,drop_eq_getElem_cons->Vh,getElem?_eq_none_iff->Vi,mem_of_find?_eq_some->Vj,map_congr_left->Vm,mergeSort_perm->Vn,set_cons_succ->VA,getElem?_take->VB,length_eq_zero_iff->VG,pairwise_map->VM,length_singleton->VP,sum_cons->V0,eq_nil_of_length_eq_zero->V5,range'->V6,filterMap_cons->Wb,filter_sublist->Wc,pairwise_cons->Wu,any_eq_false->WD,nodup_append->WL,eq_of_mem_replicate->W3,all_eq_true->Xe,pairwise_singleton->Xi,range'_succ->Xm,any_eq_true->Xn,filterMap_eq_map'->XG,of_mem_zip->XJ,find?_some->XR,length_filter_le->XY,drop_zero->X8,set_append_left->Yg,mem_iff_getElem->Yh,replicate_succ->Yn,length_pos_iff->Yr,mem_filterMap->YB,getElem_idxOf->YJ,take_sublist->YR,length_drop->Ze,take_length->Zo,ext_getElem->Zq,length_tail->Zr,find?_cons->ZH,headD_cons->ZK,range_succ->ZL,range_zero->ZM,foldl->Z1,map_take->aad,map->aak
open Nat renaming le_refl->RE,lt_of_lt_of_le->RM,ne_of_lt->R1,le_trans->R5,zero_le->Si,lt_irrefl->Sn,ne_of_gt->Ub,lt_or_ge->Ug,le_of_lt->Uv,lt_succ_of_lt->Uw,le_succ_of_le->Ux,not_lt_zero->Vx,lt_succ_self->VU,min_eq_right->VW,lt_trans->Wf,lt_of_le_of_lt->Ws,lt_of_lt_of_eq->Wt,le_succ->WI,min_le_right->W9,succ_le_succ->Xa,add_sub_cancel_left->Xk,le_total->XB,lt_of_succ_lt_succ->XE,mul_succ->XH,min_eq_left->XQ,ble->Yk,not_lt->YG,mul_comm->YW,lt_succ_of_le->YX,sub_zero->Y2
open Bool renaming and_eq_true->RT,false_ne_true->RY,not_eq_true'->Th,false_eq_true->TU,and_self->U0,eq_iff_iff->V8,or_eq_true->V9,not_true->W2,and_eq_false_iff->XZ,and_eq_true_iff->X6,not_false->Yb,false_and->Z3,and_true->aab
open PySem.Str renaming ofString->RZ,ofString_eq_toList->XD
open PySem.Value renaming ref->R0,none->Uy,type->U6,int->Vc,str->VS,bool->Wj,float->Zt,isStrOf->aaa
open PySem.PyData renaming keyHash->Sb,canLayAll0->SF,depthAll->SN,eqv->TK,depth->UQ,canLay0->Va,list->Vb,leavesShort->VC,strOk->VO,leavesShortAll->VR,tuple->Wi,int->Ww,showableAll->Wx,hasDictAll->WM,shown_fits_bulk->XF,bulkAll->Yf,bulk->ZC,showable->ZJ,eqvAll->aac,none->aal
open Int renaming toNat_natCast->Sj,zero_add->UP,emod_nonneg->UW,toNat->VF,eq_ofNat_of_zero_le->Xl,emod_lt_of_pos->YL
open Option.some renaming inj->Sx,injEq->U3
open PyProof.Rows renaming slot_tuple_getitem->SJ,callWith_type1->S5,seqObj->Vl,StrsAre->Wg,envOfC->Wo,AllBare->WB,sortedS->WK,listUpdate_at->WW,subscriptTail_builtinR->Xs,sortedHeap->Xz,entry_list_sort->XO,slot_list_sort->X0,args_list_sort->X1,isStrOf->Yl,entry_tuple_getitem->Ym,Constant_none->Ys,sortedAll_old->Yv,args_tuple_getitem->YC,plain_sorted->YY,entry_sorted->YZ,args_sorted1->Y0,sortedAll_at->Y1,SortKind->Y4,listItems_at->Y5,callWith_builtin1->Zd,sortedAll->Zm,kind_sorted->Zx,seqEpoch_at->Zz,get?_update_seq->ZG,IntsAre->ZP,Subscript_->ZZ
open Array renaming getD_eq_getD_getElem?->SM,getElem?_eq_getElem->TN,length_toList->T7,getElem?_toList->XU,append_assoc->Yz,toList_inj->Zl,toList->aaf
open PySem.Builtin.SmallTypes renaming nextOf->SU,ownedTupleIsFree->Vt,ownedTupleHandOut->Yq
open PySem.AutoSeq1 renaming wpAny_loadPart'->S0
open PySem.Builtin.Tuple renaming tupleExact->Tn,tupleItemsOf->Wq,tupleTooMany->Wv,tupleIsExact->Z5
open False renaming elim->TF
open PySem.F renaming slot_tuple_iterator_next->TJ,slot_tuple_mul->Ue,slot_zip_next->U1,args_tuple_add_2->Vs,args_tuple_mul_2->Vu,args_tuple_iterator_next_1->Vz,entry_tuple_add->VD,entry_tuple_mul->VE,entry_tuple_iterator_next->VH,slot_tuple_add->VL,slot_dict_get->VQ,slot_dict_getitem->Wz,slot_str_eq_refl->WV,plainAttrs_tuple->WY,slot_tuple_index->WZ,type_tuple_index->W0,args_dict_get_3->Xb,slot_tuple_rmul->Xg,args_zip_next_1->Xj,entry_dict_get->Xy,entry_zip_next->XC,slot_int_rmul->XX,sub_str_dict->X9,slot_dict_eq->Ya
open PySem.Builtin.Slice renaming slicePlaces->Um,sliceAdjust->Vf,slicePartIndex->ZD,sliceApplied->ZX
open PySem.Obj renaming mapSeq->Uz,data_mapFields->YH
open PySem.NameKind renaming free->UA,cell->UB
open PySem.Builtin.Str renaming occurrences->UG
open Sum renaming inr->UJ,inl->ZN
open Ne renaming symm->UK
open True renaming intro->UL
open PySem.Calls renaming callWith_builtin->UM,call_function_entry->Vg,spliced_cons->Vy,evalArgs_plain->V2,Name_function_global->Wl,spliced_nil->WE
open ForInStep renaming yield->US
open Classical renaming byContradiction->Vk
open PySem.Paired renaming length->Vo,snoc->aaj
open List.Nodup renaming length_le_of_subset->VX
open PySem.Builtin.List renaming listTooLong->WS,listExtendWith->ZR
open PySem.Builtin.Dict renaming selfAndRest->WU,updateFrom->Xf
open PySem.Builtin.Range renaming rangeSize->W7
open And renaming intro->Xd
open PySem.Around renaming under_plainId->X5
open Or renaming inr->X7,inl->Zj
open Std.Legacy.Range renaming forIn_eq_forIn_range'->Ye
open PySem.Heap.SameBut renaming update->Yp
open PySem.SeqAt.EqAt renaming int_str->Yx,str_int->Yy,str_str->YE
open Char renaming toNat->YI
open PySem.Heap.DictOf renaming new->ZF
open List.cons renaming injEq->ZI
open List.Perm renaming refl->Z6
open PySem.EqNone renaming eq_none_none->Z7,eq_none_bool->Z8,eq_bool_none->Z9
open Exists renaming intro->aah
open PySem.IsRange renaming new->aai
open PySem.Heap.IsSliceOf renaming new->aam
set_option genSizeOf false
set_option compiler.extract_closed false
set_option bootstrap.genMatcherCode false
namespace PySem.W.Fast
def tw9109434232732886052:=0
def tw17055306755369150896:=0
def tw7699971653081065090:=0
def tw12292451455717528797:=0
def tw5199648706937390063:=0
def tw6991931732917240275:=0
def tw9319620477357426433:=0
def tw721279763356939481:=0
def tw17028668128283152359:=0
def tw18264623444216599203:=0
def tw15909588732155935137:=0
def tw13764142937190343456:=0
def tw10651928556988201331:=0
def tw16548319333830967666:=0
def tw7488840197154900030:=0
def tw13858354342126033164:=0
def tw6999575048170360557:=0
def tw7951855388311987425:=0
def tw5133138396546872208:=0
def tw9792647386715185081:=0
def tw3880588007277140705:=0
def tw15068203742262038586:=0
def tw15911456995644160316:=0
def tw13073836374202810396:=0
def tw8756719631889536055:=0
def tw7359612076407165644:=0
def tw15556893377326702815:=0
def tw15093910716489214368:=0
def tw17218712758889274427:=0
def tw7424736088380752328:=0
def tw6944194630835016491:=0
def tw12201963333817920149:=0
def tw14595336087408410621:=0
def tw17312623468405645253:=0
def tw9230235878416068938:=0
def tw14196650146634728184:=0
def tw9412100047172475916:=0
def tw12361154309065609988:=0
def tw12541252202906293998:=0
def tw3221882956649283651:=0
def tw2954798140477645959:=0
def tw15909188649032719618:=0
def tw2985424708463259370:=0
def tw15875369230812462032:=0
def tw14281270320761128805:=0
def tw719613702640988399:=0
def tw11500404673082741507:=0
def tw9846559441927090907:=0
def tw5076461010435559289:=0
def tw3921941591624789039:=0
def tw10103150339973362077:=0
def tw12568787155321768859:=0
def tw16156007635229080428:=0
def tw12213026739253281:=0
def tw16693944131289436771:=0
def tw17367040512848387360:=0
def tw3108324407910899833:=0
def tw5684401889092688583:=0
def tw12196459226030990850:=0
def tw17068690872653358568:=0
def tw10977801350839307917:=0
def tw6011411248098607157:=0
def tw4154677446629571485:=0
def tw15470110722060751566:=0
def tw13848332894749286993:=0
def tw16900865063299401659:=0
def tw11512470621581177902:=0
def tw5355508469390988956:=0
def tw12702725288868746243:=0
def tw8009072140994252815:=0
def tw13923441518618710749:=0
def tw6036960094607000960:=0
def tw9934002147707181262:=0
def tw1233041991109630054:=0
def tw7647049571404473188:=0
def tw5900455040764113544:=0
def tw2154578387982730217:=0
def tw10849075246833740433:=0
def tw9949334253949444797:=0
def tw11045396437585669456:=0
def tw17836736121034023382:=0
def tw8142513152393037917:=0
def tw9943837390764645916:=0
def tw3543603139279440391:=0
def tw8429406677231450535:=0
def tw7006911002826872047:=0
def tw11832765548502506981:=0
def tw741686057309680044:=0
def tw10404319182611670243:=0
def tw1847555737757003611:=0
def tw13483293255355596203:=0
def tw5632963288329199890:=0
def tw8358563175696680462:=0
def tw2743550085772999227:=0
def tw4547985120931863602:=0
def tw61318980414154213:=0
def tw10988173328847166222:=0
def tw9069185357637010900:=0
def tw2979083845296384260:=0
def tw4103636517749856153:=0
def tw3301084402826891020:=0
def tw4833173946528433043:=0
def tw10928887779052831962:=0
def tw10958994088029099828:=0
def tw13671759797095147205:=0
def tw14291937618248298151:=0
def tw13139214150130929192:=0
def tw14142430829828357541:=0
def tw2713210474932872618:=0
def tw14737064119611596350:=0
def tw4966427272424920357:=0
def tw18321178694007192336:=0
def tw8924312888060206137:=0
def tw15166680428711148933:=0
def tw4511557914272010440:=0
def tw12541199391796195199:=0
def tw11198027035177767239:=0
def tw2764010416578196295:=0
def tw671575678244229613:=0
def tw16281730395669350858:=0
def tw5045440058786782452:=0
def tw18096368471815661573:=0
def tw214050813469344633:=0
def tw18152237459752182265:=0
def tw18108154049014953574:=0
def tw6034908769954654517:=0
def tw8853000857942803619:=0
def tw18291204983375362183:=0
def tw14169208471424968921:=0
def tw5420353315346847369:=0
def tw553075473567573497:=0
def tw17137162343163146368:=0
def tw8994645764650722233:=0
def tw4787173312759542989:=0
def tw12974250114562607952:=0
def tw13020964322384702715:=0
def tw13161899320254819637:=0
def tw4198501724237220172:=0
def tw1078225365319406995:=0
def tw15522081509515482532:=0
def tw9315760346815353215:=0
def tw3863304668109130612:=0
def tw207569981273937976:=0
def tw415729179702846284:=0
def tw7624596329161181396:=0
def tw7111999826646370377:=0
def tw3734532590043308556:=0
def tw10735475313641064602:=0
def tw13015827857252649986:=0
def tw16202217513752064203:=0
def tw16424852936763617838:=0
def tw16672268537927425206:=0
def tw14786394267306738468:=0
def tw3673104438888602580:=0
def tw401107881624524658:=0
def tw8548444590615384936:=0
def tw2216524935403260325:=0
def tw1923128458920969333:=0
def tw17409168483145540534:=0
def tw13476612912044463067:=0
def tw14805368549528665954:=0
def tw581518404565700036:=0
def tw1443655937340026894:=0
def tw2996444624352910519:=0
def tw15160619207135182553:=0
def tw9465226769973828249:=0
def tw13136024837750730985:=0
def tw7935110307969819461:=0
def tw13310554252499833587:=0
def tw1453163091851039150:=0
def tw13519248092201726266:=0
def tw13296016637038762599:=0
def tw3569470213355019003:=0
def tw2808209305715756938:=0
def tw7226270014585788365:=0
def tw17011118762647154421:=0
def tw12340613480284034789:=0
def tw6949811540898062122:=0
def tw17790804066238102724:=0
def tw9639815847096217678:=0
def tw2024130293694289080:=0
def tw17488842458965436018:=0
def tw10626120568152481694:=0
def tw5362377879172241040:=0
def tw18040941552070623530:=0
def tw4672063939015624391:=0
def tw12369981759586034160:=0
def tw11660901988630709693:=0
def tw5251644035882964664:=0
def tw9827382160062029621:=0
def tw7290942067400854072:=0
def tw7204606879043167507:=0
def tw2136427171485124238:=0
def tw8180359844443406666:=0
def tw6335496349195355513:=0
def tw8790982803393448158:=0
def tw12475474789088945517:=0
def tw11856672483830382764:=0
def tw8470112544179796264:=0
def tw5882187917018225261:=0
def tw11612563897305379806:=0
def tw14619242428478623374:=0
def tw13314928258909188036:=0
def tw7109551684506197713:=0
def tw17676061856579089316:=0
def tw14046199152776790786:=0
def tw11321504462306916217:=0
def tw1980478747255285916:=0
def tw16944242128767965451:=0
def tw18348985095235290220:=0
def tw10832046393183950560:=0
def tw10105736389216725172:=0
def tw13330252220160620662:=0
def tw16977624840794384068:=0
def tw2107368270613984695:=0
def tw4534903375909554463:=0
def tw2458083315274533064:=0
def tw16801085940640603278:=0
def tw5856399841722797819:=0
def tw3966941204973242243:=0
def tw4729764881774093436:=0
def tw6747068810176489916:=0
def tw10039361540201709738:=0
def tw15538605534661017819:=0
def tw18075342587547446141:=0
def tw9877941196258945129:=0
def tw6026169992511250070:=0
def tw3542223885498640467:=0
def tw417804668018776691:=0
def tw6358270836884898414:=0
def tw6320179575890089784:=0
def tw12405953499590930319:=0
def tw6852152543591398085:=0
def tw4343054262099124478:=0
def tw15258535777263442180:=0
def tw485928369126761529:=0
def tw8936699018718253076:=0
def tw12847127165564374301:=0
end PySem.W.Fast
noncomputable section
set_option Elab.async false
set_option linter.all false
set_option maxRecDepth 100000
section
namespace L2
open PySem PySem.Spec PyProof.Rows
abbrev Key:=Sum Int Str
noncomputable def lW:Key->RA->Bool
 | .inl k,v=>Value.isInt k v
 | .inr x,v=>aaa x v
noncomputable def PU(w:SQ):Key->Int
 | .inl k=>hashInt k
 | .inr x=>hashStr w x
theorem aZ: ∀{k v},lW k v=true->(∃ i t,k=ZN i/\v=Vc i t)\/(∃ x t,k=UJ x/\v=VS x t)
 | .inl i,v,h=>by
  obtain⟨t,e⟩:=Value.isInt_shape (k:=i) (v:=v) h;exact .inl ⟨i,t,rfl,e⟩
 | .inr x,v,h=>by
  obtain⟨t,e⟩:=Value.isStrOf_shape (x:=x) (v:=v) h;exact .inr ⟨x,t,rfl,e⟩
theorem yp i t:lW (.inl i) (.int i t)=true:=by simp[lW,Value.isInt]
theorem kK x t:lW (.inr x) (.str x t)=true:=by simp[lW,aaa]
theorem I0 a b:decide ((ZN a:Key)=ZN b)=(a == b):=by
 by_cases e:a=b
 . subst e;simp
 . simp_all
theorem Hx a b:decide ((UJ a:Key)=UJ b)=decide (a=b):=by
 simp_all
theorem Hb(a:Int)(b:Str):decide ((ZN a)=UJ b)=false:=decide_eq_false (λq=>by cases q)
theorem Ki(a:Str)(b:Int):decide ((UJ a)=ZN b)=false:=decide_eq_false (λq=>by cases q)
def aF prog w:PySem.KeyKind prog w Key where
 is:=lW
 hash:=PU w
 inj:=λv a b ha hb=>by
  rcases aZ ha with⟨i,t,rfl,rfl⟩ | ⟨x,t,rfl,rfl⟩
  . rcases aZ hb with⟨j,u,rfl,e⟩ | ⟨y,u,rfl,e⟩
    . injection e with e1 _;rw[e1]
    . nomatch e
  . rcases aZ hb with⟨j,u,rfl,e⟩ | ⟨y,u,rfl,e⟩
    . nomatch e
    . injection e with e1 _;rw[e1]
 byValue:=λk v h=>by
  rcases aZ h with⟨i,t,rfl,rfl⟩ | ⟨x,t,rfl,rfl⟩<;>rfl
 pyHash:=λhv h=>by
  rcases aZ hv with⟨i,t,rfl,rfl⟩ | ⟨x,t,rfl,rfl⟩
  . exact wpAny_pyHash_int h
  . exact wpAny_pyHash_str h
 eqBool:=λhu hv h=>by
  rcases aZ hu with⟨i,t,rfl,rfl⟩ | ⟨x,t,rfl,rfl⟩
  . rcases aZ hv with⟨j,u,rfl,rfl⟩ | ⟨y,u,rfl,rfl⟩
    . rw[I0] at h;exact wpAny_eqBool_int h
    . rw[Hb] at h;exact Yx i t y u _ _ _ _ h
  . rcases aZ hv with⟨j,u,rfl,rfl⟩ | ⟨y,u,rfl,rfl⟩
    . rw[Ki] at h;exact Yy x t j u _ _ _ _ h
    . rw[Hx] at h;exact wpAny_eqBool_str h
 «strs» :=λk x t v h=>by
  rcases aZ h with⟨i,u,rfl,e⟩ | ⟨y,u,rfl,e⟩
  . nomatch e
  . injection e with e1 _;subst e1;cases v<;>rfl
theorem rX prog w i t:(aF prog w).is (.inl i) (.int i t)=true:=yp i t
theorem rN prog w x t:(aF prog w).is (.inr x) (.str x t)=true:=kK x t
inductive V where
 | non | bl (b:Bool) | int (i:Int) | str (x:Str) | byt (b:Array UInt8) | flt (b:UInt64) | ref (a:RQ) | ty (n:String)
 deriving DecidableEq
def RelV:V->RA->Prop
 | .non,u=>u=Uy
 | .bl b,u=>u=Wj b
 | .int i,u=> ∃ t,u=Vc i t
 | .str x,u=> ∃ t,u=VS x t
 | .byt b,u=> ∃ t,u=Value.bytes b t
 | .flt b,u=> ∃ t,u=Zt b t
 | .ref a,u=>u=R0 a
 | .ty n,u=>u=U6 n
abbrev Vals:List V->List RA->Prop:=SW RelV
theorem Vals.length(r:Vals xs us):xs.length=us.length:=Vo r
theorem Vals.get: ∀{xs us}{i:Nat}{x},Vals xs us->xs[i]?=fv x-> ∃ u,us[i]?=fv u/\RelV x u
 | _,_,_,_,.nil,e=>by simp at e
 | _,_,0,_,.cons r _,e=>by simp at e;subst e;exact⟨_,rfl,r⟩
 | _,_,i+1,x,.cons _ t,e=>by
  obtain⟨u,h1,h2⟩:=Vals.get (i:=i) (x:=x) t (by simpa using e);exact⟨u,by simpa using h1,h2⟩
theorem Vals.set(r:RelV x u): ∀{xs us} i,Vals xs us->Vals (xs.set i x) (us.set i u)
 | _,_,_,.nil=> .nil
 | _,_,0,.cons _ t=> .cons r t
 | _,_,i+1,.cons q t=> .cons q (Vals.set r i t)
theorem Vals.append: ∀{xs ys us ws},Vals xs us->Vals ys ws->Vals (xs++ys) (us++ws)
 | _,_,_,_,.nil,s=>s
 | _,_,_,_,.cons r t,s=> .cons r (Vals.append t s)
theorem Vals.take: ∀{xs us} n,Vals xs us->Vals (xs.take n) (us.take n)
 | _,_,0,_=> .nil
 | _,_,_+1,.nil=> .nil
 | _,_,n+1,.cons r t=> .cons r (Vals.take n t)
theorem Vals.drop: ∀{xs us} n,Vals xs us->Vals (xs.drop n) (us.drop n)
 | _,_,0,r=>r
 | _,_,_+1,.nil=> .nil
 | _,_,n+1,.cons _ t=>Vals.drop n t
def jP:Option V->Option RA->Prop
 | some v,fv u=>RelV v u
 | none,Rv=>True
 | _,_=>False
def KV{κ}:=SW λ(p: κ × V) (q: κ × RA)=>p.1=q.1/\RelV p.2 q.2
noncomputable def kV:Key->V
 | .inl i=> .int i
 | .inr x=> .str x
inductive HO where
  | lst (xs:List V)
  | tup (xs:List V)
  | dK (kvs:List (Key × V)) | dT (kvs:List (List Key × V))
  | set (S:Int->Bool) (n:Nat)
  | ins (C dx:RQ) (fs:List (Str × V))
  | own (x:RQ)
  | xd (fs:List (Str × V))
  | met (f x:RQ)
  | yr (lo hi:Int)
  | iW (o:Obj) (u:HO)
  | tbl (ps:Array RA)
  | ext (φ :S6->Prop)
abbrev Hp:=RQ->Option HO
noncomputable def upd(H:Hp)(a:RQ)(o:HO):Hp:=λb=>if b=a then fv o else H b
theorem aX:upd H a o a=fv o:=by unfold upd;rw[if_pos rfl]
theorem av(h:b≠a):upd H a o b=H b:=by unfold upd;rw[if_neg h]
theorem pv{H:Hp}{a b:RQ}{o u:HO}(h:H a=fv o)(h':H b=fv u)(d:o≠u):a≠b:=by
 intro e;subst e;rw[h] at h';exact d (Sx h')
theorem ax{H:Hp}{a b:RQ}{o:HO}(h:H a=fv o)(h':H b=Rv):a≠b:=by
 intro e;subst e;rw[h] at h';cases h'
def nV(h:S6) a (items:Array RA):= ∃ o,h.get? a=fv o/\o.cls= .type "tuple" /\ ∃ n,o.data= .seq items n/\o.dict=Rv
theorem nV.tup{h a items}(x:nV h a items):IsTup h a items:=by obtain⟨o,e,c,n,d,_⟩:=x;exact⟨o,e,c,n,d⟩
theorem nV.new(h:S6) items:nV (h.push { cls:= .type "tuple",data:= .seq items}) h.objs.size items:=⟨_,RO _ rfl,rfl,_,rfl,rfl⟩
section
variable(P:Sv)(w:SQ)
def aN(H:Hp)(h:S6)(a:RQ):HO->Prop
 | .lst xs=>xs.length<=RF/\ ∃(aj:List RA)(n:Nat),Vals xs aj/\h.get? a=fv { cls:= .type "list",data:= .seq aj.toArray n}
 | .tup xs=>xs.length<=RF/\ ∃ aj ,Vals xs aj/\nV h a aj.toArray
 | .dK kvs=>kvs.length<=RF/\(a == Te)=false/\ ∃ vs,KV kvs vs/\h.DictOf (aF P w) a vs
 | .dT kvs=>kvs.length<=RF/\(a == Te)=false/\ ∃ xs ,
   SW (λ(p) (q)=>p.1=q.1/\H q.2.1=fv (.tup (p.1.map kV))/\RelV p.2 q.2.2) kvs xs /\
   ∃ o es ep,h.get? a=fv o/\o.ExactDict/\o.data= .dict es ep/\es.toList=xs.map (entryOfKey (W4 (aF P w)))/\(xs.map (·.1)).Nodup
 | .set S n=>h.SetOf (intKind P w) a S n
 | .ins C dx fs=>H dx=fv (.own a)/\fs.length<=1000/\dx≠a/\h.get? a=fv (Up C dx) /\
   ∃ mA,h.Ns1 dx mA/\(∀ f,jP (fs.lookup f) (mA f))/\aae mA (fs.map (·.1))
 | .own _=> ∃ o,h.get? a=fv o
 | .xd fs=> ∃ mA,h.Ns1 a mA/\ ∀ f,jP (fs.lookup f) (mA f)
 | .yr lo hi=> ∃ t u v,h.get? a=fv { cls:= .type "range",data:= .fields #[.int lo t,.int hi u,.int 1 v]}
 | .iW o u=>h.get? a=fv o∧aN H h a u
 | .tbl ps=>h.get? a=fv { cls:= .none,data:= .fields ps}
 | .met f x=>h.get? a=fv (PySem.W.methodObj (.ref f) (.ref x))
 | .ext φ => φ h∧(∃ o,h.get? a=fv o)∧ ∀ h1 h2 , φ h1->(∀ o,h1.get? a=fv o->h2.get? a=fv o)-> φ h2
def iS H h:= ∀ a o,H a=fv o->aN P w H h a o
end
section
variable{P:Sv}{w:SQ}{H H':Hp}{h h':S6}{a:RQ}{o:HO}
theorem aN.lt(x:aN P w H h a o):a < h.objs.size:=by
 cases o with
 | lst xs=>obtain⟨_,_,_,_,e⟩:=x;exact RI e
 | tup xs=>obtain⟨_,_,_,p⟩:=x;exact p.tup.lt
 | dK kvs=>obtain⟨_,_,_,_,o,_,_,e,_⟩:=x;exact RI e
 | dT kvs=>obtain⟨_,_,_,_,o,_,_,e,_⟩:=x;exact RI e
 | set S n=>obtain⟨o,_,_,_,e,_⟩:=x;exact RI e
 | ins C dx fs=>obtain⟨_,_,_,e,_⟩:=x;exact RI e
 | own y=>obtain⟨_,e⟩:=x;exact RI e
 | xd fs=>obtain⟨_,⟨_,_,_,e,_⟩,_⟩:=x;exact RI e
 | yr lo hi=>obtain⟨_,_,_,e⟩:=x;exact RI e
 | iW ob u=>obtain⟨e,_⟩:=x;exact RI e
 | tbl ps=>exact RI (show h.get? a=fv _ from x)
 | met f y=>exact RI (show h.get? a=fv _ from x)
 | ext φ =>obtain⟨_,⟨_,e⟩,_⟩:=x;exact RI e
theorem Paired.yc: ∀{l₁ l₂},SW F l₁ l₂ ->(∀ a b,F a b->G a b)->SW G l₁ l₂
 | _,_,.nil,_=> .nil
 | _,_,.cons r t,f=> .cons (f _ _ r) (Paired.yc t f)
theorem aN.qh(x:aN P w H h a o)(k: ∀ b u,(b=a\/H b=fv (.own a))->h.get? b=fv u->h'.get? b=fv u)
  (ho: ∀ b,H b=fv (.own a)->H' b=fv (.own a)) (ht: ∀ b xs,H b=fv (.tup xs)->H' b=fv (.tup xs)):aN P w H' h' a o:=by
 induction o with
 | lst xs=>obtain⟨z,aj,n,r,e⟩:=x;exact⟨z,aj,n,r,k _ _ (.inl rfl) e⟩
 | tup xs=>obtain⟨z,aj,r,ob,e,c⟩:=x;exact⟨z,aj,r,ob,k _ _ (.inl rfl) e,c⟩
 | dK kvs=>obtain⟨z,y,vs,r,ob,es,ep,e,c⟩:=x;exact⟨z,y,vs,r,ob,es,ep,k _ _ (.inl rfl) e,c⟩
 | dT kvs =>
  obtain⟨z,y,xs,r,ob,es,ep,e,c⟩:=x
  exact⟨z,y,xs,Paired.yc r λp q z=>⟨z.1,ht _ _ z.2.1,z.2.2⟩,ob,es,ep,k _ _ (.inl rfl) e,c⟩
 | set S n=>obtain⟨ob,es,ep,t,e,c⟩:=x;exact⟨ob,es,ep,t,k _ _ (.inl rfl) e,c⟩
 | ins C dx fs =>
  obtain⟨d,z,ne,e,mA,⟨od,es,ep,e2,c⟩,r⟩:=x
  exact⟨ho _ d,z,ne,k _ _ (.inl rfl) e,mA,⟨od,es,ep,k _ _ (.inr d) e2,c⟩,r⟩
 | own y=>obtain⟨ob,e⟩:=x;exact⟨ob,k _ _ (.inl rfl) e⟩
 | xd fs=>obtain⟨mA,⟨od,es,ep,e,c⟩,r⟩:=x;exact⟨mA,⟨od,es,ep,k _ _ (.inl rfl) e,c⟩,r⟩
 | yr lo hi=>obtain⟨t,u,v,e⟩:=x;exact⟨t,u,v,k _ _ (.inl rfl) e⟩
 | iW ob u ih=>obtain⟨e,q⟩:=x;exact⟨k _ _ (.inl rfl) e,ih q⟩
 | tbl ps =>
  have e:=x
  exact k a _ (.inl rfl) e
 | met f y =>
  have e:=x
  exact k a _ (.inl rfl) e
 | ext φ =>obtain⟨p,⟨o,e⟩,st⟩:=x;exact⟨st _ _ p λo q=>k _ _ (.inl rfl) q,⟨o,k _ _ (.inl rfl) e⟩,st⟩
theorem iS.lt(x:iS P w H h)(e:H a=fv o):a < h.objs.size:=(x a o e).lt
theorem iS.fresh(x:iS P w H h)(e:h.objs.size<=a):H a=Rv:=by
 cases q:H a with
 | none=>rfl
 | some u=>exact absurd (RM (x.lt q) e) (Sn _)
theorem iS.kept(x:iS P w H h)(k: ∀ b u,h.get? b=fv u->h'.get? b=fv u):iS P w H h':=λa o e =>
 (x a o e).qh (λb u _ q=>k b u q) (λ_ q=>q) λ_ _ q=>q
theorem iS.laid(x:iS P w H h)(k: ∀ b u,h.get? b=fv u->h'.get? b=fv u)(hp:h.objs.size<=a)(new:aN P w (upd H a o) h' a o):iS P w (upd H a o) h':=λb u e=>by
 have hn:=x.fresh hp;by_cases hb:b=a
 . subst hb;rw[aX] at e;cases e;exact new
 . rw[av hb] at e;exact(x b u e).qh (λc v _ q=>k c v q) (λc q=>by rw[av (ax q hn)];exact q) λc xs q=>by rw[av (ax q hn)];exact q
end
def Rd(H:Hp) a u:=H a=fv u\/ ∃ o,H a=fv (.iW o u)
theorem Rd.of{H:Hp}{a:RQ}{u:HO}(h:H a=fv u):Rd H a u:= .inl h
theorem Rd.ok(r:Rd H a u)(x:iS P w H h):aN P w H h a u:=by
 rcases r with r | ⟨o,r⟩
 . exact x a u r
 . obtain⟨_,q⟩:=x a _ r;exact q
def Mr:Option HO->Prop
 | some (.lst _)=>True
 | some (.dK _)=>True
 | some (.dT _)=>True
 | some (.set _ _)=>True
 | some (.ins _ _ _)=>True
 | some (.ext _)=>True
 | _=>False
section
variable{P:Sv}{w:SQ}{H:Hp}{h h':S6}{x e:RQ}{o':HO}
theorem iS.write(ok:iS P w H h)(mu:Mr (H x))(he:e=x\/H e=fv (.own x))(k: ∀ b u,b≠e->h.get? b=fv u->h'.get? b=fv u)(heo: ∃ u,h'.get? e=fv u)
  (new:aN P w (upd H x o') h' x o'):iS P w (upd H x o') h':=λb u q=>by
 have nown: ∀ c y,H c=fv (.own y)->c≠x:=λc y r z=>by subst z;rw[r] at mu;exact mu
 have ntup: ∀ c xs,H c=fv (.tup xs)->c≠x:=λc xs r z=>by subst z;rw[r] at mu;exact mu
 by_cases hb:b=x
 . subst hb;rw[aX] at q;cases q;exact new
 . rw[av hb] at q;by_cases hbe:b=e
   . have q':H b=fv (.own x):=by
      rcases he with z | z
      . exact absurd (hbe.trans z) hb
      . rw[hbe];exact z
     rw[q] at q';cases q';obtain⟨v,hv⟩:=heo;exact⟨v,by rw[hbe];exact hv⟩
   . refine(ok b u q).qh (λc v hc r=>k c v ?_ r) (λc r=>by rw[av (nown c b r)];exact r) λc xs r=>by rw[av (ntup c xs r)];exact r
     rcases hc with rfl | hc
     . exact hbe
     . rintro rfl;rcases he with z | z
       . exact nown c b hc z
       . simp_all
end
structure Un(fs ex:List RQ)(H H':Hp)(h h':S6):Prop where
 keep: ∀ b o,h.get? b=fv o->H b=Rv->b ∉ fs->b ∉ ex->h'.get? b=fv o
 slot: ∀ b o,h.get? b=fv o->H b=Rv->b∈fs->b ∉ ex-> ∃ sl,h'.get? b=fv { o with slots:=sl}
 free: ∀ b o,h.get? b=fv o->H b=Rv->b ∉ ex->H' b=Rv
 there: ∀ b o,h.get? b=fv o->b ∉ ex-> ∃ o',h'.get? b=fv o'
 ko: ∀ b xs,H b=fv (.tup xs)->H' b=fv (.tup xs)
 jL: ∀ b o u,H b=fv (.iW o u)->H' b=fv (.iW o u)
 k0: ∀ b ps,H b=fv (.tbl ps)-> ∃ more,H' b=fv (.tbl (ps++more))
section
variable{fs fs' ex ex':List RQ}{H H1 H2:Hp}{h h1 h2 h':S6}{a x e:RQ}{o:HO}
theorem Un.any(u:Un fs ex H H1 h h1)(q:h.get? b=fv ob)(n:H b=Rv)(hx:b ∉ ex): ∃ sl,h1.get? b=fv { ob with slots:=sl}:=by
 by_cases hb:b∈fs
 . exact u.slot b ob q n hb hx
 . exact⟨ob.slots,u.keep b ob q n hb hx⟩
theorem Un.trans(a:Un fs ex H H1 h h1)(b:Un fs ex H1 H2 h1 h2):Un fs ex H H2 h h2 where
 keep:=λc ob q n hc hx=>b.keep c ob (a.keep c ob q n hc hx) (a.free c ob q n hx) hc hx
 slot:=λc ob q n hc hx=>by
  obtain⟨sl,e1⟩:=a.slot c ob q n hc hx;obtain⟨sl',e2⟩:=b.slot c _ e1 (a.free c ob q n hx) hc hx;exact⟨sl',e2⟩
 free:=λc ob q n hx=>by
  obtain⟨o',e1⟩:=a.there c ob q hx;exact b.free c o' e1 (a.free c ob q n hx) hx
 there:=λc ob q hx=>by
  obtain⟨o',e1⟩:=a.there c ob q hx;exact b.there c o' e1 hx
 ko:=λc xs q=>b.ko c xs (a.ko c xs q)
 jL:=λc ob xs q=>b.jL c ob xs (a.jL c ob xs q)
 k0:=λc ps q=>by
  obtain⟨m1,e1⟩:=a.k0 c ps q;obtain⟨m2,e2⟩:=b.k0 c _ e1;exact⟨m1++m2,by rw[e2,Yz]⟩
theorem Un.kept(k: ∀ b u,h.get? b=fv u->h'.get? b=fv u):Un fs ex H H h h' :=
 ⟨λb ob q _ _ _=>k b ob q,λb ob q _ _ _=>⟨ob.slots,k b ob q⟩,λ_ _ _ n _=>n,λb ob q _=>⟨ob,k b ob q⟩,λ_ _ q=>q,λ_ _ _ q=>q,λ_ ps q=>⟨#[],by simp_all⟩⟩
theorem Un.refl:Un fs ex H H h h:=Un.kept λ_ _ q=>q
theorem Un.laid(k: ∀ b u,h.get? b=fv u->h'.get? b=fv u)(hp:h.objs.size<=a)(hn:H a=Rv):Un fs ex H (upd H a o) h h' where
 keep:=λb u q _ _ _=>k b u q
 slot:=λb u q _ _ _=>⟨u.slots,k b u q⟩
 free:=λb u q n _=>by rw[av (R1 (RM (RI q) hp))];exact n
 there:=λb u q _=>⟨u,k b u q⟩
 ko:=λb xs q=>by rw[av (ax q hn)];exact q
 jL:=λb u xs q=>by rw[av (ax q hn)];exact q
 k0:=λb ps q=>⟨#[],by rw[av (ax q hn),q];simp⟩
theorem Un.write(mu:Mr (H x))(he:e=x\/H e=fv (.own x))(k: ∀ b u,b≠e->h.get? b=fv u->h'.get? b=fv u)(heo: ∃ u,h'.get? e=fv u):Un fs ex H (upd H x o) h h':=by
 have hx: ∀ b,H b=Rv->b≠x:=λb n z=>by subst z;rw[n] at mu;exact mu
 have hb: ∀ b,H b=Rv->b≠e:=λb n z=>by
  simp_all
 have hm: ∀ b u,H b=fv u-> ¬ Mr (fv u)->b≠x:=λb u q nm z=>by simp_all
 refine⟨λb u q n _ _=>k b u (hb b n) q,λb u q n _ _=>⟨u.slots,k b u (hb b n) q⟩,λb u q n _=>by rw[av (hx b n)];exact n,λb u q _=>?_,
  λb xs q=>by rw[av (hm b _ q λz=>z)];exact q,λb u xs q=>by rw[av (hm b _ q λz=>z)];exact q,λb ps q=>⟨#[],by rw[av (hm b _ q λz=>z),q];simp⟩⟩
 by_cases hbe:b=e
 . simp_all
 . exact⟨u,k b u hbe q⟩
end
noncomputable def O0(h:S6)(H:Hp):=(RJ h.objs.size).filter λa=>(H a).isSome
def rD h H:=PySem.W.hideAll h (O0 h H)
theorem xU h H:(rD h H).objs.size=h.objs.size:=PySem.W.hideAll_size _ _
theorem A3{h:S6}{H:Hp}{b:RQ}{o:Obj}(e:h.get? b=fv o)(n:H b=Rv):(rD h H).get? b=fv o :=
 PySem.W.hideAll_get _ e λhm=>by
  have q:=(TL.mp hm).2;rw[n] at q;simp at q
theorem CU(e:(rD h H).get? b=fv o):h.get? b=fv o/\H b=Rv:=by
 have e':=PySem.W.of_hideAll (O0 h H) e;refine⟨e',?_⟩;cases q:H b with
 | none=>rfl
 | some x =>
  have hm:b∈O0 h H:=TL.mpr ⟨Sf.mpr (RI e'),by simp[q]⟩
  have z:(rD h H).get? b=Rv:=PySem.W.hideAll_none (O0 h H) hm
  rw[z] at e;cases e
noncomputable def DI(g h:S6) L:=(RJ h.objs.size).filterMap λa=>if a=L\/(g.get? a).isSome=true then Rv else(h.get? a).map λo=>(a,o)
def rest g h L d:=(DI g h L).filter λp=>decide (p.1≠d)
structure Mod(K:Rx)(mg:Str->Option RA)(base:S6):Prop where
 Qb:K.In base
 glob:base.Ns Sg mg
 blt: ∃ mb,base.Ns ZS mb/\ ∀ x:Str,x≠ "__name__" ->mb x=Ta x
 nolimit:base.NoLimit
structure Cx where
 prog:Sv
 w:SQ
 K:Rx
 mg:Str->Option RA
 base:S6
 A:Ti
 N:List Str
 s₀ :RD
 H₀ :Hp
 env:Env
 outer:List Env
 stack:List Env
 ex:List RQ
 fn:Str->Bool
 calm:Bool
 pn:List (RQ × Obj)
 xe:RA->RD->Prop
noncomputable def yq(l:List Env):=l.filterMap (·.frame)
abbrev Cx.fs(X:Cx):List RQ:=yq X.outer
def Ll(sc:WA) x:=sc.names.lookup x=fv .local\/sc.names.lookup x=fv .cell\/sc.names.lookup x=fv .free
def Loc(sc:WA) x:=sc.names.lookup x=fv .local\/sc.names.lookup x=fv .cell
def Look(env:Env)(h:S6)(m:Str->Option RA) x (u:RA) :=
 (env.kindOf x=fv .local/\m x=fv u)\/((env.kindOf x=fv .cell\/env.kindOf x=fv .free)/\ ∃ c,env.cells.lookup x=fv c/\h.IsCell c (fv u))
structure Cx.Ok(X:Cx):Prop where
 mod:Mod X.K X.mg X.base
 kind:X.env.scope.kind= .function
 glob:X.env.globals=Sg
 blt:X.env.builtins=ZS
 above:X.s₀.heap.objs.size<=X.env.locals
 inj: ∀ x y c,X.env.cells.lookup x=fv c->X.env.cells.lookup y=fv c->x=y
 has: ∀ x,(X.env.kindOf x=fv .cell\/X.env.kindOf x=fv .free)-> ∃ c,X.env.cells.lookup x=fv c
 Li: ∀ x c,X.fn x=true->X.env.cells.lookup x=fv c->X.s₀.heap.objs.size<=c
 hd:X.calm=true->X.A.handled=Rv
 frames:X.A.frames=fv X.stack
 LK:X.stack=X.outer\/(X.stack=X.env::X.outer/\X.env.frame=fv X.env.locals)
 Pu: ∀ b∈X.ex,b≠X.env.locals/\ ∀ x c,X.env.cells.lookup x=fv c->c≠b
 bs: ∀ b o,X.base.get? b=fv o->X.s₀.heap.get? b=fv o/\X.H₀ b=Rv
 BW:X.base.objs.size<=X.s₀.heap.objs.size
 xV: ∀ b o,X.base.get? b=fv o->b ∉ X.ex
 y7: ∀ b∈X.ex,b ∉ X.fs
 ke:X.s₀.heap.FunFrames X.base X.outer
 FG: ∀ b∈X.fs,X.H₀ b=Rv
structure Inv(X:Cx)(pins:List (RQ × Obj))(σ :List (Option V))(H:Hp)(s:RD):Prop where
 ok:X.Ok
 os:s.os=X.s₀.os
 bare:WB s.gens
 base:Un X.fs X.ex X.H₀ H X.s₀.heap s.heap
 loc: ∃ m,s.heap.Ns X.env.locals m/\ ∀(i:Nat)(x:Str)(v:V),X.N[i]?=fv x-> σ[i]?=fv (fv v)->Ll X.env.scope x-> ∃ u,RelV v u/\Look X.env s.heap m x u
 cell: ∀ x c,X.env.cells.lookup x=fv c-> ∃ v,s.heap.IsCell c v
 free:H X.env.locals=Rv
 gJ: ∀ x c,X.env.cells.lookup x=fv c->H c=Rv
 pin: ∀ p∈X.pn++pins,s.heap.get? p.1=fv p.2/\H p.1=Rv/\p.1≠X.env.locals/\p.1 ∉ X.fs/\ ∀ v,p.2.data≠ .cell v
 aW:iS X.prog X.w H s.heap
 len: σ.length=X.N.length
section
variable{X:Cx}{pins:List (RQ × Obj)}{σ :List (Option V)}{H H':Hp}{s:RD}{h':S6}
theorem Cx.Ok.P9(ok:X.Ok)(e:X.base.get? b=fv o):b ∉ X.fs:=λhb=>by
 have:=(ok.ke.mem hb).1;rw[e] at this;cases this
theorem Inv.bs(I:Inv X pins σ H s): ∀ b o,X.base.get? b=fv o->s.heap.get? b=fv o/\H b=Rv:=λb o e =>
 ⟨I.base.keep b o (I.ok.bs b o e).1 (I.ok.bs b o e).2 (I.ok.P9 e) (I.ok.xV b o e),I.base.free b o (I.ok.bs b o e).1 (I.ok.bs b o e).2 (I.ok.xV b o e)⟩
theorem Inv.bk(I:Inv X pins σ H s): ∀ b o,X.base.get? b=fv o->s.heap.get? b=fv o:=λb o e=>(I.bs b o e).1
theorem Inv.mod(I:Inv X pins σ H s):Mod X.K X.mg X.base:=I.ok.mod
theorem Inv.j9(I:Inv X pins σ H s):X.K.In s.heap:=I.ok.mod.Qb.keeps I.bk
theorem Inv.nolimit(I:Inv X pins σ H s):s.heap.NoLimit:=I.ok.mod.nolimit.keeps I.bk
theorem Inv.fr(I:Inv X pins σ H s): ∃ m,Fr X.base X.env.locals s.heap m :=
 by obtain⟨m,hn,_⟩:=I.loc;exact⟨m,hn,I.bk,R5 I.ok.BW I.ok.above⟩
theorem Inv.lt(I:Inv X pins σ H s):X.env.locals < s.heap.objs.size:=by obtain⟨_,hn,_⟩:=I.loc;exact hn.lt
theorem Inv.sz(I:Inv X pins σ H s):X.s₀.heap.objs.size<=s.heap.objs.size:=R5 I.ok.above (Uv I.lt)
theorem Inv.MW(I:Inv X pins σ H s){a:RQ}(h:s.heap.objs.size<=a):a ∉ X.fs:=λhb=>by
 obtain⟨_,o,ho,_⟩:=I.ok.ke.mem hb;exact absurd (RM (RI ho) (R5 I.sz h)) (Sn _)
theorem Inv.KR(I:Inv X pins σ H s): ∀ x c,X.env.cells.lookup x=fv c->c≠X.env.locals:=λx c e z=>by
 obtain⟨v,o,ho,hd⟩:=I.cell x c e;obtain⟨m,⟨o',es,ep,ho',hd',_⟩,_⟩:=I.loc;rw[z,ho'] at ho;cases ho;rw[hd'] at hd;cases hd
theorem Inv.ke(I:Inv X pins σ H s):s.heap.FunFrames X.base X.outer:=by
 have all: ∀ l,(∀ b∈yq l,b∈X.fs)->X.s₀.heap.FunFrames X.base l->s.heap.FunFrames X.base l:=by
  intro l
  induction l with
  | nil=>intro _ _;trivial
  | cons env r ih =>
   intro hs hl
   obtain⟨hk,⟨L,o,hf,hn,ho,hd⟩,hr⟩:=hl
   have hL:=hs L (by unfold yq;rw[Wb,hf];exact RU)
   obtain⟨sl,e⟩:=I.base.slot L o ho (I.ok.FG L hL) hL λz=>I.ok.y7 L z hL
   exact⟨hk,⟨L,_,hf,hn,e,hd⟩,ih (λb hb=>hs b (by unfold yq;rw[Wb,hf];exact RS _ hb)) hr⟩
 exact all X.outer (λ_ hb=>hb) I.ok.ke
theorem Inv.stack(I:Inv X pins σ H s):s.heap.FunFrames X.base X.stack:=by
 rcases I.ok.LK with e | ⟨e,hf⟩
 . rw[e];exact I.ke
 . rw[e];obtain⟨m,hn,_⟩:=I.loc;refine .cons (by rw[I.ok.kind];decide) hf hn ?_ I.ke;exact TY (R5 I.ok.BW I.ok.above)
theorem Inv.kz(I:Inv X pins σ H s): ∀ b∈yq X.stack,b∈X.env.locals::X.fs:=λb hb=>by
 rcases I.ok.LK with e | ⟨e,hf⟩
 . rw[e] at hb;exact RS _ hb
 . rw[e] at hb;unfold yq at hb;rw[Wb,hf] at hb;exact hb
theorem Inv.vM(I:Inv X pins σ H s): ∀ b∈yq X.stack,H b=Rv:=λb hb=>by
 rcases RW.mp (I.kz b hb) with e | hb
 . rw[e];exact I.free
 . obtain⟨_,o,ho,_⟩:=I.ok.ke.mem hb;exact I.base.free b o ho (I.ok.FG b hb) λz=>I.ok.y7 b z hb
theorem Inv.step{ch:List RQ}(I:Inv X pins σ H s)
  (hch: ∀ b∈ch,(b∈X.ex\/X.s₀.heap.objs.size<=b)/\b≠X.env.locals/\(∀ x c,X.env.cells.lookup x=fv c->c≠b)/\ ∀ p∈X.pn++pins,p.1≠b)
  (keep: ∀ b o,b≠X.env.locals->b ∉ X.fs->b ∉ ch->s.heap.get? b=fv o->H b=Rv->h'.get? b=fv o)
  (slot: ∀ b o,b≠X.env.locals->b∈X.fs->b ∉ ch->s.heap.get? b=fv o->H b=Rv-> ∃ sl,h'.get? b=fv { o with slots:=sl}) (free: ∀ b o,b ∉ ch->s.heap.get? b=fv o->H b=Rv->H' b=Rv)
  (there: ∀ b o,b ∉ ch->s.heap.get? b=fv o-> ∃ o',h'.get? b=fv o')
  (ko: ∀ b xs,H b=fv (.tup xs)->H' b=fv (.tup xs)) (jL: ∀ b o u,H b=fv (.iW o u)->H' b=fv (.iW o u)) (k0: ∀ b ps,H b=fv (.tbl ps)-> ∃ more,H' b=fv (.tbl (ps++more)))
  (ns: ∀ m,s.heap.Ns X.env.locals m->h'.Ns X.env.locals m) (aW:iS X.prog X.w H' h') (hg:WB g') :
  Inv X pins σ H' { s with heap:=h',gens:=g',drawn:=d',toks:=t'}:=by
 have neL: ∀ b o,X.s₀.heap.get? b=fv o->b≠X.env.locals:=λb o e=>R1 (RM (RI e) I.ok.above);have neC: ∀ b o,X.s₀.heap.get? b=fv o->b ∉ X.ex->b ∉ ch:=λb o e hx hb=>by
  rcases(hch b hb).1 with z | z
  . exact hx z
  . exact absurd (RM (RI e) z) (Sn _)
 have cellK: ∀ x c,X.env.cells.lookup x=fv c-> ∀ v,s.heap.IsCell c v->h'.IsCell c v:=λx c e v ⟨o,ho,hd⟩=>by
  have nch:=λz=>(hch c z).2.2.1 x c e rfl;by_cases hc:c∈X.fs
  . obtain⟨sl,q⟩:=slot c o (I.KR x c e) hc nch ho (I.gJ x c e);exact⟨_,q,hd⟩
  . exact⟨o,keep c o (I.KR x c e) hc nch ho (I.gJ x c e),hd⟩
 refine⟨I.ok,I.os,hg,⟨λb o e n hb hx=>?_,λb o e n hb hx=>?_,λb o e n hx=>?_,λb o e hx=>?_,λb xs e=>ko b xs (I.base.ko b xs e),λb o xs e=>jL b o xs (I.base.jL b o xs e),λb ps e=>?_⟩,?_,λx c e=>?_,?_,λx c e=>?_,λp hp=>?_,aW,I.len⟩
 . exact keep b o (neL b o e) hb (neC b o e hx) (I.base.keep b o e n hb hx) (I.base.free b o e n hx)
 . obtain⟨sl,e1⟩:=I.base.slot b o e n hb hx;obtain⟨sl',e2⟩:=slot b _ (neL b o e) hb (neC b o e hx) e1 (I.base.free b o e n hx);exact⟨sl',e2⟩
 . obtain⟨o',e1⟩:=I.base.there b o e hx;exact free b o' (neC b o e hx) e1 (I.base.free b o e n hx)
 . obtain⟨o',e1⟩:=I.base.there b o e hx;exact there b o' (neC b o e hx) e1
 . obtain⟨m1,e1⟩:=I.base.k0 b ps e;obtain⟨m2,e2⟩:=k0 b _ e1;exact⟨m1++m2,by rw[e2,Yz]⟩
 . obtain⟨m,hn,hl⟩:=I.loc;refine⟨m,ns m hn,λi x v e1 e2 e3=>?_⟩;obtain⟨u,r,l⟩:=hl i x v e1 e2 e3;refine⟨u,r,?_⟩;rcases l with l | ⟨k,c,e,z⟩
   . exact .inl l
   . exact .inr ⟨k,c,e,cellK x c e _ z⟩
 . obtain⟨v,z⟩:=I.cell x c e;exact⟨v,cellK x c e v z⟩
 . obtain⟨m,⟨o,_,_,ho,_⟩,_⟩:=I.loc;exact free _ o (λz=>(hch _ z).2.1 rfl) ho I.free
 . obtain⟨v,o,ho,hd⟩:=I.cell x c e;exact free c o (λz=>(hch c z).2.2.1 x c e rfl) ho (I.gJ x c e)
 . obtain⟨e,n,ne,nf,d⟩:=I.pin p hp;have nch:=λz=>(hch p.1 z).2.2.2 p hp rfl;exact⟨keep p.1 p.2 ne nf nch e n,free p.1 p.2 nch e n,ne,nf,d⟩
theorem Inv.un(I:Inv X pins σ H s)(u:Un X.fs [] H H' s.heap h')(aW:iS X.prog X.w H' h'):Inv X pins σ H' { s with heap:=h',toks:=t'}:=by
 obtain⟨m,⟨o,es,ep,ho,r⟩,_⟩:=id I.loc;obtain⟨sl,hL⟩:=u.any ho I.free (by simp);exact I.step (g':=s.gens) (d':=s.drawn) (ch:=[]) (λ_ z=>by cases z) (λb o _ hb _ e n=>u.keep b o e n hb (by simp)) (λb o _ hb _ e n=>u.slot b o e n hb (by simp)) (λb o _ e n=>u.free b o e n (by simp)) (λb o _ e=>u.there b o e (by simp)) u.ko u.jL u.k0 (λm' hm=>by
  obtain⟨o',es',ep',ho',r'⟩:=hm;rw[ho] at ho';cases ho';exact⟨_,es',ep',hL,r'⟩) aW I.bare
theorem Inv.call(I:Inv X pins σ H s)(u:Un (yq X.stack) ch H H' s.heap h')(aW:iS X.prog X.w H' h')(hg:WB g')
  (hch: ∀ b∈ch,(b∈X.ex\/X.s₀.heap.objs.size<=b)/\b≠X.env.locals/\(∀ x c,X.env.cells.lookup x=fv c->c≠b)/\ ∀ p∈X.pn++pins,p.1≠b) :
  Inv X pins σ H' { s with heap:=h',gens:=g',drawn:=d',toks:=t'}:=by
 obtain⟨m,⟨o,es,ep,ho,r⟩,_⟩:=id I.loc;obtain⟨sl,hL⟩:=u.any ho I.free λz=>(hch _ z).2.1 rfl;exact I.step (ch:=ch) hch (λb o hL hb hc e n=>u.keep b o e n (λz=>(RW.mp (I.kz b z)).elim hL hb) hc) (λb o _ _ hc e n=>u.any e n hc) (λb o hc e n=>u.free b o e n hc) (λb o hc e=>u.there b o e hc) u.ko u.jL u.k0 (λm' hm=>by
  obtain⟨o',es',ep',ho',r'⟩:=hm;rw[ho] at ho';cases ho';exact⟨_,es',ep',hL,r'⟩) aW hg
theorem Inv.turned(I:Inv X pins σ H s)(k: ∀ b o,b≠it->s.heap.get? b=fv o->h'.get? b=fv o)(hn:H it=Rv)(hL:it≠X.env.locals)
  (h1:it∈X.ex\/X.s₀.heap.objs.size<=it) (h2: ∀ x c,X.env.cells.lookup x=fv c->c≠it) (h3: ∀ p∈X.pn++pins,p.1≠it):Inv X pins σ H { s with heap:=h',toks:=t'}:=by
 have nit: ∀ b u,H b=fv u->b≠it:=λb u e z=>by simp_all
 refine I.step (g':=s.gens) (d':=s.drawn) (ch:=[it]) (λb hb=>?_) (λb o _ _ hc e _=>k b o (λz=>hc (by simp[z])) e) (λb o _ _ hc e _=>⟨o.slots,k b o (λz=>hc (by simp[z])) e⟩) (λ_ _ _ _ n=>n)
  (λb o hc e=>⟨o,k b o (λz=>hc (by simp[z])) e⟩) (λ_ _ e=>e) (λ_ _ _ e=>e) (λb ps e=>⟨#[],by simp_all⟩) (λm hm=>?_) (λb u e=>?_) I.bare
 . have e:b=it:=by simpa using hb
   subst e;exact⟨h1,hL,h2,h3⟩
 . obtain⟨o,es,ep,ho,r⟩:=hm;exact⟨o,es,ep,k _ o (UK hL) ho,r⟩
 . refine(I.aW b u e).qh (λc v hc q=>k c v ?_ q) (λ_ q=>q) λ_ _ q=>q;rcases hc with z | z
   . rw[z];exact nit b u e
   . exact nit c _ z
theorem Inv.tok(I:Inv X pins σ H s) t:Inv X pins σ H { s with toks:=t}:=I.un (h':=s.heap) (t':=t) Un.refl I.aW
theorem Inv.kept(I:Inv X pins σ H s)(k: ∀ b u,s.heap.get? b=fv u->h'.get? b=fv u):Inv X pins σ H { s with heap:=h',toks:=t'}:=I.un (Un.kept k) (I.aW.kept k)
theorem Inv.laid{a:RQ}(I:Inv X pins σ H s)(k: ∀ b u,s.heap.get? b=fv u->h'.get? b=fv u)(hp:s.heap.objs.size<=a)(new:aN X.prog X.w (upd H a o) h' a o) :
  Inv X pins σ (upd H a o) { s with heap:=h',toks:=t'}:=I.un (Un.laid k hp (I.aW.fresh hp)) (I.aW.laid k hp new)
theorem Inv.write(I:Inv X pins σ H s)(mu:Mr (H x))(he:e=x∨H e=fv (.own x))(k: ∀ b u,b≠e->s.heap.get? b=fv u->h'.get? b=fv u)(heo: ∃ u,h'.get? e=fv u)
  (new:aN X.prog X.w (upd H x o) h' x o):Inv X pins σ (upd H x o) { s with heap:=h',toks:=t'}:=I.un (Un.write mu he k heo) (I.aW.write mu he k heo new)
theorem Inv.weak(I:Inv X pins σ H s)(hl: σ'.length= σ.length)(w: ∀ (i:Nat) v, σ'[i]?=fv (fv v)-> σ[i]?=fv (fv v)):Inv X pins σ' H s :=
 ⟨I.ok,I.os,I.bare,I.base,by obtain ⟨m,hn,hl'⟩:=I.loc;exact ⟨m,hn,λi x v e1 e2 e3=>hl' i x v e1 (w i v e2) e3⟩,I.cell,I.free,I.gJ,I.pin,I.aW,hl.trans I.len⟩
theorem Inv.hW(I:Inv X pins σ H s)(h: ∀ p∈pins',s.heap.get? p.1=fv p.2∧H p.1=Rv∧p.1≠X.env.locals∧p.1 ∉ X.fs∧ ∀ v,p.2.data≠ .cell v):Inv X pins' σ H s :=
 ⟨I.ok,I.os,I.bare,I.base,I.loc,I.cell,I.free,I.gJ,λp hp=>(Uq.mp hp).elim (λz=>I.pin p (U7 _ z)) (h p),I.aW,I.len⟩
theorem qZ{N:List Str}(hN:N.Nodup){ j:Nat}(a:N[i]?=fv x)(b:N[j]?=fv x):i=j:=by
 obtain⟨h1,e1⟩:=RC.mp a;obtain⟨h2,e2⟩:=RC.mp b;exact(List.getElem_inj hN).mp (e1.trans e2.symm)
theorem oN{M:Model}{A:Ti}{E:RA->RD->Prop}{i:Nat}{x:Str}{v:V}{u:RA}{Q:Unit->RD->Prop}(I:Inv X pins σ H s)(hN:X.N.Nodup)(hi:X.N[i]?=fv x)(hx:Loc X.env.scope x)(r:RelV v u)
  (h: ∀ s',Inv X pins (σ.set i (fv v)) H s'->(∃ a,Xo a s.heap s'.heap/\(a=X.env.locals\/X.env.cells.lookup x=fv a))->Q () s') (hf:X.fn x=true\/X.env.scope.names.lookup x=fv .local:=by first | exact .inl rfl | exact .inr rfl | assumption):RX M A (storeName X.env x u) Q E s:=by
 obtain⟨m,hn,hl⟩:=id I.loc;have hcls:(X.env.scope.kind == .class||(X.env.scope.kind == .module&&X.env.locals !=X.env.globals))=false:=by rw[I.ok.kind];rfl
 have hiσ :i < σ.length:=by rw[I.len];exact(RC.mp hi).1
 have KR:=I.KR;have tracked: ∀{a:RQ}{h':S6},(∃ o,s.heap.get? a=fv o/\H a=Rv)->Xo a s.heap h'->iS X.prog X.w H h':=λ{a h'} ha hs b ob e=>by
  obtain⟨_,_,hfree⟩:=ha;refine(I.aW b ob e).qh (λc w' hc q=>(hs.2 c ?_).trans q) (λ_ q=>q) λ_ _ q=>q;rintro rfl;rcases hc with rfl | hc
  . simp_all
  . simp_all
 rcases hx with hk | hk
 . refine wpAny_storeName_local hk hn (λh' hn' hs=>?_) hcls;obtain⟨oL,_,_,hoL,_⟩:=id hn;refine h _ ⟨I.ok,I.os,I.bare,⟨λb o e n hb hx=>?_,λb o e n hb hx=>?_,I.base.free,λb o e hx=>?_,I.base.ko,I.base.jL,I.base.k0⟩,⟨_,hn',λj y v' e1 e2 e3=>?_⟩,λy c e=>?_,I.free,I.gJ,λp hp=>?_,tracked ⟨oL,hoL,I.free⟩ hs,by simpa using I.len⟩ ⟨_,hs,.inl rfl⟩
   . exact(hs.2 b (R1 (RM (RI e) I.ok.above))).trans (I.base.keep b o e n hb hx)
   . obtain⟨sl,e1⟩:=I.base.slot b o e n hb hx;exact⟨sl,(hs.2 b (R1 (RM (RI e) I.ok.above))).trans e1⟩
   . obtain⟨o',e1⟩:=I.base.there b o e hx;exact⟨o',(hs.2 b (R1 (RM (RI e) I.ok.above))).trans e1⟩
   . by_cases hj:j=i
     . subst hj;rw[hi] at e1;cases e1;rw[TB hiσ] at e2;cases e2;exact⟨u,r,.inl ⟨hk,by simp⟩⟩
     . rw[TZ (UK hj)] at e2;obtain⟨u',r',q⟩:=hl j y v' e1 e2 e3;refine⟨u',r',?_⟩;rcases q with⟨k,e⟩ | ⟨k,c,e,z⟩
       . refine .inl ⟨k,?_⟩;have:y≠x:=λe=>hj (qZ hN e1 (e ▸ hi));simp[this,e]
       . exact .inr ⟨k,c,e,z.sameBut hs (KR y c e)⟩
   . obtain⟨w',z⟩:=I.cell y c e;exact⟨w',z.sameBut hs (KR y c e)⟩
   . obtain⟨e,n,ne,nf,d⟩:=I.pin p hp;exact⟨(hs.2 p.1 ne).trans e,n,ne,nf,d⟩
 . have hfn:X.fn x=true:=by
    simp_all
   obtain⟨c,hc⟩:=I.ok.has x (.inl hk);obtain⟨w',z⟩:=I.cell x c hc;refine wpAny_storeName_cell I.ok.kind hk hc z (λh' hc' hs=>?_);obtain⟨oc,hoc,hocd⟩:=id z;refine h { s with heap:=h'} ⟨I.ok,I.os,I.bare,⟨λb o e n hb hx=>?_,λb o e n hb hx=>?_,I.base.free,λb o e hx=>?_,I.base.ko,I.base.jL,I.base.k0⟩,⟨m,hn.sameBut hs (UK (KR x c hc)),λj y v' e1 e2 e3=>?_⟩,λy c' e=>?_,I.free,I.gJ,λp hp=>?_,tracked ⟨oc,hoc,I.gJ x c hc⟩ hs,by simpa using I.len⟩ ⟨c,hs,.inr hc⟩
   . exact(hs.2 b (R1 (RM (RI e) (I.ok.Li x c hfn hc)))).trans (I.base.keep b o e n hb hx)
   . obtain⟨sl,e1⟩:=I.base.slot b o e n hb hx;exact⟨sl,(hs.2 b (R1 (RM (RI e) (I.ok.Li x c hfn hc)))).trans e1⟩
   . obtain⟨o',e1⟩:=I.base.there b o e hx;exact⟨o',(hs.2 b (R1 (RM (RI e) (I.ok.Li x c hfn hc)))).trans e1⟩
   . by_cases hj:j=i
     . subst hj;rw[hi] at e1;cases e1;rw[TB hiσ] at e2;cases e2;exact⟨u,r,.inr ⟨.inl hk,c,hc,hc'⟩⟩
     . rw[TZ (UK hj)] at e2;obtain⟨u',r',q⟩:=hl j y v' e1 e2 e3;refine⟨u',r',?_⟩;rcases q with q | ⟨k,c',e,z'⟩
       . exact .inl q
       . refine .inr ⟨k,c',e,z'.sameBut hs ?_⟩;rintro rfl;exact hj (qZ hN e1 (I.ok.inj _ _ _ e hc ▸ hi))
   . by_cases hcc:c'=c
     . subst hcc;exact⟨_,hc'⟩
     . obtain⟨w2,z2⟩:=I.cell y c' e;exact⟨w2,z2.sameBut hs hcc⟩
   . obtain⟨e,n,ne,nf,d⟩:=I.pin p hp;refine⟨(hs.2 p.1 ?_).trans e,n,ne,nf,d⟩;intro q;rw[q,hoc] at e;have q':=Sx e;exact d w' (by rw[<- q'];exact hocd)
theorem sV{M:Model}{A:Ti}{E:RA->RD->Prop}{i:Nat}{x:Str}{v:V}{u:RA}{Q:Unit->RD->Prop}(I:Inv X pins σ H s)(hN:X.N.Nodup)(hi:X.N[i]?=fv x)(hx:Loc X.env.scope x)(r:RelV v u)
  (h: ∀ s',Inv X pins (σ.set i (fv v)) H s'->Q () s') (hf:X.fn x=true\/X.env.scope.names.lookup x=fv .local:=by first | exact .inl rfl | exact .inr rfl | assumption):RX M A (storeName X.env x u) Q E s :=
 oN I hN hi hx r (λs' I' _=>h s' I') hf
theorem Inv.Nu(I:Inv X pins σ H s)(ho:s'.os=s.os)(u:Un (yq X.stack) ch H H' s.heap s'.heap)(aW:iS X.prog X.w H' s'.heap)(hg:WB s'.gens)
  (hch: ∀ b∈ch,(b∈X.ex\/X.s₀.heap.objs.size<=b)/\b≠X.env.locals/\(∀ x c,X.env.cells.lookup x=fv c->c≠b)/\ ∀ p∈X.pn++pins,p.1≠b):Inv X pins σ H' s':=by
 obtain⟨h',g',d',t',o'⟩:=s';have e:=ho;subst e;exact I.call (g':=g') (t':=t') (d':=d') u aW hg hch
end
abbrev XK:=RA->Option RQ->Hp->Prop
abbrev St:=List (Option V)
abbrev VK:=V->Hp->Prop
abbrev TE:=St->Hp->VK->Prop
abbrev TT:=St->Hp->(Bool->Hp->Prop)->Prop
abbrev TA:=St->Hp->(List V->Hp->Prop)->Prop
structure Ends where
 nx:St->Hp->Prop
 rt:VK
 bk:St->Hp->Prop:=λ_ _=>False
 ct:St->Hp->Prop:=λ_ _=>False
abbrev TS:=Ends->St->Hp->Prop
def EP X (pins:List (RQ × Obj)) (σ :St) (Q:VK) (u:RA) (s':RD):= ∃ v H',Inv X pins σ H' s'/\RelV v u/\Q v H'
def TP X (pins:List (RQ × Obj)) (σ :St) (Q:Bool->Hp->Prop) b (s':RD):= ∃ H',Inv X pins σ H' s'/\Q b H'
def AP X (pins:List (RQ × Obj)) (σ :St) (Q:List V->Hp->Prop) (us:List RA) (s':RD):= ∃ vs H',Inv X pins σ H' s'/\Vals vs us/\Q vs H'
def SP X (pins:List (RQ × Obj)) (D:Ends) (f:Flow) (s':RD) :=
 match f with
 | .next=> ∃ σ' H',Inv X pins σ' H' s'/\D.nx σ' H'
 | .brk=> ∃ σ' H',Inv X pins σ' H' s'/\D.bk σ' H'
 | .cont=> ∃ σ' H',Inv X pins σ' H' s'/\D.ct σ' H'
 | .ret u=> ∃ v σ' H',Inv X pins σ' H' s'/\RelV v u/\D.rt v H'
def PE X e (t:TE) :=
 ∀ pins s(σ :St) H Q,Inv X pins σ H s->t σ H Q->RX (R4 X.prog X.w) X.A (Tw e X.env) (EP X pins σ Q) X.xe s
def PT X e (t:TT) :=
 ∀ pins s(σ :St) H Q,Inv X pins σ H s->t σ H Q->RX (R4 X.prog X.w) X.A (Y8 e X.env (Tw e X.env)) (TP X pins σ Q) X.xe s
def PW X e (t:TT) :=
 ∀ whole pins s(σ :St) H Q,Inv X pins σ H s->t σ H Q->RX (R4 X.prog X.w) X.A (Y8 e X.env whole) (TP X pins σ Q) X.xe s
theorem PW.pt(h:PW X e t):PT X e t:=h _
def PA X (es:List Sy) (t:TA) :=
 ∀ pos pins s(σ :St) H Q,Inv X pins σ H s->t σ H Q->RX (R4 X.prog X.w) X.A (spliced (VT pos (Ss es X.env))) (AP X pins σ Q) X.xe s
def PS X st (t:TS) :=
 ∀ pins s(σ :St) H D,Inv X pins σ H s->t D σ H->RX (R4 X.prog X.w) X.A (exec st X.env) (SP X pins D) X.xe s
def tJ X (st:List W5) (t:TS) :=
 ∀ pins s(σ :St) H D,Inv X pins σ H s->t D σ H->RX (R4 X.prog X.w) X.A (execs st X.env) (SP X pins D) X.xe s
theorem l9(h:RX M A t Q E s)(hQ: ∀ a s,Q a s->Q' a s):RX M A t Q' E s:=Sq h hQ λ_ _ x=>x
theorem gL(h:RX M A t (EP X pins σ Q) E s)(k: ∀ u s v H,Inv X pins σ H s->RelV v u->Q v H->Q' u s):RX M A t Q' E s:=l9 h λu s z=>by obtain⟨v,H,a,b,c⟩:=z;exact k u s v H a b c
theorem yu(h:RX M A t (AP X pins σ Q) E s)(k: ∀ u s v H,Inv X pins σ H s->Vals v u->Q v H->Q' u s):RX M A t Q' E s:=l9 h λu s z=>by obtain⟨v,H,a,b,c⟩:=z;exact k u s v H a b c
theorem Ma(h:RX M A t (TP X pins σ Q) E s)(k: ∀ u s H,Inv X pins σ H s->Q u H->Q' u s):RX M A t Q' E s:=l9 h λu s z=>by obtain⟨H,a,c⟩:=z;exact k u s H a c
section
variable {X:Cx}
theorem bin(ha : PE X a ta)(hb : PE X b tb){σ : St}{R : V -> V -> Hp -> Prop}(I : Inv X pins σ H s)(h : ta σ H fun x H1 => tb σ H1 fun y H2 => R x y H2)
      {f : Value -> Value -> Sem α}
    (hf : ∀ v u s2 x y H2, Inv X pins σ H2 s2 -> RelV x v -> RelV y u -> R x y H2 -> RX (R4 X.prog X.w) X.A (f v u) Q X.xe s2) :
    RX (R4 X.prog X.w) X.A (Tw a X.env) (λv s₁ => RX (R4 X.prog X.w) X.A (Tw b X.env) (λu s₂ => RX (R4 X.prog X.w) X.A (f v u) Q X.xe s₂) X.xe s₁) X.xe s := by
  refine gL (ha pins s σ H _ I h) λv s1 x H1 I1 r1 q1 => ?_;refine gL (hb pins s1 σ H1 _ I1 q1) λu s2 y H2 I2 r2 q2 => ?_;exact hf v u s2 x y H2 I2 r1 r2 q2
noncomputable def Oe(i:Nat):TE:=fun σ H Q=> ∃ v, σ[i]?=fv (fv v)∧Q v H
noncomputable def tC(v:V):TE:=λ_ H Q=>Q v H
theorem GX{pos}(hN:X.N[i]?=fv x)(hv:Ll X.env.scope x)(hd:(x == ("__debug__"))=false:=by decide)(hcd:(x == ("__classdict__"))=false:=by decide):PE X (.Name x pos) (Oe i):=by
 intro pins s σ H Q I h;obtain⟨v,e,h⟩:=h;obtain⟨m,hn,hl⟩:=I.loc;obtain⟨u,r,l⟩:=hl i x v hN e hv;have fin:EP X pins σ Q u s:=⟨v,H,I,r,h⟩
 rcases l with⟨hk,hm⟩ | ⟨hk,c,hc,hcell⟩
 . exact ZT (wpAny_loadName_local I.ok.kind hk hn hm fin) hd
 . rcases hk with hk | hk
   . exact ZT (wpAny_loadName_cell I.ok.kind hk hc hcell fin) hd
   . exact ZT (wpAny_loadName_free I.ok.kind hk hc hcell fin hcd) hd
theorem J8:PE X (.Constant (.int i) j pos) (tC (.int i)):=λ_ _ _ H _ I h=>wpAny_Constant_int ⟨.int i,H,I.tok _,⟨_,rfl⟩,h⟩
theorem Nr:PE X (.Constant (.bool b) j pos) (tC (.bl b)):=λ_ _ _ H _ I h=>Constant_bool ⟨.bl b,H,I,rfl,h⟩
theorem J3:PE X (.Constant .none j pos) (tC .non):=λ_ _ _ H _ I h=>Ys ⟨.non,H,I,rfl,h⟩
theorem IQ:PE X (.Constant (.str x) j pos) (tC (.str x)):=λ_ _ _ H _ I h=>Calls.Constant_str ⟨.str x,H,I.tok _,⟨_,rfl⟩,h⟩
def Gl(X:Cx) x:=X.env.kindOf x=fv .globalImplicit
theorem vO{E:RA->RD->Prop}{pins:List (RQ × Obj)}{s:RD}{σ :St}{H:Hp}{x:Str}{u:RA}{pos:Pos}{Q:RA->RD->Prop}(I:Inv X pins σ H s)(hg:Gl X x)(hm:X.mg x=fv u)(h:Q u s)
  (hd:(x == ("__debug__" :Str))=false:=by decide):RX (R4 X.prog X.w) X.A (Tw (.Name x pos) X.env) Q E s :=
 Wl I.ok.kind hg (Calls.loadGlobal_global (by rw[I.ok.glob];exact I.mod.glob.keeps I.bk) hm h) hd
theorem gU{E:RA->RD->Prop}{pins:List (RQ × Obj)}{s:RD}{σ :St}{H:Hp}{x:Str}{u:RA}{pos:Pos}{Q:RA->RD->Prop}(I:Inv X pins σ H s)(hg:Gl X x)(hm:X.mg x=Rv)(hv:Ta x=fv u)(h:Q u s)
  (hn:x≠ "__name__" :=by decide) (hd:(x == ("__debug__" :Str))=false:=by decide):RX (R4 X.prog X.w) X.A (Tw (.Name x pos) X.env) Q E s:=by
 obtain⟨mb,h1,h2⟩:=I.mod.blt;exact Wl I.ok.kind hg (Calls.loadGlobal_builtin (by rw[I.ok.glob];exact I.mod.glob.keeps I.bk) hm (by rw[I.ok.blt];exact h1.keeps I.bk) ((h2 x hn).trans hv) h) hd
theorem wG(hg:Gl X x)(hm:X.mg x=fv u)(r:RelV v u)(hd:(x == ("__debug__"))=false:=by decide):PE X (.Name x pos) (tC v) :=
 λ_ _ _ H _ I h=>vO I hg hm ⟨v,H,I,r,h⟩ hd
theorem C2{pos}(hg:Gl X x)(hm:X.mg x=Rv)(hv:Ta x=fv u)(r:RelV v u)(hn:x≠ "__name__" :=by decide)(hd:(x == ("__debug__"))=false:=by decide):PE X (.Name x pos) (tC v) :=
 λ_ _ _ H _ I h=>gU I hg hm hv ⟨v,H,I,r,h⟩ hn hd
variable{a b:Sy}{ta tb:TE}{pos:Pos}
def PC X (op:CmpOp) a b (t:TE) :=
 ∀ pins s(σ :St) H Q,Inv X pins σ H s->t σ H Q ->
  RX (R4 X.prog X.w) X.A (Tw a X.env) (λv s₁ =>RX (R4 X.prog X.w) X.A (Tw b X.env) (λu s₂ =>RX (R4 X.prog X.w) X.A (R9 op v u) (EP X pins σ Q) X.xe s₂) X.xe s₁) X.xe s
theorem sP b (h:op≠ .In) (h2:op≠ .NotIn):Tj op b=false:=by
 have e1:(op == CmpOp.In)=false:=by simp_all
 have e2:(op == CmpOp.NotIn)=false:=by simp_all
 cases b<;>simp[Tj,e1,e2]
noncomputable def Gd(ta:TE):TE:=fun σ H Q=>ta σ H λx H1=>Q (.bl (decide (x= .non))) H1
noncomputable def Fx(ta:TE):TE:=fun σ H Q=>ta σ H λx H1=>Q (.bl (!decide (x= .non))) H1
theorem RelV.tq(r:RelV x v):(v == Uy)=decide (x= .non):=by
 cases x with
 | non=>cases r;rfl
 | bl _=>cases r;rfl
 | int _=>obtain⟨t,rfl⟩:=r;rfl
 | str _=>obtain⟨t,rfl⟩:=r;rfl
 | byt _=>obtain⟨t,rfl⟩:=r;rfl
 | flt _=>obtain⟨t,rfl⟩:=r;rfl
 | ref _=>cases r;rfl
 | ty _=>cases r;rfl
theorem A2(ha:PE X a ta):PC X .Is a (.Constant .none j pos') (Gd ta):=by
 intro pins s σ H Q I h;refine gL (ha pins s σ H _ I h) λv s1 x H1 I1 r1 q1=>?_;exact Ys (is_none_gen ⟨.bl _,H1,I1,by rw[r1.tq];rfl,q1⟩)
theorem DH(ha:PE X a ta):PC X .IsNot a (.Constant .none j pos') (Fx ta):=by
 intro pins s σ H Q I h;refine gL (ha pins s σ H _ I h) λv s1 x H1 I1 r1 q1=>?_;exact Ys (isnot_none_gen ⟨.bl _,H1,I1,by rw[r1.tq];rfl,q1⟩)
noncomputable def tB(t:TE):TT:=fun σ H Q=>t σ H λx H1=> ∃ c,x= .bl c/\Q c H1
theorem II(h:PC X op a b t)(h1:Tj op b=false:=by first | exact sP _ (by decide) (by decide) | rfl):PE X (.Compare a [op] [b] pos) t:=λpins s σ H Q I hw=>wpAny_Compare1 (h pins s σ H Q I hw) h1
theorem yF(h:PC X op a b t)(h1:Tj op b=false:=by first | exact sP _ (by decide) (by decide) | rfl):PT X (.Compare a [op] [b] pos) (tB t):=by
 intro pins s σ H Q I hw;refine XS (l9 (h pins s σ H _ I hw) λv s1 h1=>l9 h1 λu s2 h2=>gL h2 λc s3 x H1 I1 r1 q1=>?_) h1;obtain⟨d,rfl,q⟩:=q1;cases r1;exact TC ⟨H1,I1,q⟩
theorem JJ(h:PE X e t)(he: ∀ whole,Y8 e X.env whole=(do let v <- whole;ZO e.pos;WC [v] (truthy v)):=by intro _;rfl):PT X e (tB t):=by
 intro pins s σ H Q I hw;refine isTrue_plain (gL (h pins s σ H _ I hw) λv s1 x H1 I1 r1 q1=>?_) (he _);obtain⟨d,rfl,q⟩:=q1;cases r1;exact TC ⟨H1,I1,q⟩
variable{tA tB':TT}{rest:List Sy}
noncomputable def NH(t u:TT):TT:=fun σ H Q=>t σ H λc H1=>if c=true then u σ H1 Q else Q false H1
noncomputable def Qj(t u:TT):TT:=fun σ H Q=>t σ H λc H1=>if c=true then Q true H1 else u σ H1 Q
noncomputable def NI(t:TT):TT:=fun σ H Q=>t σ H λc H1=>Q (!c) H1
theorem pw_and1(ha:PT X a tA):PW X (.BoolOp .And [a] pos) tA:=by
 intro wh pins s σ H Q I h;refine isTrue_and (l9 (ha pins s σ H Q I h) λc s1 e=>?_);cases c with
 | true=>exact isTrue_and_nil e
 | false=>exact e
theorem pw_or1(ha:PT X a tA):PW X (.BoolOp .Or [a] pos) tA:=by
 intro wh pins s σ H Q I h;refine isTrue_or (l9 (ha pins s σ H Q I h) λc s1 e=>?_);cases c with
 | false=>exact isTrue_or_nil e
 | true=>exact e
theorem pw_and(ha:PT X a tA)(hb:PW X (.BoolOp .And (b::rest) pos) tB'):PW X (.BoolOp .And (a::b::rest) pos) (NH tA tB'):=by
 intro wh pins s σ H Q I h;refine isTrue_and (Ma (ha pins s σ H _ I h) λc s1 H1 I1 q1=>?_);cases c with
 | true=>exact hb wh pins s1 σ H1 Q I1 q1
 | false=>exact⟨H1,I1,q1⟩
theorem pw_or(ha:PT X a tA)(hb:PW X (.BoolOp .Or (b::rest) pos) tB'):PW X (.BoolOp .Or (a::b::rest) pos) (Qj tA tB'):=by
 intro wh pins s σ H Q I h;refine isTrue_or (Ma (ha pins s σ H _ I h) λc s1 H1 I1 q1=>?_);cases c with
 | true=>exact⟨H1,I1,q1⟩
 | false=>exact hb wh pins s1 σ H1 Q I1 q1
theorem IL(ha:PT X a tA):PT X (.UnaryOp .Not a pos) (NI tA):=by
 intro pins s σ H Q I h;exact isTrue_not (ha pins s σ H (λc H1=>Q (!c) H1) I h)
noncomputable def Ft(ta tb:TE):TE:=fun σ H Q=>ta σ H λx H1=> ∃ c,x= .bl c/\if c=true then tb σ H1 Q else Q (.bl false) H1
noncomputable def Nc(ta tb:TE):TE:=fun σ H Q=>ta σ H λx H1=> ∃ c,x= .bl c/\if c=true then Q (.bl true) H1 else tb σ H1 Q
noncomputable def FV(ta:TE):TE:=fun σ H Q=>ta σ H λx H1=> ∃ c,x= .bl c/\Q (.bl (!c)) H1
theorem Hh(h:PE X a t):PE X (.BoolOp op [a] pos) t:=λpins s σ H Q I hw=>BoolOp_one (h pins s σ H Q I hw)
theorem Ka(ha:PE X a ta)(hb:PE X (.BoolOp .And (b::rest) pos) tb):PE X (.BoolOp .And (a::b::rest) pos) (Ft ta tb):=by
 intro pins s σ H Q I h;refine BoolOp_and (gL (ha pins s σ H _ I h) λv s1 x H1 I1 r1 q1=>?_);obtain⟨c,rfl,q1⟩:=q1;cases r1;refine TC ?_;cases c with
 | true=>exact hb pins s1 σ H1 Q I1 q1
 | false=>exact⟨.bl false,H1,I1,rfl,q1⟩
theorem MN(ha:PE X a ta)(hb:PE X (.BoolOp .Or (b::rest) pos) tb):PE X (.BoolOp .Or (a::b::rest) pos) (Nc ta tb):=by
 intro pins s σ H Q I h;refine BoolOp_or (gL (ha pins s σ H _ I h) λv s1 x H1 I1 r1 q1=>?_);obtain⟨c,rfl,q1⟩:=q1;cases r1;refine TC ?_;cases c with
 | false=>exact hb pins s1 σ H1 Q I1 q1
 | true=>exact⟨.bl true,H1,I1,rfl,q1⟩
theorem Jx(ha:PE X a ta):PE X (.UnaryOp .Not a pos) (FV ta):=by
 intro pins s σ H Q I h;refine UnaryOp_ (gL (ha pins s σ H _ I h) λv s1 x H1 I1 r1 q1=>?_);obtain⟨c,rfl,q1⟩:=q1;cases r1;exact not_of (TC ⟨.bl (!c),H1,I1,rfl,q1⟩)
noncomputable def QB(t:TT)(ta tb:TE):TE:=fun σ H Q=>t σ H λc H1=>if c=true then ta σ H1 Q else tb σ H1 Q
theorem Ai(hc:PT X c tA)(ha:PE X a ta)(hb:PE X b tb):PE X (.IfExp c a b pos) (QB tA ta tb):=by
 intro pins s σ H Q I h;refine wpAny_IfExp (Ma (hc pins s σ H _ I h) λd s1 H1 I1 q1=>?_);cases d with
 | true=>exact ha pins s1 σ H1 Q I1 q1
 | false=>exact hb pins s1 σ H1 Q I1 q1
end
def fO(K:Rx) H a (xs:List V) :=
 Rd H a (.lst xs) \/
  ∃(o:Obj)(aj:Array RA)(n:Nat),K.lookup a=fv o/\o.cls= .type "list" /\o.dict=Rv/\o.data= .seq aj n/\aj.size<=RF/\Vals xs aj.toList
def dz(K:Rx) H a (xs:List V) :=
 Rd H a (.tup xs) \/
  ∃(o:Obj)(aj:Array RA)(n:Nat),K.lookup a=fv o/\o.cls= .type "tuple" /\o.data= .seq aj n/\aj.size<=RF/\Vals xs aj.toList
noncomputable def P6:RA->Option V
 | .none=>fv .non
 | .bool b=>fv (.bl b)
 | .int i _=>fv (.int i)
 | .str x _=>fv (.str x)
 | .bytes b _=>fv (.byt b)
 | .float b _=>fv (.flt b)
 | .ref a=>fv (.ref a)
 | .type n=>fv (.ty n)
 | _=>Rv
theorem RelV.abs(r:RelV x u):P6 u=fv x:=by
 cases x with
 | non=>cases r;rfl
 | bl _=>cases r;rfl
 | int _=>obtain⟨t,rfl⟩:=r;rfl
 | str _=>obtain⟨t,rfl⟩:=r;rfl
 | byt _=>obtain⟨t,rfl⟩:=r;rfl
 | flt _=>obtain⟨t,rfl⟩:=r;rfl
 | ref _=>cases r;rfl
 | ty _=>cases r;rfl
theorem RelV.inj(r:RelV x u)(q:RelV y u):x=y:=Sx (r.abs.symm.trans q.abs)
theorem Vals.inj: ∀{xs ys us},Vals xs us->Vals ys us->xs=ys
 | _,_,_,.nil,.nil=>rfl
 | _,_,_,.cons r t,.cons r' t'=>by rw[r.inj r',Vals.inj t t']
section
variable{X:Cx}{pins:List (RQ × Obj)}{σ :St}{H:Hp}{s:RD}{a:RQ}{xs ys:List V}
theorem fO.of{K:Rx}(h:H a=fv (.lst xs)):fO K H a xs:= .inl (.inl h)
theorem dz.of{K:Rx}(h:H a=fv (.tup xs)):dz K H a xs:= .inl (.inl h)
theorem Inv.list(I:Inv X pins σ H s)(h:fO X.K H a xs): ∃ aj ,Vals xs aj/\PlainL s.heap a aj.toArray/\xs.length<=RF:=by
 rcases h with h | ⟨o,aj,n,hk,hc,hd,hs,hz,r⟩
 . obtain⟨z,aj,n,r,e⟩:=h.ok I.aW;exact⟨aj,r,⟨_,n,e,rfl,rfl,rfl⟩,z⟩
 . refine⟨aj.toList,r,⟨o,n,I.j9 a o hk,hc,hd,by omega⟩,?_⟩;have e:=r.length;simp only[T7] at e;omega
theorem Inv.tuple(I:Inv X pins σ H s)(h:dz X.K H a xs): ∃ aj ,Vals xs aj/\IsTup s.heap a aj.toArray/\xs.length<=RF:=by
 rcases h with h | ⟨o,aj,n,hk,hc,hs,hz,r⟩
 . obtain⟨z,aj,r,p⟩:=h.ok I.aW;exact⟨aj,r,p.tup,z⟩
 . refine⟨aj.toList,r,⟨o,I.j9 a o hk,hc,n,by omega⟩,?_⟩;have e:=r.length;simp only[T7] at e;omega
theorem Inv.y9(I:Inv X pins σ H s)(h:fO X.K H a xs)(h':fO X.K H a ys):xs=ys:=by
 obtain⟨aj,r,⟨o,n,e,_,_,d⟩,_⟩:=I.list h;obtain⟨its',r',⟨o',n',e',_,_,d'⟩,_⟩:=I.list h';rw[e] at e';cases e';rw[d] at d';injection d' with d1 _;have:aj=its':=by simpa using congrArg aaf d1
 subst this;exact r.inj r'
theorem Inv.ia(I:Inv X pins σ H s)(h:dz X.K H a xs)(h':dz X.K H a ys):xs=ys:=by
 obtain⟨aj,r,⟨o,e,_,n,d⟩,_⟩:=I.tuple h;obtain⟨its',r',⟨o',e',_,n',d'⟩,_⟩:=I.tuple h';rw[e] at e';cases e';rw[d] at d';injection d' with d1 _;have:aj=its':=by simpa using congrArg aaf d1
 subst this;exact r.inj r'
end
abbrev Cx.lq(X:Cx)(E:RA->RD->Prop):Cx:={ X with xe:=E}
abbrev Cx.mW(X:Cx):Cx:=X.lq λ_ _=>False
theorem Cx.Ok.lq{X:Cx}(ok:X.Ok) E:(X.lq E).Ok :=
 ⟨ok.mod,ok.kind,ok.glob,ok.blt,ok.above,ok.inj,ok.has,ok.Li,ok.hd,ok.frames,ok.LK,ok.Pu,ok.bs,ok.BW,ok.xV,ok.y7,ok.ke,ok.FG⟩
theorem Cx.Ok.fz{X:Cx}(ok:(X.lq E).Ok):X.Ok :=
 ⟨ok.mod,ok.kind,ok.glob,ok.blt,ok.above,ok.inj,ok.has,ok.Li,ok.hd,ok.frames,ok.LK,ok.Pu,ok.bs,ok.BW,ok.xV,ok.y7,ok.ke,ok.FG⟩
section
variable{X:Cx}{pins:List (RQ × Obj)}{σ :St}{H:Hp}{s:RD}{E:RA->RD->Prop}
theorem Inv.lq(I:Inv X pins σ H s) E:Inv (X.lq E) pins σ H s:=⟨I.ok.lq E,I.os,I.bare,I.base,I.loc,I.cell,I.free,I.gJ,I.pin,I.aW,I.len⟩
theorem Inv.fz(I:Inv (X.lq E) pins σ H s):Inv X pins σ H s:=⟨I.ok.fz,I.os,I.bare,I.base,I.loc,I.cell,I.free,I.gJ,I.pin,I.aW,I.len⟩
theorem SP.fz(h:SP (X.lq E) pins D f s'):SP X pins D f s':=by
 cases f with
 | next=>obtain ⟨σ',H',I,q⟩:=h;exact ⟨σ',H',I.fz,q⟩
 | brk=>obtain ⟨σ',H',I,q⟩:=h;exact ⟨σ',H',I.fz,q⟩
 | cont=>obtain ⟨σ',H',I,q⟩:=h;exact ⟨σ',H',I.fz,q⟩
 | ret u=>obtain ⟨v, σ',H',I,r,q⟩:=h;exact ⟨v, σ',H',I.fz,r,q⟩
theorem PE.mW{e:Sy}{t:TE}(h:PE X.mW e t):PE X e t:=λpins s σ H Q I hw =>
 Sq (h pins s σ H Q (I.lq _) hw) (λ_ _ ⟨v,H',I',r,q⟩=>⟨v,H',I'.fz,r,q⟩) λ_ _ z=>TF z
theorem PT.mW{e:Sy}{t:TT}(h:PT X.mW e t):PT X e t:=λpins s σ H Q I hw =>
 Sq (h pins s σ H Q (I.lq _) hw) (λ_ _ ⟨H',I',q⟩=>⟨H',I'.fz,q⟩) λ_ _ z=>TF z
theorem tJ.mW{st}(h:tJ X.mW st t):tJ X st t:=λpins s σ H D I hw =>
 Sq (h pins s σ H D (I.lq _) hw) (λ_ _ q=>q.fz) λ_ _ z=>TF z
end
section
variable{X:Cx}{st:W5}{rest:List W5}{t u:TS}{e:Sy}{te:TE}{pos:Pos}
noncomputable def Aw:TS:=λD σ H=>D.nx σ H
noncomputable def G3(t u:TS):TS:=λD σ H=>t { D with nx:=u D} σ H
theorem CG:tJ X [] Aw:=λ_ _ σ H _ I h=>Vv ⟨σ,H,I,h⟩
theorem Au(h1:PS X st t)(h2:tJ X rest u):tJ X (st::rest) (G3 t u):=by
 intro pins s σ H D I h;refine Y9 (l9 (h1 pins s σ H { D with nx:=u D} I h) λf s1 q=>?_);cases f with
 | next =>
  obtain⟨σ',H',I',q⟩:=q
  exact h2 pins s1 σ' H' D I' q
 | ret v=>exact q
 | brk=>exact q
 | cont=>exact q
theorem Cs(h1:PS X st t):tJ X [st] t:=by
 intro pins s σ H D I h;refine Y9 (l9 (h1 pins s σ H D I h) λf s1 q=>?_);cases f with
 | next=>exact Vv q
 | ret v=>exact q
 | brk=>exact q
 | cont=>exact q
theorem Inv.quiet{σ :St}(I:Inv X pins σ H s):interactive X.env=false:=by simp[interactive,I.ok.kind]
noncomputable def Fo(te:TE):TS:=λD σ H=>te σ H λ_ H1=>D.nx σ H1
theorem Er(he:PE X e te)(hs:UX e Rv pos.line X.env=pure false:=by rfl):PS X (.Expr e pos) (Fo te):=by
 intro pins s σ H D I h;exact wpAny_Expr_any (gL (he pins s σ H _ I h) λv s1 x H1 I1 r1 q1=>⟨σ,H1,I1,q1⟩) I.quiet hs
noncomputable def OA(te:TE):TS:=λD σ H=>te σ H D.rt
theorem GF(he:PE X e te):PS X (.Return (fv e) pos) (OA te):=by
 intro pins s σ H D I h;exact wpAny_Return_some (gL (he pins s σ H _ I h) λv s1 x H1 I1 r1 q1=>⟨x, σ,H1,I1,r1,q1⟩)
noncomputable def N8(c:TT)(t u:TS):TS:=λD σ H=>c σ H λb H1=>if b=true then t D σ H1 else u D σ H1
theorem LH(hc:PT X c tc)(ha:tJ X a t)(hb:tJ X b u):PS X (.If c a b pos) (N8 tc t u):=by
 intro pins s σ H D I h;refine wpAny_If (Ma (hc pins s σ H _ I h) λd s1 H1 I1 q1=>?_);cases d with
 | true=>exact ha pins s1 σ H1 D I1 q1
 | false=>exact hb pins s1 σ H1 D I1 q1
noncomputable def HW:TS:=λ_ _ _=>False
theorem BM:PS X st HW:=λ_ _ _ _ _ _ h=>h.elim
end
abbrev TG:=V->St->Hp->(St->Hp->Prop)->Prop
abbrev BX:=List V->St->Hp->(St->Hp->Prop)->Prop
def PG X target (t:TG) :=
 ∀ pins s(σ :St) H v u Q,Inv X pins σ H s->RelV v u->t v σ H Q ->
  RX (R4 X.prog X.w) X.A (V7 target X.env u) (λ_ s'=> ∃ σ' H',Inv X pins σ' H' s'/\Q σ' H') X.xe s
def LQ X (ts:List Sy) (t:BX) :=
 ∀ pins s(σ :St) H vs us Q,Inv X pins σ H s->Vals vs us->t vs σ H Q ->
  RX (R4 X.prog X.w) X.A (assignInOrder ((S3 ts X.env).map (·.2)) us) (λ_ s'=> ∃ σ' H',Inv X pins σ' H' s'/\Q σ' H') X.xe s
abbrev GZ:=V->V->V->Hp->(Hp->Prop)->Prop
def nP X (t:GZ) :=
 ∀ pins s(σ :St) H o i v ov iv u Q,Inv X pins σ H s->RelV o ov->RelV i iv->RelV v u->t o i v H Q ->
  RX (R4 X.prog X.w) X.A (setItem ov iv u) (λ_ s'=> ∃ H',Inv X pins σ H' s'/\Q H') X.xe s
section
variable{X:Cx}{pos:Pos}
noncomputable def d6(i:Nat):TG:=λv σ H Q=>Q (σ.set i (fv v)) H
theorem E7(hN:X.N.Nodup)(hi:X.N[i]?=fv x)(hx:Loc X.env.scope x)(hf:X.fn x=true\/X.env.scope.names.lookup x=fv .local:=by first | exact .inl rfl | exact .inr rfl | assumption):PG X (.Name x pos) (d6 i):=by
 intro pins s σ H v u Q I r h;exact YM (sV I hN hi hx r (λs' I'=>⟨_,H,I',h⟩) hf)
noncomputable def xl:BX:=λvs σ H Q=>vs=[]/\Q σ H
noncomputable def kU(t:TG)(u:BX):BX:=λvs σ H Q=> ∃ v r,vs=v::r/\t v σ H fun σ' H'=>u r σ' H' Q
theorem Dy:LQ X [] xl:=by
 intro pins s σ H vs us Q I r h;obtain⟨e,h⟩:=h;subst e;exact assignInOrder_nil ⟨σ,H,I,h⟩
theorem Bq(h1:PG X e t)(h2:LQ X es u)
  (hs:(S3 (e::es) X.env).map (·.2)=V7 e X.env::(S3 es X.env).map (·.2):=by rfl):LQ X (e::es) (kU t u):=by
 intro pins s σ H vs us Q I r h;obtain⟨v,vr,e1,h⟩:=h;subst e1;cases r with
 | cons r rr =>
  rw[hs]
  refine assignInOrder_cons (l9 (h1 pins s σ H _ _ _ I r h) λ_ s1 z9=>?_);obtain⟨σ1,H1,I1,q1⟩:=z9
  exact h2 pins s1 σ1 H1 _ _ Q I1 rr q1
noncomputable def vf(K:Rx)(n:Nat)(t:BX):TG:=λv σ H Q=> ∃ a xs,v= .ref a/\dz K H a xs/\xs.length=n/\t xs σ H Q
theorem HM{k}(hc:X.calm=true)(h:LQ X es t)
  (hn:(S3 es X.env).length=n:=by rfl) (hst:(S3 es X.env).findIdx? (·.1)=Rv:=by rfl):PG X (.Tuple es k pos) (vf X.K n t):=by
 intro pins s σ H v u Q I r hw;obtain⟨a,xs,e1,hq,hl,hw⟩:=hw;subst e1;cases r;obtain⟨aj,rv,ht,hz⟩:=I.tuple hq;refine assign_Tuple_tuple (I.ok.hd hc) ht (by simp[hn,<- hl,rv.length]) hst λh' hx=>?_;have I1:=I.kept (t':=s.toks) λb o e=>hx b o (R1 (RI e)) e;exact h pins _ σ H xs _ Q I1 (by omega) hw
noncomputable def P8(to ti:TE)(t:GZ):TG:=λv σ H Q=>to σ H λo H1=>ti σ H1 λi H2=>t o i v H2 λH3=>Q σ H3
theorem Km(ho:PE X o to)(hi:PE X i ti)(hs:nP X t)
  (ha: ∀ v,V7 (.Subscript o i pos) X.env v=(do
   let ov <- WC [v] (Tw o X.env)
   let iv <- WC [v,ov] (Tw i X.env)
   ZO pos
   WC [v,ov,iv] (setItem ov iv v)
   release [v,ov,iv] []):=by intro _;rfl):PG X (.Subscript o i pos) (P8 to ti t):=by
 intro pins s σ H v u Q I r h;rw[ha];refine Ru (Tx (gL (ho pins s σ H _ I h) λov s1 x H1 I1 r1 q1=>?_));refine Ru (Tx (gL (hi pins s1 σ H1 _ I1 q1) λiv s2 y H2 I2 r2 q2=>?_));refine Ru (Yt (Ru (Tx (l9 (hs pins s2 σ H2 x y v ov iv u _ I2 r1 r2 r q2) λ_ s3 z9=>?_))));obtain⟨H3,I3,q3⟩:=z9;exact wpAny_release ⟨σ,H3,I3,q3⟩
noncomputable def D4(te:TE)(g:TG):TS:=λD σ H=>te σ H λx H1=>g x σ H1 D.nx
theorem GJ(he:PE X e te)(hg:PG X tg g)(hs:WN [tg] e pos.line X.env=pure false:=by rfl)(hw:WO [tg] e X.env=pure Rv:=by rfl)
  (h1:(S3 [tg] X.env).map (·.2)=[V7 tg X.env]:=by rfl):PS X (.Assign [tg] e pos) (D4 te g):=by
 intro pins s σ H D I h;refine wpAny_Assign_stores (gL (he pins s σ H _ I h) λv s1 x H1 I1 r1 q1=>?_) hs hw;rw[h1];exact l9 (hg pins s1 σ H1 x v _ I1 r1 q1) λ_ s2 q=>q
theorem GI(hN:X.N.Nodup)(hi:X.N[i]?=fv x)(hx:Loc X.env.scope x)(he:PE X e te)(hs:UX e (fv (.Name x pos')) pos.line X.env=pure false:=by rfl)(hf:X.fn x=true\/X.env.scope.names.lookup x=fv .local:=by first | exact .inl rfl | exact .inr rfl | assumption) :
  PS X (.Assign [.Name x pos'] e pos) (D4 te (d6 i)):=by
 intro pins s σ H D I h;refine wpAny_Assign_Name (gL (he pins s σ H _ I h) λv s1 y H1 I1 r1 q1=>?_) hs;exact sV I1 hN hi hx r1 (λs2 I2=>⟨_,H1,I2,q1⟩) hf
end
section
variable{X:Cx}{pos:Pos}
noncomputable def zp(c:TT)(tb:TS):TS:=λD σ H=> ∃ W:Nat->St->Hp->Prop,(∃ m,W m σ H)/\ ∀ m σ H,W m σ H ->
 c σ H λb H1=>if b=true then ∃ N ,(∀ σ' H',N σ' H'-> ∃ m',m' < m/\W m' σ' H')/\tb { D with nx:=N,ct:=N,bk:=D.nx} σ H1 else D.nx σ H1
theorem yW(hp:W6 (R4 X.prog X.w) X.A X.env X.xe)(hc:PT X c tc)(hb:tJ X body tb):PS X (.While c body [] pos) (zp tc tb):=by
 intro pins s σ H D I h;obtain⟨W,⟨m0,w0⟩,turn⟩:=h;refine wpAny_While (codeAny_whileLoop (λn s'=> ∃ σ' H',Inv X pins σ' H' s'/\W n σ' H') ?_ m0 ⟨σ,H,I,w0⟩);rintro n s1 ⟨σ1,H1,I1,w1⟩;refine Ur hp (Ma (hc pins s1 σ1 H1 _ I1 (turn n σ1 H1 w1)) λb s2 H2 I2 q2=>?_);cases b with
 | true =>
  obtain⟨N,hN,q2⟩:=q2
  refine Ur hp (l9 (hb pins s2 σ1 H2 _ I2 q2) λf s3 q3=>?_)
  cases f with
  | next =>
   obtain ⟨σ3,H3,I3,n3⟩:=q3
   obtain ⟨m',hm,w3⟩:=hN σ3 H3 n3
   exact ⟨m',hm, σ3,H3,I3,w3⟩
  | cont =>
   obtain ⟨σ3,H3,I3,n3⟩:=q3
   obtain ⟨m',hm,w3⟩:=hN σ3 H3 n3
   exact ⟨m',hm, σ3,H3,I3,w3⟩
  | brk=>exact q3
  | ret v=>exact q3
 | false =>
  exact Vv ⟨σ1,H2,I2,q2⟩
end
structure It where
 go:Nat->Hp->Prop
 FJ:Nat->Hp->V->Hp->Prop
 stop:Nat->Hp->Prop
def lh(X:Cx)(pins:List (RQ × Obj))(H:Hp) b :=
 H b=Rv/\b≠X.env.locals/\b ∉ X.fs/\(b∈X.ex\/X.s₀.heap.objs.size<=b)/\(∀ x c,X.env.cells.lookup x=fv c->c≠b)/\ ∀ p∈X.pn++pins,p.1≠b
theorem Inv.CQ{X:Cx}{pins:List (RQ × Obj)}{σ :St}{H H':Hp}{s:RD}{b:RQ}(I:Inv X pins σ H s)(hb:s.heap.objs.size<=b)(hn:H' b=Rv):lh X pins H' b:=by
 refine⟨hn,Ub (RM I.lt hb),I.MW hb,.inr (R5 I.sz hb),λx c e z=>?_,λp hp z=>?_⟩
 . obtain⟨v,q⟩:=I.cell x c e;exact absurd (RM q.lt (by simp_all)) (Sn _)
 . exact absurd (RM (RI (I.pin p hp).1) (by simp_all)) (Sn _)
structure Turn(P:Sv)(w:SQ)(K:Rx)(tg:Sy)(J:It)(fp:List RQ)(it:RQ)(tn:Nat->S6->Prop):Prop where
 mem:it∈fp
 obj: ∀ i h,tn i h-> ∀ b∈fp,∃ o,h.get? b=fv o/\ ∀ v,o.data≠ .cell v
 keep: ∀ i h h',tn i h->(∀ b∈fp,∀ o,h.get? b=fv o->h'.get? b=fv o)->tn i h'
 item: ∀(X:Cx),X.prog=P->X.w=w->X.K=K->X.calm=true-> ∀(i:Nat)(pins:List (RQ × Obj))(s:RD)(σ :St)(H:Hp)(E:RA->RD->Prop),Inv X pins σ H s->(∀ b∈fp,lh X pins H b)->tn i s.heap->J.go i H ->
  RX (R4 P w) X.A (Za (.ref it)) (λr s1=> ∃ u,r=fv u /\
   RX (R4 P w) X.A (XI tg (.ref it) u) (λ_ s2=> ∃ x H',Inv X pins σ H' s2/\RelV x u/\J.FJ i H x H'/\tn (i+1) s2.heap/\ ∀ b∈fp,H' b=Rv) E s1) E s
 done: ∀(X:Cx),X.prog=P->X.w=w->X.K=K->X.calm=true-> ∀(i:Nat)(pins:List (RQ × Obj))(s:RD)(σ :St)(H:Hp)(E:RA->RD->Prop),Inv X pins σ H s->(∀ b∈fp,lh X pins H b)->tn i s.heap->J.stop i H ->
  RX (R4 P w) X.A (Za (.ref it)) (λr s1=>r=Rv/\Inv X pins σ H s1) E s
 self: ∀(A:Ti)(i:Nat)(s:RD)(Q:RA->RD->Prop)(E:RA->RD->Prop),tn i s.heap->Q (.ref it) s->RX (R4 P w) A (Zb (.ref it)) Q E s
abbrev TI:=St->Hp->(It->Hp->Prop)->Prop
def Og X (pins:List (RQ × Obj)) (σ :St) tg (R:It->Hp->Prop) (itv:RA) (s2:RD) :=
 ∃(it:RQ)(fp:List RQ)(tn:Nat->S6->Prop)(J:It)(H':Hp),itv= .ref it/\Inv X pins σ H' s2/\Turn X.prog X.w X.K tg J fp it tn/\tn 0 s2.heap/\(∀ b∈fp,lh X pins H' b)/\R J H'
def PI X tg iter (wi:TI) :=
 ∀ pins s(σ :St) H R,Inv X pins σ H s->wi σ H R ->
  RX (R4 X.prog X.w) X.A (Tw iter X.env) (λv s1=>RX (R4 X.prog X.w) X.A (Zb v) (Og X pins σ tg R) X.xe s1) X.xe s
theorem v5{M : Model}{A : Ti}{E : RA -> RD -> Prop}{s : RD}{tg : Sy}{it : RQ}{u : RA}{o : Obj}{n : String}{vs : Array RA}{Q : Unit -> RD -> Prop}(ho : s.heap.get? it = fv o)(hc : o.cls = .type n)(hd : o.data = .fields vs)
    (hn : ["enumerate", "zip", "dict_itemiterator", "dict_reverseitemiterator", "odict_iterator", "itertools.zip_longest", "itertools.pairwise"].contains n = false) (hQ : Q () s) : RX M A (XI tg (.ref it) u) Q E s := by
  cases tg <;> first
    | exact RG hQ
    | (cases u <;> first
        | exact RG hQ
        | (refine Ru (U8 ho ?_)
           rw [hc, hd]
           show RX M A (if (["enumerate", "zip", "dict_itemiterator", "dict_reverseitemiterator", "odict_iterator", "itertools.zip_longest", "itertools.pairwise"].contains n && vs[0]? == fv (ZU _)) = true then _ else _) Q E s
           rw [if_neg (by intro h; rw [hn] at h; cases h)]
           exact RG hQ))
noncomputable def PZ(K:Rx)(a:RQ):It :=
 ⟨λi H=> ∃ xs x,fO K H a xs/\xs[i]?=fv x,λi H x H'=>H'=H/\ ∀ xs,fO K H a xs->xs[i]?=fv x,λi H=> ∃ xs,fO K H a xs/\xs.length<=i⟩
noncomputable def BE(K:Rx)(a:RQ):It :=
 ⟨λi H=> ∃ xs x,dz K H a xs/\xs[i]?=fv x,λi H x H'=>H'=H/\ ∀ xs,dz K H a xs->xs[i]?=fv x,λi H=> ∃ xs,dz K H a xs/\xs.length<=i⟩
noncomputable def O1(lo:Int)(n:Nat):It:=⟨λi _=>i < n,λi H x H'=>H'=H/\x= .int (lo+i),λi _=>n<=i⟩
theorem xa{K} a it:Turn P w K tg (PZ K a) [it] it (λi h=>h.IsListIter it a i) where
 mem:=by simp
 obj:=λi h st b hb=>by
  have e:b=it:=by simpa using hb
  subst e;obtain⟨o,e,c,d⟩:=st;exact⟨o,e,λv z=>by simp_all⟩
 keep:=λi h h' st k=>st.at λo e=>k it (by simp) o e
 item:=by
  intro X hP hw hK hc i pins s σ H E I hf st hg;subst hP hw hK;obtain⟨xs,x,hq,hx⟩:=hg;obtain⟨aj,rv,p,hz⟩:=I.list hq;obtain⟨u,hu,ru⟩:=rv.get hx;obtain⟨f0,f1,f2,f3,f4,f5⟩:=hf it (by simp);refine wpAny_pyNext_list_item st p.isList (x:=u) (by simpa using hu) λh' st' sb=>?_;have I1:=I.turned (t':=s.toks) (λb o hb e=>(sb.2 b hb).trans e) f0 f1 f3 f4 f5;obtain⟨o,e,c,d⟩:=id st';exact⟨u,rfl,v5 (s:={ s with heap:=h'}) e c d (by decide) ⟨x,H,I1,ru,⟨rfl,λys hy=>by rw[I.y9 hy hq];exact hx⟩,st',λb hb=>(hf b hb).1⟩⟩
 done:=by
  intro X hP hw hK hc i pins s σ H E I hf st hg;subst hP hw hK;obtain⟨xs,hq,hx⟩:=hg;obtain⟨aj,rv,p,hz⟩:=I.list hq;obtain⟨f0,f1,f2,f3,f4,f5⟩:=hf it (by simp);have hl:=rv.length;exact wpAny_pyNext_list_end (I.ok.hd hc) st p.isList (by simp;omega) λh' eb=>⟨rfl,I.turned (t':=s.toks) (λb o hb e=>eb b o hb e) f0 f1 f3 f4 f5⟩
 self:=λ_ _ _ _ _ st h=>wpAny_pyIter_listiter st h
theorem tO{K} a it:Turn P w K tg (BE K a) [it] it (λi h=>h.IsTupleIter it a i) where
 mem:=by simp
 obj:=λi h st b hb=>by
  have e:b=it:=by simpa using hb
  subst e;obtain⟨o,e,c,d⟩:=st;exact⟨o,e,λv z=>by simp_all⟩
 keep:=λi h h' st k=>st.at λo e=>k it (by simp) o e
 item:=by
  intro X hP hw hK hc i pins s σ H E I hf st hg;subst hP hw hK;obtain⟨xs,x,hq,hx⟩:=hg;obtain⟨aj,rv,p,hz⟩:=I.tuple hq;obtain⟨u,hu,ru⟩:=rv.get hx;obtain⟨f0,f1,f2,f3,f4,f5⟩:=hf it (by simp);refine wpAny_pyNext_tuple_item st (show s.heap.IsTuple a aj.toArray from p) (x:=u) (by simpa using hu) λh' st' sb=>?_;have I1:=I.turned (t':=s.toks) (λb o hb e=>(sb.2 b hb).trans e) f0 f1 f3 f4 f5;obtain⟨o,e,c,d⟩:=id st';exact⟨u,rfl,v5 (s:={ s with heap:=h'}) e c d (by decide) ⟨x,H,I1,ru,⟨rfl,λys hy=>by rw[I.ia hy hq];exact hx⟩,st',λb hb=>(hf b hb).1⟩⟩
 done:=by
  intro X hP hw hK hc i pins s σ H E I hf st hg;subst hP hw hK;obtain⟨xs,hq,hx⟩:=hg;obtain⟨aj,rv,p,hz⟩:=I.tuple hq;obtain⟨f0,f1,f2,f3,f4,f5⟩:=hf it (by simp);have hl:=rv.length;exact wpAny_pyNext_tuple_end (I.ok.hd hc) st (show s.heap.IsTuple a aj.toArray from p) (by simp;omega) λh' eb=>⟨rfl,I.turned (t':=s.toks) (λb o hb e=>eb b o hb e) f0 f1 f3 f4 f5⟩
 self:=λ_ _ _ _ _ st h=>wpAny_pyIter_tupleiter st h
theorem t8{K} it lo n:Turn P w K tg (O1 lo n) [it] it (λi h=>IsRangeIter h it (lo+(i)*1) ((n) - (i)) 1) where
 mem:=by simp
 obj:=λi h st b hb=>by
  simp_all
 keep:=λi h h' st k=>k it (by simp) _ st
 item:=by
  intro X hP hw hK hc i pins s σ H E I hf st hg;subst hP hw hK;obtain⟨f0,f1,f2,f3,f4,f5⟩:=hf it (by simp);have W:=Walks.range (prog:=X.prog) (w:=X.w) (I.ok.hd hc) it lo 1 n;refine W.item i s _ _ hg st λv h' tk hv st' kk=>?_;obtain⟨t,rfl⟩:=hv;have I1:Inv X pins σ H { s with heap:=h',toks:=tk}:=I.turned (λb o hb e=>kk b o (by simpa using hb) e) f0 f1 f3 f4 f5;refine⟨_,rfl,v5 (s:={ s with heap:=h',toks:=tk}) (n:= "range_iterator") st' rfl rfl (by decide) ⟨.int (lo+i),H,I1,⟨t,?_⟩,⟨rfl,rfl⟩,st',λb hb=>(hf b hb).1⟩⟩;rw[Int.mul_one]
 done:=by
  intro X hP hw hK hc i pins s σ H E I hf st hg;obtain⟨f0,f1,f2,f3,f4,f5⟩:=hf it (by simp);exact wpAny_pyNext_range_end (I.ok.hd hc) st (by have:n<=i:=hg;omega) λh' eb=>⟨rfl,I.turned (t':=s.toks) (λb o hb e=>eb b o hb e) f0 f1 f3 f4 f5⟩
 self:=λ_ _ _ _ _ st h=>wpAny_pyIter_rangeiter st h
section
variable{X:Cx}{tg:Sy}
theorem Bw{pins:List (RQ × Obj)}{σ :St}{H:Hp}{s:RD}{R:It->Hp->Prop}{E:RA->RD->Prop}{lo hi:Int}{t u v:Tok}{tk:Nat}(I:Inv X pins σ H s)(h1: -(2 ^ 62)<=lo)(h2:lo < 2 ^ 62)(h3: -(2 ^ 62)<=hi)(h4:hi < 2 ^ 62)
  (q:R (O1 lo (hi - lo).toNat) H):RX (R4 X.prog X.w) X.A (Zb (.ref s.heap.objs.size)) (Og X pins σ tg R) E { s with heap:=s.heap.push { cls:= .type "range",data:= .fields #[.int lo t,.int hi u,.int 1 v]},toks:=tk}:=by
 refine wpAny_pyIter_range (aai ..) (small_one h1 h2 h3 h4) ?_;have I1:Inv X pins σ H { s with heap:=s.heap.push { cls:= .type "range",data:= .fields #[.int lo t,.int hi u,.int 1 v]},toks:=tk}:=I.kept λb o e=>Ry _ e;refine⟨(s.heap.push { cls:= .type "range",data:= .fields #[.int lo t,.int hi u,.int 1 v]}).objs.size,[(s.heap.push { cls:= .type "range",data:= .fields #[.int lo t,.int hi u,.int 1 v]}).objs.size],_,_,H,rfl,
  I1.kept (t':=tk) λb o e=>Ry _ e,t8 _ lo (hi - lo).toNat,?_,λb hb=>?_,q⟩
 . have e1:lo+((0:Nat))*1=lo:=by simp
   have e2:(((hi - lo).toNat)) - ((0:Nat))=W7 lo hi 1:=by rw[rangeSize_one];split<;>omega
   rw[e1,e2];exact RO _ rfl
 . have e:b=(s.heap.push { cls:= .type "range",data:= .fields #[.int lo t,.int hi u,.int 1 v]}).objs.size:=by simpa using hb
   subst e;exact I1.CQ (RE _) (I1.aW.fresh (RE _))
def LO(ta:TA):TI:=fun σ H R=>ta σ H λvs H1=> ∃ j ,vs=[.int j]/\ -(2 ^ 62)<=j/\j < 2 ^ 62/\R (O1 0 j.toNat) H1
theorem wZ(hg:Gl X "range")(hm:X.mg "range" =Rv)(ha:PA X [a] ta)(hs:Ss [a] X.env=[(false,Tw a X.env)]:=by rfl):PI X tg (.Call (.Name "range" p) [a] [] pos) (LO ta):=by
 intro pins s σ H R I h;refine Call_ (gU I hg hm boot_range (S5 (yu (ha pos pins s σ H _ I h) λus s1 vs H1 I1 r1 q1=>?_) hs rfl));obtain⟨j,e,q1,q2,q⟩:=q1;subst e;cases r1 with
 | cons r rr =>
  cases rr
  obtain⟨t,rfl⟩:=r
  exact call_range_1 (Bw I1 (by omega) (by omega) q1 q2 (by simpa using q))
noncomputable def Lw(wi:TI)(g:TG)(tb:TS):TS:=λD σ H=>wi σ H λJ H1=> ∃ W:Nat->Nat->St->Hp->Prop,(∃ m,W 0 m σ H1)/\ ∀ i m σ H,W i m σ H ->
 (J.stop i H/\D.nx σ H)\/(J.go i H/\ ∃ N ,(∀ σ' H',N σ' H'-> ∃ m',m' < m/\W (i+1) m' σ' H')/\ ∀ x H',J.FJ i H x H'->g x σ H' fun σ2 H2=>tb { D with nx:=N,ct:=N,bk:=D.nx} σ2 H2)
noncomputable def pQ(fp:List RQ)(h:S6):=fp.filterMap λb=>(h.get? b).map λo=>(b,o)
theorem cW(hb:b∈fp)(e:h.get? b=fv o):(b,o)∈pQ fp h:=YB.mpr ⟨b,hb,by rw[e];rfl⟩
theorem yi(hp:p∈pQ fp h):p.1∈fp/\h.get? p.1=fv p.2:=by
 obtain⟨b,hb,e⟩:=YB.mp hp;cases q:h.get? b with
 | none=>simp_all
 | some o =>
  rw[q] at e
  have e':=Sx e
  subst e'
  exact⟨hb,q⟩
theorem Inv.pinned{σ :St}(I:Inv X pins σ H s)(hf: ∀ b∈fp,lh X pins H b)(ho: ∀ b∈fp,∃ o,s.heap.get? b=fv o/\ ∀ v,o.data≠ .cell v):Inv X (pins++pQ fp s.heap) σ H s :=
 I.hW λp hp=>(Uq.mp hp).elim (λz=>I.pin p (R7 _ z)) λz=>by
  obtain⟨hb,e⟩:=yi z;obtain⟨f0,f1,f2,_⟩:=hf p.1 hb;obtain⟨o,e',d⟩:=ho p.1 hb;rw[e] at e';cases e';exact⟨e,f0,f1,f2,d⟩
theorem Inv.mM{σ :St}(I:Inv X (pins++pl) σ H s):Inv X pins σ H s:=I.hW λp hp=>I.pin p (R7 _ (U7 _ hp))
theorem Ky(hp:W6 (R4 X.prog X.w) X.A X.env X.xe)(hc:X.calm=true)(hi:PI X tg iter wi)(hg:PG X tg g)(hb:tJ X body tb)
  (hs: ∀ x,SD iter X.env x=pure x:=by intro _;rfl):PS X (.For tg iter body [] pos) (Lw wi g tb):=by
 intro pins s σ H D I h;refine wpAny_For (l9 (hi pins s σ H _ I h) λv s1 h1=>l9 h1 λitv s2 h2=>?_) hs;obtain ⟨it,fp,tn,J,H2,e,I2,T,st2,f2,W,⟨m0,w0⟩,turn⟩:=h2;subst e;have stat: ∀{H':Hp},(∀ b∈fp,H' b=Rv)-> ∀ b∈fp,lh X pins H' b:=λhn b hb=>⟨hn b hb,(f2 b hb).2⟩
 refine codeAny_forLoop_any (λn s'=> ∃ i σ' H',Inv X pins σ' H' s'∧tn i s'.heap∧(∀ b∈fp,H' b=Rv)∧W i n σ' H') ?_ m0 ⟨0, σ,H2,I2,st2,λb hb=>(f2 b hb).1,w0⟩;rintro n s3 ⟨i, σ3,H3,I3,st3,fr3,w3⟩;rcases turn i n σ3 H3 w3 with ⟨stop,qn⟩ | ⟨go,N,hN,step⟩
 . refine Ur hp (l9 (T.done X rfl rfl rfl hc i pins s3 σ3 H3 X.xe I3 (stat fr3) st3 stop) λr s4 z9=>?_);obtain ⟨hr,I4⟩:=z9;subst hr;exact Vv ⟨σ3,H3,I4,qn⟩
 . refine Ur hp (l9 (T.item X rfl rfl rfl hc i pins s3 σ3 H3 X.xe I3 (stat fr3) st3 go) λr s4 z9=>?_);obtain⟨u,hr,h4⟩:=z9;subst hr;refine Ur hp (l9 h4 λ_ s5 z9=>?_);obtain⟨x,H5,I5,r5,y5,st5,fr5⟩:=z9;have I5':=I5.pinned (stat fr5) (T.obj _ _ st5);refine Ur hp (l9 (hg _ s5 σ3 H5 x u _ I5' r5 (step x H5 y5)) λ_ s6 z9=>?_);obtain⟨σ6,H6,I6,q6⟩:=z9;refine Ur hp (l9 (hb _ s6 σ6 H6 _ I6 q6) λf s7 q7=>?_);have again: ∀{σ7:St}{H7:Hp},Inv X (pins++pQ fp s5.heap) σ7 H7 s7->N σ7 H7-> ∃ m,m < n∧ ∃ i σ' H',Inv X pins σ' H' s7∧tn i s7.heap∧(∀ b∈fp,H' b=Rv)∧W i m σ' H':=λ{σ7 H7} I7 n7=>by
    obtain ⟨m',hm,w7⟩:=hN σ7 H7 n7;refine ⟨m',hm,i+1, σ7,H7,I7.mM,T.keep _ _ _ st5 λb hb o e=>(I7.pin (b,o) (R7 _ (R7 _ (cW hb e)))).1,λb hb=>?_,w7⟩;obtain ⟨o,e,d⟩:=T.obj _ _ st5 b hb;exact (I7.pin (b,o) (R7 _ (R7 _ (cW hb e)))).2.1
   cases f with
   | next=>obtain ⟨σ7,H7,I7,n7⟩:=q7;exact again I7 n7
   | cont=>obtain ⟨σ7,H7,I7,n7⟩:=q7;exact again I7 n7
   | brk=>obtain ⟨σ7,H7,I7,q7⟩:=q7;exact ⟨σ7,H7,I7.mM,q7⟩
   | ret v=>obtain ⟨x7, σ7,H7,I7,r7,q7⟩:=q7;exact ⟨x7, σ7,H7,I7.mM,r7,q7⟩
end
abbrev R2:=V->V->Hp->VK->Prop
def bR X (f:RA->RA->Sem RA) (r:R2) :=
 ∀ pins s(σ :St) H x y v u Q,Inv X pins σ H s->RelV x v->RelV y u->r x y H Q ->
  RX (R4 X.prog X.w) X.A (f v u) (EP X pins σ Q) X.xe s
def aG X (f:RA) (r:List V->Hp->VK->Prop) :=
 ∀ pins s(σ :St) H xs us Q,Inv X pins σ H s->Vals xs us->r xs H Q ->
  RX (R4 X.prog X.w) X.A (call f us) (EP X pins σ Q) X.xe s
noncomputable def CZ(r:R2)(ta tb:TE):TE:=fun σ H Q=>ta σ H λx H1=>tb σ H1 λy H2=>r x y H2 Q
noncomputable def rI(C:Int->Int->Prop)(g:Int->Int->V):R2:=λx y H Q=> ∃ i j,x= .int i/\y= .int j/\C i j/\Q (g i j) H
noncomputable def B0(g:Int->Int->V):R2:=λx y H Q=> ∃ i j,x= .int i/\y= .int j/\Q (g i j) H
section
variable{X:Cx}{a b c:Sy}{ta tb tc:TE}{pos:Pos}
theorem HB(ha:PE X a ta)(hb:PE X b tb){σ :St}{R:V->V->Hp->Prop}(I:Inv X pins σ H s)
  (h:ta σ H λx H1=>tb σ H1 λy H2=>R x y H2) {f:RA->RA->Sem RA}
  (hf: ∀ v u s2 x y H2,Inv X pins σ H2 s2->RelV x v->RelV y u->R x y H2->RX (R4 X.prog X.w) X.A (f v u) Q X.xe s2) :
  RX (R4 X.prog X.w) X.A (Tw a X.env) (λv s₁ =>RX (R4 X.prog X.w) X.A (Tw b X.env) (λu s₂ =>RX (R4 X.prog X.w) X.A (f v u) Q X.xe s₂) X.xe s₁) X.xe s:=by
 refine gL (ha pins s σ H _ I h) λv s1 x H1 I1 r1 q1=>?_;refine gL (hb pins s1 σ H1 _ I1 q1) λu s2 y H2 I2 r2 q2=>?_;exact hf v u s2 x y H2 I2 r1 r2 q2
theorem LW(ho:bR X (Td op) r)(ha:PE X a ta)(hb:PE X b tb):PE X (.BinOp a op b pos) (CZ r ta tb):=by
 intro pins s σ H Q I h;exact wpAny_BinOp (HB ha hb I h λv u s2 x y H2 I2 rx ry q=>ho pins s2 σ H2 x y v u Q I2 rx ry q)
theorem eW{f:RA->RA->Sem RA}{C:Int->Int->Prop}{g:Int->Int->Int}
  (rule: ∀(i j:Int)(t u:Tok)(s:RD)(Q:RA->RD->Prop)(E:RA->RD->Prop),C i j->Q (.int (g i j) s.toks) { s with toks:=s.toks+1}->RX (R4 X.prog X.w) X.A (f (.int i t) (.int j u)) Q E s) :
  bR X f (rI C λi j=> .int (g i j)):=by
 intro pins s σ H x y v u Q I rx ry h;obtain⟨i,j,rfl,rfl,hc,q⟩:=h;obtain⟨t,rfl⟩:=rx;obtain⟨t',rfl⟩:=ry;exact rule i j t t' s _ _ hc ⟨.int (g i j),H,I.tok _,⟨_,rfl⟩,q⟩
theorem Mg{f:RA->RA->Sem RA}{g:Int->Int->Int}
  (rule: ∀(i j:Int)(t u:Tok)(s:RD)(Q:RA->RD->Prop)(E:RA->RD->Prop),Q (.int (g i j) s.toks) { s with toks:=s.toks+1}->RX (R4 X.prog X.w) X.A (f (.int i t) (.int j u)) Q E s) :
  bR X f (B0 λi j=> .int (g i j)):=by
 intro pins s σ H x y v u Q I rx ry h;obtain⟨i,j,rfl,rfl,q⟩:=h;obtain⟨t,rfl⟩:=rx;obtain⟨t',rfl⟩:=ry;exact rule i j t t' s _ _ ⟨.int (g i j),H,I.tok _,⟨_,rfl⟩,q⟩
theorem Cp{f:RA->RA->Sem RA}{g:Int->Int->Bool}
  (rule: ∀(i j:Int)(t u:Tok)(s:RD)(Q:RA->RD->Prop)(E:RA->RD->Prop),Q (.bool (g i j)) s->RX (R4 X.prog X.w) X.A (f (.int i t) (.int j u)) Q E s) :
  bR X f (B0 λi j=> .bl (g i j)):=by
 intro pins s σ H x y v u Q I rx ry h;obtain⟨i,j,rfl,rfl,q⟩:=h;obtain⟨t,rfl⟩:=rx;obtain⟨t',rfl⟩:=ry;exact rule i j t t' s _ _ ⟨.bl (g i j),H,I,rfl,q⟩
def O7(i j:Int):=0 < j/\j < 1073741824
def Pa(i j:Int):=0<=j/\j<=1000000/\i.natAbs < 2 ^ 64
def Kq i j:=(-(2 ^ 64) < i/\i < 2 ^ 64)\/(-(2 ^ 64) < j/\j < 2 ^ 64)
theorem Kq.ok(h:Kq i j):IntMulOk i j:=by
 rcases h with⟨h1,h2⟩ | ⟨h1,h2⟩
 . exact .of_left (intBits_le_64 h1 h2)
 . exact .of_right (intBits_le_64 h1 h2)
theorem Iv:bR X (Td .Add) (B0 λi j=> .int (i+j)):=Mg λ_ _ _ _ _ _ _ q=>add_int q
theorem Hd:bR X (Td .Sub) (B0 λi j=> .int (i - j)):=Mg λ_ _ _ _ _ _ _ q=>sub_int q
theorem Lb:bR X (Td .Mult) (rI Kq λi j=> .int (i*j)):=eW λ_ _ _ _ _ _ _ hc q=>mul_int q hc.ok
theorem D7:bR X (Td .FloorDiv) (rI O7 λi j=> .int (i / j)):=eW λi j _ _ _ _ _ hc q=>by
 have h1:=hc.1;have h2:=hc.2;exact floordiv_int (by omega) (by rw[Int.fdiv_eq_ediv_of_nonneg i (by omega)];exact q) (.inl (PyProof.noPylong_small (by omega)))
theorem Jh:bR X (Td .Mod) (rI (λ_ j=>0 < j) λi j=> .int (i % j)):=eW λi j _ _ _ _ _ hc q=>by
 exact mod_int' (by omega) (by rw[Int.fmod_eq_emod_of_nonneg i (by omega)];exact q)
theorem ID:bR X (Td .Pow) (rI Pa λi j=> .int (i ^ j.toNat)):=eW λ_ _ _ _ _ _ _ hc q=>pow_int_small hc.1 hc.2.1 hc.2.2 q
end
noncomputable def Cv:V->V->Bool
 | .non,.non=>true | .non,.int _=>true | .int _,.non=>true | .non,.bl _=>true | .bl _,.non=>true | .non,.str _=>true | .str _,.non=>true
 | .int _,.int _=>true | .bl _,.bl _=>true | .str _,.str _=>true | .byt _,.byt _=>true
 | .int _,.str _=>true | .str _,.int _=>true | .bl _,.str _=>true | .str _,.bl _=>true
 | _,_=>false
def Rr:R2:=λx y H Q=>Cv x y=true/\Q (.bl (decide (x=y))) H
def Rp:R2:=λx y H Q=>Cv x y=true/\Q (.bl (!decide (x=y))) H
theorem vZ:decide (V.int i=V.int j)=(i == j):=by
 rw[V8];simp
theorem yR:decide (V.bl i=V.bl j)=(i == j):=by
 rw[V8];simp
theorem v9:decide (V.str i=V.str j)=(i == j):=by
 rw[V8];simp
theorem vT:decide (V.byt i=V.byt j)=(i.toList == j.toList):=by
 rw[V8];cases i;cases j;simp
section
variable{X:Cx}{a b c:Sy}{ta tb tc:TE}{pos:Pos}
theorem aJ{pins:List (RQ × Obj)}{σ :St}{H:Hp}{s:RD}{Q:VK}{k k':Bool}(I:Inv X pins σ H s)(q:Q (.bl k) H)(e:k=k'):EP X pins σ Q (.bool k') s:=by
 subst e;exact⟨.bl k,H,I,rfl,q⟩
theorem LV:bR X (R9 .Eq) Rr:=by
 intro pins s σ H x y v u Q I rx ry h;obtain⟨hs,q⟩:=h;cases x with
 | non =>
  cases rx
  cases y with
  | non=>cases ry;exact Z7 (aJ I q (by simp))
  | bl j=>cases ry;exact Z8 (aJ I q (by simp))
  | int j=>obtain⟨t',rfl⟩:=ry;exact PySem.EqNone.eq_none_int (aJ I q (by simp))
  | str j=>obtain⟨t',rfl⟩:=ry;exact PySem.EqNone.eq_none_str (aJ I q (by simp))
  | _=>exact absurd (show false=true from hs) RY
 | bl i =>
  cases rx
  cases y with
  | non=>cases ry;exact Z9 (aJ I q (by simp))
  | bl j=>cases ry;exact eq_bool (aJ I q yR)
  | str j=>obtain⟨t',rfl⟩:=ry;exact PySem.EqMixed.eq_bool_str (aJ I q (by simp))
  | _=>exact absurd (show false=true from hs) RY
 | int i =>
  obtain⟨t,rfl⟩:=rx
  cases y with
  | non=>cases ry;exact PySem.EqNone.eq_int_none (aJ I q (by simp))
  | int j=>obtain⟨t',rfl⟩:=ry;exact eq_int (aJ I q vZ)
  | str j=>obtain⟨t',rfl⟩:=ry;exact PySem.EqMixed.eq_int_str (aJ I q (by simp))
  | _=>exact absurd (show false=true from hs) RY
 | str i =>
  obtain⟨t,rfl⟩:=rx
  cases y with
  | non=>cases ry;exact PySem.EqNone.eq_str_none (aJ I q (by simp))
  | bl j=>cases ry;exact PySem.EqMixed.eq_str_bool (aJ I q (by simp))
  | int j=>obtain⟨t',rfl⟩:=ry;exact PySem.EqMixed.eq_str_int (aJ I q (by simp))
  | str j=>obtain⟨t',rfl⟩:=ry;exact eq_str (aJ I q v9)
  | _=>exact absurd (show false=true from hs) RY
 | byt i =>
  obtain⟨t,rfl⟩:=rx
  cases y with
  | byt j=>obtain⟨t',rfl⟩:=ry;exact PySem.W.eq_bytes (aJ I q vT)
  | _=>exact absurd (show false=true from hs) RY
 | _=>cases y<;>exact absurd (show false=true from hs) RY
theorem Oo:bR X (R9 .NotEq) Rp:=by
 intro pins s σ H x y v u Q I rx ry h;obtain⟨hs,q⟩:=h;cases x with
 | non =>
  cases rx
  cases y with
  | non=>cases ry;exact PySem.EqNone.ne_none_none (aJ I q (by simp))
  | bl j=>cases ry;exact PySem.EqNone.ne_none_bool (aJ I q (by simp))
  | int j=>obtain⟨t',rfl⟩:=ry;exact PySem.EqNone.ne_none_int (aJ I q (by simp))
  | str j=>obtain⟨t',rfl⟩:=ry;exact PySem.EqNone.ne_none_str (aJ I q (by simp))
  | _=>exact absurd (show false=true from hs) RY
 | bl i =>
  cases rx
  cases y with
  | non=>cases ry;exact PySem.EqNone.ne_bool_none (aJ I q (by simp))
  | bl j=>cases ry;exact ne_bool (aJ I q (congrArg not yR))
  | str j=>obtain⟨t',rfl⟩:=ry;exact PySem.EqMixed.ne_bool_str (aJ I q (by simp))
  | _=>exact absurd (show false=true from hs) RY
 | int i =>
  obtain⟨t,rfl⟩:=rx
  cases y with
  | non=>cases ry;exact PySem.EqNone.ne_int_none (aJ I q (by simp))
  | int j=>obtain⟨t',rfl⟩:=ry;exact ne_int (aJ I q (congrArg not vZ))
  | str j=>obtain⟨t',rfl⟩:=ry;exact PySem.EqMixed.ne_int_str (aJ I q (by simp))
  | _=>exact absurd (show false=true from hs) RY
 | str i =>
  obtain⟨t,rfl⟩:=rx
  cases y with
  | non=>cases ry;exact PySem.EqNone.ne_str_none (aJ I q (by simp))
  | bl j=>cases ry;exact PySem.EqMixed.ne_str_bool (aJ I q (by simp))
  | int j=>obtain⟨t',rfl⟩:=ry;exact PySem.EqMixed.ne_str_int (aJ I q (by simp))
  | str j=>obtain⟨t',rfl⟩:=ry;exact ne_str (aJ I q (congrArg not v9))
  | _=>exact absurd (show false=true from hs) RY
 | byt i =>
  obtain⟨t,rfl⟩:=rx
  cases y with
  | byt j=>obtain⟨t',rfl⟩:=ry;exact PySem.W.ne_bytes (aJ I q (congrArg not vT))
  | _=>exact absurd (show false=true from hs) RY
 | _=>cases y<;>exact absurd (show false=true from hs) RY
theorem Nw:bR X (R9 .Lt) (B0 λi j=> .bl (decide (i < j))):=Cp λ_ _ _ _ _ _ _ q=>lt_int q
theorem Mf:bR X (R9 .LtE) (B0 λi j=> .bl (decide (i<=j))):=Cp λ_ _ _ _ _ _ _ q=>le_int q
theorem Mq:bR X (R9 .Gt) (B0 λi j=> .bl (decide (j < i))):=Cp λ_ _ _ _ _ _ _ q=>gt_int q
theorem NV:bR X (R9 .GtE) (B0 λi j=> .bl (decide (j<=i))):=Cp λ_ _ _ _ _ _ _ q=>ge_int q
theorem xM:bR X (R9 .In) (λx y H Q=> ∃ i j,x= .str i/\y= .str j/\Q (.bl (!(UG j i 0 j.length 1).isEmpty)) H):=by
 intro pins s σ H x y v u Q I rx ry h;obtain⟨i,j,rfl,rfl,q⟩:=h;obtain⟨t,rfl⟩:=rx;obtain⟨t',rfl⟩:=ry;exact in_str (aJ I q rfl)
theorem bR.or(h:bR X f r)(h':bR X f r'):bR X f (λx y H Q=>r x y H Q\/r' x y H Q):=by
 intro pins s σ H x y v u Q I rx ry q;rcases q with q | q
 . exact h pins s σ H x y v u Q I rx ry q
 . exact h' pins s σ H x y v u Q I rx ry q
theorem Bc b (h:op≠ .In:=by decide) (h2:op≠ .NotIn:=by decide):Tj op b=false:=by
 have e1:(op == CmpOp.In)=false:=by simp_all
 have e2:(op == CmpOp.NotIn)=false:=by simp_all
 cases b<;>simp[Tj,e1,e2]
theorem ED(ho:bR X (R9 op) r)(ha:PE X a ta)(hb:PE X b tb)(hm:Tj op b=false):PE X (.Compare a [op] [b] pos) (CZ r ta tb):=by
 intro pins s σ H Q I h;exact wpAny_Compare1 (HB ha hb I h λv u s2 x y H2 I2 rx ry q=>ho pins s2 σ H2 x y v u Q I2 rx ry q) hm
noncomputable def BG(t:TE):TT:=fun σ H Q=>t σ H λx H'=> ∃ k,x= .bl k/\Q k H'
theorem Em(ho:bR X (R9 op) r)(ha:PE X a ta)(hb:PE X b tb)(hm:Tj op b=false):PT X (.Compare a [op] [b] pos) (BG (CZ r ta tb)):=by
 intro pins s σ H Q I h;refine XS (gL (ha pins s σ H _ I h) λv s1 x H1 I1 r1 q1=>gL (hb pins s1 σ H1 _ I1 q1) λu s2 y H2 I2 r2 q2 =>
  gL (ho pins s2 σ H2 x y v u _ I2 r1 r2 q2) λc s3 z H3 I3 r3 ⟨k,e,q3⟩=>?_) hm
 subst e;cases r3;exact TC ⟨H3,I3,q3⟩
noncomputable def ui(r r':R2)(ta tb tc:TE):TE:=fun σ H Q=>ta σ H λx H1=>tb σ H1 λy H2=>r x y H2 λz H3=> ∃ k,z= .bl k /\
 (if k=true then tc σ H3 λw' H4=>r' y w' H4 Q else Q (.bl false) H3)
theorem zQ(ho:bR X (R9 op) r)(ho':bR X (R9 op') r')(ha:PE X a ta)(hb:PE X b tb)(hc:PE X c tc)
  (hm:lastMarks [op,op'] [b,c]=false:=by with_unfolding_all rfl):PE X (.Compare a [op,op'] [b,c] pos) (ui r r' ta tb tc):=by
 intro pins s σ H Q I h;refine Compare_chain (gL (ha pins s σ H _ I h) λv s1 x H1 I1 r1 q1=>chain_link (gL (hb pins s1 σ H1 _ I1 q1) λu s2 y H2 I2 r2 q2 =>
  gL (ho pins s2 σ H2 x y v u _ I2 r1 r2 q2) λd s3 z H3 I3 r3 ⟨k,e,q3⟩=>?_)) hm
 subst e;cases r3;refine TC ?_;cases k with
 | false=>exact ite_ff ⟨.bl false,H3,I3,rfl,q3⟩
 | true=>exact ite_tt (chain_last (gL (hc pins s3 σ H3 _ I3 q3) λw' s4 z' H4 I4 r4 q4=>ho' pins s4 σ H4 y z' u w' Q I4 r2 r4 q4))
theorem ki:(RF) < 2 ^ 63:=by decide
theorem vals1(r:Vals [x] us): ∃ u,us=[u]/\RelV x u:=by
 cases r with
 | cons r1 r2=>cases r2;exact⟨_,rfl,r1⟩
theorem vals2(r:Vals [x,y] us): ∃ u w',us=[u,w']/\RelV x u/\RelV y w':=by
 cases r with
 | cons r1 r2 =>
  cases r2 with
  | cons r3 r4=>cases r4;exact⟨_,_,rfl,r1,r3⟩
theorem yh(hc:X.calm=true):aG X (.builtin "min") (λxs H Q=> ∃ i j,xs=[.int i,.int j]/\Q (.int (if j < i then j else i)) H):=by
 intro pins s σ H xs us Q I r h;obtain⟨i,j,rfl,q⟩:=h;obtain⟨u,w',rfl,⟨t,rfl⟩,⟨t',rfl⟩⟩:=vals2 r;refine min_two_ints (I.ok.hd hc) λh' tk k=>⟨_,H,I.kept k,?_,q⟩
 by_cases hj:j < i
 . rw[if_pos hj,if_pos hj];exact⟨_,rfl⟩
 . rw[if_neg hj,if_neg hj];exact⟨_,rfl⟩
theorem yd:aG X (.type "int") (λxs H Q=>(∃ i,xs=[.int i]/\Q (.int i) H)\/ ∃ k,xs=[.bl k]/\Q (.int (if k then 1 else 0)) H):=by
 intro pins s σ H xs us Q I r h;rcases h with⟨i,rfl,q⟩ | ⟨k,rfl,q⟩
 . obtain⟨u,rfl,t,rfl⟩:=vals1 r;exact call_int_int ⟨.int i,H,I,⟨_,rfl⟩,q⟩
 . obtain⟨u,rfl,r1⟩:=vals1 r;cases r1;exact call_int_bool ⟨.int (if k then 1 else 0),H,I.tok _,⟨_,rfl⟩,q⟩
end
structure Lc(h:S6)(x dx C:RQ)(mA:Str->Option RA):Prop where
 obj:h.get? x=fv (Up C dx)
 ns:h.Ns1 dx mA
 ne:dx≠x
theorem x6{h:S6}(n:h.Ns1 dx mA): ∃ od,h.get? dx=fv od/\ ∀ name,X2 name od=fv (mA name):=by
 obtain⟨o,es,ep,ho,hd,hk,_,hm⟩:=n;refine⟨o,ho,λname=>?_⟩;have e:=hm name;unfold nsFind findBy at e;rw[<- Array.find?_toList] at e;unfold X2;rw[hd];dsimp only;split
 . rename_i y q;rw[q] at e;exact congrArg fv e
 . rename_i q;rw[q] at e;have a:es.toList.any (·.refKey)=false:=by
    rw[WD];intro y hy;obtain⟨z,t,hkey⟩:=hk y (Array.mem_toList_iff.mp hy);simp[DictEntry.refKey,hkey]
   have a': ¬ es.toList.any (·.refKey)=true:=by rw[a];exact RY
   rw[if_neg a'];exact congrArg fv e
theorem Lc.look(I:Lc h x dx C mA): ∃ od,PySem.W.InstAt h x (Up C dx) C (fv od)/\ ∀ name,X2 name od=fv (mA name) :=
 by obtain⟨od,ho,hl⟩:=x6 I.ns;exact⟨od,⟨I.obj,rfl,rfl,ho⟩,hl⟩
theorem jP.some_of(r:jP (fv v) o): ∃ u,o=fv u/\RelV v u:=by
 cases o with
 | none=>exact(show False from r).elim
 | some u=>exact⟨u,rfl,r⟩
section
variable{P:Sv}{w:SQ}{H H':Hp}{h h':S6}{a C dx:RQ}{fs fs':List (Str × V)}
theorem B3(aW:iS P w H h)(e:H a=fv (.ins C dx fs)): ∃ mA,Lc h a dx C mA/\(∀ f,jP (fs.lookup f) (mA f))/\aae mA (fs.map (·.1))/\fs.length<=1000/\H dx=fv (.own a):=by
 obtain⟨d,z,ne,ob,mA,n,r,q⟩:=(show aN P w H h a (.ins C dx fs) from aW a _ e)
 exact⟨mA,⟨ob,n,ne⟩,r,q,z,d⟩
end
structure Po(K:Rx)(C:RQ):Prop where
 pg:Zc K C Str.empty=true
 hd:PySem.W.hasDictIn K C=true
 po:PySem.W.plainOver K C=true
 sa:VI K (.ref C) "__setattr__" =fv (fv (.builtin "object.__setattr__"))
theorem Po.get{K}(c:Po K C) f:Zc K C f=true:=c.pg
structure Rt(K:Rx)(C:RQ)(f:Str)(v:V)(u:RA):Prop where
 at_:VI K (.ref C) f=fv (fv u)
 rel:RelV v u
 get:YO K u "__get__" =fv Rv
 cp:PySem.W.copiedNames.contains f=false
structure Meth(K:Rx)(C:RQ)(m:Str)(f:RQ):Prop where
 at_:VI K (.ref C) m=fv (fv (.ref f))
 fn:aag K (.ref f)=true
 kp:UH K (.ref f)=true
section
variable{X:Cx}{pins:List (RQ × Obj)}{σ :St}{H:Hp}{s:RD}{a C dx:RQ}{fs:List (Str × V)}{f:Str}{v:V}{A:Ti}{E:RA->RD->Prop}
theorem Inv.made(I:Inv X pins σ H s):Inv X pins σ (upd (upd H s.heap.objs.size (.own (s.heap.objs.size+1))) (s.heap.objs.size+1) (.ins C s.heap.objs.size []))
  { s with heap:=(s.heap.push TH).push (Up C s.heap.objs.size)}:=by
 have e1:(s.heap.push TH).get? s.heap.objs.size=fv TH:=RO s.heap rfl;have e2:((s.heap.push TH).push (Up C s.heap.objs.size)).get? (s.heap.objs.size+1)=fv (Up C s.heap.objs.size):=by
  have:=RO (s.heap.push TH) (o:=Up C s.heap.objs.size) rfl
  rwa [SK] at this
 have e3:(s.heap.push TH).Ns s.heap.objs.size (λ_=>Rv):=⟨TH, #[],_,e1,rfl,(λe he=>absurd he (by simp)),λ_=>rfl⟩
 have I1:=I.laid (a:=s.heap.objs.size) (o:= .own (s.heap.objs.size+1)) (h':=s.heap.push TH) (t':=s.toks) (λb u q=>Ry _ q) (RE _) ⟨_,e1⟩;refine I1.laid (a:=s.heap.objs.size+1) (o:= .ins C s.heap.objs.size []) (t':=s.toks) (λb u q=>Ry _ q) (Nat.le_of_eq (SK _ _)) ?_;have ne:s.heap.objs.size≠s.heap.objs.size+1:=R1 (VU _);refine⟨by rw[av ne,aX],Si _,ne,e2,λ_=>Rv,(Heap.Ns1.of_empty e3).at λo q=>Ry _ q,λ_=>UL,λy hy=>absurd rfl hy⟩
end
section
variable{X:Cx}{pins:List (RQ × Obj)}{σ :St}{H:Hp}{s:RD}{A:Ti}{E:RA->RD->Prop}{Q:RA->RD->Prop}{c:RA}{b:Bool}
inductive iF(K:Rx)(H:Hp):V->RA->Prop where
 | non:iF K H .non (.type "NoneType")
 | bl (x:Bool):iF K H (.bl x) (.type "bool")
 | int (i:Int):iF K H (.int i) (.type "int")
 | str (x:Str):iF K H (.str x) (.type "str")
 | flt (x:UInt64):iF K H (.flt x) (.type "float")
 | lst {a:RQ} {xs:List V} (e:H a=fv (.lst xs)):iF K H (.ref a) (.type "list")
 | iW {a:RQ} {o:Obj} {xs:List V} (e:H a=fv (.iW o (.lst xs))):iF K H (.ref a) (.type "list")
 | tup {a:RQ} {xs:List V} (e:H a=fv (.tup xs)):iF K H (.ref a) (.type "tuple")
 | dK {a:RQ} {kvs:List (Key × V)} (e:H a=fv (.dK kvs)):iF K H (.ref a) (.type "dict")
 | dT {a:RQ} {kvs:List (List Key × V)} (e:H a=fv (.dT kvs)):iF K H (.ref a) (.type "dict")
 | ins {a C dx:RQ} {fs:List (Str × V)} (e:H a=fv (.ins C dx fs)) (cl:Po K C) (ha:VI K (.ref C) "__class__" =fv (fv (.builtin "object.__class__")))
   (hn:YO K (.builtin "object.__class__") "__get__" =fv (fv (.builtin "getset_descriptor.__get__"))) (htk:PySem.W.takesIn K (.builtin "object.__class__")=fv true)
   (hm:PySem.W.mroIn K C (.type "object")=fv true):iF K H (.ref a) (.ref C)
theorem yk{x:V}{u t:RA}(I:Inv X pins σ H s)(rx:RelV x u)(ty:iF X.K H x t)(e:Wm X.K t c=fv b)(h: ∀ tk,Q (.bool b) { s with toks:=tk}) :
  RX (R4 X.prog X.w) A (call (.builtin "isinstance") [u,c]) Q E s:=by
 cases ty with
 | non=>cases(show u=Uy from rx);exact S9 PySem.W.kitx_none I.j9 UL e (λz=>by cases z) h
 | bl y=>cases(show u=Wj y from rx);exact S9 PySem.W.kitx_bool I.j9 UL e (λz=>by cases z) h
 | int i=>obtain⟨t,q⟩:=(show ∃ t,u=Vc i t from rx);cases q;exact S9 PySem.W.kitx_int I.j9 UL e (λz=>by cases z) h
 | str y=>obtain⟨t,q⟩:=(show ∃ t,u=VS y t from rx);cases q;exact S9 PySem.W.kitx_str I.j9 UL e (λz=>by cases z) h
 | flt y=>obtain⟨t,q⟩:=(show ∃ t,u=Zt y t from rx);cases q;exact S9 ZV I.j9 UL e (λz=>by cases z) h
 | @lst a xs ea =>
  cases(show u=R0 a from rx)
  obtain⟨_,_,n,_,h1⟩:=(show aN X.prog X.w H s.heap a (.lst xs) from I.aW a _ ea)
  exact S9 WQ I.j9 ⟨_,h1,rfl⟩ e (λz=>nomatch z) h
 | @iW a ob xs ea =>
  cases(show u=R0 a from rx)
  obtain⟨_,_,_,n,_,h1⟩:=(show aN X.prog X.w H s.heap a (.iW ob (.lst xs)) from I.aW a _ ea)
  exact S9 WQ I.j9 ⟨_,h1,rfl⟩ e (λz=>nomatch z) h
 | @tup a xs ea =>
  cases(show u=R0 a from rx)
  obtain⟨_,_,_,p⟩:=(show aN X.prog X.w H s.heap a (.tup xs) from I.aW a _ ea)
  obtain⟨o,h1,h2,_⟩:=p
  exact S9 ZW I.j9 ⟨o,h1,h2⟩ e (λz=>nomatch z) h
 | @dK a kvs ea =>
  cases(show u=R0 a from rx)
  obtain⟨_,_,vs,_,p⟩:=(show aN X.prog X.w H s.heap a (.dK kvs) from I.aW a _ ea)
  obtain⟨o,es,ep,h1,h2,_⟩:=p
  exact S9 WR I.j9 ⟨o,h1,h2.1⟩ e (λz=>nomatch z) h
 | @dT a kvs ea =>
  cases(show u=R0 a from rx)
  obtain⟨_,_,xs,_,o,es,ep,h1,h2,_⟩:=(show aN X.prog X.w H s.heap a (.dT kvs) from I.aW a _ ea)
  exact S9 WR I.j9 ⟨o,h1,h2.1⟩ e (λz=>nomatch z) h
 | @ins a C dx fs ea cl ha hn htk hm =>
  cases(show u=R0 a from rx)
  obtain⟨mA,O,_⟩:=B3 I.aW ea
  obtain⟨od,J,_⟩:=O.look
  exact S9 (PySem.W.kitx_own (cl.get _) cl.hd ha hn htk hm) I.j9 J e (λz=>nomatch z) h
end
structure cx(k:Nat)(A:Ti):Prop where
 hd:A.handled=Rv
 dp:A.depth+3*k+5 < recursionLimit
 un:A.units+16*k+200 < Vp
 gd:A.guards=fv []
theorem cx.mono(r:cx k A)(h:j<=k):cx j A:=⟨r.hd,by have:=r.dp;omega,by have:=r.un;omega,r.gd⟩
theorem cx.deeper(r:cx (k+1) A) env:cx k (A.deeper env) :=
 ⟨r.hd,by have:=r.dp;show A.depth+1+3*k+5 < _;omega,by have:=r.un;show A.units+3+16*k+200 < _;omega,r.gd⟩
theorem cx.in1(r:cx (k+1) A):cx k A.in1 :=
 ⟨r.hd,by have:=r.dp;show A.depth+3*k+5 < _;omega,by have:=r.un;show A.units+1+16*k+200 < _;omega,r.gd⟩
theorem cx.depth(r:cx k A):A.depth < recursionLimit:=by have:=r.dp;omega
theorem cx.units(r:cx k A):A.units+64 < Vp:=by have:=r.un;omega
theorem cx.Kw(r:cx k A):A.units < Vp:=by have:=r.un;omega
noncomputable def MX:TA:=λ_ H Q=>Q [] H
noncomputable def AB(ta:TE)(tr:TA):TA:=fun σ H Q=>ta σ H λx H1=>tr σ H1 λxs H2=>Q (x::xs) H2
section
variable{X:Cx}{e:Sy}{es:List Sy}{te:TE}{t:TA}{pos:Pos}
theorem Jk:PA X [] MX:=λ_ _ _ _ H Q I h=>WE ⟨[],H,I,.nil,h⟩
theorem DF(ha:PE X e te)(hr:PA X es t)(hs:Ss (e::es) X.env=(false,Tw e X.env)::Ss es X.env:=by rfl):PA X (e::es) (AB te t):=by
 intro pos pins s σ H Q I h;rw[hs];show RX _ _ (spliced ((false,Tw e X.env)::VT pos (Ss es X.env))) _ _ s;refine Vy (gL (ha pins s σ H _ I h) λu s1 x H1 I1 r1 q1=>?_);exact yu (hr pos pins s1 σ H1 _ I1 q1) λus s2 xs H2 I2 r2 q2=>⟨x::xs,H2,I2,.cons r1 r2,q2⟩
def M7(t:TA):TE:=fun σ H Q=>t σ H λxs H1=>xs.length<=RF/\ ∀ p,H1 p=Rv->Q (.ref p) (upd H1 p (.tup xs))
def Mx(t:TA):TE:=fun σ H Q=>t σ H λxs H1=>xs.length<=RF/\ ∀ p,H1 p=Rv->Q (.ref p) (upd H1 p (.lst xs))
theorem K6(h:PA X es t):PE X (.Tuple es x1 pos) (M7 t):=by
 intro pins s σ H Q I hq;refine wpAny_Tuple_spliced (yu (h pos pins s σ H _ I hq) λus s1 xs H1 I1 r ⟨z,q⟩=>⟨by rw[<- r.length];exact z,?_⟩);have hf:=I1.aW.fresh (RE _);refine⟨.ref s1.heap.objs.size,upd H1 s1.heap.objs.size (.tup xs),I1.laid (t':=s1.toks) (λb u e=>Ry _ e) (RE _) ?_,rfl,q _ hf⟩;exact⟨z,us,r,⟨_,RO _ rfl,rfl,_,rfl,rfl⟩⟩
theorem Gv(h:PA X es t):PE X (.List es pos) (Mx t):=by
 intro pins s σ H Q I hq;refine wpAny_List_spliced (yu (h pos pins s σ H _ I hq) λus s1 xs H1 I1 r ⟨z,q⟩=>⟨by rw[<- r.length];exact z,?_⟩);have hf:=I1.aW.fresh (RE _);refine⟨.ref s1.heap.objs.size,upd H1 s1.heap.objs.size (.lst xs),I1.laid (t':=s1.toks) (λb u e=>Ry _ e) (RE _) ?_,rfl,q _ hf⟩;exact⟨z,us,0,r,RO _ rfl⟩
end
abbrev Sp:=List V->Hp->VK->XK->Prop
abbrev FY:=List Env->Hp->RD->XK->RA->RD->Prop
structure uL(P:Sv)(w:SQ)(K:Rx)(mg:Str->Option RA)(base:S6)(A:Ti)(outer:List Env)(s:RD)(H:Hp):Prop where
 frames:A.frames=fv outer
 mod:Mod K mg base
 bs: ∀ b o,base.get? b=fv o->s.heap.get? b=fv o/\H b=Rv
 BW:base.objs.size<=s.heap.objs.size
 ke:s.heap.FunFrames base outer
 FG: ∀ b∈yq outer,H b=Rv
 aW:iS P w H s.heap
 bare:WB s.gens
def CE(outer:List Env)(P:Sv)(w:SQ) H (s:RD) (Q:VK) (u:RA) (s':RD) :=
 ∃ v H',s'.os=s.os/\WB s'.gens/\Un (yq outer) [] H H' s.heap s'.heap/\iS P w H' s'.heap/\RelV v u/\Q v H'
def CR(CX:FY)(outer:List Env)(P:Sv)(w:SQ) H (s:RD) Q E (r:Result) (s':RD) :=
 match r with
 | .ok (.ret u)=>CE outer P w H s Q u s'
 | .ok _=>False
 | .error e=>CX outer H s E e s'
structure jr(P:Sv)(w:SQ)(K:Rx)(mg:Str->Option RA)(base:S6)(CX:FY)(k:Nat)(f:RQ)(fd:Vq)(ps:List Str)(sp:Sp):Prop where
 len: ∀ vs H Q E,sp vs H Q E->vs.length=ps.length
 run: ∀(A:Ti)(outer:List Env)(s:RD)(H:Hp)(args:Args)(us:List RA)(vs:List V)(Q:VK)(E:XK),cx k A->uL P w K mg base A outer s H->Xp s fd args (ps.zip us)->Vals vs us->sp vs H Q E ->
  Xq (R4 P w) A (.call (.ref f) args) (CR CX outer P w H s Q E) s
theorem jr.imp{K}(F:jr P w K mg base CX k f fd ps sp)
  (h: ∀ vs H Q E,sp' vs H Q E->sp vs H Q E):jr P w K mg base CX k f fd ps sp' :=
 ⟨λvs H Q E q=>F.len vs H Q E (h _ _ _ _ q),λA outer s H args us vs Q E hr he hb hv hs=>F.run A outer s H args us vs Q E hr he hb hv (h _ _ _ _ hs)⟩
theorem uL.in1{K}(e:uL P w K mg base A outer s H) :
  uL P w K mg base A.in1 outer s H:=⟨e.frames,e.mod,e.bs,e.BW,e.ke,e.FG,e.aW,e.bare⟩
section
variable{X:Cx}{pins:List (RQ × Obj)}{σ :St}{H:Hp}{s s':RD}
theorem Inv.Qc(I:Inv X pins σ H s):uL X.prog X.w X.K X.mg X.base X.A X.stack s H :=
 ⟨I.ok.frames,I.ok.mod,I.bs,R5 I.ok.BW I.sz,I.stack,I.vM,I.aW,I.bare⟩
theorem Inv.after(I:Inv X pins σ H s)(h:CE X.stack X.prog X.w H s Q u s'):EP X pins σ Q u s':=by
 obtain⟨v,H',os,bare,un,aW,r,q⟩:=h;obtain⟨hh,g,d,t,os'⟩:=s';obtain rfl:os'=s.os:=os;exact⟨v,H',I.call (h':=hh) (g':=g) (d':=d) (t':=t) (ch:=[]) un aW bare (λb z=>absurd z (by simp)),r,q⟩
end
noncomputable def vW(sp:Sp)(EY:List V)(E:XK)(t:TA):TE:=fun σ H Q=>t σ H λvs H1=>sp (vs++EY) H1 Q E
def Binds(K:Rx)(fd:Vq)(ps:List Str)(ds:List RA) :=
 ∀ s us,K.In s.heap->(us++ds).length=ps.length->Xp s fd ⟨us,[]⟩ (ps.zip (us++ds))
theorem Binds.all{K}(h: ∀ us ,us.length=ps.length->UR fd ⟨us,[]⟩=pure (ps.zip us)):Binds K fd ps []:=λs us _ hl=>by
 rw[Tq] at hl ⊢;exact .of_eq (h us hl)
def Passes(CX:FY) X E:= ∀ pins(σ :St) H s e s',Inv X pins σ H s->CX X.stack H s E e s'->X.xe e s'
section
variable{X:Cx}{CX:FY}{k:Nat}{f C:RQ}{fd:Vq}{ps:List Str}{sp:Sp}{EY:List V}{ds:List RA}{E:XK}{x m:Str}{p pos apos:Pos}{e o:Sy}{es:List Sy}{ta:TE}{t:TA}
theorem Gi{σ :St}(F:jr X.prog X.w X.K X.mg X.base CX k f fd ps sp)(hr:cx k X.A)(hb:Binds X.K fd ps ds)(hd:Vals EY ds)(hx:Passes CX X E)
  (I:Inv X pins σ H s) (r:Vals vs us) (h:sp (vs++EY) H Q E):RX (R4 X.prog X.w) X.A (call (.ref f) us) (EP X pins σ Q) X.xe s:=by
 have r2:=r.append hd;have hl:(us++ds).length=ps.length:=by rw[<- r2.length];exact F.len _ _ _ _ h
 refine wpAny_call (YQ (F.run X.A X.stack s H ⟨us,[]⟩ (us++ds) (vs++EY) Q E hr I.Qc (hb s us I.j9 hl) r2 h) λr s' hq=>?_);cases r with
 | error e=>exact hx pins σ H s e s' I hq
 | ok fl =>
  cases fl with
  | ret u=>exact I.after hq
  | next=>exact TF hq
  | brk=>exact TF hq
  | cont=>exact TF hq
theorem Ep(F:jr X.prog X.w X.K X.mg X.base CX k f fd ps sp)(hr:cx k X.A)(hg:Gl X x)(hm:X.mg x=fv (.ref f))(hk:UH X.K (.ref f)=true)(hb:Binds X.K fd ps ds)(hd:Vals EY ds)(hx:Passes CX X E)
  (ha:PA X (e::es) t) (hdb:(x == ("__debug__"))=false:=by decide) (he:Ss (e::es) X.env=(false,Tw e X.env)::Ss es X.env:=by rfl) (hpl:(VT pos (Ss es X.env)).any (·.1)=false:=by rfl) :
  PE X (.Call (.Name x p) (e::es) [] pos) (vW sp EY E t):=by
 intro pins s σ H Q I h;refine Wn (vO I hg hm ?_ hdb);refine PySem.W.callWith_K (h₀ :=X.base) I.ok.mod.Qb hk (yu (ha pos pins s σ H _ I h) λus s1 vs H1 I1 r q=>⟨I1.j9,?_⟩) he hpl;exact Gi F hr hb hd hx I1 r q
structure Mk(K:Rx)(C f:RQ):Prop where
 makes:PySem.W.makesIn K C=true
 init:VI K (.ref C) "__init__" =fv (fv (.ref f))
 fn:aag K (.ref f)=true
 kp:UH K (.ref C)=true
end
section
variable{X:Cx}{CX:FY}{k:Nat}{f C:RQ}{fd:Vq}{ps ks:List Str}{sp:Sp}{E:XK}{x m:Str}{p pos apos kpos:Pos}{e o:Sy}{es:List Sy}{kws:List Yi}{te ta:TE}{t tk:TA}{nm:Option Str}
structure Px(K:Rx)(fd:Vq)(ps ks:List Str)(g:List RA->List RA->List RA)(gV:List V->List V->List V):Prop where
 to: ∀(s:RD)(us ws:List RA),K.In s.heap->(g us ws).length=ps.length->Xp s fd ⟨us,ks.zip ws⟩ (ps.zip (g us ws))
 rel: ∀{vs:List V}{us:List RA}{zs:List V}{ws:List RA},Vals vs us->Vals zs ws->Vals (gV vs zs) (g us ws)
variable{g:List RA->List RA->List RA}{gV:List V->List V->List V}
end
structure cE(N P:List Str)(sc:WA):Prop where
 kind:sc.kind= .function
 co:sc.isCoroutine=false
 gen:sc.isGenerator=false
 nd:N.Nodup
 pre:N.take P.length=P
 par: ∀ x∈P,sc.names.lookup x=fv .local\/sc.names.lookup x=fv .cell
 Hy: ∀ y∈sc.names,y.2≠ .free
theorem oO{kindOf}: ∀{binds m},(∀ v,(x,v) ∉ binds)->bindL kindOf binds m x=m x
 | [],_,_=>rfl
 | (n,v)::r,m,h=>by
  unfold bindL;rw[oO λw hw=>h w (RS _ hw)];split
  . have:x≠n:=by rintro rfl;exact h v RU
    simp[this]
  . rfl
theorem oY{kindOf}: ∀{binds m},(∀ v,(x,v) ∉ binds)->bindC kindOf binds m x=m x
 | [],_,_=>rfl
 | (n,v)::r,m,h=>by
  unfold bindC;rw[oY λw hw=>h w (RS _ hw)];split
  . rfl
  . have:x≠n:=by rintro rfl;exact h v RU
    simp[this]
theorem o9{kindOf:Str->Option V1}{x:Str}{v:RA}: ∀{P:List Str}{vs:List RA}{i:Nat}{m:Str->Option RA},P.Nodup->P[i]?=fv x->vs[i]?=fv v->kindOf x=fv .local ->
  bindL kindOf (P.zip vs) m x=fv v
 | [],_,_,_,_,h,_,_=>by simp at h
 | _::_,[],_,_,_,_,h,_=>by simp at h
 | p::P,w::vs,0,m,nd,h1,h2,hk=>by
  simp at h1 h2;subst h1;subst h2;show bindL kindOf ((p,w)::P.zip vs) m p=_;unfold bindL;rw[oO λv hv=>(Us.mp nd).1 (XJ hv).1,if_pos hk];simp
 | p::P,w::vs,i+1,m,nd,h1,h2,hk=>by
  unfold bindL;exact o9 (i:=i) (Us.mp nd).2 (by simpa using h1) (by simpa using h2) hk
theorem pf{kindOf:Str->Option V1}{x:Str}{v:RA}: ∀{P:List Str}{vs:List RA}{i:Nat}{m:Str->Option RA},P.Nodup->P[i]?=fv x->vs[i]?=fv v->kindOf x≠fv .local ->
  bindC kindOf (P.zip vs) m x=fv v
 | [],_,_,_,_,h,_,_=>by simp at h
 | _::_,[],_,_,_,_,h,_=>by simp at h
 | p::P,w::vs,0,m,nd,h1,h2,hk=>by
  simp at h1 h2;subst h1;subst h2;show bindC kindOf ((p,w)::P.zip vs) m p=_;unfold bindC;rw[oY λv hv=>(Us.mp nd).1 (XJ hv).1,if_neg hk];simp
 | p::P,w::vs,i+1,m,nd,h1,h2,hk=>by
  unfold bindC;exact pf (i:=i) (Us.mp nd).2 (by simpa using h1) (by simpa using h2) hk
noncomputable def start(N:List Str)(vs:List V):St:=vs.map fv++Rz (N.length - vs.length) Rv
noncomputable def iE(CX:FY)(P:Sv)(w:SQ)(K:Rx)(mg:Str->Option RA)(base:S6)(N:List Str)(qual:Str)(scope:WA)(f:RQ)(cd:RA)(A:Ti)(outer:List Env)(s:RD)(H:Hp)(E:XK):Cx where
 prog:=P
 w:=w
 K:=K
 mg:=mg
 base:=base
 A:=A.deeper (Wo qual scope s.heap.objs.size f cd)
 N:=N
 s₀ :=s
 H₀ :=H
 env:=Wo qual scope s.heap.objs.size f cd
 outer:=outer
 stack:=Wo qual scope s.heap.objs.size f cd::outer
 ex:=[]
 calm:=true
 fn:=λ_=>true
 pn:=[]
 xe:=λe s'=>RX (R4 P w) (A.deeper (Wo qual scope s.heap.objs.size f cd)) (leaving (Wo qual scope s.heap.objs.size f cd) e) (λ_ s''=>CX outer H s E e s'') (λe' s''=>CX outer H s E e' s'') s'
theorem rL{sc:WA}(h:sc.names.lookup x=fv .cell): ∃ c,(UY n sc.names []).lookup x=fv c:=by
 have q:=VJ sc.names n [] (.inl h);exact Vr.mp q
theorem x9{K} 
  (S:cE N ps scope) (hd:A.handled=Rv) (e0:uL P w K mg base A outer s H) (hl:vs.length=ps.length) (r:Vals vs us)
  (x:InCallC s s.heap.objs.size (bindL (Wo qual scope s.heap.objs.size f cd).kindOf (ps.zip us) λ_=>Rv) (UY (s.heap.objs.size+1) scope.names []) (bindC (Wo qual scope s.heap.objs.size f cd).kindOf (ps.zip us) λ_=>Rv) s1) :
  Inv (iE CX P w K mg base N qual scope f cd A outer s H E) [] (start N vs) H s1:=by
 have hpl:ps.length<=N.length:=by have:=congrArg List.length S.pre;rw[Tt] at this;omega
 obtain⟨h1,tk,rfl,hk⟩:=x.done;have noA: ∀ b:RQ,b ∉ (iE CX P w K mg base N qual scope f cd A outer s H E).ex:=λb z=>absurd (show b∈([]) from z) (by simp);refine⟨⟨e0.mod,S.kind,rfl,rfl,RE _,λy z c h1 h2=>?_,λy hy=>?_,λy c _ h=>?_,λ_=>hd,Around.frames_deeper e0.frames,.inr ⟨rfl,rfl⟩,λb z=>absurd z (noA b),e0.bs,e0.BW,λb _ _=>noA b,λb z=>absurd z (noA b),e0.ke,e0.FG⟩,
  rfl,e0.bare,Un.kept hk,⟨_,x.toInCall.ns,λi y v h1 h2 h3=>?_⟩,λy c h=>⟨_,x.cell y c h⟩,e0.aW.fresh (RE _),λy c h=>?_,λp hp=>absurd (show p∈([]) from hp) (by simp),e0.aW.kept hk,?_⟩
 . exact name_of_addr x.apart (UE h1) (UE h2)
 . rcases hy with hy | hy
   . exact rL hy
   . exact absurd rfl (S.Hy _ (UE hy))
 . exact Uv (x.above y c (UE h))
 . have hi:i < vs.length:=by
    unfold start at h2;by_cases hi:i < vs.length
    . exact hi
    . rw[Sa (by simpa using hi)] at h2;rw[S7] at h2;split at h2<;>cases h2
   have ha:vs[i]?=fv v:=by
    unfold start at h2;rw[So (by simpa using hi),RP] at h2;cases e:vs[i]? with
    | none=>simp_all
    | some a=>simp_all
   obtain⟨u,hu,rv⟩:=r.get ha;have hp:ps[i]?=fv y:=by
    rw[<- S.pre,List.getElem?_take_of_lt (by omega)];exact h1
   have ndP:ps.Nodup:=by rw[<- S.pre];exact S.nd.sublist (YR _ _)
   refine⟨u,rv,?_⟩;rcases S.par y (RN hp) with k | k
   . exact .inl ⟨k,o9 ndP hp hu k⟩
   . obtain⟨c,e⟩:=rL (n:=s.heap.objs.size+1) k;refine .inr ⟨.inl k,c,e,?_⟩;have q:=x.cell y c e;rw[pf ndP hp hu (by show scope.names.lookup y≠_;rw[k];decide)] at q;exact q
 . exact e0.aW.fresh (Uv (x.above y c (UE h)))
 . unfold start;show _=N.length;rw [Sd,RB,Uk];omega
theorem Mn{K kV} 
       (lk : K.lookup f = some ⟨oc, od, .func (PySem.W.fnOf name qual params body scope dV kV doc pm an cdv ct), osl⟩) (hcd : PySem.W.codeIn K cdv qual = true) (S : cE N ps scope)
    (len : ∀ vs H Q E, sp vs H Q E -> vs.length = ps.length)
    (hbody : ∀ A outer s H vs Q E, cx k (A.deeper (Wo qual scope s.heap.objs.size f cdv)) -> sp vs H Q E ->
      ∃ t, tJ (iE CX P w K mg base N qual scope f cdv A outer s H E) body t /\ t { nx := λ_ H' => Q .non H', rt := Q} (start N vs) H) :
    jr P w K mg base CX (k + 1) f (S4 name qual params body scope dV kV doc pm an cdv ct) ps sp := by
  refine ⟨len, λA outer s H args us vs Q E hr e0 hb r hsp => ?_⟩;have hl := len _ _ _ _ hsp;have KX := e0.mod.Qb.keeps λb o e => (e0.bs b o e).1;have lim := e0.mod.nolimit.keeps λb o e => (e0.bs b o e).1;have hkind : ∀ y ∈ ps.zip us, scope.names.lookup y.1 = fv .local ∨ (scope.names.lookup y.1 = fv .cell /\ ((UY (s.heap.objs.size + 1) scope.names []).lookup y.1).isSome = true) := λ⟨n, v⟩ hy => by
    rcases S.par n (XJ hy).1 with q | q
    . exact .inl q
    . exact .inr ⟨q, VJ _ _ _ (.inl q)⟩
  refine codeAny_call_function hr.depth (KX _ _ lk) rfl S.co S.gen rfl (PySem.W.codeRec_of KX hcd) (hb _ _ _ _ ?_);refine wpAny_newFunctionEnv_cells S.kind hkind λenv he s1 x => ?_;subst he;refine ⟨lim.keeps x.toInCall.keep, codeAny_func ?_⟩;obtain ⟨t, ht, hq⟩ := hbody A outer s H vs Q E (hr.deeper _) hsp;have I : Inv (iE CX P w K mg base N qual scope f cdv A outer s H E) [] (start N vs) H s1 := x9 S hr.hd e0 hl r x;refine Sq (ht [] s1 (start N vs) H _ I hq) (λfl s' hs => ?_) λe s' hs => hs;have fin : ∀{σ' : St}{H' : Hp}{v : V}{u : RA}, Inv (iE CX P w K mg base N qual scope f cdv A outer s H E) [] σ' H' s' -> RelV v u -> Q v H' -> CE outer P w H s Q u s' :=
    λ{σ' H' v u} J rv q => ⟨v, H', J.os, J.bare, J.base, J.aW, rv, q⟩
  cases fl with
  | ret u =>
    obtain ⟨v, σ', H', J, rv, q⟩ := hs
    exact fin J rv q
  | next =>
    obtain ⟨σ', H', J, q⟩ := hs
    exact fin (v := V.non) (u := Uy) J rfl q
  | brk =>
    obtain ⟨_, _, _, q⟩ := hs
    exact TF q
  | cont =>
    obtain ⟨_, _, _, q⟩ := hs
    exact TF q
section
variable{X:Cx}{x:Str}{p pos:Pos}{e:Sy}{es:List Sy}{t:TA}{id T:String}{r:List V->Hp->VK->Prop}
noncomputable def HK(r:List V->Hp->VK->Prop)(t:TA):TE:=fun σ H Q=>t σ H λvs H1=>r vs H1 Q
theorem AS(hc:aG X (.builtin id) r)(hg:Gl X x)(hm:X.mg x=Rv)(hv:Ta x=fv (.builtin id))(ha:PA X (e::es) t)(hn:x≠ "__name__" :=by decide)(hdb:(x == ("__debug__"))=false:=by decide)
  (he:Ss (e::es) X.env=(false,Tw e X.env)::Ss es X.env:=by rfl) (hpl:(VT pos (Ss es X.env)).any (·.1)=false:=by rfl):PE X (.Call (.Name x p) (e::es) [] pos) (HK r t):=by
 intro pins s σ H Q I h;refine Wn (gU I hg hm hv ?_ hn hdb);exact Zd (yu (ha pos pins s σ H _ I h) λus s1 vs H1 I1 r1 q1=>hc pins s1 σ H1 vs us Q I1 r1 q1) he hpl
theorem xI(hc:aG X (.type T) r)(hg:Gl X x)(hm:X.mg x=Rv)(hv:Ta x=fv (.type T))(ha:PA X (e::es) t)(hn:x≠ "__name__" :=by decide)(hdb:(x == ("__debug__"))=false:=by decide)
  (he:Ss (e::es) X.env=(false,Tw e X.env)::Ss es X.env:=by rfl) (hpl:(VT pos (Ss es X.env)).any (·.1)=false:=by rfl):PE X (.Call (.Name x p) (e::es) [] pos) (HK r t):=by
 intro pins s σ H Q I h;refine Wn (gU I hg hm hv ?_ hn hdb);exact S5 (yu (ha pos pins s σ H _ I h) λus s1 vs H1 I1 r1 q1=>hc pins s1 σ H1 vs us Q I1 r1 q1) he hpl
end
end L2
namespace HT
open PySem PyProof.Rows
section
variable{prog:Sv}{w:SQ}{A:Ti}{E:RA->RD->Prop}{s:RD}
theorem Ei{t b:RQ}{vs ws:List RA}{Q:RA->RD->Prop}(ht:IsTup s.heap t vs.toArray)(hb:IsTup s.heap b ws.toArray)(hv:vs≠[])
  (h1:ws=[]->Q (.ref t) s) (h2:ws≠[]->Q (.ref s.heap.objs.size) { s with heap:=s.heap.push { cls:= .type "tuple",data:= .seq (vs++ws).toArray}})
  (hsz:vs.length+ws.length<=RF):RX (R4 prog w) A (Td .Add (.ref t) (.ref b)) Q E s:=by
 obtain⟨⟨cls,dd,data,sl⟩,ho,hc,n,hd⟩:=id ht;obtain⟨⟨cls2,dd2,data2,sl2⟩,ho2,hc2,n2,hd2⟩:=id hb;simp only at hc hd hc2 hd2;subst hc hd hc2 hd2;have e:vs.toArray++ws.toArray=(vs++ws).toArray:=by simp
 by_cases hw:ws=[]
 . exact YS ⟨_,ho,rfl⟩ ⟨_,ho2,rfl⟩ W8 Yu VL VD (Vs _ _)
    (tuple_addW1 t b vs.toArray ws.toArray n n2 dd dd2 sl sl2 (by simpa using hv) (by simp[hw])) ⟨ho,ho2,h1 hw⟩
 . refine YS ⟨_,ho,rfl⟩ ⟨_,ho2,rfl⟩ W8 Yu VL VD (Vs _ _)
    (tuple_addW2 t b vs.toArray ws.toArray n n2 dd dd2 sl sl2 (by simpa using hv) (by simpa using hw) (by exact hsz)) ⟨ho,ho2,?_⟩
   rw[e];exact h2 hw
noncomputable def cH(n d:Nat):Option Int->Nat
 | none=>d
 | some v=>if v < 0 then(v+(n)).toNat else min v.toNat n
theorem j0 n d:cH n d Rv=d:=rfl
theorem ly(n d k:Nat):cH n d (fv (k))=min k n:=by
 rfl
theorem PR n d (hd:d<=n) o:cH n d o<=n:=by
 cases o with
 | none=>exact hd
 | some v =>
  show(if v < 0 then(v+(n)).toNat else min v.toNat n)<=n
  by_cases hv:v < 0
  . grind
  . rw[if_neg hv];exact W9 _ _
theorem vQ v (n d:Nat):(if v < 0 then max (v+(n:Int)) 0 else min v (n))=((cH n d (fv v))):=by
 show(if v < 0 then max (v+(n)) 0 else min v (n))=(((if v < 0 then(v+(n)).toNat else min v.toNat n)))
 by_cases hv:v < 0
 . simp_all
 . grind
theorem uk lo hi (n:Nat):Vf lo hi 1 (n)=(((cH n 0 lo):Int),((cH n n hi):Int)):=by
 have h1: ¬ ((1) < 0):=by omega
 unfold Vf;refine Prod.ext ?_ ?_
 . cases lo with
   | none=>rfl
   | some v=>exact vQ v n 0
 . cases hi with
   | none=>rfl
   | some v=>exact vQ v n n
theorem tY(i j:Nat):Um (i) (j) 1=j - i:=by
 unfold Um;have h1:(1:Int) > 0:=by omega
 simp only[h1,if_true,Int.ediv_one];split<;>omega
theorem nq{v:RA}{o:Option Int}{Q:Option Int->RD->Prop}(p:Xr v o)(h:Q o s):RX (R4 prog w) A (ZD v) Q E s:=by
 cases p with
 | none=>exact slicePart_none h
 | int i t=>exact slicePart_int h
theorem fK{sl:RQ}{vl vu:RA}{lo hi:Option Int}{n:Nat}{Q:Int × Int × Nat->RD->Prop}(hs:s.heap.IsSliceOf sl vl vu .none)(pl:Xr vl lo)(pu:Xr vu hi)
  (h:Q (((cH n 0 lo:Nat):Int),1,cH n n hi - cH n 0 lo) s):RX (R4 prog w) A (ZX (.ref sl) (pure (n:Int))) Q E s:=by
 obtain⟨os,hos,hcs,hds⟩:=id hs;refine Ru (Ru (Tf hos hds (x:=vl) rfl (Ru (Tf hos hds (x:=vu) rfl (Ru (Tf hos hds (x:= .none) rfl (RG ?_)))))));refine Ru (slicePart_none ?_);refine Ru (nq pl (Ru (nq pu (Ru (RG ?_)))));show RX _ _ (match Vf lo hi 1 (n) with | (lo,hi)=>pure (lo,(1:Int),Um lo hi 1)) _ _ s;rw[uk lo hi n];show RX _ _ (pure (((cH n 0 lo):Int),(1),Um ((cH n 0 lo)) ((cH n n hi)) 1)) _ _ s;rw[tY];exact RG h
theorem zK(xs:Array RA)(i k:Nat):((RJ k).filterMap λ(m:Nat)=>xs[((i:Int)+(m)*1).toNat]?).toArray=((xs.toList.drop i).take k).toArray:=by
 have e:(λ(m:Nat)=>xs[((i)+(m:Int)*1).toNat]?)=λm=>xs[i+m]?:=by
  funext m
  have:((i)+(m:Int)*1).toNat=i+m:=by omega
  rw[this]
 rw[e];have:=pick_run xs i k;rw[List.filterMap_map] at this;have e2:((λx=>xs[x]?) ∘ λx=>i+x)=λm=>xs[i+m]?:=rfl;rw[e2] at this;rw [this]
theorem jK{t sl : RQ}{items : Array RA}{vl vu : RA}{lo hi : Option Int}{Q : RA -> RD -> Prop}(ht : IsTup s.heap t items)(hs : s.heap.IsSliceOf sl vl vu .none)(pl : Xr vl lo)(pu : Xr vu hi)
    (hw : ¬ (cH items.size 0 lo = 0 /\ cH items.size items.size hi = items.size))
    (h : Q (.ref s.heap.objs.size) { s with heap := s.heap.push { cls := .type "tuple", data := .seq ((items.toList.drop (cH items.size 0 lo)).take (cH items.size items.size hi - cH items.size 0 lo)).toArray}})
    (hsz : items.size <= RF) : RX (R4 prog w) A (We (.ref t) (.ref sl)) Q E s := by
  have htake : sizeOk (.seq ((items.toList.drop (cH items.size 0 lo)).take (cH items.size items.size hi - cH items.size 0 lo)).toArray) := by
    show ((items.toList.drop (cH items.size 0 lo)).take (cH items.size items.size hi - cH items.size 0 lo)).toArray.size <= RF;rw [R6, Tt, Ze, T7];omega
  obtain ⟨os, hos, hcs, hds⟩ := id hs;have hTs : s.TypeIs (.ref sl) "slice" := ⟨os, hos, hcs⟩
  unfold We
  try with_reducible refine Tx ?_
  refine Ru (YT ht.typeIs (by decide) ?_);refine Ru (Tu (name := RZ "__getitem__") ht.typeIs SJ
    (TQ SJ ht.typeIs Ym ?_ (YC _ _)))
  show RX _ _ (Wq (.ref t) >>= _) _ _ s;refine Ru (tupleItemsOf_ ht ?_);refine Ru (Vd hTs ?_);refine Ru (fK hs pl pu ?_);have hno : ¬ ((((cH items.size 0 lo) : Int) == 0 && (1 : Int) == 1 && (cH items.size items.size hi - cH items.size 0 lo) == items.size) = true) := by
    simp_all
  show RX _ _ (if (((cH items.size 0 lo) : Int) == 0 && (1) == 1 && (cH items.size items.size hi - cH items.size 0 lo) == items.size) = true then _ else _) _ _ s;rw [if_neg hno, zK]
  first
    | exact Ru (m := Tn _) (Tg (RG ⟨_, rfl, RG h⟩) htake)
    | exact Ru (m := Tn _) (Tg (Ru (RG (RG ⟨_, rfl, RG h⟩))) htake)
    | exact Ru (Ru (m := Tn _) (Tg (RG (RG ⟨_, rfl, RG h⟩)) htake))
    | exact Ru (Ru (m := Tn _) (Tg (RG ⟨_, rfl, RG h⟩) htake))
end
end HT
namespace L2
open PySem PySem.Spec PyProof.Rows
abbrev TO:=St->Hp->(Option Int->Hp->Prop)->Prop
def PO X (e:Option Sy) (t:TO) :=
 ∀ pins s(σ :St) H Q,Inv X pins σ H s->t σ H Q ->
  RX (R4 X.prog X.w) X.A (evalPart e X.env) (λu s'=> ∃ o H',Inv X pins σ H' s'/\Xr u o/\Q o H') X.xe s
noncomputable def v7:TO:=λ_ H Q=>Q Rv H
noncomputable def F8(t:TE):TO:=fun σ H Q=>t σ H λx H1=> ∃ i,x= .int i/\Q (fv i) H1
section
variable{X:Cx}{e:Sy}{te:TE}{lo hi:Option Sy}{tl th:TO}{pos p2:Pos}
theorem Fh:PO X Rv v7:=by
 intro pins s σ H Q I h;exact RG ⟨Rv,H,I,.none,h⟩
theorem Cj(h:PE X e te):PO X (fv e) (F8 te):=by
 intro pins s σ H Q I hw;refine gL (h pins s σ H _ I hw) λu s1 x H1 I1 r1 q1=>?_;obtain⟨i,rfl,q⟩:=q1;obtain⟨t,rfl⟩:=r1;exact⟨fv i,H1,I1,.int i t,q⟩
def BR X (r:V->Option Int->Option Int->Hp->VK->Prop) :=
 ∀ pins s(σ :St) H x v vl vu lo hi sl Q,Inv X pins σ H s->RelV x v->s.heap.IsSliceOf sl vl vu .none->Xr vl lo->Xr vu hi->r x lo hi H Q ->
  ∃ T id,ZY (.type T) "__getitem__" =pure (fv (.builtin id))/\s.TypeIs v T/\RX (R4 X.prog X.w) X.A (We v (.ref sl)) (EP X pins σ Q) X.xe s
theorem BR.or(h:BR X r)(h':BR X r'):BR X (λx lo hi H Q=>r x lo hi H Q\/r' x lo hi H Q):=by
 intro pins s σ H x v vl vu lo hi sl Q I rx hs pl pu q;rcases q with q | q
 . exact h pins s σ H x v vl vu lo hi sl Q I rx hs pl pu q
 . exact h' pins s σ H x v vl vu lo hi sl Q I rx hs pl pu q
noncomputable def Qy(r:V->Option Int->Option Int->Hp->VK->Prop)(te:TE)(tl th:TO):TE:=fun σ H Q=>te σ H λx H1=>tl σ H1 λl H2=>th σ H2 λu H3=>r x l u H3 Q
theorem zv(hr:BR X r)(he:PE X e te)(hl:PO X lo tl)(hu:PO X hi th):PE X (.Subscript e (.Slice lo hi Rv p2) pos) (Qy r te tl th):=by
 intro pins s σ H Q I h;refine ZZ (gL (he pins s σ H _ I h) λv s1 x H1 I1 r1 q1=>?_);refine wpAny_Slice (l9 (hl pins s1 σ H1 _ I1 q1) λvl s2 ⟨l,H2,I2,pl,q2⟩=>l9 (hu pins s2 σ H2 _ I2 q2) λvu s3 z9=>?_);obtain⟨u,H3,I3,pu,q3⟩:=z9;refine RG ?_;have I4:Inv X pins σ H3 { s3 with heap:=s3.heap.push { cls:= .type "slice",data:= .fields #[vl,vu,.none]}}:=I3.kept (t':=s3.toks) λb ob q=>Ry _ q;obtain⟨T,id,hT,ht,hg⟩:=hr pins { s3 with heap:=s3.heap.push { cls:= .type "slice",data:= .fields #[vl,vu,.none]}} σ H3 x v vl vu l u s3.heap.objs.size Q I4 r1 (aam ..) pl pu q3;exact tail_any (ops:=[.ref s3.heap.objs.size,v]) ht hT hg (by rfl)
def lb(xs:List V)(lo hi:Option Int):=(xs.drop (HT.cH xs.length 0 lo)).take (HT.cH xs.length xs.length hi - HT.cH xs.length 0 lo)
theorem kM xs lo hi:(lb xs lo hi).length<=xs.length:=by
 unfold lb;rw[Tt,Ze];omega
def Oa(K:Rx):V->Option Int->Option Int->Hp->VK->Prop:=λx lo hi H Q=> ∃ a xs,x= .ref a/\dz K H a xs /\
 ¬ (HT.cH xs.length 0 lo=0/\HT.cH xs.length xs.length hi=xs.length)/\ ∀ p,H p=Rv->Q (.ref p) (upd H p (.tup (lb xs lo hi)))
theorem Jg:BR X (Oa X.K):=by
 intro pins s σ H x v vl vu lo hi sl Q I rx hs pl pu h;obtain⟨a,xs,rfl,hx,hw,q⟩:=h;cases rx;obtain⟨aj,r,ht,hz⟩:=I.tuple hx;have hlen:aj.toArray.size=xs.length:=by exact r.length.symm
 refine⟨"tuple",_,SJ.lookup,ht.typeIs,?_⟩;refine HT.jK ht hs pl pu (by rw[hlen];exact hw) ?_ (by rw[hlen];exact hz);rw[hlen];refine⟨.ref s.heap.objs.size,_,I.laid (t':=s.toks) (o:= .tup (lb xs lo hi)) (λb ob q=>Ry _ q) (RE _) ?_,rfl,q _ (I.aW.fresh (RE _))⟩;exact⟨R5 (kM xs lo hi) hz,_,(r.drop (HT.cH xs.length 0 lo)).take (HT.cH xs.length xs.length hi - HT.cH xs.length 0 lo),nV.new _ _⟩
def Fu(K:Rx):R2:=λx y H Q=> ∃ a b xs ys,x= .ref a/\y= .ref b/\dz K H a xs/\dz K H b ys/\xs≠[]/\xs.length+ys.length<=RF /\
 (ys=[]->Q (.ref a) H)/\(ys≠[]-> ∀ p,H p=Rv->Q (.ref p) (upd H p (.tup (xs++ys))))
theorem Vals.lA(r:Vals xs us):us=[]↔xs=[]:=by
 cases r with
 | nil=>simp
 | cons _ _=>simp
theorem Ez:bR X (Td .Add) (Fu X.K):=by
 intro pins s σ H x y v u Q I rx ry h;obtain⟨a,b,xs,ys,rfl,rfl,ha,hb,hx,hz,q1,q2⟩:=h;cases rx;cases ry;obtain⟨aj,r1,p1,_⟩:=I.tuple ha;obtain⟨its2,r2,p2,_⟩:=I.tuple hb;refine HT.Ei p1 p2 (λz=>hx (r1.lA.mp z)) (λz=>⟨.ref a,H,I,rfl,q1 (r2.lA.mp z)⟩) (λz=>?_) (by rw[<- r1.length,<- r2.length];exact hz);refine⟨.ref s.heap.objs.size,_,I.laid (t':=s.toks) (o:= .tup (xs++ys)) (λb ob q=>Ry _ q) (RE _) ?_,rfl,q2 (λw=>z (r2.lA.mpr w)) _ (I.aW.fresh (RE _))⟩;exact⟨by rw[Sd];exact hz,_,r1.append r2,nV.new _ _⟩
end
noncomputable def o6(n:Nat)(i:Int):=if 0<=i then(if i < n then fv i.toNat else Rv) else if -(n)<=i then fv (i+n).toNat else Rv
def fN{α :Type}(xs:List α) i:=(o6 xs.length i).bind λj=>xs[j]?
theorem wb(h:o6 n i=fv j):Zf i n=fv j/\j < n/\ -(n)<=i/\i < n:=by
 unfold o6 at h;by_cases h0:0<=i
 . rw[if_pos h0] at h;by_cases h1:i < n
   . rw[if_pos h1] at h;have e:=Sx h;exact⟨by rw[Zu h0 h1,e],by omega,by omega,h1⟩
   . simp_all
 . rw[if_neg h0] at h;by_cases h1: -(n)<=i
   . rw[if_pos h1] at h;have e:=Sx h;exact⟨by rw[YU (by omega) h1,e],by omega,h1,by omega⟩
   . simp_all
theorem qC(h:fN xs i=fv v): ∃ j,Zf i xs.length=fv j/\xs[j]?=fv v/\j < xs.length/\ -(xs.length)<=i/\i < xs.length:=by
 unfold fN at h;cases e:o6 xs.length i with
 | none=>simp_all
 | some j =>
  rw[e] at h
  obtain⟨h1,h2,h3,h4⟩:=wb e
  exact⟨j,h1,h,h2,h3,h4⟩
theorem iC{j:Nat}(h:xs[j]?=fv v):fN xs (j)=fv v:=by
 have hj:=(RC.mp h).1;have e:o6 xs.length (j)=fv j:=by
  unfold o6;rw[if_pos (by omega),if_pos (by omega)];simp
 unfold fN;rw[e];exact h
def qJ b:= ∀ o i,WG b false o i=operate [o,i] (We o i)
def wV X (r:R2) :=
 ∀ value slice pins s(σ :St) H x y v u Q,Inv X pins σ H s->RelV x v->RelV y u->r x y H Q ->
  WG slice false v u=operate [v,u] (We v u)->RX (R4 X.prog X.w) X.A (subscriptTail value slice v u) (EP X pins σ Q) X.xe s
def zB X (id:String) (r:V->List V->Hp->VK->Prop) :=
 ∀ pins s(σ :St) H x xs v us Q,Inv X pins σ H s->RelV x v->Vals xs us->r x xs H Q ->
  RX (R4 X.prog X.w) X.A (call (.builtin id) (v::us)) (EP X pins σ Q) X.xe s
section
variable{X:Cx}{a b:Sy}{ta tb:TE}{pos:Pos}
theorem wV.or(h:wV X r)(h':wV X r'):wV X (λx y H Q=>r x y H Q\/r' x y H Q):=by
 intro value slice pins s σ H x y v u Q I rx ry q hs;rcases q with q | q
 . exact h value slice pins s σ H x y v u Q I rx ry q hs
 . exact h' value slice pins s σ H x y v u Q I rx ry q hs
theorem NS(hr:wV X r)(ha:PE X a ta)(hb:PE X b tb)(hs:qJ b):PE X (.Subscript a b pos) (CZ r ta tb):=by
 intro pins s σ H Q I h;exact ZZ (HB ha hb I h λv u s2 x y H2 I2 rx ry q=>hr a b pins s2 σ H2 x y v u Q I2 rx ry q (hs _ _))
def NC(K:Rx):R2:=λx y H Q=> ∃ p xs i v,x= .ref p/\y= .int i/\fO K H p xs/\fN xs i=fv v/\Q v H
def MC(K:Rx):R2:=λx y H Q=> ∃ p xs i v,x= .ref p/\y= .int i/\dz K H p xs/\fN xs i=fv v/\Q v H
def Mt:R2:=λx y H Q=> ∃ z i c,x= .str z/\y= .int i/\z.length<=RF/\fN z.cps.toList i=fv c/\Q (.str ⟨#[c]⟩) H
theorem Ej:wV X (NC X.K):=by
 intro value slice pins s σ H x y v u Q I rx ry h hs;obtain⟨p,xs,i,z,rfl,rfl,hq,he,q⟩:=h;cases rx;obtain⟨t,rfl⟩:=ry;obtain⟨aj,r,pl,hz⟩:=I.list hq;obtain⟨j,h1,h2,h3,h4,h5⟩:=qC he;obtain⟨w,ew,rw'⟩:=r.get h2;have hl:=r.length;have hn:=ki;have fin:EP X pins σ Q w s:=⟨z,H,I,rw',q⟩
 by_cases h0:0<=i
 . have hj:i.toNat=j:=by
    rw[Zu h0 h5] at h1;exact Sx h1
   exact item_listR pl.isList h0 (by omega) (by rw[hj];simpa using ew) fin hs
 . have hj:(i+(aj.toArray.size)).toNat=j:=by
    rw[YU (by omega) h4] at h1;rw[R6,<- hl];exact Sx h1
   exact Xs (x:=w) pl.isList.typeIs YV.lookup
    (wpAny_getItem_list_neg (Q:=λr s'=>r=w/\EP X pins σ Q r s') pl.isList (by omega) (by simp_all) (by omega) (by rw[hj];simpa using ew) ⟨rfl,fin⟩) hs
theorem Ii:wV X (MC X.K):=by
 intro value slice pins s σ H x y v u Q I rx ry h hs;obtain⟨p,xs,i,z,rfl,rfl,hq,he,q⟩:=h;cases rx;obtain⟨t,rfl⟩:=ry;obtain⟨aj,r,pl,hz⟩:=I.tuple hq;obtain⟨j,h1,h2,h3,h4,h5⟩:=qC he;obtain⟨w,ew,rw'⟩:=r.get h2;have hl:=r.length;have hn:=ki;have fin:EP X pins σ Q w s:=⟨z,H,I,rw',q⟩
 exact Xs (x:=w) pl.typeIs SJ.lookup
  (getItem_tuple (j:=j) (Q:=λr s'=>r=w/\EP X pins σ Q r s') pl (by omega) (by omega) (by rw[R6,<- hl];exact h1) (by simpa using ew) ⟨rfl,fin⟩) hs
theorem Iw:wV X Mt:=by
 intro value slice pins s σ H x y v u Q I rx ry h hs;obtain⟨z,i,c,rfl,rfl,hz,he,q⟩:=h;obtain⟨t,rfl⟩:=rx;obtain⟨t',rfl⟩:=ry;obtain⟨j,h1,h2,h3,h4,h5⟩:=qC he;have hl:z.cps.toList.length=z.length:=by rfl
 rw[hl] at h1 h4 h5;have hn:=ki;exact tail_any (YD s z t) slot_str_getitem.lookup (getItem_str (c:=c) (by
  grind) (by rw[h1];simpa using h2) ⟨.str ⟨#[c]⟩,H,I.tok _,⟨_,rfl⟩,q⟩) hs
def Rl(K:Rx):R2:=λx y H Q=>NC K x y H Q\/MC K x y H Q\/Mt x y H Q
theorem Ib:wV X (Rl X.K):=Ej.or (Ii.or Iw)
theorem uC(aj:List RA) n j u:Uz (·.setIfInBounds j u) { cls:= .type "list",data:= .seq aj.toArray n}={ cls:= .type "list",data:= .seq (aj.set j u).toArray n}:=by
 simp[Uz]
theorem Inv.lst{pins}{σ :St}{H s p xs}(I:Inv X pins σ H s)(h:H p=fv (.lst xs)) :
  ∃(aj:List RA)(n:Nat),Vals xs aj/\s.heap.get? p=fv { cls:= .type "list",data:= .seq aj.toArray n}/\xs.length<=RF:=by
 obtain⟨z,aj,n,r,e⟩:=I.aW p _ h;exact⟨aj,n,r,e,z⟩
theorem Inv.HR{pins:List (RQ × Obj)}{σ :St}{H:Hp}{s:RD}{p:RQ}{xs ys:List V}{aj its':List RA}{n n':Nat}{f:Obj->Obj}(I:Inv X pins σ H s)(h:H p=fv (.lst xs))
  (ho:s.heap.get? p=fv { cls:= .type "list",data:= .seq aj.toArray n}) (hf:f { cls:= .type "list",data:= .seq aj.toArray n}={ cls:= .type "list",data:= .seq its'.toArray n'}) (r:Vals ys its') (hz:ys.length<=RF) (t:Nat) :
  Inv X pins σ (upd H p (.lst ys)) { s with heap:=s.heap.update p f,toks:=t}:=by
 have e:(s.heap.update p f).get? p=fv { cls:= .type "list",data:= .seq its'.toArray n'}:=by
  rw[XT f ho (by rw[hf]<;>rfl),hf]
 refine I.write (x:=p) (e:=p) (by rw[h];trivial) (.inl rfl) (λb u hb q=>(Xt _ _ (UK hb)).trans q) ⟨_,e⟩ ?_;exact⟨hz,its',n',r,e⟩
def Nf:V->V->V->Hp->(Hp->Prop)->Prop:=λo i v H Q=> ∃ p xs k j,o= .ref p/\i= .int k/\H p=fv (.lst xs)/\o6 xs.length k=fv j/\Q (upd H p (.lst (xs.set j v)))
theorem set_list:nP X Nf:=by
 intro pins s σ H o i v ov iv u Q I ro ri rv h;obtain⟨p,xs,k,j,rfl,rfl,hp,hj,q⟩:=h;cases ro;obtain⟨t,rfl⟩:=ri;obtain⟨aj,n,r,ho,hz⟩:=I.lst hp;obtain⟨h1,h2,h3,h4⟩:=wb hj;have hl:=r.length;have hn:=ki;have I' :=
  I.HR hp ho (uC aj n j u) (r.set rv j) (by rw[Su];exact hz) s.toks
 by_cases h0:0<=k
 . have hk:k.toNat=j:=by
    rw[Zu h0 h4] at h1;exact Sx h1
   exact PySem.W.ki_setAt ho h0 (by omega) (by rw[R6,<- hl];exact h4) (by rw[hk];exact⟨_,I',q⟩)
 . have hk:(k+(aj.toArray.size)).toNat=j:=by
    rw[YU (by omega) h3] at h1;rw[R6,<- hl];exact Sx h1
   exact PySem.W.ki_setBack ho (by omega) (by simp_all) (by omega) (by rw[hk];exact⟨_,I',q⟩)
theorem pL lo hi n:(WH lo hi Rv n).1=((HT.cH n 0 lo))/\(WH lo hi Rv n).2.1=((HT.cH n n hi))/\(WH lo hi Rv n).2.2=1:=by
 refine⟨?_,?_,rfl⟩
 . cases lo with
   | none=>rfl
   | some i =>
    simp only[WH,HT.cH,Zg,show(1:Int) > 0 by decide,if_true]
    by_cases h:i < 0
    . simp only[h,if_true]<;>omega
    . simp only[h,if_false]<;>omega
 . cases hi with
   | none=>rfl
   | some i =>
    simp only[WH,HT.cH,Zg,show(1:Int) > 0 by decide,if_true]
    by_cases h:i < 0
    . simp only[h,if_true]<;>omega
    . simp only[h,if_false]<;>omega
theorem oy(aj:List RA) lo hi:slicePick aj.toArray lo hi Rv=((aj.drop (HT.cH aj.length 0 lo)).take (HT.cH aj.length aj.length hi - HT.cH aj.length 0 lo)).toArray:=by
 obtain⟨h1,h2,h3⟩:=pL lo hi aj.toArray.size;unfold slicePick;rw[h1,h2,h3];simp only[sliceRange_one,pick_run]<;>rfl
def Nv(K:Rx):V->Option Int->Option Int->Hp->VK->Prop:=λx lo hi H Q=> ∃ a xs,x= .ref a/\fO K H a xs/\ ∀ p,H p=Rv->Q (.ref p) (upd H p (.lst (lb xs lo hi)))
theorem Cc:BR X (Nv X.K):=by
 intro pins s σ H x v vl vu lo hi sl Q I rx hs pl pu h;obtain⟨a,xs,rfl,hx,q⟩:=h;cases rx;obtain⟨aj,r,ht,hz⟩:=I.list hx;have hlen:=r.length;refine⟨"list",_,YV.lookup,ht.isList.typeIs,?_⟩;refine wpAny_getItem_list_slice ht.isList hs pl pu .none (by simp) ?_ (by simp_all);rw[oy,<- hlen];refine⟨.ref s.heap.objs.size,_,I.laid (t':=s.toks) (o:= .lst (lb xs lo hi)) (λb ob q=>Ry _ q) (RE _) ?_,rfl,q _ (I.aW.fresh (RE _))⟩;exact⟨R5 (kM xs lo hi) hz,_,0,(r.drop (HT.cH xs.length 0 lo)).take (HT.cH xs.length xs.length hi - HT.cH xs.length 0 lo),RO _ rfl⟩
noncomputable def gw:V->Bool
 | .non=>true
 | .bl _=>true
 | .int _=>true
 | .str _=>true
 | _=>false
noncomputable def DS:V->V->Bool
 | .non,.non=>true
 | .bl a,.bl b=>a == b
 | .bl a,.int b=>(if a then 1 else 0) == b
 | .int a,.bl b=>a == (if b then 1 else 0)
 | .int a,.int b=>a == b
 | .str a,.str b=>a == b
 | _,_=>false
theorem Jq(ry:RelV y u)(rx:RelV x v)(fy:gw y=true)(fx:gw x=true):SeqAt.EqAt A s u v (DS y x):=by
 cases y with
 | non =>
  cases ry
  cases x with
  | non=>cases rx;exact SeqAt.EqAt.same _
  | bl b=>cases rx;exact SeqAt.EqAt.none_bool b
  | int b=>obtain⟨t,rfl⟩:=rx;exact SeqAt.EqAt.none_int b t
  | str b=>obtain⟨t,rfl⟩:=rx;exact SeqAt.EqAt.none_str b t
  | _=>exact absurd (show false=true from fx) RY
 | bl a =>
  cases ry
  cases x with
  | non=>cases rx;exact SeqAt.EqAt.bool_none a
  | bl b=>cases rx;exact SeqAt.EqAt.bool_bool a b
  | int b=>obtain⟨t,rfl⟩:=rx;exact SeqAt.EqAt.bool_int a b t
  | str b=>obtain⟨t,rfl⟩:=rx;exact SeqAt.EqAt.bool_str a b t
  | _=>exact absurd (show false=true from fx) RY
 | int a =>
  obtain⟨t',rfl⟩:=ry
  cases x with
  | non=>cases rx;exact SeqAt.EqAt.int_none a t'
  | bl b=>cases rx;exact SeqAt.EqAt.int_bool a t' b
  | int b=>obtain⟨t,rfl⟩:=rx;exact SeqAt.EqAt.int_int a t' b t
  | str b=>obtain⟨t,rfl⟩:=rx;exact Yx a t' b t
  | _=>exact absurd (show false=true from fx) RY
 | str a =>
  obtain⟨t',rfl⟩:=ry
  cases x with
  | non=>cases rx;exact SeqAt.EqAt.str_none a t'
  | bl b=>cases rx;exact SeqAt.EqAt.str_bool a t' b
  | int b=>obtain⟨t,rfl⟩:=rx;exact Yy a t' b t
  | str b=>obtain⟨t,rfl⟩:=rx;exact YE a t' b t
  | _=>exact absurd (show false=true from fx) RY
 | _=>exact absurd (show false=true from fy) RY
def vh x (u:RA):=match u with
 | .none=>DS .non x
 | .bool b=>DS (.bl b) x
 | .int i _=>DS (.int i) x
 | .str z _=>DS (.str z) x
 | _=>false
theorem yY(r:RelV y u)(f:gw y=true):vh x u=DS y x:=by
 cases y with
 | non=>cases r;rfl
 | bl b=>cases r;rfl
 | int i=>obtain⟨t,rfl⟩:=r;rfl
 | str z=>obtain⟨t,rfl⟩:=r;rfl
 | _=>exact absurd (show false=true from f) RY
theorem jR: ∀{xs us},Vals xs us->xs.all gw=true->us.any (vh x)=xs.any λy=>DS y x
 | _,_,.nil,_=>rfl
 | y::xs,u::us,.cons r t,f=>by
  rw[UZ,RT] at f;rw[Tz,Tz,yY r f.1,jR t f.2]
theorem gO(rx:RelV x v)(fx:gw x=true): ∀{xs us},Vals xs us->xs.all gw=true-> ∀ u∈us,SeqAt.EqAt A s u v (vh x u)
 | _,_,.nil,_=>λu hu=>by cases hu
 | y::xs,u::us,.cons r t,f=>λu' hu=>by
  rw[UZ,RT] at f;rcases RW.mp hu with rfl | hu
  . rw[yY r f.1];exact Jq r rx f.1 fx
  . exact gO rx fx t f.2 u' hu
def dF x (xs:List V):=xs.any λy=>DS y x
def QL(K:Rx)(neg:Bool):R2:=λx y H Q=> ∃ p xs,y= .ref p/\(fO K H p xs\/dz K H p xs)/\gw x=true/\xs.all gw=true/\Q (.bl (if neg then !dF x xs else dF x xs)) H
theorem wR:bR X (R9 .In) (QL X.K false):=by
 intro pins s σ H x y v u Q I rx ry h;obtain⟨p,xs,rfl,hq,fx,fs,q⟩:=h;cases ry;rcases hq with hq | hq
 . obtain⟨aj,r,pl,hz⟩:=I.list hq;refine SeqAt.in_listAt (vh x) pl.isList (λw hw=>gO rx fx r fs w (by simpa using hw)) ⟨.bl _,H,I,rfl,?_⟩;rw[show aj.toArray.any (vh x)=aj.any (vh x) by simp,jR r fs];exact q
 . obtain⟨aj,r,pl,hz⟩:=I.tuple hq;refine SeqAt.in_tupleAt (vh x) pl (λw hw=>gO rx fx r fs w (by simpa using hw)) ⟨.bl _,H,I,rfl,?_⟩;rw[show aj.toArray.any (vh x)=aj.any (vh x) by simp,jR r fs];exact q
theorem p8:bR X (R9 .NotIn) (QL X.K true):=by
 intro pins s σ H x y v u Q I rx ry h;obtain⟨p,xs,rfl,hq,fx,fs,q⟩:=h;cases ry;rcases hq with hq | hq
 . obtain⟨aj,r,pl,hz⟩:=I.list hq;refine SeqAt.notIn_listAt (vh x) pl.isList (λw hw=>gO rx fx r fs w (by simpa using hw)) ⟨.bl _,H,I,rfl,?_⟩;rw[show aj.toArray.any (vh x)=aj.any (vh x) by simp,jR r fs];exact q
 . obtain⟨aj,r,pl,hz⟩:=I.tuple hq;refine SeqAt.notIn_tupleAt (vh x) pl (λw hw=>gO rx fx r fs w (by simpa using hw)) ⟨.bl _,H,I,rfl,?_⟩;rw[show aj.toArray.any (vh x)=aj.any (vh x) by simp,jR r fs];exact q
theorem pY:bR X (R9 .NotIn) (λx y H Q=> ∃ i j,x= .str i/\y= .str j/\Q (.bl (!(!(UG j i 0 j.length 1).isEmpty))) H):=by
 intro pins s σ H x y v u Q I rx ry h;obtain⟨i,j,rfl,rfl,q⟩:=h;obtain⟨t,rfl⟩:=rx;obtain⟨t',rfl⟩:=ry;exact notIn_str ⟨.bl _,H,I,rfl,q⟩
theorem qb:aG X (.builtin "len") (λxs H Q=> ∃ p ys,xs=[.ref p]/\(fO X.K H p ys\/dz X.K H p ys)/\Q (.int ys.length) H):=by
 intro pins s σ H xs us Q I r h;obtain⟨p,ys,rfl,hq,q⟩:=h;obtain⟨u,rfl,rx⟩:=vals1 r;cases rx;have hn:=ki;rcases hq with hq | hq
 . obtain⟨aj,r',pl,hz⟩:=I.list hq;have hlen:=r'.length;exact Calls.call_len_list pl.isList (by simp only[R6]<;>omega) ⟨.int ys.length,H,I.tok _,⟨s.toks+1,by rw[R6,hlen]⟩,q⟩
 . obtain⟨aj,r',pl,hz⟩:=I.tuple hq;have hlen:=r'.length;exact len_tuple pl (by simp only[R6]<;>omega) ⟨.int ys.length,H,I.tok _,⟨s.toks+1,by rw[R6,hlen]⟩,q⟩
theorem pU:aG X (.builtin "len") (λxs H Q=> ∃ z,xs=[.str z]/\z.length<=RF/\Q (.int z.length) H):=by
 intro pins s σ H xs us Q I r h;obtain⟨z,rfl,hz,q⟩:=h;obtain⟨u,rfl,t,rfl⟩:=vals1 r;have hn:=ki;exact len_str (by omega) ⟨.int z.length,H,I.tok _,⟨_,rfl⟩,q⟩
theorem aG.or(h:aG X f r)(h':aG X f r'):aG X f (λxs H Q=>r xs H Q\/r' xs H Q):=by
 intro pins s σ H xs us Q I rs q;rcases q with q | q
 . exact h pins s σ H xs us Q I rs q
 . exact h' pins s σ H xs us Q I rs q
theorem ql:aG X (.type "list") (λxs H Q=> ∃ p ys,xs=[.ref p]/\(fO X.K H p ys\/dz X.K H p ys)/\ ∀ l,H l=Rv->Q (.ref l) (upd H l (.lst ys))):=by
 intro pins s σ H xs us Q I r h;obtain⟨p,ys,rfl,hq,q⟩:=h;obtain⟨u,rfl,rx⟩:=vals1 r;cases rx;have fin: ∀(aj:List RA),Vals ys aj->ys.length<=RF-> ∀(h':S6)(c':Nat),(∀ b o',s.heap.get? b=fv o'->h'.get? b=fv o') ->
   h'.get? s.heap.objs.size=fv { cls:= .type "list",dict:=Rv,data:= .seq aj.toArray c',slots:= #[]}->EP X pins σ Q (.ref s.heap.objs.size) { s with heap:=h'}:=λaj r' hz h' c' kp e =>
  ⟨.ref s.heap.objs.size,_,I.laid (t':=s.toks) kp (RE _) (show aN X.prog X.w _ h' _ (.lst ys) from⟨hz,aj,c',r',e⟩),rfl,q _ (I.aW.fresh (RE _))⟩
 rcases hq with hq | hq
 . obtain⟨aj,r',pl,hz⟩:=I.list hq;have hlen:=r'.length;obtain⟨o,ho,hc,n,hd⟩:=pl.isList;exact call_list_seq p (.inl rfl) ho hc hd (λh' c' kp e=>fin aj r' hz h' c' kp e) (by simp only[R6]<;>omega)
 . obtain⟨aj,r',pl,hz⟩:=I.tuple hq;have hlen:=r'.length;obtain⟨o,ho,hc,n,hd⟩:=pl;exact call_list_seq p (.inr rfl) ho hc hd (λh' c' kp e=>fin aj r' hz h' c' kp e) (by simp only[R6]<;>omega)
theorem om:aG X (.type "tuple") (λxs H Q=> ∃ p ys,xs=[.ref p]/\((fO X.K H p ys/\ ∀ l,H l=Rv->Q (.ref l) (upd H l (.tup ys)))\/(dz X.K H p ys/\Q (.ref p) H))):=by
 intro pins s σ H xs us Q I r h;obtain⟨p,ys,rfl,h⟩:=h;obtain⟨u,rfl,rx⟩:=vals1 r;cases rx;rcases h with⟨hq,q⟩ | ⟨hq,q⟩
 . obtain⟨aj,r',pl,hz⟩:=I.list hq;have hlen:=r'.length;refine call_tuple_list pl.isList (λh' kp=>?_) (by simp_all);have I1:=I.kept (t':=s.toks) kp;have I2 :=
    I1.laid (t':=s.toks) (λb o e=>Ry _ e) (RE _) (show aN X.prog X.w _ _ _ (.tup ys) from⟨hz,aj,r',nV.new _ _⟩)
   exact⟨.ref h'.objs.size,_,I2,rfl,q _ (I1.aW.fresh (RE _))⟩
 . obtain⟨aj,r',pl,hz⟩:=I.tuple hq;exact call_tuple_same pl ⟨.ref p,H,I,rfl,q⟩
def N6(K:Rx)(T:String)(x:V)(H:Hp):Prop:=match x with
 | .str _=>T= "str"
 | .int _=>T= "int"
 | .ref p=>(T= "list" /\ ∃ xs,fO K H p xs)\/(T= "tuple" /\ ∃ o,K.lookup p=fv o/\o.cls= .type "tuple" /\o.dict=Rv) \/
   (T= "dict" /\((∃ kvs,H p=fv (.dK kvs))\/ ∃ kvs,H p=fv (.dT kvs)))\/(T= "set" /\ ∃ S n,H p=fv (.set S n))
 | _=>False
theorem Br{σ :St}(I:Inv X pins σ H s)(r:RelV x v)(ty:N6 X.K T x H) :
  s.TypeIs v T/\ ∀ a,v= .ref a-> ∃ ob,s.heap.get? a=fv ob/\ob.dict=Rv:=by
 cases x with
 | str z =>
  obtain⟨t,rfl⟩:=r
  cases(show T= "str" from ty)
  exact⟨YD s z t,λ_ e=>by cases e⟩
 | int i =>
  obtain⟨t,rfl⟩:=r
  cases(show T= "int" from ty)
  exact⟨Xu s i t,λ_ e=>by cases e⟩
 | ref p =>
  cases r
  rcases ty with⟨rfl,xs,hq⟩ | ⟨rfl,o,hk,hc,hd⟩ | ⟨rfl,hk⟩ | ⟨rfl,S,n,hk⟩
  . obtain⟨aj,_,pl,_⟩:=I.list hq;refine⟨pl.isList.typeIs,λa e=>?_⟩;cases e;obtain⟨o,n,e,c,hd,_⟩:=pl;exact⟨o,e,hd⟩
  . refine⟨⟨o,I.j9 p o hk,hc⟩,λa e=>?_⟩;cases e;exact⟨o,I.j9 _ o hk,hd⟩
  . have z: ∃ o,s.heap.get? p=fv o/\o.ExactDict:=by
     rcases hk with⟨kvs,hk⟩ | ⟨kvs,hk⟩
     . obtain⟨_,_,_,_,o,_,_,e,ex,_⟩:=I.aW p _ hk;exact⟨o,e,ex⟩
     . obtain⟨_,_,_,_,o,_,_,e,ex,_⟩:=I.aW p _ hk;exact⟨o,e,ex⟩
    obtain⟨o,e,ex⟩:=z;refine⟨⟨o,e,ex.1⟩,λa e2=>?_⟩;cases e2;exact⟨o,e,ex.2.1⟩
  . obtain⟨o,_,_,_,e,ex,_⟩:=I.aW p _ hk;refine⟨⟨o,e,ex.1⟩,λa e2=>?_⟩;cases e2;exact⟨o,e,ex.2.1⟩
 | _=>exact TF ty
noncomputable def Pr(K:Rx)(T:String)(r:V->List V->Hp->VK->Prop)(to:TE):TE:=fun σ H Q=>to σ H λx H1=>N6 K T x H1/\r x [] H1 Q
noncomputable def Qz(K:Rx)(T:String)(r:V->List V->Hp->VK->Prop)(to:TE)(t:TA):TE:=fun σ H Q=>to σ H λx H1=>N6 K T x H1/\t σ H1 λxs H2=>r x xs H2 Q
variable{o e:Sy}{es:List Sy}{to:TE}{t:TA}{name:Str}{apos cpos:Pos}{T id:String}{r:V->List V->Hp->VK->Prop}
theorem Gw(pa:Wr T)(slot:Slot T name id)(hty:Z0 (.builtin id)=pure (.type "method_descriptor"))(hm:zB X id r)(ho:PE X o to)
  (hbase:TX o name X.env (Tw o X.env)=Tw o X.env:=by rfl) (hline:(apos.endLine == cpos.line)=true:=by rfl):PE X (.Call (.Attribute o name apos) [] [] cpos) (Pr X.K T r to):=by
 intro pins s σ H Q I h;refine wpAny_Call_method0_late hbase hline (l9 (ho pins s σ H _ I h) λv s1 ⟨x,H1,I1,r1,ty,q1⟩=>?_);obtain⟨h1,h2⟩:=Br I1 r1 ty;exact⟨T,id,pa,slot,hty,h1,h2,UM rfl (PySem.evalArgs_none (hm pins s1 σ H1 x [] v [] Q I1 r1 .nil q1))⟩
theorem Mh(pa:Wr T)(slot:Slot T name id)(hty:Z0 (.builtin id)=pure (.type "method_descriptor"))(hm:zB X id r)(ho:PE X o to)(ha:PA X (e::es) t)
  (hbase:TX o name X.env (Tw o X.env)=Tw o X.env:=by rfl)
  (hfew:((VT cpos (Ss (e::es) X.env)).all (λx=> !x.1)&&(backToKw cpos (Zv [] X.env)).all (λx=>x.1.isSome)
   && decide ((e::es).length+([]:List Yi).length+(if ([]:List Yi).isEmpty then 0 else 1) < 30))=true:=by rfl)
  (hline:(apos.endLine == cpos.line)=true:=by rfl) (hs:Ss (e::es) X.env=(false,Tw e X.env)::Ss es X.env:=by rfl) (hplain:(VT cpos (Ss es X.env)).any (·.1)=false:=by rfl) :
  PE X (.Call (.Attribute o name apos) (e::es) [] cpos) (Qz X.K T r to t):=by
 intro pins s σ H Q I h;refine Xv hbase hfew hline rfl (gL (ho pins s σ H _ I h) λv s1 x H1 I1 r1 ⟨ty,q1⟩=>?_);obtain⟨h1,h2⟩:=Br I1 r1 ty;refine⟨T,id,pa,slot,hty,h1,h2,?_⟩;have hA:=ha cpos pins s1 σ H1 _ I1 q1;rw[hs] at hA ⊢;refine UM (by show(false||(VT cpos (Ss es X.env)).any (·.1))=false;rw[hplain]<;>rfl) (V2 ?_)
 exact yu hA λus s2 vs H2 I2 r2 q2=>hm pins s2 σ H2 x vs v us Q I2 r1 r2 q2
/- xs.append(e),list.index on a module's tuple .. are zB facts of 06m -/
end
def NF X (id:String) (r:V->List V->Hp->VK->Prop) :=
 ∀ pins s(σ :St) H x xs v us Q,Inv X pins σ H s->RelV x v->Vals xs us->r x xs H Q ->
  RX (R4 X.prog X.w) X.A (call (.builtin id) (v::us)) (EP X pins σ Q) X.xe s
theorem Vals.one: ∀{x us},Vals [x] us-> ∃ u,us=[u]/\RelV x u
 | _,_,.cons r .nil=>⟨_,rfl,r⟩
theorem Vals.two: ∀{x y us},Vals [x,y] us-> ∃ u v,us=[u,v]/\RelV x u/\RelV y v
 | _,_,_,.cons r (.cons q .nil)=>⟨_,_,rfl,r,q⟩
theorem Vals.zero: ∀{us},Vals [] us->us=[]
 | _,.nil=>rfl
theorem Vals.eraseIdx: ∀{xs us} i,Vals xs us->Vals (xs.eraseIdx i) (us.eraseIdx i)
 | _,_,_,.nil=> .nil
 | _,_,0,.cons _ t=>t
 | _,_,i+1,.cons r t=> .cons r (Vals.eraseIdx i t)
theorem Vals.reverse{xs:List V}{us:List RA}(h:Vals xs us):Vals xs.reverse us.reverse:=by
 induction h with
 | nil=>exact .nil
 | cons r t ih=>rw[U2,U2];exact Vals.append ih (.cons r .nil)
theorem Vals.rep(h:Vals xs us): ∀ k ,Vals (Rz k xs).flatten (Rz k us).flatten
 | 0=> .nil
 | k+1=>by
  exact Vals.append h (Vals.rep h k)
theorem oJ{α :Type}: ∀(l:List α) i,(l.eraseIdx i).length<=l.length
 | [],_=>RE _
 | _::_,0=>WI _
 | _::r,i+1=>Xa (oJ r i)
theorem foldl_rep(aj:List RA): ∀ k acc,
  Z1 (λx1 x2=>x1++x2) acc.toArray (Rz k aj.toArray)=(acc++(Rz k aj).flatten).toArray
 | 0,acc=>by simp
 | k+1,acc=>by
  have e:acc.toArray++aj.toArray=(acc++aj).toArray:=by simp
  have e2:(acc++aj)++(Rz k aj).flatten=acc++(Rz (k+1) aj).flatten:=by
   rw[Yn,List.flatten_cons,SR]
  rw[<- e2,<- foldl_rep aj k (acc++aj),<- e,Yn,List.foldl_cons]
section
variable{X:Cx}{pins:List (RQ × Obj)}{σ :St}{H:Hp}{s:RD}{l b:RQ}{xs ys zs:List V}
theorem Inv.Gm{aj its':List RA}{n:Nat}{f:Array RA->Array RA}{t':Nat}(I:Inv X pins σ H s)(hH:H l=fv (.lst xs))
  (e:s.heap.get? l=fv { cls:= .type "list",data:= .seq aj.toArray n}) (hf:f aj.toArray=its'.toArray) (hv:Vals ys its') (hz:ys.length<=RF) :
  Inv X pins σ (upd H l (.lst ys)) { s with heap:=s.heap.update l (Uz f),toks:=t'}:=by
 have q:=PySem.IsL.update e f;rw[hf] at q;refine I.write (x:=l) (e:=l) (by rw[hH];exact trivial) (.inl rfl) (λb' u hb hu=>(Xt s.heap (Uz f) (UK hb)).trans hu) ⟨_,q⟩ ?_;exact⟨hz,its',_,hv,q⟩
theorem Inv.Me(I:Inv X pins σ H s)(hv:Vals ys aj)(hz:ys.length<=RF) :
  Inv X pins σ (upd H s.heap.objs.size (.lst ys)) { s with heap:=s.heap.push { cls:= .type "list",data:= .seq aj.toArray},toks:=t'} :=
 I.laid (λ_ _ q=>Ry _ q) (RE _) ⟨hz,aj,0,hv,RO _ rfl⟩
theorem Inv.fresh(I:Inv X pins σ H s):H s.heap.objs.size=Rv:=I.aW.fresh (RE _)
theorem Inv.uv(I:Inv X pins σ H s)(hH:H l=fv (.lst xs)):xs.length<=RF/\ ∃(aj:List RA)(n:Nat),Vals xs aj/\xs.length=aj.length/\s.heap.get? l=fv { cls:= .type "list",data:= .seq aj.toArray n}:=by
 obtain⟨z,aj,n,r,e⟩:=I.aW l _ hH;exact⟨z,aj,n,r,r.length,e⟩
theorem Bv(h:n<=RF):WS n=false:=by
 exact decide_eq_false (by omega)
end
section
variable{X:Cx}
def DL:V->List V->Hp->VK->Prop:=λx vs H Q=> ∃ l xs y,x= .ref l/\vs=[y]/\H l=fv (.lst xs)/\xs.length < RF/\Q .non (upd H l (.lst (xs++[y])))
theorem xi:NF X "list.append" DL:=by
 intro pins s σ H x vs v us Q I rx rv h;obtain⟨l,xs,y,rfl,rfl,hH,hz,q⟩:=h;cases rx;obtain⟨u,rfl,ru⟩:=rv.one;obtain⟨z,aj,n,r,hl,e⟩:=I.uv hH;refine TR F.slot_list_append ⟨_,e,rfl⟩ F.entry_list_append (F.args_list_append_2 _ _) (PySem.list_append l aj.toArray n u (by simp_all)) ⟨e,?_⟩;refine⟨.non,_,I.Gm (its':=aj++[u]) hH e (by simp) (r.append (.cons ru .nil)) ?_,rfl,q⟩;rw[Sd,VP];omega
def JN:V->List V->Hp->VK->Prop:=λx vs H Q=> ∃ l xs i k y,x= .ref l/\vs=[.int i]/\H l=fv (.lst xs)/\ -(2 ^ 63)<=i/\i < 2 ^ 63/\Zf i xs.length=fv k/\xs[k]?=fv y/\Q y (upd H l (.lst (xs.eraseIdx k)))
theorem Aq:NF X "list.pop" JN:=by
 intro pins s σ H x vs v us Q I rx rv h;obtain⟨l,xs,i,k,y,rfl,rfl,hH,h1,h2,hk,hy,q⟩:=h;cases rx;obtain⟨u,rfl,ru⟩:=rv.one;obtain⟨t,rfl⟩:=ru;obtain⟨z,aj,n,r,hl,e⟩:=I.uv hH;obtain⟨w,hw,rw'⟩:=r.get hy;refine TR F.slot_list_pop ⟨_,e,rfl⟩ F.entry_list_pop (F.args_list_pop_2 _ _)
  (MeetsSeq.list_pop_at l aj.toArray n i t k w (fitsIndex_both h1 h2) (by rw[R6,<- hl];exact hk) (by rw[<- XU];exact hw) (by rw[R6];omega)) ⟨e,?_⟩
 refine⟨y,_,I.Gm (its':=aj.eraseIdx k) hH e ?_ (r.eraseIdx k) ?_,rw',q⟩
 . show aj.toArray.eraseIdxIfInBounds k=(aj.eraseIdx k).toArray;rw[List.eraseIdxIfInBounds_toArray]
 . have:=oJ xs k;omega
def N1:R2:=λx y H Q=> ∃ l b xs zs,x= .ref l/\y= .ref b/\H l=fv (.lst xs)/\H b=fv (.lst zs)/\xs.length+zs.length<=RF/\ ∀ p,H p=Rv->Q (.ref p) (upd H p (.lst (xs++zs)))
theorem HE:bR X (Td .Add) N1:=by
 intro pins s σ H x y v u Q I rx ry h;obtain⟨l,b,xs,zs,rfl,rfl,hH,hB,hz,q⟩:=h;cases rx;cases ry;obtain⟨z,aj,n,r,hl,e⟩:=I.uv hH;obtain⟨z2,its2,n2,r2,hl2,e2⟩:=I.uv hB;refine PySem.P.add_list e e2 ?_ (by simp_all);have ea:aj.toArray++its2.toArray=(aj++its2).toArray:=by simp
 rw[ea];exact⟨.ref _,_,I.Me (t':=s.toks) (r.append r2) (by rw[Sd];omega),rfl,q _ I.fresh⟩
def Qi:R2:=λx y H Q=> ∃ l k xs,x= .ref l/\y= .int k/\H l=fv (.lst xs)/\ -(2 ^ 63)<=k/\k < 2 ^ 63/\xs.length*k.toNat<=RF /\
 ∀ p,H p=Rv->Q (.ref p) (upd H p (.lst (Rz k.toNat xs).flatten))
theorem len_rep{α :Type}(xs:List α) k:(Rz k xs).flatten.length=k*xs.length:=by
 simp_all
theorem He:bR X (Td .Mult) Qi:=by
 intro pins s σ H x y v u Q I rx ry h;obtain⟨l,k,xs,rfl,rfl,hH,h1,h2,hz,q⟩:=h;cases rx;obtain⟨t,rfl⟩:=ry;obtain⟨z,aj,n,r,hl,e⟩:=I.uv hH;have hlen:aj.toArray.size*k.toNat<=RF:=by rw[R6,<- hl];exact hz
 have hcap: ¬ aj.toArray.size*k.toNat > (2 ^ 63 - 1) / 8:=by
  have:(RF)<=(2 ^ 63 - 1) / 8:=by decide
  omega
 have hfit: ¬ (!Builtin.List.listFitsIndex k)=true:=by
  rw[fitsIndex_both h1 h2];exact RY
 have hlong: ¬ WS (aj.toArray.size*k.toNat)=true:=by
  rw[Bv hlen];exact RY
 have hnew:Z1 (λx1 x2=>x1++x2) #[] (Rz (if aj.toArray.isEmpty=true then 0 else k.toNat) aj.toArray)=(Rz k.toNat aj).flatten.toArray:=by
  have f0:=λm=>by
   have:=foldl_rep aj m [];rw[SY] at this;exact this
  rw[f0];cases aj with
  | nil=>simp
  | cons a r'=>rfl
 refine Wy (T:= "list") (U:= "int") (by decide) ⟨_,e,rfl⟩ (λs'=>Xu s' k t) noFill_list_mul F.fills_int_mul F.slot_int_rmul repeat_list F.slot_int_index.lookup
  (TR F.slot_int_rmul (Xu s k t) F.entry_int_rmul (F.args_int_rmul_2 _ _) (int___rmul___int_list k t l aj.toArray n)
   ⟨e,rfl,⟨_,e,rfl⟩,TR F.slot_list_mul ⟨_,e,rfl⟩ F.entry_list_mul (F.args_list_mul_2 _ _) (AutoListH.list___mul___list_int_3 l aj.toArray n k t hfit hcap hlong) ⟨e,?_⟩⟩)
 rw[hnew];exact⟨.ref _,_,I.Me (t':=s.toks) (r.rep k.toNat) (by rw[len_rep,YW];exact hz),rfl,q _ I.fresh⟩
end
end L2
namespace Att
open PySem PySem.W PySem.Calls PyProof.Rows
theorem k8: ∀ ns vs,WellAll P h vs (ns.map WData.int)->ZP vs ns:=by
 intro ns
 induction ns with
 | nil =>
  intro vs w
  cases w
  exact .nil
 | cons n ns ih =>
  intro vs w
  cases w with
  | cons a b =>
   cases a
   exact .cons _ _ (ih _ b)
theorem ye{l : V3}(hn : l.most = fv n) 
    (hpre : l.row.toRowW.claim.pre args = true) (hwl : WellAll P h vals args) :
    ∃ a vs ns, vals = [R0 a] /\ args = [WData.list (ns.map WData.int)] /\ h.get? a = fv { cls := .type "list", data := .seq vs.toArray} /\ ZP vs ns /\ ns.length <= n := by
  have hsh : WShape.hasAll [] args [.list .int] = true := (pre_splitW hpre).1;have hc : l.pre.holds [] { args := args} = true := (pre_splitW hpre).2;obtain ⟨d, r, rfl, h1, h2⟩ := hasAllW_cons hsh;obtain rfl := hasAllW_nil h2;obtain ⟨xs, rfl, h3⟩ := hasW_list h1;obtain ⟨ns, rfl⟩ := items_int h3;have hlen : ns.length <= n := by
    have h4 : (WTm.not (.lt (.lit (.int (n))) (.len (.arg 0)))).holds [] { args := [.list (ns.map .int)]} = true := by
      have h4 := (holds_andW hc).1;rw [hn] at h4;exact h4
    have h5 := condW_of h4 (w_not (w_lt w_lit (w_len_list (w_arg rfl))))
    first
      | (exact absurd h5 (by decide))
      | (simp at h5; omega)
  cases hwl with
  | cons w1 w2 =>
    cases w2
    cases w1 with
    | list ho hall => exact ⟨_, _, ns, rfl, rfl, ho, k8 ns _ hall, hlen⟩
theorem w6(l:V3) args:l.row.toRowW.claim.post args (.bool true) args=true :=
 postW_of (r:=l.row.toRowW) (X:=(true == true))
  (show WShape.has [] (.bool true) .bool=true by first | rfl | decide | simp [WShape.arms])
  (show(WTm.eq .res (.lit (.bool true))).value [] { args:=args,res:=fv (.bool true),after:=args}=fv (.bool (true == true)) from w_eq_bool (w_res rfl) w_lit) rfl
theorem rl{l:V3}{n:Nat}{q:Sv}{loose:List Str}{XP:(Str->Option RA)->S6->Prop}{YP:SQ->S6->Prop}{d:DefRec}
  (hn:l.most=fv n) (hdf:d.params.defaults=[])
  (call: ∀(w:SQ)(s₀ s₁ :RD)(mg mb:Str->Option RA)(fa:RQ)(o:Obj)(pm cd doc:RA)(a:RQ)(vs:List RA)(ns:List Int),
   Ground q loose [] XP w s₀ mg mb s₁.heap->YP w s₁.heap ->
   s₁.heap.get? fa=fv o->o.data= .func (docDef d.name d.params d.body d.scope pm cd doc)->s₁.heap.CodeRec cd d.name->mg d.name=fv (.ref fa) ->
   s₁.heap.get? a=fv { cls:= .type "list",data:= .seq vs.toArray}->ZP vs ns->ns.length<=n->s₁.gens= #[] ->
   Xq (R4 l.prog w) Yj (.call (.ref fa) ⟨[.ref a],[]⟩) (λr s'=>r= .ok (.ret (.bool true))/\OldK s₁.heap s'.heap/\s'.os=s₁.os/\WB s'.gens) s₁) :
  ZQ q loose XP YP l.row.toRowW d [] (λf vs=>Z2 f vs):=by
 intro w s₀ s₁ mg mb G Y fa o pm cd doc dV kV ho hd hcd hD hmg hg args vals as hpre hlay hrd hwl hlo;obtain rfl:dV= .none:=Dflts.none hD hdf;obtain rfl:kV= .none:=Dflts.noKw hD;obtain⟨a,vs,ns,rfl,rfl,hobj,hints,hlen⟩:=ye hn hpre hwl;refine enter_call (YQ (call w s₀ s₁ mg mb fa o pm cd doc a vs ns G Y ho (fd_plain hd) hcd hmg hobj hints hlen hg) λr s' hq=>?_);obtain⟨rfl,h2,h3,h4⟩:=hq;exact⟨.inl ⟨.bool true,.bool true,[],rfl,λ_=>rfl,.bool true,w6 l _,λ_=>⟨List.Pairwise.nil,λ_ hm=>(by cases hm)⟩⟩,h2,h3,h4⟩
section
variable{prog:Sv}{w:SQ}{A:Ti}{E:RA->RD->Prop}{s:RD}{K:Rx}
noncomputable def ledger(h:S6) L d:=(RJ h.objs.size).filterMap λa=>if a=L\/a=d then Rv else(h.get? a).map λo=>(a,o)
end
end Att
namespace L2
open PySem PySem.Spec PyProof.Rows
theorem oC: ∀{vs ns},ZP vs ns->Vals (ns.map V.int) vs
 | _,_,.nil=> .nil
 | _,_,.cons n t h=> .cons ⟨t,rfl⟩ (oC h)
def y8(H:Hp):= ∀ b,H b=Rv\/ ∃ o xs,H b=fv (.iW o (.lst xs))
theorem yT{K} 
  (KX:K.In s₁.heap) (hns:s₁.heap.Ns Sg mg) (hb:s₁.heap.Ns ZS mb) (hbb: ∀ x:Str,x≠ "__name__" ->mb x=Ta x) (hlim:s₁.heap.NoLimit) (hg:s₁.gens= #[])
  (ha:s₁.heap.get? a=fv { cls:= .type "list",data:= .seq vs.toArray}) (hi:ZP vs ns) (hl:ns.length<=RF) (hr:cx k Yj)
  (F: ∀ base ,K.In base->base.Ns Sg mg->jr P w K mg base CX k fa fd [x] sp) (hbind: ∀ s u,Xp s fd ⟨[u],[]⟩ [(x,u)])
  (hsp: ∀ H ,y8 H->fO K H a (ns.map V.int)->sp [.ref a] H (λv _=>v= .bl true) λ_ _ _=>False)
  (hCX: ∀ H e s',CX [] H s₁ (λ_ _ _=>False) e s'->False) :
  Xq (R4 P w) Yj (.call (.ref fa) ⟨[.ref a],[]⟩) (λr s'=>r= .ok (.ret (.bool true))/\OldK s₁.heap s'.heap/\s'.os=s₁.os/\WB s'.gens) s₁ :=by
 have rv:=oC hi;have lenV:=hi.length;have core: ∀ H ,y8 H->fO K H a (ns.map V.int)->iS P w H s₁.heap->(∀ b,H b≠Rv->b=a)->(H a≠Rv->K.lookup a=Rv) ->
   Xq (R4 P w) Yj (.call (.ref fa) ⟨[.ref a],[]⟩) (λr s'=>r= .ok (.ret (.bool true))/\OldK s₁.heap s'.heap/\s'.os=s₁.os/\WB s'.gens) s₁ :=by
  intro H hO hS aW hA hK;have base_of: ∀{b:RQ}{o:Obj},s₁.heap.get? b=fv o->H b=Rv->(rD s₁.heap H).get? b=fv o:=λe n=>A3 e n;have noA: ∀{b:RQ}{o:Obj}{es:Array DictEntry}{ep:Nat},s₁.heap.get? b=fv o->o.data= .dict es ep->H b=Rv:=λ{b o es ep} e d=>by
   cases q:H b with
   | none=>rfl
   | some u =>
    have e':=hA b (by rw[q];simp)
    subst e'
    rw[ha] at e;cases e
    have d':=d
    cases d'
  have nsK: ∀{b:RQ}{m:Str->Option RA},s₁.heap.Ns b m->(rD s₁.heap H).Ns b m:=λ{b m}=>by rintro ⟨o,es,ep,e,d,r⟩;exact⟨o,es,ep,base_of e (noA e d),d,r⟩
  have hKb:=λb o e=>base_of (KX b o e) (by
   cases q:H b with
   | none=>rfl
   | some u =>
    have e':=hA b (by rw[q];simp)
    subst e'
    rw[hK (by rw[q];simp)] at e;cases e)
  have hM:Mod K mg (rD s₁.heap H):=⟨hKb,nsK hns,⟨mb,nsK hb,hbb⟩,by obtain⟨mc,h1,h2⟩:=hlim;exact⟨mc,nsK h1,h2⟩⟩
  have e0:uL P w K mg (rD s₁.heap H) Yj [] s₁ H:=⟨rfl,hM,λb o e=>CU e,Nat.le_of_eq (xU _ _),trivial,λb hb=>absurd (show b∈([]) from hb) (by simp),aW,.of_eq hg⟩
  refine YQ ((F _ hKb (nsK hns)).run Yj [] s₁ H ⟨[.ref a],[]⟩ [.ref a] [.ref a] _ _ hr e0 (hbind s₁ (.ref a)) (.cons rfl .nil) (hsp H hO hS)) λr s' h=>?_;cases r with
  | error e=>exact(hCX H e s' h).elim
  | ok fl =>
   cases fl with
   | next=>exact TF h
   | brk=>exact TF h
   | cont=>exact TF h
   | ret u =>
    obtain⟨v,H',os,bare,un,hok',r',q⟩:=h
    have q':=q
    subst q'
    obtain rfl:u=Wj true:=r'
    refine⟨rfl,OldK.of_keep λb o e=>?_,os,bare⟩
    cases q:H b with
    | none=>exact un.keep b o e q (by intro z;exact absurd (show b∈([]) from z) (by simp)) (by simp)
    | some u =>
     rcases hO b with z | ⟨ob,xs,z⟩
     . rw[q] at z;cases z
     . have z2:=un.jL b ob _ z;obtain⟨e1,_⟩:=aW b _ z;obtain⟨e2,_⟩:=hok' b _ z2;rw[e] at e1;cases e1;exact e2
 cases hk:K.lookup a with
 | some o =>
  have e:=KX a o hk
  rw[ha] at e
  cases e
  refine core (λ_=>Rv) (λ_=> .inl rfl) (.inr ⟨_,vs.toArray,_,hk,rfl,rfl,rfl,by simp_all,by omega⟩) (λb u z=>by simp_all) (λb z=>absurd rfl z) λz=>absurd rfl z
 | none =>
  refine core (λb=>if b=a then fv (.iW { cls:= .type "list",data:= .seq vs.toArray} (.lst (ns.map V.int))) else Rv) (λb=>?_) (.inl (.inr ⟨{ cls:= .type "list",data:= .seq vs.toArray},if_pos rfl⟩)) (λb u z=>?_) (λb z=>?_) λ_=>hk
  . by_cases hb:b=a
    . exact .inr ⟨_,_,if_pos hb⟩
    . exact .inl (if_neg hb)
  . by_cases hb:b=a
    . have z':=(if_pos hb).symm.trans z;cases z';subst hb;exact⟨ha,by simp_all,vs,_,rv,ha⟩
    . simp_all
  . by_cases hb:b=a
    . exact hb
    . exact absurd (if_neg hb) z
theorem DO{l:V3}{n k:Nat}{q:Sv}{loose:List Str}{XP:(Str->Option RA)->S6->Prop}{YP:SQ->S6->Prop}{d:DefRec}{K:Params->Rx}{CX:SQ->FY}{sp:SQ->Sp}{x:Str}
  (hn:l.most=fv n) (hn2:n<=RF) (hdf:d.params.defaults=[]) (hr:cx k Yj)
  (hY: ∀(w:SQ)(h:S6),YP w h->(K w.params).In h)
  (F: ∀(w:SQ)(mg:Str->Option RA)(fa:RQ)(h:S6),(K w.params).In h->h.Ns Sg mg->mg d.name=fv (.ref fa) ->
   ∃ fd:Vq,(∀(s:RD)(u:RA),Xp s fd ⟨[u],[]⟩ [(x,u)]) /\
    ∀ base:S6,(K w.params).In base->base.Ns Sg mg->jr l.prog w (K w.params) mg base (CX w) k fa fd [x] (sp w))
  (hsp: ∀(w:SQ)(H:Hp)(a:RQ)(ns:List Int),ns.length<=n->y8 H->fO (K w.params) H a (ns.map V.int)->sp w [.ref a] H (λv _=>v= .bl true) λ_ _ _=>False)
  (hCX: ∀(w:SQ)(H:Hp)(s:RD)(e:RA)(s':RD),CX w [] H s (λ_ _ _=>False) e s'->False) :
  ZQ q loose XP YP l.row.toRowW d [] (λf vs=>Z2 f vs):=by
 refine Att.rl hn hdf λw s₀ s₁ mg mb fa o pm cd doc a vs ns G Y ho hd hcd hmg hobj hints hlen hg=>?_;have KX:=hY w _ Y;obtain ⟨fd,hb,hF⟩:=F w mg fa _ KX G.T.g hmg;exact yT KX G.T.g G.T.b G.T.builtins G.T.nolimit hg hobj hints (R5 hlen hn2) hr hF hb (λH hO hS=>hsp w H a ns hlen hO hS) λH e s'=>hCX w H s₁ e s'
end L2
/- THE LAST THEOREM (shape; LID, My.* are yours):
   My.Adr: a structure of the addresses that your layer names (classes, functions); My.Txt K t: a structure (Prop) of the equations over K;
   My.txt_mk : {K} {implicit addresses ..} (e1 : To K Sg "law" = fv (fv (.ref f))) (e2 : K.lookup f = fv ⟨oc, od, .func (S4 "law" "law" params body scope dV kV doc pm an cdv ct), sl⟩) (e3 : Xw K cdv "law" = true) .. : ∃ t, My.Txt K t
set_option maxRecDepth 100000 in
(the tactic k_is has no namespace:write k_is) -/
namespace L2
open PySem PySem.Spec PyProof.Rows
noncomputable def bP(s:W5):=match s with
 | .FunctionDef _ a _ _ _ _ _ _ _ _=>a
 | _=>{ posonlyargs:=[],args:=[],vararg:=Rv,kwonlyargs:=[],kw_defaults:=[],kwarg:=Rv,defaults:=[]}
noncomputable def aQ(s:W5):=match s with
 | .FunctionDef _ _ b _ _ _ _ _ _ _=>b
 | _=>[]
noncomputable def ak(s:W5):=match s with
 | .FunctionDef _ _ _ _ _ _ sc _ _ _=>sc
 | _=>{ kind:= .function,names:=[],isGenerator:=false,isCoroutine:=false}
abbrev pH:FY:=λ_ _ _ _ _ _=>False
abbrev E0:XK:=λ_ _ _=>False
theorem MU:Passes pH X E0:=λ_ _ _ _ _ _ _ h=>h.elim
structure yv(K:Rx)(x qual:Str)(st:W5)(f:RQ)(fd:Vq):Prop where
 ex: ∃(oc:RA)(od:Option RQ)(kV doc pm:RA)(an:Option RQ)(cdv ct:RA)(osl:Array (Option RA)),
  fd=S4 x qual (bP st) (aQ st) (ak st) .none kV doc pm an cdv ct/\K.lookup f=fv ⟨oc,od,.func fd,osl⟩/\Xw K cdv qual=true
 kp:UH K (.ref f)=true
section
variable{P:Sv}{w:SQ}{K:Rx}{mg:Str->Option RA}{base:S6}
theorem yv.ok{st}(F:yv K x qual st f fd)(S:cE N ps (ak st))(len: ∀ vs H Q E,sp vs H Q E->vs.length=ps.length)
  (hbody: ∀ cdv A outer s H vs Q E,cx k (A.deeper (Wo qual (ak st) s.heap.objs.size f cdv))->sp vs H Q E ->
   ∃ t,tJ (iE pH P w K mg base N qual (ak st) f cdv A outer s H E).mW (aQ st) t/\t { nx:=λ_ H'=>Q .non H',rt:=Q} (start N vs) H):jr P w K mg base pH (k+1) f fd ps sp:=by
 obtain⟨oc,od,kV,doc,pm,an,cdv,ct,osl,rfl,lk,hcd⟩:=F.ex;refine Mn lk hcd S len λA outer s H vs Q E hr hsp=>?_;obtain⟨t,h,q⟩:=hbody cdv A outer s H vs Q E hr hsp;exact⟨t,h.mW,q⟩
theorem yv.binds{st}(F:yv K x qual st f fd)
  (h: ∀ kV doc pm an cdv ct us,us.length=ps.length->UR (S4 x qual (bP st) (aQ st) (ak st) .none kV doc pm an cdv ct) ⟨us,[]⟩=pure (ps.zip us)):Binds K fd ps []:=by
 obtain⟨oc,od,kV,doc,pm,an,cdv,ct,osl,rfl,lk,hcd⟩:=F.ex;exact .all (h kV doc pm an cdv ct)
theorem JY{st kV}(l:K.lookup f=fv ⟨oc,od,.func (S4 x qual (bP st) (aQ st) (ak st) .none kV doc pm an cdv ct),osl⟩)
  (c:Xw K cdv qual=true) (k:UH K (.ref f)=true):yv K x qual st f (S4 x qual (bP st) (aQ st) (ak st) .none kV doc pm an cdv ct):=⟨⟨oc,od,kV,doc,pm,an,cdv,ct,osl,rfl,l,c⟩,k⟩
end
theorem MB(hr:cx k A):A.units+1 < Vp:=Ws (Nat.add_le_add_left (by decide) _) hr.units
def k4(H H':Hp):= ∀ b o,H b=fv o->H' b=fv o
theorem k4.trans(a:k4 H H1)(b:k4 H1 H2):k4 H H2:=λc o h=>b c o (a c o h)
theorem k4.free(e:k4 H H')(h:H' l=Rv):H l=Rv:=by
 cases q:H l with
 | none=>rfl
 | some o =>
  rw[e l o q] at h
  cases h
open PySem PySem.W PyProof.Rows
section
variable{κ :Type}[DecidableEq κ]
noncomputable def fL(kvs:List (κ × V)) k:=(kvs.find? λkv=>decide (kv.1=k)).map (·.2)
noncomputable def putK kvs (k: κ) (v:V) :=
 if (kvs.any λkv=>decide (kv.1=k))=true then kvs.map (λkv=>if kv.1=k then(kv.1,v) else kv) else kvs++[(k,v)]
theorem mC{k: κ}(e:p.1=k):fL (p::r) k=fv p.2:=by simp[fL,e]
theorem mP{k: κ}(e: ¬ p.1=k):fL (p::r) k=fL r k:=by simp[fL,e]
theorem tH(k: κ): ∀ kvs ,(kvs.any λkv=>decide (kv.1=k))=(fL kvs k).isSome
 | []=>rfl
 | p::r=>by
  rw[Tz];by_cases e:p.1=k
  . simp only[mC e,decide_eq_true e,Bool.true_or,YF]
  . rw[mP e,decide_eq_false e];exact tH k r
theorem gX kvs (k: κ) v:(putK kvs k v).length<=kvs.length+1:=by
 unfold putK;split
 . simp_all
 . simp_all
theorem jP.fE(r:jP o u):o.isSome=u.isSome:=by
 cases o with
 | none=>cases u with
  | none=>rfl
  | some _=>exact(show False from r).elim
 | some _=>cases u with
  | none=>exact(show False from r).elim
  | some _=>rfl
theorem jP.getD(r:jP o u)(rd:RelV d d'):RelV (o.getD d) (u.getD d'):=by
 cases o with
 | none=>cases u with
  | none=>exact rd
  | some _=>exact(show False from r).elim
 | some _=>cases u with
  | none=>exact(show False from r).elim
  | some _=>exact r
theorem KV.val(r:KV kvs vs)(k: κ):jP (fL kvs k) (Xx vs k):=by
 induction r with
 | nil=>exact UL
 | @cons p q ps qs h t ih =>
  obtain⟨h1,h2⟩:=h
  by_cases e:p.1=k
  . have e':=h1.symm.trans e;have b:Xx (q::qs) k=fv q.2:=by simp[Xx,e']
    rw[mC e,b];exact h2
  . have e': ¬ q.1=k:=λz=>e (h1.trans z);have b:Xx (q::qs) k=Xx qs k:=by simp[Xx,e']
    rw[mP e,b];exact ih
theorem KV.any(r:KV kvs vs)(k: κ):(kvs.any λkv=>decide (kv.1=k))=vs.any λkv=>decide (kv.1=k):=by
 induction r with
 | nil=>rfl
 | cons h t ih=>simp_all
theorem KV.Ht(r:KV kvs vs)(k: κ)(ry:RelV y u) :
  KV (kvs.map λkv=>if kv.1=k then(kv.1,y) else kv) (vs.map λkv=>if kv.1=k then(kv.1,u) else kv):=by
 induction r with
 | nil=>exact .nil
 | @cons p q ps qs h t ih =>
  rw[RL,RL]
  refine .cons ?_ ih
  obtain⟨h1,h2⟩:=h
  by_cases e:p.1=k
  . rw[if_pos e,if_pos (h1.symm.trans e)];exact⟨h1,ry⟩
  . rw[if_neg e,if_neg (λz=>e (h1.trans z))];exact⟨h1,h2⟩
theorem KV.put(r:KV kvs vs)(k: κ)(ry:RelV y u):KV (putK kvs k y) (stored vs k u):=by
 unfold putK stored;rw[r.any k];by_cases e:(vs.any λkv=>decide (kv.1=k))=true
 . rw[if_pos e,if_pos e];exact r.Ht k ry
 . rw[if_neg e,if_neg e];exact aaj r ⟨rfl,ry⟩
theorem KV.keys{kvs:List (κ × V)}{vs:List (κ × RA)}(r:KV kvs vs):kvs.map (·.1)=vs.map (·.1):=by
 induction r with
 | nil=>rfl
 | cons h t ih=>simp_all
theorem KV.length{kvs:List (κ × V)}{vs:List (κ × RA)}(r:KV kvs vs):kvs.length=vs.length:=Vo r
end
theorem kY(r:RelV (kV k) u):(aF P w).is k u=true:=by
 cases k with
 | inl i=>obtain⟨t,e⟩:=(show ∃ t,u=Vc i t from r);subst e;exact rX P w i t
 | inr x=>obtain⟨t,e⟩:=(show ∃ t,u=VS x t from r);subst e;exact rN P w x t
theorem oW: ∀{ks us},Vals (ks.map kV) us->ItemsAre (aF P w) ks us
 | [],_,r=>by cases r;exact .nil
 | k::ks,_,r=>by
  cases r with
  | cons h t=>exact .cons (kY h) (oW t)
abbrev KT(H:Hp):List (List Key × V)->List (List Key × RQ × RA)->Prop:=SW λp q=>p.1=q.1/\H q.2.1=fv (.tup (p.1.map kV))/\RelV p.2 q.2.2
theorem KT.val(r:KT H kvs xs) k:jP (fL kvs k) ((Zw xs k).map (·.2)):=by
 induction r with
 | nil=>exact UL
 | @cons p q ps qs h t ih =>
  obtain⟨h1,_,h2⟩:=h
  by_cases e:p.1=k
  . have e':=h1.symm.trans e;have b:Zw (q::qs) k=fv q.2:=by simp[Zw,e']
    rw[mC e,b];exact h2
  . have e': ¬ q.1=k:=λz=>e (h1.trans z);have b:Zw (q::qs) k=Zw qs k:=by simp[Zw,e']
    rw[mP e,b];exact ih
theorem KT.Ht(r:KT H kvs xs) k (ry:RelV y u) :
  KT H (kvs.map λkv=>if kv.1=k then(kv.1,y) else kv) (xs.map (putAt k u)):=by
 induction r with
 | nil=>exact .nil
 | @cons p q ps qs h t ih =>
  rw[RL]
  refine .cons ?_ ih
  obtain⟨h1,h2,h3⟩:=h
  unfold putAt
  by_cases e:p.1=k
  . rw[if_pos e,if_pos (h1.symm.trans e)];exact⟨h1,h2,ry⟩
  . rw[if_neg e,if_neg (λz=>e (h1.trans z))];exact⟨h1,h2,h3⟩
theorem KT.put(r:KT H kvs xs) k (hb:H b=fv (.tup (k.map kV))) (ry:RelV y u) :
  KT H (putK kvs k y) (storedH xs k b u):=by
 have e:(kvs.any λkv=>decide (kv.1=k))=(Zw xs k).isSome:=by
  rw[tH,(r.val k).fE,WJ]
 unfold putK storedH;rw[e];by_cases q:(Zw xs k).isSome=true
 . rw[if_pos q,if_pos q];exact r.Ht k ry
 . rw[if_neg q,if_neg q];exact aaj r ⟨rfl,hb,ry⟩
theorem KT.keeps(r:KT H kvs xs)(ht: ∀ b ys,H b=fv (.tup ys)->H' b=fv (.tup ys)):KT H' kvs xs :=
 Paired.yc r λ_ _ z=>⟨z.1,ht _ _ z.2.1,z.2.2⟩
section
variable{P:Sv}{w:SQ}{H:Hp}{h:S6}{a:RQ}
theorem F3(ok:iS P w H h)(e:Rd H a u):aN P w H h a u:=e.ok ok
theorem kQ(ok:iS P w H h)(e:Rd H a (.dK kvs)):kvs.length<=RF/\(a == Te)=false/\ ∃ vs,KV kvs vs/\h.DictOf (aF P w) a vs :=
 show aN P w H h a (.dK kvs) from F3 ok e
theorem vY(ok:iS P w H h)(e:H a=fv (.dK kvs)):kvs.length<=RF/\(a == Te)=false/\ ∃ vs,KV kvs vs/\h.DictOf (aF P w) a vs:=kQ ok (.inl e)
theorem ku(ok:iS P w H h)(e:H a=fv (.tup (ks.map kV))):(W4 (aF P w)).is h ks a:=by
 obtain⟨_,aj,r,o,h1,h2,n,h3,_⟩:=(show aN P w H h a (.tup (ks.map kV)) from ok a _ e)
 exact⟨o,aj.toArray,n,h1,h2,h3,by simpa using oW r⟩
theorem lL(ok:iS P w H h)(e:Rd H a (.dT kvs)):kvs.length<=RF/\(a == Te)=false /\
  ∃ xs,KT H kvs xs/\h.DictOfH (W4 (aF P w)) a xs:=by
 obtain⟨z,y,xs,r,o,es,ep,h1,h2,h3,h4,h5⟩:=(show aN P w H h a (.dT kvs) from F3 ok e)
 refine⟨z,y,xs,r,o,es,ep,h1,h2,h3,h4,λx hx=>?_,h5⟩;have all: ∀{l m},KT H l m-> ∀ x∈m,(W4 (aF P w)).is h x.1 x.2.1:=by
  intro l m q
  induction q with
  | nil=>simp_all
  | @cons p q ps qs hq t ih =>
   intro x hx
   rcases RW.mp hx with e | hx
   . subst e;exact ku ok (by rw[<- hq.1];exact hq.2.1)
   . exact ih x hx
 exact all r x hx
theorem M4(ok:iS P w H h)(e:H a=fv (.dT kvs)):kvs.length<=RF/\(a == Te)=false /\
  ∃ xs,KT H kvs xs/\h.DictOfH (W4 (aF P w)) a xs:=lL ok (.inl e)
end
def iH H (a:RQ) y (r:Option V) :=
 (∃ kvs k,Rd H a (.dK kvs)/\y=kV k/\r=fL kvs k)\/ ∃ kvs k b,Rd H a (.dT kvs)/\y= .ref b/\H b=fv (.tup (k.map kV))/\r=fL kvs k
def tX H (a:RQ) y v H' :=
 (∃ kvs k,H a=fv (.dK kvs)/\y=kV k/\kvs.length < RF/\H'=upd H a (.dK (putK kvs k v))) \/
 ∃ kvs k b,H a=fv (.dT kvs)/\y= .ref b/\H b=fv (.tup (k.map kV))/\kvs.length < RF/\H'=upd H a (.dT (putK kvs k v))
theorem iH.k{H:Hp}{a:RQ}{kvs:List (Key × V)}{k:Key}(e:H a=fv (.dK kvs)):iH H a (kV k) (fL kvs k):= .inl ⟨kvs,k,.inl e,rfl,rfl⟩
theorem iH.t{H:Hp}{a b:RQ}{kvs:List (List Key × V)}{k:List Key}(e:H a=fv (.dT kvs))(eb:H b=fv (.tup (k.map kV))):iH H a (.ref b) (fL kvs k):= .inr ⟨kvs,k,b,.inl e,rfl,eb,rfl⟩
theorem tX.k{H:Hp}{a:RQ}{kvs:List (Key × V)}{k:Key}{v:V}(e:H a=fv (.dK kvs))(hl:kvs.length < RF):tX H a (kV k) v (upd H a (.dK (putK kvs k v))):= .inl ⟨kvs,k,e,rfl,hl,rfl⟩
theorem tX.t{H:Hp}{a b:RQ}{kvs:List (List Key × V)}{k:List Key}{v:V}(e:H a=fv (.dT kvs))(eb:H b=fv (.tup (k.map kV)))(hl:kvs.length < RF) :
  tX H a (.ref b) v (upd H a (.dT (putK kvs k v))):= .inr ⟨kvs,k,b,e,rfl,eb,hl,rfl⟩
section
variable{X:Cx}{pins:List (RQ × Obj)}{σ :St}{H:Hp}{s:RD}{a:RQ}{y v:V}{u r:RA}{o:Option V}{A:Ti}{E:RA->RD->Prop}
theorem Inv.big(I:Inv X pins σ H s):Te < s.heap.objs.size:=by
 have h:=(I.mod.glob.keeps I.bk).lt;exact Wf (by decide) h
theorem xh(hu:A.units+1 < Vp)(I:Inv X pins σ H s)(g:iH H a y (fv v))(ry:RelV y u)(h: ∀ w' s',Inv X pins σ H s'->RelV v w'->Q w' s') :
  RX (R4 X.prog X.w) A (We (.ref a) u) Q E s:=by
 rcases g with⟨kvs,k,e,ey,l⟩ | ⟨kvs,k,b,e,ey,eb,l⟩
 . subst ey;obtain⟨z,hd,vs,rel,dd⟩:=kQ I.aW e;obtain⟨w',hw,rw'⟩:=jP.some_of (v:=v) (o:=Xx vs k) (by rw[l];exact rel.val k);exact Zh (kY ry) dd.mapOf hw (h w' _ (I.tok _) rw')
 . subst ey;cases(show u=R0 b from ry);obtain⟨z,hd,xs,rel,dd⟩:=lL I.aW e;obtain⟨w',hw,rw'⟩:=jP.some_of (v:=v) (o:=(Zw xs k).map (·.2)) (by rw[l];exact rel.val k)
   obtain⟨p,hp,hp2⟩:=Uc.mp hw;refine wpAny_getItem_heap (UN hu) (ku I.aW eb) dd hp ?_;rw[hp2];exact h w' _ (I.tok _) rw'
theorem PQ{Q:RA->RD->Prop}(hu:A.units+1 < Vp)(I:Inv X pins σ H s)(g:iH H a y o)(ry:RelV y u)(h: ∀ s',Inv X pins σ H s'->Q (.bool o.isSome) s') :
  RX (R4 X.prog X.w) A (R9 .In u (.ref a)) Q E s:=by
 rcases g with⟨kvs,k,e,ey,l⟩ | ⟨kvs,k,b,e,ey,eb,l⟩
 . subst ey;obtain⟨z,hd,vs,rel,dd⟩:=kQ I.aW e;refine wpAny_in_of (kY ry) hd dd.mapOf ?_;rw[<- (rel.val k).fE,<- l];exact h _ (I.tok _)
 . subst ey;cases(show u=R0 b from ry);obtain⟨z,hd,xs,rel,dd⟩:=lL I.aW e;refine wpAny_in_heap (UN hu) (ku I.aW eb) hd dd ?_;have q:=(rel.val k).fE;rw[WJ] at q;rw[<- q,<- l];exact h _ (I.tok _)
theorem DE{Q:RA->RD->Prop}(hu:A.units+1 < Vp)(I:Inv X pins σ H s)(g:iH H a y o)(ry:RelV y u)(h: ∀ s',Inv X pins σ H s'->Q (.bool (!o.isSome)) s') :
  RX (R4 X.prog X.w) A (R9 .NotIn u (.ref a)) Q E s:=by
 rcases g with⟨kvs,k,e,ey,l⟩ | ⟨kvs,k,b,e,ey,eb,l⟩
 . subst ey;obtain⟨z,hd,vs,rel,dd⟩:=kQ I.aW e;refine wpAny_notIn_of (kY ry) hd dd.mapOf ?_;rw[<- (rel.val k).fE,<- l];exact h _ (I.tok _)
 . subst ey;cases(show u=R0 b from ry);obtain⟨z,hd,xs,rel,dd⟩:=lL I.aW e;refine wpAny_notIn_heap (UN hu) (ku I.aW eb) hd dd ?_;have q:=(rel.val k).fE;rw[WJ] at q;rw[<- q,<- l];exact h _ (I.tok _)
theorem wJ(I:Inv X pins σ H s)(mu:Mr (H a))(hs:Xo a s.heap h')(he: ∃ q,h'.get? a=fv q)(new:aN X.prog X.w (upd H a ob) h' a ob) :
  Inv X pins σ (upd H a ob) { s with heap:=h',toks:=t'} :=
 I.write (x:=a) (e:=a) mu (.inl rfl) (λb q hb z=>(hs.2 b hb).trans z) he new
theorem tZ(z:kvs.length<=RF)(hd:(a == Te)=false)(rel:KV kvs vs)(dd:h'.DictOf (aF P w) a vs) :
  aN P w H' h' a (.dK kvs):=⟨z,hd,vs,rel,dd⟩
theorem x8{H':Hp}{Q:Unit->RD->Prop}(hu:A.units+1 < Vp)(I:Inv X pins σ H s)(g:tX H a y v H')(ry:RelV y u)(rv:RelV v r)(h: ∀ s',Inv X pins σ H' s'->Q () s') :
  RX (R4 X.prog X.w) A (setItem (.ref a) u r) Q E s:=by
 rcases g with⟨kvs,k,e,ey,l,eH⟩ | ⟨kvs,k,b,e,ey,eb,l,eH⟩
 . subst ey eH;obtain⟨z,hd,vs,rel,dd⟩:=vY I.aW e;have hz:vs.length<=RF:=by rw[<- rel.length];exact z
   have hl:(putK kvs k v).length<=RF:=by have:=gX kvs k v;omega
   refine wpAny_setItem_pairs (hsz:=hz) (kY ry) dd λh' dd' hs=>h _ ?_;have he: ∃ q,h'.get? a=fv q:=by obtain⟨q,_,_,hq,_⟩:=dd';exact⟨q,hq⟩
   exact wJ I (by rw[e];exact UL) hs he (tZ hl hd (rel.put k rv) dd')
 . subst ey eH;cases(show u=R0 b from ry);obtain⟨z,hd,xs,rel,dd⟩:=M4 I.aW e;have hz:xs.length<=RF:=by rw[<- Vo rel];exact z
   have hl:(putK kvs k v).length<=RF:=by have:=gX kvs k v;omega
   refine wpAny_setItem_heap (hsz:=hz) (UN hu) (ku I.aW eb) dd λh' dd' hs=>h _ ?_;obtain⟨q,es,ep,hq,h2,h3,h4,_,h5⟩:=dd';refine wJ I (by rw[e];exact UL) hs ⟨q,hq⟩ ⟨hl,hd,_,(rel.put k eb rv).keeps λc ys ec=>?_,q,es,ep,hq,h2,h3,h4,h5⟩;rw[av (pv ec e (λz=>by cases z))];exact ec
end
section
variable{X:Cx}{pins:List (RQ × Obj)}{σ :St}{H:Hp}{s:RD}{a:RQ}{kvs:List (Key × V)}{k:Key}{u:RA}{A:Ti}{E:RA->RD->Prop}
theorem Ny{Q:RA->RD->Prop}(I:Inv X pins σ H s)(e:Rd H a (.dK kvs))(h: ∀ t s',Inv X pins σ H s'->Q (.int kvs.length t) s'):RX (R4 X.prog X.w) A (call (.builtin "len") [.ref a]) Q E s:=by
 obtain⟨z,hd,vs,rel,dd⟩:=kQ I.aW e;refine call_len_dict hd dd (by rw[<- rel.length];rw[sizeLine_eq] at z;omega) ?_;rw[<- rel.length];exact h _ _ (I.tok _)
end
def Ct i:= ∀ ov iv,WG i false ov iv=operate [ov,iv] (We ov iv)
theorem Ek{id} 
    (hl : ZY (.type T) "__getitem__" = pure (fv (.builtin id))) (hs : Ct slice)
    (h : RX (R4 prog w) A (Tw value env) (λo s₁ => RX (R4 prog w) A (Tw slice env) (λi s₂ => s₂.TypeIs o T /\ RX (R4 prog w) A (We o i) Q E s₂) E s₁) E s) :
    RX (R4 prog w) A (Tw (.Subscript value slice pos) env) Q E s := by
  refine ZZ (Sq h (λo s₁ h₁ => Sq h₁ (λi s₂ h₂ => ?_) λ_ _ x => x) λ_ _ x => x);obtain ⟨hT, h₂⟩ := h₂;refine Ru ?_;refine Ru (XM hT hl ?_);have fin : RX (R4 prog w) A (WG slice false o i) (λr s₃ => RX (R4 prog w) A (letTemporaryGo value o r >>= λ_ => pure r) Q E s₃) E s₂ := by
    rw [hs o i];exact ZE (Sq h₂ (λr s₃ h₃ => Ru (X3 (RG h₃))) λ_ _ x => x)
  first
    | exact RG (Ru fin)
    | exact Ru (RG (Ru fin))
    | exact Ru fin
theorem su{σ :St}(I:Inv X pins σ H s)(g:iH H a y o):s.TypeIs (.ref a) "dict" :=by
 rcases g with⟨kvs,k,e,_,_⟩ | ⟨kvs,k,b,e,_,_,_⟩
 . obtain⟨_,_,vs,_,dd⟩:=kQ I.aW e;exact dd.typeIs
 . obtain⟨_,_,xs,_,dd⟩:=lL I.aW e;exact dd.typeIs
def mD:List (TE × TE)->St->Hp->(List (V × V)->Hp->Prop)->Prop
 | [],_,H,Q=>Q [] H
 | (tk,tv)::r, σ,H,Q=>tk σ H λx H1=>tv σ H1 λy H2=>mD r σ H2 λps H3=>Q ((x,y)::ps) H3
abbrev VV:List (V × V)->List (RA × RA)->Prop:=SW λp q=>RelV p.1 q.1∧RelV p.2 q.2
def Rh X pos (keys:List (Option Sy)) (values:List Sy) (trs:List (TE × TE)) :=
 ∀ pins s(σ :St) H Q,Inv X pins σ H s->mD trs σ H Q ->
  RX (R4 X.prog X.w) X.A (evalPairs (pairTrees keys values X.env pos)) (λvs s'=> ∃ ps H',Inv X pins σ H' s'/\VV ps vs/\Q ps H') X.xe s
def cX(kvs more:List (Key × V)):=more.foldl (λacc kv=>putK acc kv.1 kv.2) kvs
theorem KV.merge: ∀{more rs kvs vs},KV more rs->KV kvs vs->KV (cX kvs more) (merged vs rs):=by
 intro more rs kvs vs r
 induction r generalizing kvs vs with
 | nil=>intro q;exact q
 | @cons p q ps qs h t ih =>
  intro r0
  have e:KV (putK kvs p.1 p.2) (stored vs q.1 q.2):=by
   have:=r0.put p.1 h.2;rw[<- h.1];exact this
  exact ih e
theorem fB: ∀ more kvs,(cX kvs more).length<=kvs.length+more.length
 | [],kvs=>by show kvs.length<=kvs.length+0;omega
 | p::r,kvs=>by
  have h1:=fB r (putK kvs p.1 p.2);have h2:=gX kvs p.1 p.2;show(cX (putK kvs p.1 p.2) r).length<=_;rw[R3];omega
structure M1(X:Cx)(o:Sy)(m:Str)(apos:Pos)(e:Sy)(cpos:Pos):Prop where
 base:TX o m X.env (Tw o X.env)=Tw o X.env
 kF:((VT cpos (Ss [e] X.env)).all (λx=> !x.1)&&(backToKw cpos (Zv [] X.env)).all (λx=>x.1.isSome)
  && decide (([e]:List Sy).length+([]:List Yi).length+(if ([]:List Yi).isEmpty then 0 else 1) < 30))=true
 line:(apos.endLine == cpos.line)=true
 trees:VT cpos (Ss [e] X.env)=[(false,Tw e X.env)]
structure M2(X:Cx)(o:Sy)(m:Str)(apos:Pos)(e f:Sy)(cpos:Pos):Prop where
 base:TX o m X.env (Tw o X.env)=Tw o X.env
 kF:((VT cpos (Ss [e,f] X.env)).all (λx=> !x.1)&&(backToKw cpos (Zv [] X.env)).all (λx=>x.1.isSome)
  && decide (([e,f]:List Sy).length+([]:List Yi).length+(if ([]:List Yi).isEmpty then 0 else 1) < 30))=true
 line:(apos.endLine == cpos.line)=true
 trees:VT cpos (Ss [e,f] X.env)=[(false,Tw e X.env),(false,Tw f X.env)]
def QX H a:=(∃ kvs,Rd H a (.dK kvs))\/ ∃ kvs,Rd H a (.dT kvs)
theorem IJ{σ :St}(I:Inv X pins σ H s)(d:QX H a) :
  s.TypeIs (.ref a) "dict" /\(∀ b,R0 a= .ref b-> ∃ ob,s.heap.get? b=fv ob/\ob.dict=Rv)/\(a == Te)=false:=by
 rcases d with⟨kvs,e⟩ | ⟨kvs,e⟩
 . obtain⟨_,hd,vs,_,dd⟩:=kQ I.aW e;refine⟨dd.typeIs,λb q=>?_,hd⟩;cases q;obtain⟨ob,_,_,h1,h2,_⟩:=dd;exact⟨ob,h1,h2.2.1⟩
 . obtain⟨_,hd,xs,_,dd⟩:=lL I.aW e;refine⟨dd.typeIs,λb q=>?_,hd⟩;cases q;obtain⟨ob,_,_,h1,h2,_⟩:=dd;exact⟨ob,h1,h2.2.1⟩
section
variable{X:Cx}{pins:List (RQ × Obj)}{σ :St}{H:Hp}{s:RD}{a:RQ}{y d:V}{u r:RA}{o:Option V}{A:Ti}{E:RA->RD->Prop}
theorem HG(hu:A.units+1 < Vp)(I:Inv X pins σ H s)(g:iH H a y o)(ry:RelV y u)(rd:RelV d r)(h: ∀ w' s',Inv X pins σ H s'->RelV (o.getD d) w'->Q w' s') :
  RX (R4 X.prog X.w) A (call (.builtin "dict.get") [.ref a,u,r]) Q E s:=by
 rcases g with⟨kvs,k,e,ey,l⟩ | ⟨kvs,k,b,e,ey,eb,l⟩
 . subst ey;obtain⟨z,hd,vs,rel,dd⟩:=kQ I.aW e;refine call_meetsIn VQ dd.typeIs Xy (Xb _ _ _) (meets_dict_get_default (aF X.prog X.w) a (kY ry) hd r) ⟨_,dd.mapOf,h _ _ (I.tok _) ?_⟩;rw[l];exact(rel.val k).getD rd
 . subst ey;cases(show u=R0 b from ry);obtain⟨z,hd,xs,rel,dd⟩:=lL I.aW e;refine call_meetsIn VQ dd.typeIs Xy (Xb _ _ _) (meetsH_dict_get_default (W4 (aF X.prog X.w)) a b hd r) ⟨UN hu,k,xs,ku I.aW eb,dd,h _ _ (I.tok _) ?_⟩;rw[l];exact(rel.val k).getD rd
end
noncomputable def Ag(td ty tx:TE):TE:=fun σ H Q=>td σ H λx H1=> ∃ a,x= .ref a/\QX H1 a/\ty σ H1 λy H2=>tx σ H2 λz H3=> ∃ o,iH H3 a y o/\Q (o.getD z) H3
section
variable{X:Cx}{o e f:Sy}{apos cpos:Pos}{td ty tx:TE}
theorem ze(hu:X.A.units+1 < Vp)(ho:PE X o td)(he:PE X e ty)(hf:PE X f tx)(m:M2 X o "get" apos e f cpos):PE X (.Call (.Attribute o "get" apos) [e,f] [] cpos) (Ag td ty tx):=by
 intro pins s σ H Q I h;refine wpAny_Call_method m.base m.kF m.line PySem.F.plainAttrs_dict VQ PySem.F.type_dict_get (gL (ho pins s σ H _ I h) λu s1 x H1 I1 rx ⟨a,ex,d,q1⟩=>?_);subst ex;obtain rfl:u=R0 a:=rx;obtain⟨t1,t2,_⟩:=IJ I1 d;refine⟨t1,t2,?_⟩;rw[m.trees];refine UM rfl (V2 (Vy (gL (he pins s1 σ H1 _ I1 q1) λiv s2 y H2 I2 ry q2 =>
  Vy (gL (hf pins s2 σ H2 _ I2 q2) λfv s3 z H3 I3 rz ⟨ov,g,q3⟩=>WE ?_))))
 exact HG hu I3 g ry rz λw' s4 I4 rw'=>⟨_,H3,I4,rw',q3⟩
end
section
variable{X:Cx}
theorem xf:aG X (.builtin "len") (λxs H Q=> ∃ a kvs,xs=[V.ref a]/\H a=fv (.dK kvs)/\Q (.int kvs.length) H):=by
 intro pins s σ H xs us Q I r h;obtain⟨a,kvs,rfl,ha,q⟩:=h;obtain⟨u,rfl,ru⟩:=vals1 r;cases ru;exact Ny I (.inl ha) λt s' I'=>⟨.int kvs.length,H,I',⟨t,rfl⟩,q⟩
end
noncomputable def mask(n:Str):Str:=⟨n.cps.push 0⟩
def gy(sc fn:List (Str × V1))(N vars:List Str) :=
 sc.all (λp=>(p.2 != .cell||sc.lookup p.1 == fv .cell)&&(p.2 != .free||(fn.lookup p.1 == fv .cell||fn.lookup p.1 == fv .free))&&(p.2 != .local||sc.lookup p.1 == fv .local)) &&
 N.all (λn=>vars.contains n||(sc.lookup n !=fv .local&&sc.lookup n !=fv .cell))&&vars.all (λv=>sc.lookup (mask v) == Rv)
def nR(N vars:List Str):=N.map (λn=>if vars.contains n then mask n else n)++vars
def dQ(X:Cx)(vars:List Str)(scope:WA)(cl:List (Str × RQ))(C:RQ)(s₀ :RD)(H₀ :Hp)(ex:List RQ)(pn:List (RQ × Obj)):Cx :=
 { X with N:=nR X.N vars,env:=T9 scope cl C X.env,s₀ :=s₀,H₀ :=H₀,outer:=X.stack,ex:=ex,fn:=λx=>scope.names.lookup x == fv .cell,pn:=pn}
theorem iQ(f:Str->V1->V1) x: ∀ names:List (Str × V1),(names.map λp=>(p.1,f p.1 p.2)).lookup x=(names.lookup x).map (f x)
 | []=>rfl
 | p::r=>by
  have ih:=iQ f x r;rw[RL,Uh,Uh,ih];cases q:x == p.1 with
  | true=>simp_all
  | false=>rfl
theorem gI{env:Env}{names:List (Str × V1)} :
  (names.map λ(n,k)=>if (k == UA&&env.scope.kind == .function&&env.kindOf n == fv .cell) then(n,UB) else(n,k)).lookup x =
   (names.lookup x).map λk=>if (k == UA&&env.scope.kind == .function&&env.kindOf x == fv .cell) then UB else k:=by
 rw[<- iQ (λn k=>if (k == UA&&env.scope.kind == .function&&env.kindOf n == fv .cell) then UB else k) x names];congr 2
 funext p
 show(if _ then _ else _)=_;split<;>rename_i z<;>simp[z]
theorem lookup_mem{β :Type}{c}: ∀{l:List (Str × β)},l.lookup x=fv c->(x,c)∈l
 | [],h=>by simp at h
 | p::r,h=>by
  rw[Uh] at h;cases q:x == p.1 with
  | true =>
   rw[q] at h
   obtain rfl:x=p.1:=by simpa using q
   obtain rfl:p.2=c:=by simpa using h
   exact RU
  | false=>rw[q] at h;exact RS _ (lookup_mem h)
theorem eR{β :Type}{c}: ∀{l:List (Str × β)},(x,c)∈l-> ∃ d,l.lookup x=fv d
 | [],h=>by cases h
 | (n,k)::r,h=>by
  cases hx:x == n with
  | true=>exact⟨k,by simp only[Uh,hx]⟩
  | false =>
   have h':(x,c)∈r:=by
    simp_all
   obtain⟨d,q⟩:=eR h'
   exact⟨d,by simp only[Uh,hx];exact q⟩
theorem iT: ∀(names:List (Str × V1)) acc,(∀ p∈names,p.2= .free-> ∃ c,env.cells.lookup p.1=fv c) ->
  ∃ cl,(forIn names acc λ(x:Str × V1) (r)=>(match x with | (name,kind)=>if (kind == UA)=true then do let a <- cellOf env name;pure (US ((name,a)::r)) else pure (US r)))=pure cl /\
   (∀ p∈cl,p∈acc\/env.cells.lookup p.1=fv p.2)/\(∀ p∈acc,p∈cl)/\ ∀ p∈names,p.2= .free-> ∃ c,(p.1,c)∈cl
 | [],acc,_=>⟨acc,rfl,λp h=> .inl h,λp h=>h,λp h=>by cases h⟩
 | (n,k)::r,acc,h=>by
  by_cases hk:(k == UA)=true
  . obtain⟨c,hc⟩:=h (n,k) RU (by simpa using hk);obtain⟨cl,e,h1,h2,h3⟩:=iT r ((n,c)::acc) λp hp=>h p (RS _ hp);refine⟨cl,?_,λp hp=>?_,λp hp=>h2 p (RS _ hp),λp hp hf=>?_⟩
    . rw[UT];have z:cellOf env n=pure c:=by unfold cellOf;have hc':=hc;rw[hc']
      simp only[hk,z];exact e
    . rcases h1 p hp with q | q
      . rcases RW.mp q with q | q
        . exact .inr (by rw[q];exact hc)
        . exact .inl q
      . exact .inr q
    . rcases RW.mp hp with q | q
      . exact⟨c,by rw[q];exact h2 _ RU⟩
      . exact h3 p q hf
  . obtain⟨cl,e,h1,h2,h3⟩:=iT r acc λp hp=>h p (RS _ hp);refine⟨cl,?_,h1,h2,λp hp hf=>?_⟩
    . rw[UT];simp only[if_neg hk];exact e
    . rcases RW.mp hp with q | q
      . rw[q] at hf;exact absurd (by simpa using hf) hk
      . exact h3 p q hf
theorem lV(h: ∀ p∈scope.names,p.2= .free-> ∃ c,env.cells.lookup p.1=fv c) :
  ∃ cl,closureFor scope env=pure cl/\(∀ x c,cl.lookup x=fv c->env.cells.lookup x=fv c)/\ ∀ x,scope.names.lookup x=fv .free-> ∃ c,cl.lookup x=fv c:=by
 obtain⟨cl,e,h1,_,h3⟩:=iT scope.names [] h;refine⟨cl,?_,λx c q=>?_,λx q=>?_⟩
 . show(forIn scope.names ([]) _ >>= λr=>pure r)=_
   erw [e]
   rfl
 . rcases h1 _ (lookup_mem q) with z | z
   . cases z
   . exact z
 . obtain⟨c,q'⟩:=h3 _ (lookup_mem q) rfl;exact eR q'
theorem tK: ∀ names(h:S6) acc x c,(UY h.objs.size names acc).lookup x=fv c ->
  ((x,UB) ∉ names/\acc.lookup x=fv c)\/((x,UB)∈names/\h.objs.size<=c/\(Xc h names).IsCell c Rv)
 | [],_,_,_,_,e=> .inl ⟨λz=>(by cases z),e⟩
 | (name,kind)::r,h,acc,x,c,e=>by
  unfold UY at e;unfold Xc;split at e
  . rename_i hk;have hk':kind= .cell:=by simpa using hk
    subst hk';have hz:(h.push { cls:= .type "cell",data:= .cell Rv}).objs.size=h.objs.size+1:=SK ..;rw[<- hz] at e;rcases tK r _ _ x c e with⟨n,q⟩ | ⟨m,le,q⟩
    . rw[Uh] at q;cases hx:x == name with
      | true =>
       rw[hx] at q
       cases q
       rw[show x=name by simpa using hx]
       exact .inr ⟨RU,RE _,_,XN _ _ _ _ (RO _ rfl),rfl⟩
      | false =>
       simp_all
    . exact .inr ⟨RS _ m,by rw[hz] at le;exact Nat.le_of_succ_le le,q⟩
  . rename_i hk;rw[if_neg hk];rcases tK r h acc x c e with⟨n,q⟩ | ⟨m,q⟩
    . refine .inl ⟨λz=>?_,q⟩;rcases RW.mp z with w | w
      . simp_all
      . exact n w
    . exact .inr ⟨RS _ m,q⟩
theorem uU{lo:Nat}: ∀ names(n:Nat)(acc:List (Str × RQ)),(∀ x y c,acc.lookup x=fv c->acc.lookup y=fv c->lo<=c->x=y)->(∀ x c,acc.lookup x=fv c->c < n) ->
  ∀ x y c,(UY n names acc).lookup x=fv c->(UY n names acc).lookup y=fv c->lo<=c->x=y
 | [],_,_,h,_=>h
 | (name,kind)::r,n,acc,h,hn=>by
  unfold UY;split
  . have at_: ∀ z d,((name,n)::acc).lookup z=fv d->(z=name/\d=n)\/acc.lookup z=fv d:=λz d e=>by
     rw[Uh] at e;cases hz:z == name with
     | true=>simp_all
     | false=>rw[hz] at e;exact .inr e
    refine uU r (n+1) _ (λx y c e1 e2 hl=>?_) λx c e=>?_
    . rcases at_ x c e1 with⟨a,b⟩ | a<;>rcases at_ y c e2 with⟨a',b'⟩ | a'
      . rw[a,a']
      . exact absurd (hn y c a') (by rw[b];exact Sn _)
      . exact absurd (hn x c a) (by rw[b'];exact Sn _)
      . exact h x y c a a' hl
    . rcases at_ x c e with⟨_,b⟩ | a
      . simp_all
      . exact Uw (hn x c a)
  . exact uU r n acc h hn
theorem nY{M:Model}{A:Ti}{E:RA->RD->Prop}{s:RD}{scope:WA}{globals:RQ}{cl:List (Str × RQ)}{qual:Str}{outer:Env}{Q:Env->RD->Prop}
  (h:Q { scope:=scope,locals:=s.heap.objs.size,globals:=globals,cells:=UY (s.heap.objs.size+1) scope.names cl,qual:=qual,func:=Rv,code:=outer.code,frame:=outer.frame,builtins:=outer.builtins}
   { s with heap:=Xc (s.heap.push { cls:= .type "dict",data:= .dict #[]}) scope.names}):RX M A (X4 scope globals cl [] qual Rv .none (fv outer)) Q E s:=by
 simp only[X4,YF,if_true];refine Ru (wpAny_alloc (Ru (wpAny_layCells _ (λname kind cells=>by rfl) _ _ _ _ ?_)));rw[show({ s with heap:=s.heap.push { cls:= .type "dict",data:= .dict #[]}}:RD).heap.objs.size=s.heap.objs.size+1 from SK ..];exact Ru (by exact RG (RG h))
noncomputable def EA(cs:List Sy) v :=
 forIn cs true λc r=>if r=true then(Y8 c v (Tw c v) >>= λok=>pure (US ok)) else pure (US r)
def ue M A v e acc (X:RA->RD->Prop) (D:RD->Prop):=λok u=>if ok=true then
  RX M A (Tw e v) (λx u1=>RX M A (call (.builtin "list.append") [acc,x]) (λ_ u2=>D u2) X u1) X u
 else D u
def Hv(M:Model)(A:Ti) v tg e (cs:List Sy) (it acc:RA) (X:RA->RD->Prop) (D:RD->Prop) (i:RA) (u:RD) :=
 RX M A (XI tg it i) (λ_ u1=>RX M A (V7 tg v i) (λ_ u2=>RX M A (EA cs v) (ue M A v e acc X D) X u2) X u1) X u
theorem lT{prog:Sv}{w:SQ}{A:Ti}{R:Result->RD->Prop}{s:RD}{elt target iter:Sy}{ifs:List Sy}{scope:WA}{pos:Pos}{it acc:RA}{env:Env}(I:Nat->RD->Prop)
  (turn: ∀ k u,I k u->RX (R4 prog w) A (Za it) (λr u1=>match r with
   | none=>R (.ok .next) u1
   | some i=>Hv (R4 prog w) A env target elt ifs it acc (notedBy (R4 prog w) A env λe s'=>R (.error e) s') (λu2=> ∃ m,m < k/\I m u2) i u1) (notedBy (R4 prog w) A env λe s'=>R (.error e) s') u)
  (n:Nat) (h:I n s):Xq (R4 prog w) A (.compLoop (.ListComp elt [⟨target,iter,ifs,0⟩] scope pos) 0 it acc env) R s:=by
 refine codeAny_loop rfl I (λk u hu=>wpAny_noted (m:=compTurn (.ListComp elt [⟨target,iter,ifs,0⟩] scope pos) 0 it acc env) ?_) n h;rw[compTurn_list];refine Ru (Yt (Ru (Sq (turn k u hu) (λr u1 g=>?_) λ_ _ z=>z)))
 match r,g with
 | none,g=>exact RG g
 | some i,g =>
  refine Ru (Sq g (λ_ _ g=>Ru (Sq g (λ_ _ g=>Ru (Sq g (λok u4 g=>?_) λ_ _ z=>z)) λ_ _ z=>z)) λ_ _ z=>z)
  match ok,g with
  | false,g=>exact RG (Xd rfl g)
  | true,g=>exact Ru (Ru (Sq g (λ_ _ g=>Ru (Sq g (λ_ _ g=>RG (RG (Xd rfl g))) λ_ _ z=>z)) λ_ _ z=>z))
def PF X (ifs:List Sy) (t:TT) :=
 ∀ pins s(σ :St) H Q,Inv X pins σ H s->t σ H Q ->
  RX (R4 X.prog X.w) X.A (forIn ifs true λc r=>if r=true then do let ok <- Y8 c X.env (Tw c X.env);pure (US ok) else pure (US r)) (TP X pins σ Q) X.xe s
noncomputable def Fq:TT:=λ_ H Q=>Q true H
theorem HH:PF X [] Fq:=λ_ _ σ H Q I h=>wpAny_tests_nil ⟨H,I,h⟩
theorem HD(h:PT X c t):PF X [c] t:=λpins s σ H Q I q=>wpAny_tests_one (h pins s σ H Q I q)
def OC(k:Nat)(wi:TI)(g:TG)(tt:TT)(te:TE):TE:=fun σ H Q=>wi σ H λJ H1=> ∃ W:Nat->Nat->List V->Hp->Prop,(∃ m,W 0 m [] H1)/\ ∀ i m ys H,W i m ys H ->
 (J.stop i H/\ ∀ p,H p=Rv->Q (.ref p) (upd H p (.lst ys))) \/
 (J.go i H/\ys.length < RF/\ ∀ x H',J.FJ i H x H'->g x (σ ++Rz k Rv) H' fun σ2 H2=>tt σ2 H2 λb H3 =>
  if b=true then te σ2 H3 λy H4=> ∃ m',m' < m/\W (i+1) m' (ys++[y]) H4 else ∃ m',m' < m/\W (i+1) m' ys H3)
section
variable{X:Cx}{pins:List (RQ × Obj)}{σ :St}{H:Hp}{s:RD}{scope:WA}{vars:List Str}{cl:List (Str × RQ)}
theorem iy(h:gy scope.names X.env.scope.names X.N vars=true): ∀ p∈scope.names,(p.2= .cell->scope.names.lookup p.1=fv .cell)/\(p.2= .free->X.env.kindOf p.1=fv .cell\/X.env.kindOf p.1=fv .free)/\(p.2= .local->scope.names.lookup p.1=fv .local):=by
 intro p hp;unfold gy at h;simp only[RT,Xe] at h;obtain⟨⟨h1,_⟩,_⟩:=h;have q:=h1 p hp;simp only[V9,bne_iff_ne,beq_iff_eq] at q;obtain⟨⟨q1,q2⟩,q3⟩:=q;refine⟨λe=>?_,λe=>?_,λe=>?_⟩
 . rcases q1 with z | z
   . exact absurd e z
   . exact z
 . rcases q2 with z | z
   . exact absurd e z
   . exact z
 . rcases q3 with z | z
   . exact absurd e z
   . exact z
theorem Kn(h:gy scope.names X.env.scope.names X.N vars=true): ∀ n∈X.N,¬ n∈vars->scope.names.lookup n≠fv .local/\scope.names.lookup n≠fv .cell:=by
 intro n hn hv;unfold gy at h;simp only[RT,Xe] at h;obtain⟨⟨_,h2⟩,_⟩:=h;have q:=h2 n hn;simp only[V9,RT,bne_iff_ne,List.contains_iff_mem] at q;exact q.resolve_left hv
theorem xK(h:gy scope.names X.env.scope.names X.N vars=true): ∀ n∈vars,scope.names.lookup (mask n)=Rv:=by
 intro n hn;unfold gy at h;simp only[RT,Xe] at h;simpa using h.2 n hn
theorem Inv.dQ{C:RQ}(I:Inv X pins σ H s)(hkind:scope.kind= .function)(hlc:gy scope.names X.env.scope.names X.N vars=true)
  (hc1: ∀ x c,cl.lookup x=fv c->(scope.names.lookup x≠fv .cell/\X.env.cells.lookup x=fv c)\/(scope.names.lookup x=fv .cell/\s.heap.objs.size<=c/\h'.IsCell c Rv)) (hc2: ∀ x,scope.names.lookup x=fv .free\/scope.names.lookup x=fv .cell-> ∃ c,cl.lookup x=fv c)
  (hci: ∀ x y c,cl.lookup x=fv c->cl.lookup y=fv c->s.heap.objs.size<=c->x=y)
  (hfp: ∀ b∈fp,lh X pins H b) (hfo: ∀ b∈fp,∃ o,s.heap.get? b=fv o) (hC:s.heap.objs.size<=C) (hn:h'.Ns C m') (k: ∀ b o,s.heap.get? b=fv o->h'.get? b=fv o) :
  Inv (dQ X vars scope cl C s H fp (X.pn++pins)) [] (σ ++Rz vars.length Rv) H { s with heap:=h',toks:=t'}:=by
 have hHC:=I.aW.fresh hC;have lt: ∀ x c,X.env.cells.lookup x=fv c->c < s.heap.objs.size:=λx c e=>by obtain⟨v,q⟩:=I.cell x c e;exact q.lt
 refine⟨?ok,rfl,I.bare,Un.kept k,⟨m',hn,?loc⟩,λx c e=>?cell,hHC,λx c e=>(hc1 x c e).elim (λz=>I.gJ x c z.2) (λz=>I.aW.fresh z.2.1),?pin,I.aW.kept k,?len⟩
 case ok =>
  refine{ mod:=I.ok.mod,kind:=?_,glob:=I.ok.glob,blt:=I.ok.blt,above:=hC,inj:=?_,has:=?_,Li:=?_,hd:=I.ok.hd,frames:=I.ok.frames,LK:= .inl rfl,Pu:=?_,bs:=I.bs,BW:=R5 I.ok.BW I.sz,xV:=?_,y7:=?_,ke:=I.stack,FG:=I.vM}
  . exact hkind
  . intro x y c e1 e2;rcases hc1 x c e1 with z | z
    . rcases hc1 y c e2 with w | w
      . exact I.ok.inj x y c z.2 w.2
      . exact absurd (RM (lt x c z.2) w.2.1) (Sn _)
    . exact hci x y c e1 e2 z.2.1
  . intro x hx;have hx':(T9 scope cl C X.env).kindOf x=fv .cell\/(T9 scope cl C X.env).kindOf x=fv .free:=hx;have e:(T9 scope cl C X.env).kindOf x=(scope.names.lookup x).map λk=>if (k == UA&&X.env.scope.kind == .function&&X.env.kindOf x == fv .cell) then UB else k:=gI
    rw[e] at hx';cases q:scope.names.lookup x with
    | none=>rw[q] at hx';simp at hx'
    | some kd =>
     by_cases hf:kd= .free
     . subst hf;exact hc2 x (.inl q)
     . rw[q] at hx';have hf':(kd == UA)=false:=by simpa using hf
       simp only[Ut,hf',Z3,TU,if_false,U3] at hx';rcases hx' with z | z
       . exact hc2 x (.inr (by rw[q,z]))
       . exact absurd z hf
  . intro x c hx e;have hx':(scope.names.lookup x == fv UB)=true:=hx;rcases hc1 x c e with z | z
    . exact absurd (by simpa using hx') z.1
    . exact z.2.1
  . intro b hb;have f:=hfp b hb;obtain⟨o,e⟩:=hfo b hb;exact⟨R1 (RM (RI e) hC),λx c e z=>(hc1 x c e).elim (λw=>f.2.2.2.2.1 x c w.2 z) (λw=>absurd (RM (RI (z ▸ ‹_› :s.heap.get? c=fv o)) w.2.1) (Sn _))⟩
  . intro b o e hb;have f:=hfp b hb;rcases f.2.2.2.1 with z | z
    . exact I.ok.xV b o e z
    . exact absurd (RM (RI (I.ok.bs b o e).1) z) (Sn _)
  . intro b hb z;have f:=hfp b hb;rcases RW.mp (I.kz b z) with q | q
    . exact f.2.1 q
    . exact f.2.2.1 q
 case loc =>
  intro i x v e1 e2 e3
  have e1':(nR X.N vars)[i]?=fv x:=e1
  have e:(T9 scope cl C X.env).scope.names.lookup x=(scope.names.lookup x).map λk=>if (k == UA&&X.env.scope.kind == .function&&X.env.kindOf x == fv .cell) then UB else k:=gI
  by_cases hi:i < σ.length
  . rw[So hi] at e2;unfold nR at e1';rw[So (by rw[RB,<- I.len];exact hi),RP] at e1';cases q:X.N[i]? with
    | none=>rw[q] at e1';cases e1'
    | some n =>
     rw[q] at e1'
     have e1'':(if vars.contains n=true then mask n else n)=x:=Sx e1'
     have vis:(scope.names.lookup x).isSome=true:=by
      unfold Ll at e3;have e3':(T9 scope cl C X.env).scope.names.lookup x=fv .local\/(T9 scope cl C X.env).scope.names.lookup x=fv .cell\/(T9 scope cl C X.env).scope.names.lookup x=fv .free:=e3;rw[e] at e3';cases z:scope.names.lookup x with
      | none=>rw[z] at e3';simp at e3'
      | some _=>rfl
     by_cases hv:n∈vars
     . rw[if_pos (by simpa using hv)] at e1'';have:=xK (X:=X) hlc n hv;rw[e1''] at this;rw[this] at vis;cases vis
     . rw[if_neg (by simpa using hv)] at e1'';subst e1'';have nl:=Kn (X:=X) hlc n (RN q) hv;cases z:scope.names.lookup n with
       | none=>rw[z] at vis;cases vis
       | some kd =>
        have hm:=iy (X:=X) hlc _ (lookup_mem z)
        have hkd:kd= .free:=by
         unfold Ll at e3;have e3':(T9 scope cl C X.env).scope.names.lookup n=fv .local\/(T9 scope cl C X.env).scope.names.lookup n=fv .cell\/(T9 scope cl C X.env).scope.names.lookup n=fv .free:=e3;rw[e,z] at e3';by_cases hf:kd= .free
         . exact hf
         . simp_all
        subst hkd
        have kk:=hm.2.1 rfl
        obtain⟨m,_,hl⟩:=I.loc
        obtain⟨u,r,look⟩:=hl i n v q e2 (.inr kk)
        obtain⟨c,hcl⟩:=hc2 n (.inl z)
        have hco:=(hc1 n c hcl).elim (·.2) (λw=>by rw[z] at w;cases w.1)
        have look': ∃ c,X.env.cells.lookup n=fv c/\s.heap.IsCell c (fv u):=by
         rcases look with⟨y,_⟩ | ⟨_,y⟩
         . rcases kk with w | w<;>(rw[w] at y;cases y)
         . exact y
        obtain⟨c',hc',⟨o,ho,hd⟩⟩:=look'
        have ec:=Sx (hco.symm.trans hc')
        subst ec
        refine⟨u,r,.inr ⟨?_,c,hcl,o,k c o ho,hd⟩⟩
        show(T9 scope cl C X.env).scope.names.lookup n=fv .cell\/(T9 scope cl C X.env).scope.names.lookup n=fv .free
        rw[e,z]
        simp only[Ut]
        split
        . exact .inl rfl
        . exact .inr rfl
  . rw[Sa (YG.mp hi),S7] at e2;split at e2<;>cases e2
 case cell =>
  rcases hc1 x c e with z | z
  . obtain⟨v,o,ho,hd⟩:=I.cell x c z.2;exact⟨v,o,k c o ho,hd⟩
  . exact⟨Rv,z.2.2⟩
 case pin =>
  intro p hp
  have hp':p∈X.pn++pins:=by simpa [L2.dQ] using hp
  obtain⟨e,n,ne,nf,d⟩:=I.pin p hp'
  refine⟨k _ _ e,n,R1 (RM (RI e) hC),λz=>?_,d⟩
  rcases RW.mp (I.kz p.1 z) with q | q
  . exact ne q
  . exact nf q
 case len =>
  show(σ ++Rz vars.length Rv).length=(nR X.N vars).length
  unfold nR
  rw[Sd,Sd,RB,Uk,I.len]
end
def GK(n:Nat)(g:TG):= ∀ x σ H Q,g x σ H Q->g x σ H fun σ2 H2=>Q σ2 H2/\ ∀ j,j < n-> σ2[j]?= σ[j]?
def Nt(n:Nat)(g:BX):= ∀ xs σ H Q,g xs σ H Q->g xs σ H fun σ2 H2=>Q σ2 H2/\ ∀ j,j < n-> σ2[j]?= σ[j]?
def p9(g:TG):= ∀ x σ H Q Q',(∀ σ2 H2,Q σ2 H2->Q' σ2 H2)->g x σ H Q->g x σ H Q'
theorem B9(h:n<=i):GK n (d6 i):=λx σ H Q q=>⟨q,λj hj=>TZ (by omega)⟩
theorem uQ:p9 (d6 i):=λx σ H Q Q' f q=>f _ _ q
theorem Gg:Nt n xl:=λxs σ H Q q=>⟨q.1,q.2,λ_ _=>rfl⟩
theorem CA(h:GK n g)(hm:p9 g)(hs:Nt n gs):Nt n (kU g gs):=λxs σ H Q q=>by
 obtain⟨v,r,e,z⟩:=q;refine⟨v,r,e,hm _ _ _ _ _ (fun σ2 H2 y=>?_) (h _ _ _ _ z)⟩;have y':=hs _ _ _ _ y.1;have:(fun σ3 H3=>(Q σ3 H3/\ ∀ j,j < n-> σ3[j]?= σ2[j]?))=fun σ3 H3=>(Q σ3 H3/\ ∀ j,j < n-> σ3[j]?= σ[j]?):=by
  simp_all
 rw[this] at y';exact y'
theorem Js{K}(hs:Nt n gs):GK n (vf K m gs):=λx σ H Q q=>by
 obtain⟨a,xs,e,h1,h2,h3⟩:=q;exact⟨a,xs,e,h1,h2,hs _ _ _ _ h3⟩
section
variable{X:Cx}{scope:WA}{vars:List Str}{elt tg iter:Sy}{ifs:List Sy}{pos:Pos}{wi:TI}{g:TG}{tt:TT}{te:TE}
theorem lQ{pins:List (RQ × Obj)}{σ :St}{H2:Hp}{s2:RD}{cl:List (Str × RQ)}{it:RQ}{fp:List RQ}{tn:Nat->S6->Prop}{J:It}{RR:RA->RQ->Result->RD->Prop}{Q:VK}{E:RA->RD->Prop}
  (hc:X.calm=true) (hx: ∀ v s,¬ X.xe v s) (hkind:scope.kind= .function) (hlc:gy scope.names X.env.scope.names X.N vars=true)
  (hb: ∀ cl C s₀ H₀ ex pn,PG (dQ X vars scope cl C s₀ H₀ ex pn) tg g/\PF (dQ X vars scope cl C s₀ H₀ ex pn) ifs tt/\PE (dQ X vars scope cl C s₀ H₀ ex pn) elt te) (hgk:GK X.N.length g)
  (hc1: ∀ x c,cl.lookup x=fv c->X.env.cells.lookup x=fv c) (hc2: ∀ x,scope.names.lookup x=fv .free-> ∃ c,cl.lookup x=fv c)
  (I2:Inv X pins σ H2 s2) (T:Turn X.prog X.w X.K tg J fp it tn) (st2:tn 0 s2.heap) (f2: ∀ b∈fp,lh X pins H2 b)
  {W:Nat->Nat->List V->Hp->Prop} {m0:Nat} (w0:W 0 m0 [] H2)
  (turn: ∀ i m ys H,W i m ys H->(J.stop i H/\ ∀ p,H p=Rv->Q (.ref p) (upd H p (.lst ys))) \/
   (J.go i H/\ys.length < RF/\ ∀ x H',J.FJ i H x H'->g x (σ ++Rz vars.length Rv) H' fun σ2 H2=>tt σ2 H2 λb H3 =>
    if b=true then te σ2 H3 λy H4=> ∃ m',m' < m/\W (i+1) m' (ys++[y]) H4 else ∃ m',m' < m/\W (i+1) m' ys H3))
  (hRR: ∀ D C s4 H4 ys m,Inv X pins σ (upd H4 D (.lst ys)) s4->s4.heap.Ns C m->H4 D=Rv->(upd H4 D (.lst ys)) C=Rv->C≠X.env.locals->X.s₀.heap.objs.size<=C->(∀ x c,X.env.cells.lookup x=fv c->c≠C)->(∀ p∈X.pn++pins,p.1≠C) ->
   Q (.ref D) (upd H4 D (.lst ys))->RR (.ref D) C (.ok .next) s4) :
  RX (R4 X.prog X.w) X.A (newList []) (λacc s₃ =>RX (R4 X.prog X.w) X.A (X4 scope X.env.globals cl [] X.env.qual Rv .none (fv X.env)) (λcenv s₄ =>
   Xq (R4 X.prog X.w) X.A (.compStart (.ListComp elt [⟨tg,iter,ifs,0⟩] scope pos) 0 (.ref it) acc { cenv with scope:=relabel scope X.env}) (RR acc cenv.locals) s₄) E s₃) E s2:=by
 refine Tg (nY ?_);dsimp only;generalize hH2:s2.heap.push { cls:= .type "list",dict:=Rv,data:= .seq ([]).toArray}=P2;have hC:P2.objs.size=s2.heap.objs.size+1:=by rw[<- hH2,SK]
 have hDC:s2.heap.objs.size≠P2.objs.size:=by rw[hC];exact R1 (VU _)
 have hCle:s2.heap.objs.size<=P2.objs.size:=by rw[hC];exact WI _
 have hz:(P2.push { cls:= .type "dict",data:= .dict #[]}).objs.size=P2.objs.size+1:=SK ..;have cn:=tK scope.names (P2.push { cls:= .type "dict",data:= .dict #[]}) cl;rw[hz] at cn;have ci:=uU scope.names (P2.objs.size+1) cl (λx y c e1 _ hl=>absurd (RM (I2.cell x c (hc1 x c e1)).choose_spec.lt hl) (Sn _)) (λx c e=>RM (I2.cell x c (hc1 x c e)).choose_spec.lt (Ux hCle));have cs: ∀ x,scope.names.lookup x=fv .free\/scope.names.lookup x=fv .cell-> ∃ c,(UY (P2.objs.size+1) scope.names cl).lookup x=fv c:=λx h=>Vr.mp (VJ _ _ _ (h.elim (λz=> .inr (Vr.mpr (hc2 x z))) .inl));have hns₁ :(Xc (P2.push { cls:= .type "dict",data:= .dict #[]}) scope.names).Ns P2.objs.size (λ_=>Rv):=(Heap.Ns.new P2 (.type "dict")).keeps (XN _ _);have kp: ∀ b o,P2.get? b=fv o->(Xc (P2.push { cls:= .type "dict",data:= .dict #[]}) scope.names).get? b=fv o:=λb o e=>XN _ _ b o (Ry _ e);generalize hh₁ :Xc (P2.push { cls:= .type "dict",data:= .dict #[]}) scope.names=h₁ at *;generalize hcl':UY (P2.objs.size+1) scope.names cl=cl' at *;have c1: ∀ x c,cl'.lookup x=fv c->(scope.names.lookup x≠fv .cell/\X.env.cells.lookup x=fv c)\/(scope.names.lookup x=fv .cell/\P2.objs.size+1<=c/\h₁.IsCell c Rv):=λx c e=>by
  rcases cn x c e with⟨n,q⟩ | ⟨m,q⟩
  . exact .inl ⟨λz=>n (lookup_mem z),hc1 x c q⟩
  . exact .inr ⟨(iy (X:=X) hlc _ m).1 rfl,q⟩
 have old:=λb o e=>kp b o (hH2 ▸ Ry _ e);have hacc:=kp _ _ (hH2 ▸ RO _ rfl);have c1': ∀ x c,cl'.lookup x=fv c->(scope.names.lookup x≠fv .cell/\X.env.cells.lookup x=fv c)\/(scope.names.lookup x=fv .cell/\s2.heap.objs.size<=c/\h₁.IsCell c Rv):=λx c e=>(c1 x c e).imp id λz=>⟨z.1,R5 (Ux hCle) z.2.1,z.2.2⟩
 generalize hDe:s2.heap.objs.size=D at *;generalize hCe:P2.objs.size=C at *;have fo: ∀ b∈fp,∃ o,s2.heap.get? b=fv o:=λb hb=>by obtain⟨o,e,_⟩:=T.obj _ _ st2 b hb;exact⟨o,e⟩
 have fpD: ∀ b∈fp,b < D:=λb hb=>by obtain⟨o,e⟩:=fo b hb;rw[<- hDe];exact RI e
 have pnlt: ∀ p∈X.pn++pins,p.1 < D:=λp hp=>by rw[<- hDe];exact RI (I2.pin p hp).1
 have cllt: ∀ x c,X.env.cells.lookup x=fv c->c < D:=λx c e=>by obtain⟨v,q⟩:=I2.cell x c e;rw[<- hDe];exact q.lt
 have hLD:X.env.locals < D:=by rw[<- hDe];exact I2.lt
 have hD0:X.s₀.heap.objs.size<=D:=by rw[<- hDe];exact I2.sz
 have IY0:Inv (dQ X vars scope cl' C s2 H2 fp (X.pn++pins)) [] (σ ++Rz vars.length Rv) H2 { s2 with heap:=h₁,toks:=s2.toks} :=
  I2.dQ hkind hlc (by rw[hDe];exact c1') cs (by rw[hDe];exact ci) f2 fo (by rw[hDe];exact hCle) hns₁ old
 have st1:=T.keep _ _ _ st2 λb _ o e=>old b o e;obtain⟨hg,hf,he⟩:=hb cl' C s2 H2 fp (X.pn++pins);generalize hY:dQ X vars scope cl' C s2 H2 fp (X.pn++pins)=Y at *;have Yprog:Y.prog=X.prog:=by rw[<- hY];rfl
 have Yw:Y.w=X.w:=by rw[<- hY];rfl
 have YK:Y.K=X.K:=by rw[<- hY];rfl
 have YA:Y.A=X.A:=by rw[<- hY];rfl
 have Ycalm:Y.calm=true:=by rw[<- hY];exact hc
 have Yenv:Y.env=T9 scope cl' C X.env:=by rw[<- hY];rfl
 have Yloc:Y.env.locals=C:=by rw[Yenv];rfl
 have Yex:Y.ex=fp:=by rw[<- hY];rfl
 have Yfs:Y.fs=yq X.stack:=by rw[<- hY];rfl
 have Ys0:Y.s₀ =s2:=by rw[<- hY];rfl
 have YH0:Y.H₀ =H2:=by rw[<- hY];rfl
 have Ypn:Y.pn=X.pn++pins:=by rw[<- hY];rfl
 have YN:Y.N=nR X.N vars:=by rw[<- hY];rfl
 have Yxe: ∀ v s,¬ Y.xe v s:=by rw[<- hY];exact hx
 have noE: ∀{E':RA->RD->Prop}{v:RA}{s:RD},Y.xe v s->E' v s:=λh=>absurd h (Yxe _ _);have Ycell: ∀ x c,Y.env.cells.lookup x=fv c->c≠D:=λx c e=>by
  rw[Yenv] at e;exact(c1 x c e).elim (λz=>R1 (cllt x c z.2)) (λz=>Ub (RM (YX hCle) z.2.1))
 have fpY: ∀{H':Hp}{pl:List (RQ × Obj)},(∀ b∈fp,H' b=Rv)->(∀ p∈pl,D<=p.1)-> ∀ b∈fp,lh Y pl H' b:=λ{H' pl} hn hp b hb=>by
  refine⟨hn b hb,?_,?_,.inl (by rw[Yex];exact hb),?_,?_⟩
  . rw[Yloc];exact R1 (RM (fpD b hb) hCle)
  . rw[Yfs];intro z;rcases RW.mp (I2.kz b z) with q | q
    . exact(f2 b hb).2.1 q
    . exact(f2 b hb).2.2.1 q
  . intro x c e z;rw[Yenv] at e;exact(c1 x c e).elim (λw=>(f2 b hb).2.2.2.2.1 x c w.2 z) (λw=>absurd (RM (fpD b hb) (R5 (Ux hCle) (z ▸ w.2.1))) (Sn _))
  . intro p hp';rcases Uq.mp hp' with q | q
    . rw[Ypn] at q;exact(f2 b hb).2.2.2.2.2 p q
    . intro z;have:=hp p q;rw[z] at this;exact absurd (RM (fpD b hb) this) (Sn _)
 have Dfs:D ∉ Y.fs:=by
  rw[Yfs];intro z;rcases RW.mp (I2.kz D z) with q | q
  . exact absurd hLD (by rw[q];exact Sn _)
  . exact I2.MW (by rw[hDe];exact RE _) q
 have loop:Xq (R4 X.prog X.w) X.A (.compLoop (.ListComp elt [⟨tg,iter,ifs,0⟩] scope pos) 0 (.ref it) (.ref D) (T9 scope cl' C X.env)) (RR (.ref D) C) { s2 with heap:=h₁,toks:=s2.toks}:=by
  refine lT (λn s'=> ∃ i ys H' aj k,Inv Y [(D,{ cls:= .type "list",data:= .seq aj k})] (σ ++Rz vars.length Rv) H' s'/\tn i s'.heap/\(∀ b∈fp,H' b=Rv)/\W i n ys H'/\Vals ys aj.toList/\ys.length<=RF) ?_ m0
   ⟨0,[],H2,_,0,IY0.hW (λp hp=>?_),st1,λb hb=>(f2 b hb).1,w0,.nil,Si _⟩
  . rintro n s3 ⟨i,ys,H3,aj,k,I3,st3,fr3,w3,hv,hlen⟩;rcases turn i n ys H3 w3 with⟨stop,q⟩ | ⟨go,hlt,step⟩
    . have d:=T.done Y Yprog Yw YK Ycalm i _ s3 _ H3 (notedBy (R4 X.prog X.w) X.A (T9 scope cl' C X.env) λe s'=>RR (.ref D) C (.error e) s') I3 (fpY fr3 (by intro p hp;rw[Sr.mp hp];exact RE _)) st3 stop;rw[YA] at d;refine Sq d (λr s4 hr=>?_) λ_ _ z=>z;obtain⟨rfl,I4⟩:=hr;obtain⟨eD,nD,_,_,_⟩:=I4.pin (D,_) (R7 _ RU);dsimp only at eD nD;obtain⟨m,hnC,_⟩:=I4.loc;rw[Yloc] at hnC;have hb4:=I4.base;rw[Yfs,Yex,YH0,Ys0] at hb4;have hok4:=I4.aW;rw[Yprog,Yw] at hok4;have hCf:=I4.free;rw[Yloc] at hCf;have neD: ∀ b o,s2.heap.get? b=fv o->b≠D:=λb o e=>by rw[<- hDe];exact R1 (RI e)
      have IX:Inv X pins σ (upd H3 D (.lst ys)) s4:=by
       refine I2.Nu (ch:=fp) (I4.os.trans (by rw[Ys0])) ⟨hb4.keep,hb4.slot,λb o e n hx'=>?_,hb4.there,λb xs e=>?_,λb o u e=>?_,λb ps e=>?_⟩ (λb u e=>?_) I4.bare (λb hb'=>?_)
       . rw[av (neD b o e)];exact hb4.free b o e n hx'
       . rw[av (ax (hb4.ko b xs e) nD)];exact hb4.ko b xs e
       . rw[av (ax (hb4.jL b o u e) nD)];exact hb4.jL b o u e
       . obtain⟨more,e'⟩:=hb4.k0 b ps e;exact⟨more,by rw[av (ax e' nD)];exact e'⟩
       . by_cases hbD:b=D
         . subst hbD;rw[aX] at e;cases e;exact⟨hlen,aj.toList,k,hv,by simpa using eD⟩
         . rw[av hbD] at e;exact(hok4 b u e).qh (λc v _ z=>z) (λc z=>by rw[av (ax z nD)];exact z) λc xs z=>by rw[av (ax z nD)];exact z
       . have f:=f2 b hb';exact⟨f.2.2.2.1,f.2.1,f.2.2.2.2.1,f.2.2.2.2.2⟩
      refine hRR D C s4 H3 ys m IX hnC nD (by rw[av (UK hDC)];exact hCf) (Ub (RM hLD hCle)) (R5 hD0 hCle) (λx c e=>R1 (RM (cllt x c e) hCle)) (λp hp=>R1 (RM (pnlt p hp) hCle)) (q D nD)
    . have d:=T.item Y Yprog Yw YK Ycalm i _ s3 _ H3 (notedBy (R4 X.prog X.w) X.A (T9 scope cl' C X.env) λe s'=>RR (.ref D) C (.error e) s') I3 (fpY fr3 (by intro p hp;rw[Sr.mp hp];exact RE _)) st3 go;rw[YA] at d;refine Sq d (λr s4 hr=>?_) λ_ _ z=>z;obtain⟨u,rfl,h4⟩:=hr;refine Sq h4 (λ_ s5 h5=>?_) λ_ _ z=>z;obtain⟨x,H5,I5,r5,y5,st5,fr5⟩:=h5;have I5':=I5.pinned (fpY fr5 (by intro p hp;rw[Sr.mp hp];exact RE _)) (T.obj _ _ st5);have a1:=hg _ s5 _ H5 x u _ I5' r5 (hgk _ _ _ _ (step x H5 y5));rw[Yprog,Yw,YA,Yenv] at a1;refine Sq a1 (λ_ s6 h6=>?_) λ_ _ z=>noE z;obtain⟨σ6,H6,I6,q6,k6⟩:=h6;have a2:=hf _ s6 σ6 H6 _ I6 q6;rw[Yprog,Yw,YA,Yenv] at a2;have back: ∀{pl:List (RQ × Obj)}{H':Hp}{s':RD},Inv Y pl σ6 H' s'->Inv Y pl (σ ++Rz vars.length Rv) H' s':=λ{pl H' s'} I'=>by
       refine I'.weak ?_ λj v e=>?_
       . rw[I'.len,<- I3.len]
       . by_cases hj:j < σ.length
         . rw[k6 j (by rw[<- I2.len];exact hj)];exact e
         . rw[Sa (YG.mp hj),S7] at e;split at e<;>cases e
      refine Sq a2 (λok s7 h7=>?_) λ_ _ z=>noE z;obtain⟨H7,I7,q7⟩:=h7;cases ok with
      | false =>
       rw[if_neg RY] at q7
       unfold ue
       rw[if_neg (show ¬ false=true from RY)]
       obtain⟨m',hm',w7⟩:=q7
       refine⟨m',hm',i+1,ys,H7,aj,k,(back I7).hW (λp hp=>I7.pin p (R7 _ (U7 _ hp))),T.keep _ _ _ st5 λb hb' o e=>(I7.pin (b,o) (R7 _ (R7 _ (cW hb' e)))).1,λb hb'=>?_,w7,hv,hlen⟩
       obtain⟨o,e,_⟩:=T.obj _ _ st5 b hb'
       exact(I7.pin (b,o) (R7 _ (R7 _ (cW hb' e)))).2.1
      | true =>
       rw[if_pos rfl] at q7
       unfold ue
       rw[if_pos (show true=true from rfl)]
       have a3:=he _ s7 σ6 H7 _ I7 q7
       rw[Yprog,Yw,YA,Yenv] at a3
       refine Sq a3 (λy s8 h8=>?_) λ_ _ z=>noE z
       obtain⟨v,H8,I8,r8,m',hm',w8⟩:=h8
       obtain⟨eD,nD,neL,nfD,dD⟩:=I8.pin (D,_) (R7 _ (U7 _ RU))
       dsimp only at eD nD neL nfD dD
       refine append_at (hsz:=by have:=hv.length;simp at this;omega) eD λh9 hs9 e9=>?_
       have st8:=T.keep _ _ _ st5 λb hb' o e=>(I8.pin (b,o) (R7 _ (R7 _ (cW hb' e)))).1
       have fr8: ∀ b∈fp,H8 b=Rv:=λb hb'=>by
        obtain⟨o,e,_⟩:=T.obj _ _ st5 b hb';exact(I8.pin (b,o) (R7 _ (R7 _ (cW hb' e)))).2.1
       have I8':Inv Y [] (σ ++Rz vars.length Rv) H8 s8:=(back I8).hW λp hp=>by cases hp
       have I9:=I8'.turned (it:=D) (h':=h9) (t':=s8.toks) (λb o hb' e=>hs9.extBut b o hb' e) nD neL (.inr (by rw[Ys0,hDe];exact RE _)) (λx c e=>Ycell x c e) (λp hp=>by
        rw[Tq,Ypn] at hp;exact R1 (pnlt p hp))
       refine⟨m',hm',i+1,ys++[v],H8,aj.push y,k+1,I9.hW (λp hp=>?_),T.keep _ _ _ st8 λb hb' o e=>hs9.extBut b o (R1 (fpD b hb')) e,fr8,w8,?_,?_⟩
       . obtain rfl:=Sr.mp hp;exact⟨e9,nD,neL,nfD,λv=>by simp⟩
       . rw[Array.toList_push];exact Vals.append hv (.cons r8 .nil)
       . rw[Sd,VP];exact hlt
  . obtain rfl:=Sr.mp hp;refine⟨hacc,I2.aW.fresh (by rw[hDe];exact RE _),?_,Dfs,λv=>by simp⟩;rw[Yloc];exact hDC
 exact codeAny_compStart_list loop (T.self _ 0 _ _ _ st1 loop)
end
section
variable{X:Cx}{scope:WA}{vars:List Str}{elt tg iter:Sy}{ifs:List Sy}{pos spos py:Pos}{wi:TI}{g:TG}{tt:TT}{te:TE}{i:Nat}{y:Str}
theorem yE vars (hc:X.calm=true) (hx: ∀ v s,¬ X.xe v s) (hkind:scope.kind= .function) (hlc:gy scope.names X.env.scope.names X.N vars=true) (hi:PI X tg iter wi)
  (hb: ∀ cl C s₀ H₀ ex pn,PG (dQ X vars scope cl C s₀ H₀ ex pn) tg g/\PF (dQ X vars scope cl C s₀ H₀ ex pn) ifs tt/\PE (dQ X vars scope cl C s₀ H₀ ex pn) elt te) (hgk:GK X.N.length g)
  (hs: ∀ x,SD iter X.env x=pure x:=by intro _;rfl):PE X (.ListComp elt [⟨tg,iter,ifs,0⟩] scope pos) (OC vars.length wi g tt te):=by
 intro pins s σ H Q I h;obtain⟨cl,hcl,hc1,hc2⟩:=lV (env:=X.env) (scope:=scope) λp hp hf=>I.ok.has p.1 ((iy (X:=X) hlc p hp).2.1 hf);refine WT (use:=Rv) rfl hs hcl hkind (λp hp=>(iy (X:=X) hlc p hp).2.2) ?_;refine Sq (hi pins s σ H _ I h) (λv s1 h1=>Sq h1 (λitv s2 h2=>?_) λ_ _ z=>z) λ_ _ z=>z;obtain⟨it,fp,tn,J,H2,rfl,I2,T,st2,f2,W,⟨m0,w0⟩,turn⟩:=h2;refine lQ (Q:=Q) (RR:=λacc C=>compPost (R4 X.prog X.w) X.A X.xe Rv (EP X pins σ Q) acc C) hc hx hkind hlc hb hgk hc1 hc2 I2 T st2 f2 w0 turn ?_;intro D C s4 H4 ys m I4 hn nD nC neL hsz hcell hpin q;refine⟨m,hn,λh' hs'=>⟨.ref D,_,I4.turned (it:=C) (t':=s4.toks) (λb o hb e=>hs'.extBut b o hb e) nC neL (.inr hsz) hcell hpin,rfl,q⟩⟩
def zG(k i:Nat)(wi:TI)(g:TG)(tt:TT)(te:TE):TS:=λD σ H=>OC k wi g tt te σ H λv H1=>D.nx (σ.set i (fv v)) H1
theorem Bb vars i (hc:X.calm=true) (hx: ∀ v s,¬ X.xe v s) (hkind:scope.kind= .function) (hlc:gy scope.names X.env.scope.names X.N vars=true) (hN:X.N.Nodup) (hiy:X.N[i]?=fv y) (hy:Loc X.env.scope y)
  (hi:PI X tg iter wi)
  (hb: ∀ cl C s₀ H₀ ex pn,PG (dQ X vars scope cl C s₀ H₀ ex pn) tg g/\PF (dQ X vars scope cl C s₀ H₀ ex pn) ifs tt/\PE (dQ X vars scope cl C s₀ H₀ ex pn) elt te) (hgk:GK X.N.length g)
  (hsw:UX (.ListComp elt [⟨tg,iter,ifs,0⟩] scope pos) (fv (.Name y py)) spos.line X.env=pure true:=by rfl)
  (hs: ∀ x,SD iter X.env x=pure x:=by intro _;rfl)
  (hf:X.fn y=true\/X.env.scope.names.lookup y=fv .local:=by first | exact .inl rfl | exact .inr rfl | assumption) :
  PS X (.Assign [.Name y py] (.ListComp elt [⟨tg,iter,ifs,0⟩] scope pos) spos) (zG vars.length i wi g tt te):=by
 intro pins s σ H Dn I h;obtain⟨cl,hcl,hc1,hc2⟩:=lV (env:=X.env) (scope:=scope) λp hp hf=>I.ok.has p.1 ((iy (X:=X) hlc p hp).2.1 hf);rw[exec_Assign_Name_used _ _ _ _ hsw];refine Ru (Yt (Ru ?_));refine Ru (Sq (WT (use:=fv (V7 (.Name y py) X.env)) (Q:=λ_ s'=>SP X pins Dn .next s') rfl hs hcl hkind (λp hp=>(iy (X:=X) hlc p hp).2.2) ?_) (λ_ s' hq=>RG (RG hq)) λ_ _ e=>e);refine Sq (hi pins s σ H _ I h) (λv s1 h1=>Sq h1 (λitv s2 h2=>?_) λ_ _ z=>z) λ_ _ z=>z;obtain⟨it,fp,tn,J,H2,rfl,I2,T,st2,f2,W,⟨m0,w0⟩,turn⟩:=h2;refine lQ (Q:=λv H1=>Dn.nx (σ.set i (fv v)) H1) (RR:=λacc C=>compPost (R4 X.prog X.w) X.A X.xe (fv (V7 (.Name y py) X.env)) (λ_ s'=>SP X pins Dn .next s') acc C) hc hx hkind hlc hb hgk hc1 hc2 I2 T st2 f2 w0 turn ?_;intro D C s4 H4 ys m I4 hn nD nC neL hsz hcell hpin q;refine YM (oN I4 hN hiy hy (v:= .ref D) rfl (λs5 I5 z9=>?_) hf);obtain⟨a,hsb,ha⟩:=z9;have hCa:C≠a:=by
  rcases ha with z | z
  . rw[z];exact neL
  . exact UK (hcell _ _ z)
 refine⟨m,hn.sameBut hsb hCa,λh' hs'=>?_⟩;exact⟨_,_,I5.turned (it:=C) (t':=s5.toks) (λb o hb e=>hs'.extBut b o hb e) nC neL (.inr hsz) hcell hpin,q⟩
end
theorem HX{K:Rx}{a:RQ}{xs:List V}{k:Nat}{g:TG}{tt:TT}{te:TE}{σ :St}{H:Hp}{Q:VK}(Pv:Nat->List V->Hp->Prop)(h0:Pv 0 [] H)(hl: ∀ i ys H,i<=xs.length->Pv i ys H->dz K H a xs/\ys.length<=i)(hz:xs.length<=RF)
  (hs: ∀ i x ys H,xs[i]?=fv x->Pv i ys H->g x (σ ++Rz k Rv) H fun σ2 H2=>tt σ2 H2 λb H3=>if b=true then te σ2 H3 λy H4=>Pv (i+1) (ys++[y]) H4 else Pv (i+1) ys H3)
  (hd: ∀ ys H,Pv xs.length ys H-> ∀ p,H p=Rv->Q (.ref p) (upd H p (.lst ys)))
  (gm:p9 g) (tm: ∀ σ H Q Q',(∀ b H1,Q b H1->Q' b H1)->tt σ H Q->tt σ H Q') (em: ∀ σ H Q Q',(∀ b H1,Q b H1->Q' b H1)->te σ H Q->te σ H Q') :
  ∃ W:Nat->Nat->List V->Hp->Prop,(∃ m,W 0 m [] H)/\ ∀ i m ys H,W i m ys H ->
 ((BE K a).stop i H/\ ∀ p,H p=Rv->Q (.ref p) (upd H p (.lst ys))) \/
 ((BE K a).go i H/\ys.length < RF/\ ∀ x H',(BE K a).FJ i H x H'->g x (σ ++Rz k Rv) H' fun σ2 H2=>tt σ2 H2 λb H3 =>
  if b=true then te σ2 H3 λy H4=> ∃ m',m' < m/\W (i+1) m' (ys++[y]) H4 else ∃ m',m' < m/\W (i+1) m' ys H3):=by
 refine⟨λi m ys H=>m=xs.length - i/\i<=xs.length/\Pv i ys H,⟨xs.length,by simp,Si _,h0⟩,?_⟩
 rintro i m ys H ⟨rfl,hi,p⟩
 obtain⟨q,hy⟩:=hl i ys H hi p
 by_cases hlt:i < xs.length
 . refine .inr ⟨⟨xs,xs[i],q,by simp[hlt]⟩,by omega,λx H' y=>?_⟩;obtain⟨e,y⟩:=y;subst e;refine gm _ _ _ _ _ (fun σ2 H2 z=>tm _ _ _ _ (λb H3 z=>?_) z) (hs i x ys _ (y xs q) p);cases b with
   | true =>
    exact em _ _ _ _ (λv H4 w=>⟨xs.length - (i+1),by omega,rfl,hlt,w⟩) z
   | false =>
    exact⟨xs.length - (i+1),by omega,rfl,hlt,z⟩
 . have e:i=xs.length:=by omega
   subst e;exact .inl ⟨⟨xs,q,RE _⟩,hd ys H p⟩
theorem sy:aG X (.builtin "isinstance") (λxs H Q=> ∃ x T t b,xs=[x,.ty T]/\iF X.K H x t/\Wm X.K t (.type T)=fv b/\Q (.bl b) H):=by
 intro pins s σ H xs us Q I r h;obtain⟨x,T,t,b,rfl,ty,k,q⟩:=h;obtain⟨u,c,rfl,ru,rc⟩:=vals2 r;cases(show c=U6 T from rc);exact yk I ru ty k λtk=>⟨.bl b,H,I.tok tk,rfl,q⟩
theorem aN.get(x:aN P w H h a o): ∃ ob,h.get? a=fv ob:=by
 induction o with
 | lst xs=>obtain⟨_,aj,n,_,e⟩:=x;exact⟨_,e⟩
 | tup xs=>obtain⟨_,aj,_,ob,e,_⟩:=x;exact⟨_,e⟩
 | dK kvs=>obtain⟨_,_,vs,_,ob,es,ep,e,_⟩:=x;exact⟨_,e⟩
 | dT kvs=>obtain⟨_,_,xs,_,ob,es,ep,e,_⟩:=x;exact⟨_,e⟩
 | set S n=>obtain⟨ob,es,ep,t,e,_⟩:=x;exact⟨_,e⟩
 | ins C dx fs=>obtain⟨_,_,_,e,_⟩:=x;exact⟨_,e⟩
 | own y=>exact x
 | xd fs=>obtain⟨mA,⟨od,es,ep,e,_⟩,_⟩:=x;exact⟨_,e⟩
 | yr lo hi=>obtain⟨t,u,v,e⟩:=x;exact⟨_,e⟩
 | iW ob u ih=>obtain⟨e,_⟩:=x;exact⟨_,e⟩
 | tbl ps=>exact⟨_,x⟩
 | met f y=>exact⟨_,x⟩
 | ext φ =>obtain⟨_,e,_⟩:=x;exact e
theorem Inv.kA{σ :St}(I:Inv X pins σ H s)(k: ∀ b u,s.heap.get? b=fv u->h'.get? b=fv u)(hp:s.heap.get? a=Rv)(new:aN X.prog X.w (upd H a o) h' a o) :
  H a=Rv/\Inv X pins σ (upd H a o) { s with heap:=h',toks:=t'}:=by
 have hn:H a=Rv:=by
  cases q:H a with
  | none=>rfl
  | some u =>
   obtain⟨ob,e⟩:=(I.aW a u q).get
   rw[hp] at e;cases e
 have ne: ∀ b u,s.heap.get? b=fv u->b≠a:=λb u e z=>by simp_all
 refine⟨hn,I.un ⟨λb u q _ _ _=>k b u q,λb u q _ _ _=>⟨u.slots,k b u q⟩,λb u q n _=>?_,λb u q _=>⟨u,k b u q⟩,λb xs q=>?_,λb u xs q=>?_,λb ps q=>?_⟩ λb u e=>?_⟩
 . rw[av (ne b u q)];exact n
 . rw[av (ax q hn)];exact q
 . rw[av (ax q hn)];exact q
 . exact⟨#[],by rw[av (ax q hn),q];simp⟩
 . by_cases hb:b=a
   . subst hb;rw[aX] at e;cases e;exact new
   . rw[av hb] at e;exact(I.aW b u e).qh (λc v _ q=>k c v q) (λc q=>by rw[av (ax q hn)];exact q) λc xs q=>by rw[av (ax q hn)];exact q
theorem kf{h h':S6}(k: ∀ b o,h.get? b=fv o->h'.get? b=fv o):h.get? h'.objs.size=Rv:=by
 cases q:h.get? h'.objs.size with
 | none=>rfl
 | some o=>exact absurd (RI (k _ _ q)) (Sn _)
section
variable{prog:Sv}{w:SQ}{A:Ti}{E:RA->RD->Prop}{s:RD}
theorem jt{a:RQ}{vs:List RA}{ss:List Str}{n:Nat}{Q:RA->RD->Prop}(ho:s.heap.get? a=fv (Vl "list" vs.toArray n))(hS:Wg vs ss)(h64:vs.length < 64)
  (h: ∀(out:Array RA)(ss':List Str),Wg out.toList ss'->ss'.Perm ss->WK ss'=true->Q .none { s with heap:=Xz s.heap a vs out}) :
  RX (R4 prog w) A (call (.builtin "list.sort") [.ref a]) Q E s:=by
 refine TQ X0 ⟨_,ho,rfl⟩ XO (list_sort_treeK strKind_oneLt ho hS.keysOf (λv₁ v₂ rest e=>keyKind_strs (by rw[<- e];exact hS)) h64 λst' hp hs=>⟨_,rfl,?_⟩) (X1 _);have z:=sorted_out_str hS hp hs;exact h _ z.choose z.choose_spec.1 z.choose_spec.2.1 z.choose_spec.2.2
theorem uw{T:String}{r d:RQ}{n:Nat}{P:Nat->RA->Prop}{OK:S6->Prop}{Q:RA->RD->Prop}(K:PySem.W.KdlSrc prog w T r d n P OK)(hh:A.handled=Rv)(aW:OK s.heap)(hn:n<=RF)
  (h: ∀(D:RQ)(h':S6)(tk:Nat)(vs:List RA),(∀ b o,s.heap.get? b=fv o->h'.get? b=fv o)->h'.get? D=fv (Vl "list" vs.toArray 0)->s.heap.get? D=Rv->vs.length=n->(∀(j:Nat)(v:RA),vs[j]?=fv v->P j v) ->
   RX (R4 prog w) A.in1 (call (.builtin "list.sort") [.ref D]) (λ_ z=>Q (.ref D) z) E { s with heap:=h',toks:=tk}):RX (R4 prog w) A (call (.builtin "sorted") [.ref r]) Q E s:=by
 refine Vg Zx YY YZ (Y0 (.ref r)) ?_;refine Ru (m:=Z4 "sorted" 1 1 [R0 r].length) (RG (Ru (PySem.W.kdu_collect (A:=A.in1) K hh aW hn λh' tk acc hk hacc=>?_)));have many:=T7.trans hacc.1;refine Ru (VY (Ru (Tx (Sq (h h'.objs.size (h'.push { cls:= .type "list",data:= .seq acc.toList.toArray}) tk acc.toList (λb o e=>Ry _ (hk b o e)) (RO _ rfl) (kf hk) many
  λj v e=>hacc.2 j v (XU ▸ e)) (λ_ z q=>RG (aah _ (Xd rfl q))) λ_ _ e=>e))) (many ▸ hn))
end
theorem fZ: ∀{us},Vals (ss.map V.str) us->Wg us ss:=by
 induction ss with
 | nil=>intro us h;cases h;exact .nil
 | cons x r ih =>
  intro us h
  cases h with
  | cons hx ht =>
   obtain⟨t,rfl⟩:=hx
   exact .cons x t (ih ht)
theorem ic: ∀{us ss},Wg us ss->Vals (ss.map V.str) us
 | _,_,.nil=> .nil
 | _,_,.cons x t h=> .cons ⟨t,rfl⟩ (ic h)
theorem wB{P:Nat->RA->Prop}: ∀{ss:List Str}{vs:List RA},vs.length=ss.length->(∀(j:Nat)(v:RA)(x:Str),vs[j]?=fv v->ss[j]?=fv x-> ∃ t,v=VS x t)->Wg vs ss
 | [],[],_,_=> .nil
 | x::r,v::vs,hl,h=>by
  obtain⟨t,rfl⟩:=h 0 v x rfl rfl;exact .cons x t (wB (P:=P) (by simpa using hl) λj v y e1 e2=>h (j+1) v y (by simpa using e1) (by simpa using e2))
section
variable{X:Cx}
theorem kG:aG X (.builtin "sorted") (λxs H Q=> ∃ p ss,xs=[.ref p]/\fO X.K H p (ss.map V.str)/\ss.length < 64/\ ∀ l ss',H l=Rv->ss'.Perm ss->WK ss'=true->Q (.ref l) (upd H l (.lst (ss'.map V.str)))):=by
 intro pins s σ H xs us Q I r h;obtain⟨p,ss,rfl,hS,h64,q⟩:=h;obtain⟨u,rfl,ru⟩:=vals1 r;cases(show u=R0 p from ru);obtain⟨aj,hv,hl,hz⟩:=I.list hS;have sa:=fZ hv;refine sorted_strs hl.isList sa (by rw[sa.length];exact h64) λout ss' a1 a2 a3=>?_;obtain⟨e,he⟩:=Y1 s.heap aj out;have hlen:(ss'.map V.str).length<=RF:=by rw[RB,a2.length_eq];exact Uv (RM h64 (by decide))
 obtain⟨hn,I'⟩:=I.kA (a:=s.heap.objs.size+1) (o:= .lst (ss'.map V.str)) (t':=s.toks) (λb o e=>Yv e) (TY (WI _)) ⟨hlen,out.toList,e,ic a1,by omega⟩;exact⟨.ref _,_,I',rfl,q _ ss' hn a2 a3⟩
theorem kc(hc:X.calm=true):aG X (.builtin "sorted") (λxs H Q=> ∃ d kvs ss,xs=[.ref d]/\H d=fv (.dK kvs)/\kvs.map (·.1)=ss.map UJ/\ss.length < 64/\ ∀ l ss',H l=Rv->ss'.Perm ss->WK ss'=true->Q (.ref l) (upd H l (.lst (ss'.map V.str)))):=by
 intro pins s σ H xs us Q I r h;obtain⟨d,kvs,ss,rfl,hd,hk,h64,q⟩:=h;obtain⟨u,rfl,ru⟩:=vals1 r;cases(show u=R0 d from ru);obtain⟨z,lo,vs,rel,dd⟩:=vY I.aW hd;obtain⟨ep,da⟩:=dd.dictAt;have hlen:vs.length=ss.length:=by
  have e1:=rel.length;have e2:(kvs.map (·.1)).length=(ss.map (UJ (α :=Int))).length:=by rw[hk]
  rw[RB,RB] at e2;omega
 refine uw (PySem.W.kdl_dict (knd:=aF X.prog X.w) (kvs:=vs) (ep:=ep) lo) (I.ok.hd hc) da (by rw[hlen];exact Uv (RM h64 (by decide))) λD h' tk ws keep hD hDn hl hP=>?_;have sa:Wg ws ss:=by
  refine wB (P:=λ_ _=>True) (by rw[hl,hlen]) λj v x e1 e2=>?_;obtain⟨k,y,e3,hk'⟩:=hP j v e1;have e4:(kvs.map (·.1))[j]?=fv k:=by
   have e5:=rel.keys;rw[e5,RP,e3];rfl
  rw[hk,RP,e2] at e4;have e6:=Sx e4;subst e6;rcases aZ (show lW (UJ x) v=true from hk') with⟨i,t,z,_⟩ | ⟨x',t,z,e⟩
  . cases z
  . cases z;exact⟨t,e⟩
 refine jt (n:=0) hD sa (by rw[hl,hlen];exact h64) λout ss' a1 a2 a3=>?_;obtain⟨e,he⟩:=sortedHeap_at (out:=out) hD;have hle:(ss'.map V.str).length<=RF:=by rw[RB,a2.length_eq];exact Uv (RM h64 (by decide))
 have keep': ∀ b o,s.heap.get? b=fv o->(Xz h' D ws out).get? b=fv o:=λb o e=>by
  rw[sortedHeap_old (λz=>by simp_all) (RI (keep b o e))];exact keep b o e
 obtain⟨hn,I'⟩:=I.kA (a:=D) (o:= .lst (ss'.map V.str)) (t':=tk) keep' hDn ⟨hle,out.toList,e,ic a1,by omega⟩;exact⟨.ref _,_,I',rfl,q _ ss' hn a2 a3⟩
end
section
variable{prog:Sv}{w:SQ}{A:Ti}{E:RA->RD->Prop}{s:RD}
theorem og:ZY (.type "tuple") "keys" =pure Rv:=am_miss_of_fast (by rfl)
set_option maxHeartbeats 4500000 in
set_option maxRecDepth 9000 in
theorem n9{a:RQ}{o:Obj}{xs:Array RA}{k:Nat}{Q:Option RA->RD->Prop}
  (hx:s.heap.get? a=fv o) (hc:o.cls= .type "tuple") (hdat:o.data= .seq xs k) (hd:o.dict=Rv) (hA:A.handled=Rv)
  (h: ∀ h' tk,(∀ b o,s.heap.get? b=fv o->h'.get? b=fv o)->Q Rv { s with heap:=h',toks:=tk}):RX (R4 prog w) A (getAttr? (.ref a) "keys") Q E s:=by
 obtain⟨c,dct,dat,sl⟩:=o;simp only at hc hdat hd;subst hc hdat hd;obtain⟨h0,gs,dr,t0,o0⟩:=s;have hT: ∀ k,(Shared.mk h0 gs dr k o0).TypeIs (.ref a) "tuple" :=λ_=>aah _ (Xd hx rfl);have f1:=sub_AttributeError;have f3:=F.slot_tuple_getattribute.lookup;have f4:=F.slot_tuple_getattribute.bind (.ref a);have f5:=am_tuple_getattr_none;unfold getAttr?;unfold getAttrBy?;unfold getAttrBy
 repeat (any_goals (first | assumption | exact hT _ | ((with_reducible show RX _ _ (call (Value.builtin "tuple.__getattribute__") _ _) _ _ _);refine TR F.slot_tuple_getattribute (hT _) am_entry_tuple_getattribute (F.args_tuple_getattribute_2 _ _) (meets_getattribute_miss_tuple a xs k sl "keys" _ og (by decide +kernel)) ⟨hx,hA,λh' tk' e hx'=>?_⟩) | wp_step))
 obtain⟨_,_,he⟩:=hx'.there
 with_reducible_and_instances unfold getattributeRaised
 repeat (any_goals (first | exact he | assumption | wp_step))
 exact h _ _ λb o e=>hx'.keeps b o e
end
section
variable{prog:Sv}{w:SQ}{A:Ti}{E:RA->RD->Prop}{s:RD}
theorem fe:entryFor table "dict.update.loop" =fv Vw.«dict.update.loop» :=entryFor_of_tree (by kernel_rfl)
theorem bO:plainId "dict.update.loop" =true:=by decide +kernel
theorem OV[Decidable c](hc:c)(h:RX M A m Q E s):RX M A (if c then m else m') Q E s:=by rw[if_pos hc];exact h
def kI(prog:Sv)(w:SQ)(h:S6)(v:RA)(kv:Key × RA):= ∃ b o kx n,v= .ref b/\h.get? b=fv o/\o.cls= .type "tuple" /\o.data= .seq #[kx,kv.2] n/\(aF prog w).is kv.1 kx=true
theorem kI.keeps(x:kI prog w h v kv)(k: ∀ b o,h.get? b=fv o->o.cls= .type "tuple" ->h'.get? b=fv o):kI prog w h' v kv :=
 by obtain⟨b,o,kx,n,e,g,c,d,r⟩:=x;exact⟨b,o,kx,n,e,k b o g c,c,d,r⟩
theorem rQ{R:Result->RD->Prop}{it tp d:RQ}{items:Array RA}{kvs:List (Key × RA)}{res:RA}(hh:A.handled=Rv)(hne:tp≠it)(hdi:d≠it)(hdt:d≠tp)(hl:kvs.length=items.size)(hz:items.size < RF) :
  ∀(k i:Nat)(ii:Int)(s:RD)(acc:List (Key × RA)),items.size - i=k->i<=items.size->acc.length<=i->s.heap.IsTupleIter it tp i->s.heap.IsTuple tp items->s.heap.DictOf (aF prog w) d acc->(∃ od,s.heap.get? d=fv od/\od.cls= .type "dict")->(∃ oi,s.heap.get? it=fv oi/\oi.cls= .type "tuple_iterator") ->
   (∀(j:Nat)(v:RA)(kv:Key × RA),items[j]?=fv v->kvs[j]?=fv kv->kI prog w s.heap v kv) ->
   (∀ s' ,s'.heap.DictOf (aF prog w) d (merged acc (kvs.drop i))->(∃ h' tk,s'={ s with heap:=h',toks:=tk})->(∀ b o,b≠d->b≠it->s.heap.get? b=fv o->s'.heap.get? b=fv o)->R (.ok (.ret res)) s') ->
   Xq (R4 prog w) A (.builtin "dict.update.loop" ⟨[.ref d,.ref it,.int ii 0,res],[]⟩) R s:=by
 have W:=Walks.tuple (prog:=prog) (w:=w) (A:=A.in1) hh it tp hne items;intro k
 induction k with
 | zero =>
  intro i ii s acc hk hi hac hit htp hd hdc hic hP hR
  obtain rfl:i=items.size:=Nat.le_antisymm hi (by omega)
  refine Wa fe ?_
  rw[X5 bO _]
  show RX _ A.in1 (Za (.ref it) >>= _) _ _ s
  refine Ru (W.done s _ _ ⟨hit,htp⟩ λh' tk keep=>?_)
  refine RG (hR _ ?_ ⟨h',tk,rfl⟩ λb o _ hb e=>keep b o (by simpa using hb) e)
  rw[Ud (by omega)]
  exact hd.at λo e=>keep d o (by simpa using hdi) e
 | succ k ih =>
  intro i ii s acc hk hi hac hit htp hd hdc hic hP hR
  have hlt:=Nat.lt_of_le_of_ne hi (by omega)
  refine Wa fe ?_
  rw[X5 bO _]
  show RX _ A.in1 (Za (.ref it) >>= _) _ _ s
  refine Ru (W.item i s _ _ hlt ⟨hit,htp⟩ λv h' tk hv hst keep=>?_)
  have hkv:i < kvs.length:=by omega
  obtain⟨b,o,kx,n,rfl,hb,hc,hdat,his⟩:=hP i v kvs[i] hv (by simp[hkv])
  have hbi:b≠it:=λz=>by
   obtain⟨oi,e1,e2⟩:=hic;rw[z,e1] at hb;cases hb;rw[e2] at hc;exact absurd hc (by decide)
  have hb':=keep b o (by simpa using hbi) hb
  have hT:(({ s with heap:=h',toks:=tk}:RD)).TypeIs (.ref b) "tuple" :=⟨o,hb',hc⟩
  have hd':=hd.at λo e=>keep d o (by simpa using hdi) e
  dsimp only
  refine Ru (Tx (Ru (wpAny_tryCatch ?_)))
  unfold Builtin.Dict.pairItems
  refine Ru (Vd hT (OV (by decide) (Ru (T1 hb' hdat (RG ?_)))))
  refine Tx (wpAny_dictSet_pairs (hsz:=by omega) his hd' λh'' dd hs=>?_)
  obtain⟨od,hod,hodc⟩:=hdc
  have keep2:=λb o h1 h2 e=>(hs.2 b h1).trans (keep b o (by simpa using h2) e)
  refine RG ⟨plainId_quiet bO _,?_⟩
  refine ih (i+1) (ii+1) _ (stored acc kvs[i].1 kvs[i].2) (by omega) hlt (R5 (stored_length_le _ _ _) (by omega)) (hst.1.at λo e=>(hs.2 it (UK hdi)).trans e) (htp.at λo e=>keep2 tp o (UK hdt) hne e) dd ?_ ?_ ?_ ?_
  . obtain⟨q,es,ep,e1,e2,_⟩:=dd;exact⟨q,e1,e2.1⟩
  . obtain⟨oi,e1,e2,_⟩:=hst.1;exact⟨oi,(hs.2 it (UK hdi)).trans e1,e2⟩
  . intro j v kv e1 e2;refine(hP j v kv e1 e2).keeps λb' o' e3 e4=>keep2 b' o' (λz=>?_) (λz=>?_) e3
    . rw[z,hod] at e3;cases e3;rw[hodc] at e4;exact absurd e4 (by decide)
    . obtain⟨oi,f1,f2⟩:=hic;rw[z,f1] at e3;cases e3;rw[f2] at e4;exact absurd e4 (by decide)
  . rintro s' dd' ⟨h3,tk3,rfl⟩ keep3;refine hR _ ?_ ⟨h3,tk3,rfl⟩ λb o h1 h2 e=>keep3 b o h1 h2 (keep2 b o h1 h2 e);have e:=Vh hkv;rw[e];exact dd'
theorem nS{p:RQ}{o:Obj}{items:Array RA}{n:Nat}{kvs:List (Key × RA)}{Q:RA->RD->Prop}(hh:A.handled=Rv)(hb:Te < s.heap.objs.size)(hp:s.heap.get? p=fv o)(hc:o.cls= .type "tuple")(hdt:o.data= .seq items n)(hdn:o.dict=Rv)
  (hl:kvs.length=items.size) (hz:items.size < RF) (hP: ∀(j:Nat)(v:RA)(kv:Key × RA),items[j]?=fv v->kvs[j]?=fv kv->kI prog w s.heap v kv)
  (h: ∀ h' tk,h'.DictOf (aF prog w) s.heap.objs.size (merged [] kvs)->(∀ b o,s.heap.get? b=fv o->h'.get? b=fv o)->Q (.ref s.heap.objs.size) { s with heap:=h',toks:=tk}) :
  RX (R4 prog w) A (call (.type "dict") [.ref p]) Q E s:=by
 refine callType_codes (Q₁ :=λz u=>z= .ref s.heap.objs.size/\u={ s with heap:=s.heap.push { cls:= .type "dict",data:= .dict #[]}}) F.kt_called_dict (F.kt_typeCall_dict_1 _) F.entry_dict_init (Zi _ ⟨rfl,rfl⟩) ?_;rintro obj s₁ ⟨rfl,rfl⟩;have up: ∀ b o,s.heap.get? b=fv o->(s.heap.push { cls:= .type "dict",data:= .dict #[]}).get? b=fv o:=λb o e=>Ry _ e;have hnew:(s.heap.push { cls:= .type "dict",data:= .dict #[]}).DictOf (aF prog w) s.heap.objs.size []:=ZF s.heap;have hp1:=up _ _ hp;refine⟨hnew.typeIs,F.args_dict_init_2 (.ref s.heap.objs.size) (.ref p),?_⟩
 with_unfolding_all refine Ru (m:=WU _ _) (Ru (XW hnew.typeIs (RG ?_)))
 show RX _ _ (Xf "dict.__init__" s.heap.objs.size (.ref p) [] .none) _ _ _;refine Ru (Vd (T:= "tuple") ⟨o,hp1,hc⟩ ?_);refine Ru (n9 hp1 hc hdt hdn hh λh1 tk1 k1=>?_);refine Ru (XA ?_);have htp1:h1.IsTuple p items:=⟨o,k1 _ _ hp1,hc,n,hdt⟩
 refine Ru (TV htp1 ?_);have up2: ∀ b o,h1.get? b=fv o->(h1.push { cls:= .type "tuple_iterator",data:= .fields #[.ref p,.int 0 0]}).get? b=fv o:=λb o e=>Ry _ e;have hd1:=k1 _ _ (RO _ rfl);have hpl:=RI (k1 _ _ hp1);have hdl:=RI hd1;have hps:=RI hp;refine RG ⟨plainId_quiet bO _,?_⟩;refine rQ (A:=A.in1) (it:=h1.objs.size) (tp:=p) (kvs:=kvs) hh (R1 hpl) (R1 hdl) (Ub hps) hl hz items.size 0 0 _ [] rfl (Si _) (RE _) ⟨_,RO _ rfl,rfl,rfl⟩ (htp1.push _) ?_ ⟨_,up2 _ _ hd1,rfl⟩ ⟨_,RO _ rfl,rfl⟩ ?_ ?_
 . exact(hnew.at λo e=>up2 _ o (k1 _ o e))
 . exact λj v kv e1 e2=>(hP j v kv e1 e2).keeps λb o e _=>up2 b o (k1 b o (up b o e))
 . rintro s' dd ⟨h3,tk3,rfl⟩ keep3;refine⟨rfl,h h3 tk3 (by simp_all) λb o e=>keep3 b o (R1 (RI e)) (R1 (RI (k1 _ _ (up _ _ e)))) (up2 _ _ (k1 _ _ (up _ _ e)))⟩
end
section
variable{X:Cx}
def oE(H:Hp)(y:V)(kv:Key × V):= ∃ b,y= .ref b/\H b=fv (.tup [kV kv.1,kv.2])
theorem pA(ok:iS P w H h): ∀{ys kvs aj},SW (oE H) ys kvs->Vals ys aj-> ∃ vs ,KV kvs vs/\vs.length=aj.length /\
  ∀(j:Nat) v kv,aj[j]?=fv v->vs[j]?=fv kv->kI P w h v kv
 | _,_,_,.nil,.nil=>⟨[],.nil,rfl,λj v kv e=>by simp at e⟩
 | _,_,_,.cons (b:=kv0) hp hr,.cons hv hrv=>by
  obtain⟨vs,h1,h2,h3⟩:=pA ok hr hrv;obtain⟨b,rfl,hb⟩:=hp;obtain⟨_,its0,r0,o,e1,e2,n,e3,_⟩:=(show aN P w H h b (.tup [kV kv0.1,kv0.2]) from ok b _ hb)
  obtain⟨u1,u2,rfl,r1,r2⟩:=vals2 r0;cases(show _=R0 b from hv);refine⟨(kv0.1,u2)::vs,.cons ⟨rfl,r2⟩ h1,by simp[h2],λj v kv f1 f2=>?_⟩;cases j with
  | zero =>
   simp only[List.getElem?_cons_zero,U3] at f1 f2
   subst f1 f2
   exact⟨b,o,u1,n,rfl,e1,e2,e3,kY r1⟩
  | succ j=>exact h3 j v kv (by simpa using f1) (by simpa using f2)
theorem KV.rW(r:KV kvs vs):KV (cX [] kvs) (merged [] vs):=KV.merge r .nil
theorem k9(hc:X.calm=true):aG X (.type "dict") (λxs H Q=> ∃ p ys kvs,xs=[.ref p]/\H p=fv (.tup ys)/\SW (oE H) ys kvs/\ys.length < RF/\ ∀ d,H d=Rv->Q (.ref d) (upd H d (.dK (cX [] kvs)))):=by
 intro pins s σ H xs us Q I r h;obtain⟨p,ys,kvs,rfl,hp,hP,hz,q⟩:=h;obtain⟨u,rfl,ru⟩:=vals1 r;cases(show u=R0 p from ru);obtain⟨_,aj,r0,o,e1,e2,n,e3,e4⟩:=(show aN X.prog X.w H s.heap p (.tup ys) from I.aW p _ hp)
 obtain⟨vs,h1,h2,h3⟩:=pA I.aW hP r0;have hlen:=r0.length;have hk:=Vo hP;refine nS (kvs:=vs) (I.ok.hd hc) I.big e1 e2 e3 e4 (by omega) (by simp;omega) (λj v kv f1 f2=>h3 j v kv (by simpa using f1) f2) λh' tk dd keep=>?_;have hle:(cX [] kvs).length<=RF:=by have:=fB kvs [];simp at this;omega
 obtain⟨hn,I'⟩:=I.kA (a:=s.heap.objs.size) (o:= .dK (cX [] kvs)) (t':=tk) keep (TY (RE _)) (tZ hle (beq_eq_false_iff_ne.mpr (UK (R1 I.big))) (KV.rW h1) dd);exact⟨.ref _,_,I',rfl,q _ hn⟩
end
def kR(P:Sv)(w:SQ)(K:Rx)(mg:Str->Option RA) base x k (ps:List Str) sp :=
 ∃(f:RQ)(fd:Vq),jr P w K mg base pH k f fd ps sp/\mg x=fv (.ref f)/\UH K (.ref f)=true/\Binds K fd ps []/\ ∀ us ,us.length=ps.length->UR fd ⟨us,[]⟩=pure (ps.zip us)
theorem yv.args{K st}{ps:List Str}(F:yv K x qual st f fd)
  (h: ∀ kV doc pm an cdv ct us,us.length=ps.length->UR (S4 x qual (bP st) (aQ st) (ak st) .none kV doc pm an cdv ct) ⟨us,[]⟩=pure (ps.zip us)): ∀ us ,us.length=ps.length->UR fd ⟨us,[]⟩=pure (ps.zip us):=by
 obtain⟨oc,od,kV,doc,pm,an,cdv,ct,osl,rfl,lk,hcd⟩:=F.ex;exact h kV doc pm an cdv ct
def At(K:Rx)(mg:Str->Option RA) x st:= ∃(f:RQ)(fd:Vq),yv K x x st f fd/\mg x=fv (.ref f)
section
variable{P:Sv}{w:SQ}{K:Rx}{mg:Str->Option RA}{base:S6}
theorem At.ok{st}(a:At K mg x st)(S:cE N ps (ak st))
  (hb: ∀ kV doc pm an cdv ct us,us.length=ps.length->UR (S4 x x (bP st) (aQ st) (ak st) .none kV doc pm an cdv ct) ⟨us,[]⟩=pure (ps.zip us))
  (len: ∀ vs H Q E,sp vs H Q E->vs.length=ps.length)
  (hbody: ∀ f cdv A outer s H vs Q E,cx k (A.deeper (Wo x (ak st) s.heap.objs.size f cdv))->sp vs H Q E ->
   ∃ t,tJ (iE pH P w K mg base N x (ak st) f cdv A outer s H E).mW (aQ st) t/\t { nx:=λ_ H'=>Q .non H',rt:=Q} (start N vs) H):kR P w K mg base x (k+1) ps sp:=by
 obtain⟨f,fd,F,hm⟩:=a;exact⟨f,fd,F.ok S len λcdv A outer s H vs Q E=>hbody f cdv A outer s H vs Q E,hm,F.kp,F.binds hb,F.args hb⟩
theorem At.xC{st}(a:At K mg x st)(hb: ∀ (kV doc pm) (an) (cdv ct) (us),us.length=ps.length->UR (S4 x x (bP st) (aQ st) (ak st) .none kV doc pm an cdv ct) ⟨us,[]⟩=pure (ps.zip us))
  (no: ∀ vs H Q E,¬ sp vs H Q E):kR P w K mg base x 0 ps sp:=by
 obtain⟨f,fd,F,hm⟩:=a;exact⟨f,fd,⟨λvs H Q E h=>absurd h (no vs H Q E),λA outer s H args us vs Q E _ _ _ _ h=>absurd h (no vs H Q E)⟩,hm,F.kp,F.binds hb,F.args hb⟩
end
section
variable{X:Cx}{x:Str}{k j:Nat}{ps:List Str}{sp:Sp}{e:Sy}{es:List Sy}{t:TA}{p pos:Pos}
theorem Pj(D:kR X.prog X.w X.K X.mg X.base x j ps sp)(hr:cx k X.A)(hg:Gl X x)(hj:j<=k)(ha:PA X (e::es) t)(hdb:(x == ("__debug__"))=false:=by decide)
  (he:Ss (e::es) X.env=(false,Tw e X.env)::Ss es X.env:=by rfl) (hpl:(VT pos (Ss es X.env)).any (·.1)=false:=by rfl):PE X (.Call (.Name x p) (e::es) [] pos) (vW sp [] E0 t):=by
 obtain⟨f,fd,F,hm,kp,bd,_⟩:=D;exact Ep F (hr.mono hj) hg hm kp bd .nil MU ha hdb he hpl
end
theorem Lu{K st kV}(X:K.In h)(G:h.Ns Sg mg)
  (a:To K Sg x=fv (fv (.ref f))) (l:K.lookup f=fv ⟨oc,od,.func (S4 x x (bP st) (aQ st) (ak st) .none kV doc pm an cdv ct),osl⟩) (c:Xw K cdv x=true) (k:UH K (.ref f)=true):At K mg x st :=
 ⟨f,_,JY l c k,Tp X G a⟩
structure Bl(mg:Str->Option RA):Prop where
 len:mg "len" =Rv
 range:mg "range" =Rv
 isinstance:mg "isinstance" =Rv
 int:mg "int" =Rv
 bool:mg "bool" =Rv
 tuple:mg "tuple" =Rv
 dict:mg "dict" =Rv
 sorted:mg "sorted" =Rv
 min:mg "min" =Rv
 max:mg "max" =Rv
 abs:mg "abs" =Rv
def Kp a (H H':Hp):= ∀ b o,b≠a->H b=fv o->H' b=fv o
theorem Kp.trans(x:Kp a H H1)(y:Kp a H1 H2):Kp a H H2:=λb o n h=>y b o n (x b o n h)
theorem k4.kp(x:k4 H H'):Kp a H H':=λb o _ h=>x b o h
theorem Kp.st:Kp a H (upd H a o):=λb u n q=>by rw[av n];exact q
theorem Kp.lst{a b H H' K xs kvs}(x:Kp a H H')(ha:H a=fv (.dK kvs))(h:fO K H b xs):fO K H' b xs:=by
 rcases h with(h | ⟨o,h⟩) | h
 . exact .inl (.inl (x _ _ (pv h ha (by simp_all)) h))
 . exact .inl (.inr ⟨o,x _ _ (pv h ha (by simp_all)) h⟩)
 . exact .inr h
theorem Kp.tup{a b H H' xs kvs}(x:Kp a H H')(ha:H a=fv (.dK kvs))(h:H b=fv (.tup xs)):H' b=fv (.tup xs):=x _ _ (pv h ha (by simp_all)) h
class sF (t:TE):Prop where
 m: ∀ σ H Q Q',(∀ x H1,Q x H1->Q' x H1)->t σ H Q->t σ H Q'
class rU (t:TT):Prop where
 m: ∀ σ H Q Q',(∀ x H1,Q x H1->Q' x H1)->t σ H Q->t σ H Q'
class QV (t:TA):Prop where
 m: ∀ σ H Q Q',(∀ x H1,Q x H1->Q' x H1)->t σ H Q->t σ H Q'
class Rc (t:TO):Prop where
 m: ∀ σ H Q Q',(∀ x H1,Q x H1->Q' x H1)->t σ H Q->t σ H Q'
class Q4 (t:TI):Prop where
 m: ∀ σ H Q Q',(∀ x H1,Q x H1->Q' x H1)->t σ H Q->t σ H Q'
class Q8 (r:R2):Prop where
 m: ∀ x y H Q Q',(∀ x H1,Q x H1->Q' x H1)->r x y H Q->r x y H Q'
class Rb (r:V->Hp->VK->Prop):Prop where
 m: ∀ x H Q Q',(∀ x H1,Q x H1->Q' x H1)->r x H Q->r x H Q'
class QY (r:List V->Hp->VK->Prop):Prop where
 m: ∀ x H Q Q',(∀ x H1,Q x H1->Q' x H1)->r x H Q->r x H Q'
class Q0 (r:V->List V->Hp->VK->Prop):Prop where
 m: ∀ x xs H Q Q',(∀ x H1,Q x H1->Q' x H1)->r x xs H Q->r x xs H Q'
class QM (r:V->Option Int->Option Int->Hp->VK->Prop):Prop where
 m: ∀ x l u H Q Q',(∀ x H1,Q x H1->Q' x H1)->r x l u H Q->r x l u H Q'
class Pz (sp:Sp):Prop where
 m: ∀ vs H Q Q' E,(∀ x H1,Q x H1->Q' x H1)->sp vs H Q E->sp vs H Q' E
section
variable{X:Cx}
def Ob(K:Rx):List V->Hp->VK->Prop:=λxs H Q=> ∃ p ys,xs=[.ref p]/\(fO K H p ys\/dz K H p ys)/\Q (.int ys.length) H
def NW:List V->Hp->VK->Prop:=λxs H Q=> ∃ z,xs=[.str z]/\z.length<=RF/\Q (.int z.length) H
theorem D5:aG X (.builtin "len") (λxs H Q=>Ob X.K xs H Q\/NW xs H Q):=qb.or pU
def Nn(K:Rx):List V->Hp->VK->Prop:=λxs H Q=> ∃ x T t b,xs=[x,.ty T]/\iF K H x t/\Wm K t (.type T)=fv b/\Q (.bl b) H
theorem Cg:aG X (.builtin "isinstance") (Nn X.K):=sy
def AM(K:Rx):List V->Hp->VK->Prop:=λxs H Q=> ∃ p ss,xs=[.ref p]/\fO K H p (ss.map V.str)/\ss.length < 64/\ ∀ l ss',H l=Rv->ss'.Perm ss->WK ss'=true->Q (.ref l) (upd H l (.lst (ss'.map V.str)))
def BN:List V->Hp->VK->Prop:=λxs H Q=> ∃ d kvs ss,xs=[.ref d]/\H d=fv (.dK kvs)/\kvs.map (·.1)=ss.map UJ/\ss.length < 64/\ ∀ l ss',H l=Rv->ss'.Perm ss->WK ss'=true->Q (.ref l) (upd H l (.lst (ss'.map V.str)))
def GL:List V->Hp->VK->Prop:=λxs H Q=> ∃ p ys kvs,xs=[.ref p]/\H p=fv (.tup ys)/\SW (oE H) ys kvs/\ys.length < RF/\ ∀ d,H d=Rv->Q (.ref d) (upd H d (.dK (cX [] kvs)))
theorem yL(hc:X.calm=true):aG X (.type "dict") GL:=k9 hc
def Pf:List V->Hp->VK->Prop:=λxs H Q=> ∃ i j,xs=[.int i,.int j]/\Q (.int (if j < i then j else i)) H
def Ow:List V->Hp->VK->Prop:=λxs H Q=>(∃ i,xs=[.int i]/\Q (.int i) H)\/ ∃ k,xs=[.bl k]/\Q (.int (if k then 1 else 0)) H
def IU(K:Rx):List V->Hp->VK->Prop:=λxs H Q=> ∃ p ys,xs=[.ref p]/\((fO K H p ys/\ ∀ l,H l=Rv->Q (.ref l) (upd H l (.tup ys)))\/(dz K H p ys/\Q (.ref p) H))
theorem EV(hc:X.calm=true):aG X (.builtin "min") Pf:=yh hc
theorem Dz:aG X (.type "int") Ow:=yd
theorem DA:aG X (.type "tuple") (IU X.K):=om
end
structure GR(D D':Ends):Prop where
 nx: ∀ σ H,D.nx σ H->D'.nx σ H
 rt: ∀ v H,D.rt v H->D'.rt v H
 bk: ∀ σ H,D.bk σ H->D'.bk σ H
 ct: ∀ σ H,D.ct σ H->D'.ct σ H
class Q5 (t:TS):Prop where
 m: ∀ D D' σ H,GR D D'->t D σ H->t D' σ H
class sY (g:TG):Prop where
 m: ∀ x σ H Q Q',(∀ σ2 H2,Q σ2 H2->Q' σ2 H2)->g x σ H Q->g x σ H Q'
class Pw (g:BX):Prop where
 m: ∀ x σ H Q Q',(∀ σ2 H2,Q σ2 H2->Q' σ2 H2)->g x σ H Q->g x σ H Q'
theorem NY{K:Rx}{a:RQ}{xs:List V}{k:Nat}{g:TG}{tt:TT}{te:TE}[sY g][rU tt][sF te]{σ :St}{H:Hp}{Q:VK}(Pv:Nat->List V->Hp->Prop)(h0:Pv 0 [] H)(hl: ∀ i ys H,i<=xs.length->Pv i ys H->dz K H a xs/\ys.length<=i)(hz:xs.length<=RF)
  (hs: ∀ i x ys H,xs[i]?=fv x->Pv i ys H->g x (σ ++Rz k Rv) H fun σ2 H2=>tt σ2 H2 λb H3=>if b=true then te σ2 H3 λy H4=>Pv (i+1) (ys++[y]) H4 else Pv (i+1) ys H3)
  (hd: ∀ ys H,Pv xs.length ys H-> ∀ p,H p=Rv->Q (.ref p) (upd H p (.lst ys))) :
  ∃ W:Nat->Nat->List V->Hp->Prop,(∃ m,W 0 m [] H)∧ ∀ i m ys H,W i m ys H->((BE K a).stop i H∧ ∀ p,H p=Rv->Q (.ref p) (upd H p (.lst ys))) ∨
   ((BE K a).go i H∧ys.length < RF∧ ∀ x H',(BE K a).FJ i H x H'->g x (σ ++Rz k Rv) H' fun σ2 H2=>tt σ2 H2 λb H3=>if b=true then te σ2 H3 λy H4=> ∃ m',m' < m∧W (i+1) m' (ys++[y]) H4 else ∃ m',m' < m∧W (i+1) m' ys H3):=HX (K:=K) (a:=a) (k:=k) (g:=g) (tt:=tt) (te:=te) (σ := σ) (Q:=Q) Pv h0 hl hz hs hd (λx σ H Q Q' f h=>sY.m (g:=g) x σ H Q Q' f h) (rU.m (t:=tt)) (sF.m (t:=te))
noncomputable def stK(a:RQ)(k:Int)(l:Option Int):List (Key × V):=match l with
 | none=>[(.inr "script",.ref a),(.inr "k",.int k)]
 | some l=>[(.inr "script",.ref a),(.inr "k",.int k),(.inr "left",.int l)]
def wD(K:Rx)(H:Hp) a (xs:List V):=(∃ o,H a=fv (.iW o (.lst xs))) \/
 ∃(o:Obj)(aj:Array RA)(n:Nat),K.lookup a=fv o/\o.cls= .type "list" /\o.dict=Rv/\o.data= .seq aj n/\aj.size<=RF/\Vals xs aj.toList
theorem wD.sq{K}(h:wD K H a xs):fO K H a xs:=by
 rcases h with⟨o,h⟩ | h
 . exact .inl (.inr ⟨o,h⟩)
 . exact .inr h
theorem wD.upd{K}(h:wD K H a xs)(hc:H c=fv u)(hu: ∀ o w,u≠ .iW o w):wD K (upd H c o') a xs:=by
 rcases h with⟨o,h⟩ | h
 . exact .inl ⟨o,by rw[av (pv h hc λz=>hu _ _ z.symm)];exact h⟩
 . exact .inr h
theorem Kp.iW{st a H H' K xs kvs}(x:Kp st H H')(ha:H st=fv (.dK kvs))(h:wD K H a xs):wD K H' a xs:=by
 rcases h with⟨o,h⟩ | h
 . exact .inl ⟨o,x _ _ (pv h ha (by simp_all)) h⟩
 . exact .inr h
theorem k4.iW{a H H' K xs}(x:k4 H H')(h:wD K H a xs):wD K H' a xs:=by
 rcases h with⟨o,h⟩ | h
 . exact .inl ⟨o,x _ _ h⟩
 . exact .inr h
def jJ(K:Rx) H st k (l:Option Int):= ∃(a:RQ)(ns:List Int),H st=fv (.dK (stK a k l))/\wD K H a (ns.map V.int)/\ns.length<=63/\0<=k
theorem jJ.keep{K st}(x:jJ K H st k l)(y:Kp st H H')(e:H' st=H st):jJ K H' st k l :=
 by obtain⟨a,ns,h1,h2,h3,h4⟩:=x;exact⟨a,ns,e.trans h1,y.iW h1 h2,h3,h4⟩
theorem jJ.same{K:Rx}{H H':Hp}{st:RQ}{k:Int}{l:Option Int}(x:jJ K H st k l)(y:k4 H H'):jJ K H' st k l :=
 let ⟨a,ns,h1,h2,h3,h4⟩:=x;jJ.keep ⟨a,ns,h1,h2,h3,h4⟩ y.kp ((y _ _ h1).trans h1.symm)
theorem jJ.upd{K st}(x:jJ K H st k l)(hc:H c=fv u)(hu: ∀ o w,u≠ .iW o w)(hn:c≠st):jJ K (upd H c o) st k l :=
 by obtain⟨a,ns,h1,h2,h3,h4⟩:=x;exact⟨a,ns,by rw[av (UK hn)];exact h1,h2.upd hc hu,h3,h4⟩
theorem jJ.at{K st}(x:jJ K H st k l): ∃ kvs,H st=fv (.dK kvs):=by obtain⟨a,ns,h1,_⟩:=x;exact⟨_,h1⟩
theorem jJ.pos{K st}(x:jJ K H st k l):0<=k:=by obtain⟨a,ns,h1,_,_,h⟩:=x;exact h
noncomputable def noStar:Sy->Bool
 | .Starred _ _=>false
 | _=>true
theorem bp(h:noStar e=true):Ss (e::es) env=(false,Tw e env)::Ss es env:=by
 cases e<;>first | rfl | cases h
theorem jQ: ∀{es},es.all noStar=true->(VT pos (Ss es env)).any (·.1)=false
 | [],_=>rfl
 | e::es,h=>by
  have h:=X6.mp (UZ ▸ h);rw[bp h.1];have:=jQ (pos:=pos) (env:=env) h.2;exact this
section
variable{X:Cx}{e:Sy}{es:List Sy}{te:TE}{t:TA}
theorem pk(ha:PE X e te)(hr:PA X es t)(hs:noStar e=true:=by rfl):PA X (e::es) (AB te t):=DF ha hr (bp hs)
variable{x:Str}{k j:Nat}{ps:List Str}{sp:Sp}{p pos:Pos}{id T:String}{r:List V->Hp->VK->Prop}
theorem kd(D:kR X.prog X.w X.K X.mg X.base x j ps sp)(hr:cx k X.A)(hg:Gl X x)(hj:j<=k)(ha:PA X (e::es) t)(hdb:(x == ("__debug__"))=false:=by decide)(he:noStar e=true:=by rfl)(hpl:es.all noStar=true:=by rfl) :
  PE X (.Call (.Name x p) (e::es) [] pos) (vW sp [] E0 t):=Pj D hr hg hj ha hdb (bp he) (jQ hpl)
theorem kB(hc:aG X (.builtin id) r)(hg:Gl X x)(hm:X.mg x=Rv)(hv:Ta x=fv (.builtin id))(ha:PA X (e::es) t)(hn:x≠ "__name__" :=by decide)(hdb:(x == ("__debug__"))=false:=by decide)(he:noStar e=true:=by rfl)(hpl:es.all noStar=true:=by rfl) :
  PE X (.Call (.Name x p) (e::es) [] pos) (HK r t):=AS hc hg hm hv ha hn hdb (bp he) (jQ hpl)
theorem kT(hc:aG X (.type T) r)(hg:Gl X x)(hm:X.mg x=Rv)(hv:Ta x=fv (.type T))(ha:PA X (e::es) t)(hn:x≠ "__name__" :=by decide)(hdb:(x == ("__debug__"))=false:=by decide)(he:noStar e=true:=by rfl)(hpl:es.all noStar=true:=by rfl) :
  PE X (.Call (.Name x p) (e::es) [] pos) (HK r t):=xI hc hg hm hv ha hn hdb (bp he) (jQ hpl)
end
structure QE(X:Cx)(e:Sy)(t:TE):Prop where h:PE X e t
structure QT(X:Cx)(e:Sy)(t:TT):Prop where h:PT X e t
structure QW(X:Cx)(e:Sy)(t:TT):Prop where h:PW X e t
structure QA(X:Cx)(es:List Sy)(t:TA):Prop where h:PA X es t
structure QO(X:Cx)(e:Option Sy)(t:TO):Prop where h:PO X e t
structure QS(X:Cx)(s:W5)(t:TS):Prop where h:PS X s t
structure Al(X:Cx)(s:List W5)(t:TS):Prop where h:tJ X s t
structure QG(X:Cx)(e:Sy)(t:TG):Prop where h:PG X e t
structure Ja(X:Cx)(e:List Sy)(t:BX):Prop where h:LQ X e t
structure QI(X:Cx)(tg e:Sy)(t:TI):Prop where h:PI X tg e t
structure QF(X:Cx)(es:List Sy)(t:TT):Prop where h:PF X es t
structure QP(X:Cx)(pos:Pos)(ks:List (Option Sy))(vs:List Sy)(t:List (TE × TE)):Prop where h:Rh X pos ks vs t
section
variable{X:Cx}{a b c e o i:Sy}{es:List Sy}{ta tb tc te td ty tx tv to ti:TE}{t t':TT}{tr:TA}{pos p p2 pos' apos cpos:Pos}{x y:Str}
theorem qv i (hN:X.N[i]?=fv x:=by rfl) (hv:Ll X.env.scope x:=by first | exact Zj rfl | exact X7 (Zj rfl) | exact X7 (X7 rfl)) (hd:(x == ("__debug__"))=false:=by decide)
  (hcd:(x == ("__classdict__"))=false:=by decide):QE X (.Name x pos) (Oe i):=⟨GX hN hv hd hcd⟩
theorem Kg:QE X (.Constant (.int n) j pos) (tC (.int n)):=⟨J8⟩
theorem M0:QE X (.Constant (.bool n) j pos) (tC (.bl n)):=⟨Nr⟩
theorem Jv:QE X (.Constant .none j pos) (tC .non):=⟨J3⟩
theorem Gf:QE X (.Constant (.str n) j pos) (tC (.str n)):=⟨IQ⟩
theorem vI(hg:Gl X x)(hm:X.mg x=fv u)(r:RelV v u)(hd:(x == ("__debug__"))=false:=by decide):QE X (.Name x pos) (tC v):=⟨wG hg hm r hd⟩
theorem Fc(hg:Gl X x)(hm:X.mg x=Rv)(hv:Ta x=fv u)(r:RelV v u)(hn:x≠ "__name__" :=by decide)(hd:(x == ("__debug__"))=false:=by decide):QE X (.Name x pos) (tC v):=⟨C2 hg hm hv r hn hd⟩
theorem L1(ho:bR X (Td op) r)(ha:QE X a ta)(hb:QE X b tb):QE X (.BinOp a op b pos) (CZ r ta tb):=⟨LW ho ha.h hb.h⟩
theorem JQ(ha:QE X a ta):QE X (.UnaryOp .Not a pos) (FV ta):=⟨Jx ha.h⟩
theorem J7(h:QE X a ta):QE X (.BoolOp op [a] pos) ta:=⟨Hh h.h⟩
theorem KN{rest}(ha:QE X a ta)(hb:QE X (.BoolOp .And (b::rest) pos) tb):QE X (.BoolOp .And (a::b::rest) pos) (Ft ta tb):=⟨Ka ha.h hb.h⟩
theorem Ox{rest}(ha:QE X a ta)(hb:QE X (.BoolOp .Or (b::rest) pos) tb):QE X (.BoolOp .Or (a::b::rest) pos) (Nc ta tb):=⟨MN ha.h hb.h⟩
theorem AW(hc:QT X c t)(ha:QE X a ta)(hb:QE X b tb):QE X (.IfExp c a b pos) (QB t ta tb):=⟨Ai hc.h ha.h hb.h⟩
theorem HY(h:QA X es tr):QE X (.Tuple es x1 pos) (M7 tr):=⟨K6 h.h⟩
theorem Iu(h:QA X es tr):QE X (.List es pos) (Mx tr):=⟨Gv h.h⟩
theorem EG:QO X Rv v7:=⟨Fh⟩
theorem Ex(h:QE X e te):QO X (fv e) (F8 te):=⟨Cj h.h⟩
theorem zd{lo}(hr:BR X r)(he:QE X e te)(hl:QO X lo tl)(hu:QO X hi th):QE X (.Subscript e (.Slice lo hi Rv p2) pos) (Qy r te tl th):=⟨zv hr he.h hl.h hu.h⟩
theorem Lx(hr:wV X r)(ha:QE X a ta)(hb:QE X b tb)(hs:qJ b):QE X (.Subscript a b pos) (CZ r ta tb):=⟨NS hr ha.h hb.h hs⟩
theorem Bm(hu:X.A.units+1 < Vp)(ho:QE X o td)(he:QE X e ty)(hf:QE X f tx)(m:M2 X o "get" apos e f cpos):QE X (.Call (.Attribute o "get" apos) [e,f] [] cpos) (Ag td ty tx):=⟨ze hu ho.h he.h hf.h m⟩
theorem ur:QA X [] MX:=⟨Jk⟩
theorem qk(ha:QE X e te)(hr:QA X es tr)(hs:noStar e=true:=by rfl):QA X (e::es) (AB te tr):=⟨pk ha.h hr.h hs⟩
variable{k j:Nat}{ps:List Str}{sp:Sp}{id T:String}{r:List V->Hp->VK->Prop}
theorem qd(D:kR X.prog X.w X.K X.mg X.base x j ps sp)(hr:cx k X.A)(hg:Gl X x)(hj:j<=k)(ha:QA X (e::es) tr)(hdb:(x == ("__debug__"))=false:=by decide)(he:noStar e=true:=by rfl)(hpl:es.all noStar=true:=by rfl) :
  QE X (.Call (.Name x p) (e::es) [] pos) (vW sp [] E0 tr):=⟨kd D hr hg hj ha.h hdb he hpl⟩
theorem qB(hc:aG X (.builtin id) r)(hg:Gl X x)(hm:X.mg x=Rv)(hv:Ta x=fv (.builtin id))(ha:QA X (e::es) tr)(hn:x≠ "__name__" :=by decide)(hdb:(x == ("__debug__"))=false:=by decide)(he:noStar e=true:=by rfl)(hpl:es.all noStar=true:=by rfl) :
  QE X (.Call (.Name x p) (e::es) [] pos) (HK r tr):=⟨kB hc hg hm hv ha.h hn hdb he hpl⟩
theorem qT(hc:aG X (.type T) r)(hg:Gl X x)(hm:X.mg x=Rv)(hv:Ta x=fv (.type T))(ha:QA X (e::es) tr)(hn:x≠ "__name__" :=by decide)(hdb:(x == ("__debug__"))=false:=by decide)(he:noStar e=true:=by rfl)(hpl:es.all noStar=true:=by rfl) :
  QE X (.Call (.Name x p) (e::es) [] pos) (HK r tr):=⟨kT hc hg hm hv ha.h hn hdb he hpl⟩
theorem FO(pa:Wr T)(slot:Slot T name id)(hty:Z0 (.builtin id)=pure (.type "method_descriptor"))(hm:zB X id rm)(ho:QE X o to)(ha:QA X [e] tr)
  (hbase:TX o name X.env (Tw o X.env)=Tw o X.env:=by rfl) (hline:(apos.endLine == cpos.line)=true:=by rfl) (hs:noStar e=true:=by rfl) :
  QE X (.Call (.Attribute o name apos) [e] [] cpos) (Qz X.K T rm to tr):=⟨Mh pa slot hty hm ho.h ha.h hbase (by rw[bp hs];rfl) hline (bp hs) rfl⟩
theorem De{r}(ho:bR X (R9 op) r)(ha:QE X a ta)(hb:QE X b tb)(hm:Tj op b=false):QE X (.Compare a [op] [b] pos) (CZ r ta tb):=⟨ED ho ha.h hb.h hm⟩
theorem CO{r}(ho:bR X (R9 op) r)(ha:QE X a ta)(hb:QE X b tb)(hm:Tj op b=false):QT X (.Compare a [op] [b] pos) (BG (CZ r ta tb)):=⟨Em ho ha.h hb.h hm⟩
theorem yZ{r}(ho:bR X (R9 op) r)(ho':bR X (R9 op') r')(ha:QE X a ta)(hb:QE X b tb)(hc:QE X c tc)(hm:lastMarks [op,op'] [b,c]=false:=by with_unfolding_all rfl):QE X (.Compare a [op,op'] [b,c] pos) (ui r r' ta tb tc):=⟨zQ ho ho' ha.h hb.h hc.h hm⟩
theorem Hu(ha:QE X a ta):QE X (.Compare a [.Is] [.Constant .none j pos'] pos) (Gd ta):=⟨II (A2 ha.h)⟩
theorem HC(ha:QE X a ta):QT X (.Compare a [.Is] [.Constant .none j pos'] pos) (tB (Gd ta)):=⟨yF (A2 ha.h)⟩
theorem C3(ha:QE X a ta):QT X (.Compare a [.IsNot] [.Constant .none j pos'] pos) (tB (Fx ta)):=⟨yF (DH ha.h)⟩
theorem Cw(ha:QT X a t):QW X (.BoolOp .And [a] pos) t:=⟨pw_and1 ha.h⟩
theorem Kh(ha:QT X a t):QW X (.BoolOp .Or [a] pos) t:=⟨pw_or1 ha.h⟩
theorem Kx{rest}(ha:QT X a t)(hb:QW X (.BoolOp .And (b::rest) pos) t'):QW X (.BoolOp .And (a::b::rest) pos) (NH t t'):=⟨pw_and ha.h hb.h⟩
theorem N2{rest}(ha:QT X a t)(hb:QW X (.BoolOp .Or (b::rest) pos) t'):QW X (.BoolOp .Or (a::b::rest) pos) (Qj t t'):=⟨pw_or ha.h hb.h⟩
theorem QW.pt(h:QW X e t):QT X e t:=⟨h.h.pt⟩
theorem Jc(ha:QT X a t):QT X (.UnaryOp .Not a pos) (NI t):=⟨IL ha.h⟩
theorem JZ(h:QE X e te)(he: ∀ whole,Y8 e X.env whole=(do let v <- whole;ZO e.pos;WC [v] (truthy v)):=by intro _;rfl):QT X e (tB te):=⟨JJ h.h he⟩
theorem vA{i}(hN:X.N.Nodup)(hi:X.N[i]?=fv x)(hx:Loc X.env.scope x)(hf:X.fn x=true\/X.env.scope.names.lookup x=fv .local:=by first | exact .inl rfl | exact .inr rfl | assumption):QG X (.Name x pos) (d6 i):=⟨E7 hN hi hx hf⟩
theorem wF:Ja X [] xl:=⟨Dy⟩
theorem qR{t}(h1:QG X e t)(h2:Ja X es u)(hs:(S3 (e::es) X.env).map (·.2)=V7 e X.env::(S3 es X.env).map (·.2):=by rfl):Ja X (e::es) (kU t u):=⟨Bq h1.h h2.h hs⟩
theorem Aa{t}(hc:X.calm=true)(h:Ja X es t)(hn:(S3 es X.env).length=n:=by rfl)(hst:(S3 es X.env).findIdx? (·.1)=Rv:=by rfl):QG X (.Tuple es k pos) (vf X.K n t):=⟨HM hc h.h hn hst⟩
variable{tg iter l:Sy}{wi:TI}{g:TG}{ta':TA}
theorem Hw:QF X [] Fq:=⟨HH⟩
theorem Jo(h:QT X c t):QF X [c] t:=⟨HD h.h⟩
variable{scope:WA}{ifs:List Sy}{body rest:List W5}{spos py:Pos}{tb' ts us:TS}{st:W5}
theorem yQ vars (hc:X.calm=true) (hx: ∀ v s,¬ X.xe v s) (hkind:scope.kind= .function) (hlc:gy scope.names X.env.scope.names X.N vars=true) (hi:QI X tg iter wi)
  (hb: ∀ cl C s₀ H₀ ex pn,QG (dQ X vars scope cl C s₀ H₀ ex pn) tg g/\QF (dQ X vars scope cl C s₀ H₀ ex pn) ifs t/\QE (dQ X vars scope cl C s₀ H₀ ex pn) e te) (hgk:GK X.N.length g)
  (hs: ∀ x,SD iter X.env x=pure x:=by intro _;rfl):QE X (.ListComp e [⟨tg,iter,ifs,0⟩] scope pos) (OC vars.length wi g t te) :=
 ⟨yE vars hc hx hkind hlc hi.h (λcl C s₀ H₀ ex pn=>by obtain⟨h1,h2,h3⟩:=hb cl C s₀ H₀ ex pn;exact⟨h1.h,h2.h,h3.h⟩) hgk hs⟩
theorem Bi vars i (hc:X.calm=true) (hx: ∀ v s,¬ X.xe v s) (hkind:scope.kind= .function) (hlc:gy scope.names X.env.scope.names X.N vars=true) (hN:X.N.Nodup) (hiy:X.N[i]?=fv y) (hy:Loc X.env.scope y) (hi:QI X tg iter wi)
  (hb: ∀ cl C s₀ H₀ ex pn,QG (dQ X vars scope cl C s₀ H₀ ex pn) tg g/\QF (dQ X vars scope cl C s₀ H₀ ex pn) ifs t/\QE (dQ X vars scope cl C s₀ H₀ ex pn) e te) (hgk:GK X.N.length g)
  (hsw:UX (.ListComp e [⟨tg,iter,ifs,0⟩] scope pos) (fv (.Name y py)) spos.line X.env=pure true:=by rfl) (hs: ∀ x,SD iter X.env x=pure x:=by intro _;rfl)
  (hf:X.fn y=true\/X.env.scope.names.lookup y=fv .local:=by first | exact .inl rfl | exact .inr rfl | assumption) :
  QS X (.Assign [.Name y py] (.ListComp e [⟨tg,iter,ifs,0⟩] scope pos) spos) (zG vars.length i wi g t te) :=
 ⟨Bb vars i hc hx hkind hlc hN hiy hy hi.h (λcl C s₀ H₀ ex pn=>by obtain⟨h1,h2,h3⟩:=hb cl C s₀ H₀ ex pn;exact⟨h1.h,h2.h,h3.h⟩) hgk hsw hs hf⟩
theorem GG{i}(hN:X.N.Nodup)(hi:X.N[i]?=fv x)(hx:Loc X.env.scope x)(he:QE X e te)(hs:UX e (fv (.Name x pos')) pos.line X.env=pure false:=by rfl)(hf:X.fn x=true\/X.env.scope.names.lookup x=fv .local:=by first | exact .inl rfl | exact .inr rfl | assumption) :
  QS X (.Assign [.Name x pos'] e pos) (D4 te (d6 i)):=⟨GI hN hi hx he.h hs hf⟩
theorem zo(he:QE X e te)(hg:QG X tg g)(hs:WN [tg] e pos.line X.env=pure false:=by rfl)(hw:WO [tg] e X.env=pure Rv:=by rfl)(h1:(S3 [tg] X.env).map (·.2)=[V7 tg X.env]:=by rfl):QS X (.Assign [tg] e pos) (D4 te g):=⟨GJ he.h hg.h hs hw h1⟩
theorem Mb(hc:QT X c t)(ha:Al X A ts)(hb:Al X B us):QS X (.If c A B pos) (N8 t ts us):=⟨LH hc.h ha.h hb.h⟩
theorem Gz(hp:W6 (R4 X.prog X.w) X.A X.env X.xe)(hc:X.calm=true)(hi:QI X tg iter wi)(hg:QG X tg g)(hb:Al X body tb')(hs: ∀ x,SD iter X.env x=pure x:=by intro _;rfl):QS X (.For tg iter body [] pos) (Lw wi g tb'):=⟨Ky hp hc hi.h hg.h hb.h hs⟩
theorem zW(hp:W6 (R4 X.prog X.w) X.A X.env X.xe)(hc:QT X c t)(hb:Al X body tb'):QS X (.While c body [] pos) (zp t tb'):=⟨yW hp hc.h hb.h⟩
theorem DK(he:QE X e te)(hs:UX e Rv pos.line X.env=pure false:=by rfl):QS X (.Expr e pos) (Fo te):=⟨Er he.h hs⟩
theorem HQ(he:QE X e te):QS X (.Return (fv e) pos) (OA te):=⟨GF he.h⟩
theorem B5:Al X [] Aw:=⟨CG⟩
theorem zq(h1:QS X st ts)(h2:Al X rest us):Al X (st::rest) (G3 ts us):=⟨Au h1.h h2.h⟩
theorem En(h1:QS X st ts):Al X [st] ts:=⟨Cs h1.h⟩
end
theorem At.O9{K st}(a:At K mg x st)(S:cE N ps (ak st))
  (hb: ∀ kV doc pm an cdv ct us,us.length=ps.length->UR (S4 x x (bP st) (aQ st) (ak st) .none kV doc pm an cdv ct) ⟨us,[]⟩=pure (ps.zip us))
  (len: ∀ vs H Q E,sp vs H Q E->vs.length=ps.length)
  (hbody: ∀ f cdv A outer s H vs Q E,cx k (A.deeper (Wo x (ak st) s.heap.objs.size f cdv))->sp vs H Q E ->
   ∃ t,Al (iE pH P w K mg base N x (ak st) f cdv A outer s H E).mW (aQ st) t/\t { nx:=λ_ H'=>Q .non H',rt:=Q} (start N vs) H):kR P w K mg base x (k+1) ps sp :=
 a.ok S hb len λf cdv A outer s H vs Q E hr h=>by obtain⟨t,q,z⟩:=hbody f cdv A outer s H vs Q E hr h;exact⟨t,q.h,z⟩
theorem jX(h:0<=r):lb xs (fv r) Rv=xs.drop r.toNat:=by
 have e:r=((r.toNat)):=by omega
 unfold lb;rw[e,HT.ly,HT.j0];simp only[Sj];rcases XB r.toNat xs.length with z | z
 . grind
 . rw[VW z,Ud z];simp
theorem qe(h:0<=r):lb xs Rv (fv r)=xs.take r.toNat:=by
 have e:r=((r.toNat)):=by omega
 unfold lb;rw[e,HT.ly,HT.j0];simp only[Sj,X8,Y2];rcases XB r.toNat xs.length with z | z
 . rw[XQ z]
 . rw[VW z,UO (RE _),UO z]
theorem Ri{ B:Prop}[Decidable c](hc: ¬ c)(h:B):if c then A else B:=by simp_all
def Qo k (g:TG) (tt:TT) (te:TE) (σ :St) (Q:VK) (J:It) H1:= ∃ W:Nat->Nat->List V->Hp->Prop,(∃ m,W 0 m [] H1)/\ ∀ i m ys H,W i m ys H ->
 (J.stop i H/\ ∀ p,H p=Rv->Q (.ref p) (upd H p (.lst ys))) \/
 (J.go i H/\ys.length < RF/\ ∀ x H',J.FJ i H x H'->g x (σ ++Rz k Rv) H' fun σ2 H2=>tt σ2 H2 λb H3 =>
  if b=true then te σ2 H3 λy H4=> ∃ m',m' < m/\W (i+1) m' (ys++[y]) H4 else ∃ m',m' < m/\W (i+1) m' ys H3)
theorem OW{K:Rx}{a:RQ}{xs:List V}{k:Nat}{g:TG}{tt:TT}{te:TE}[sY g][rU tt][sF te]{σ :St}{H:Hp}{Q:VK}(Pv:Nat->List V->Hp->Prop)(h0:Pv 0 [] H)(hl: ∀ i ys H,i<=xs.length->Pv i ys H->dz K H a xs/\ys.length<=i)(hz:xs.length<=RF)
  (hs: ∀ i x ys H,xs[i]?=fv x->Pv i ys H->g x (σ ++Rz k Rv) H fun σ2 H2=>tt σ2 H2 λb H3=>if b=true then te σ2 H3 λy H4=>Pv (i+1) (ys++[y]) H4 else Pv (i+1) ys H3)
  (hd: ∀ ys H,Pv xs.length ys H-> ∀ p,H p=Rv->Q (.ref p) (upd H p (.lst ys))):Qo k g tt te σ Q (BE K a) H:=NY Pv h0 hl hz hs hd
class O5 (trs:List (TE × TE)):Prop where
 m: ∀ σ H Q Q',(∀ ps H1,Q ps H1->Q' ps H1)->mD trs σ H Q->mD trs σ H Q'
theorem yv.O9{K st}(F:yv K x x st f fd)(S:cE N ps (ak st))(len: ∀ vs H Q E,sp vs H Q E->vs.length=ps.length)
  (hbody: ∀ f cdv A outer s H vs Q E,cx k (A.deeper (Wo x (ak st) s.heap.objs.size f cdv))->sp vs H Q E ->
   ∃ t,Al (iE pH P w K mg base N x (ak st) f cdv A outer s H E).mW (aQ st) t/\t { nx:=λ_ H'=>Q .non H',rt:=Q} (start N vs) H):jr P w K mg base pH (k+1) f fd ps sp :=
 F.ok S len λcdv A outer s H vs Q E hr h=>by obtain⟨t,q,z⟩:=hbody f cdv A outer s H vs Q E hr h;exact⟨t,q.h,z⟩
theorem G1{K}(o:y8 H)(h:fO K H a xs):wD K H a xs:=by
 rcases h with(h | ⟨u,h⟩) | h
 . rcases o a with z | ⟨u,ys,z⟩<;>(rw[h] at z;cases z)
 . exact .inl ⟨u,h⟩
 . exact .inr h
def KD(P:Sv)(w:SQ)(K:Rx) a (kvs:List (Key × V)):=(a == Te)=false /\
 ∃(o:Obj)(es:Array DictEntry)(ep:Nat)(vs:List (Key × RA)),K.lookup a=fv o/\o.ExactDict/\o.data= .dict es ep/\PySem.KeysOf (aF P w) es/\Pairs (aF P w) es.toList vs/\(vs.map (·.1)).Nodup/\KV kvs vs
theorem Inv.kd{σ :St}(I:Inv X pins σ H s)(h:KD X.prog X.w X.K a kvs): ∃ vs,KV kvs vs/\s.heap.DictOf (aF X.prog X.w) a vs:=by
 obtain⟨_,o,es,ep,vs,h1,h2,h3,h4,h5,h6,h7⟩:=h;exact⟨vs,h7,o,es,ep,I.j9 a o h1,h2,h3,h4,h5,h6⟩
def Fn(kvs:List (Key × V))(ty:TE):TE:=fun σ H Q=>ty σ H λy H2=> ∃ k v,y=kV k/\fL kvs k=fv v/\Q v H2
section
variable{X:Cx}{o i:Sy}{pos:Pos}{ty:TE}{a:RQ}{kvs:List (Key × V)}
theorem ET(hk:KD X.prog X.w X.K a kvs)(ho:PE X o (tC (.ref a)))(hi:PE X i ty)(hs:Ct i):PE X (.Subscript o i pos) (Fn kvs ty):=by
 intro pins s σ H Q I h;refine Ek Wz.lookup hs (gL (ho pins s σ H (λx H1=>x= .ref a/\H1=H) I ⟨rfl,rfl⟩) λu s1 x H1 I1 rx ⟨ex,eH⟩=>?_);subst ex eH;obtain rfl:u=R0 a:=rx;refine gL (hi pins s1 σ H1 _ I1 h) λiv s2 y H2 I2 ry ⟨k,v,ey,l,q2⟩=>?_;subst ey;obtain⟨vs,rel,dd⟩:=I2.kd hk;obtain⟨w',hw,rw'⟩:=jP.some_of (v:=v) (o:=Xx vs k) (by rw[<- l];exact rel.val k);exact⟨dd.typeIs,Zh (kY ry) dd.mapOf hw ⟨v,H2,I2.tok _,rw',q2⟩⟩
theorem Ce(hk:KD X.prog X.w X.K a kvs)(ho:QE X o (tC (.ref a)))(hi:QE X i ty)(hs:Ct i):QE X (.Subscript o i pos) (Fn kvs ty):=⟨ET hk ho.h hi.h hs⟩
end
noncomputable def L9(w:SQ)(p:Str × Tok × RA):DictEntry:={ hash:=Sb w.params p.1,key:= .str p.1 p.2.1,val:=p.2.2}
theorem LZ{K}{ls:List (Str × Tok × RA)}{kvs:List (Key × V)}(hl:K.lookup a=fv { cls:= .type "dict",data:= .dict (ls.map (L9 w)).toArray ep})(ha:(a == Te)=false)
  (hn:(ls.map λp=>(UJ p.1:Key)).Nodup) (hk:KV kvs (ls.map λp=>((UJ p.1),p.2.2))):KD P w K a kvs:=by
 refine⟨ha,_,_,ep,ls.map λp=>((UJ p.1),p.2.2),hl,⟨rfl,rfl,rfl⟩,rfl,?_,?_,by rw[Tc];exact hn,hk⟩
 . intro e he;have he':=List.mem_toArray.mp he;obtain⟨p,_,rfl⟩:=Se.mp he';exact⟨.inr p.1,kK p.1 p.2.1,rfl⟩
 . clear hl hn hk
   induction ls with
   | nil=>exact .nil
   | cons p r ih=>exact .cons (kK p.1 p.2.1) rfl ih
theorem qW: ∀{us},Vals (bs.map V.bl) us->LSm.BoolsAre us bs:=by
 induction bs with
 | nil=>intro us h;cases h;exact .nil
 | cons b r ih =>
  intro us h
  cases h with
  | cons hx ht =>
   cases(show _=Wj b from hx)
   exact .cons _ (ih ht)
theorem xW{s:RD}{h':S6}(hk: ∀ b x,b ∉ [s.heap.objs.size]->(s.heap.push o).get? b=fv x->h'.get? b=fv x): ∀ b x,s.heap.get? b=fv x->h'.get? b=fv x :=
 λb x e=>hk b x (by intro z;rw[Sr.mp z] at e;exact absurd (RI e) (Sn _)) (Ry _ e)
section
variable{X:Cx}
def P4(K:Rx):List V->Hp->VK->Prop:=λxs H Q=> ∃(p:RQ)(bs:List Bool),xs=[.ref p]/\fO K H p (bs.map V.bl)/\Q (.bl (bs.any id)) H
theorem callAny(hc:X.calm=true):aG X (.builtin "any") (P4 X.K):=by
 intro pins s σ H xs us Q I r h;obtain⟨p,bs,rfl,hS,q⟩:=h;obtain⟨u,rfl,ru⟩:=vals1 r;cases(show u=R0 p from ru);obtain⟨aj,hv,pl,hz⟩:=I.list hS;have hl:=pl.isList;have hb:=qW hv;have hlt:p < s.heap.objs.size:=by obtain⟨_,e,_⟩:=hl;exact RI e
 refine call_any_walk (Y3 (items:=aj.toArray) hl ?_);refine⟨s.heap.objs.size,[s.heap.objs.size,p],[s.heap.objs.size],aj.toArray.size,_,_,λi=>(bs[i]?).getD false,rfl,Walks.list (A:=X.A.in1) (I.ok.hd hc) _ p (R1 hlt) aj.toArray,⟨⟨_,RO _ rfl,rfl,rfl⟩,hl.push _⟩,?_,?_⟩
 . intro i v s' Q' E' hP hQ;obtain⟨b,e,rfl⟩:=hb.get i v (by simpa using hP);simp only[Sk,e] at hQ;exact TC hQ
 . intro h' tk hk;rw[show((RJ aj.toArray.size).any λi=>(bs[i]?).getD false)=bs.any id by rw[R6,hb.length];exact LSm.range_any bs];exact⟨.bl (bs.any id),H,I.kept (xW hk),rfl,q⟩
end
noncomputable def OT(x:Str):It:=⟨λi _=>i < x.cps.size,λi H v H'=>H'=H∧ ∃ c,x.cps[i]?=fv c∧v= .str ⟨#[c]⟩,λi _=>i=x.cps.size⟩
theorem sW{K} x t it (hty:["enumerate", "zip", "dict_itemiterator", "dict_reverseitemiterator", "odict_iterator", "itertools.zip_longest", "itertools.pairwise"].contains ty=false)
  (W: ∀ A ,A.handled=Rv->Walks P w A it [it] [it] x.cps.size (SignAt x) (λi h=>h.IsStrIter it ty x t i)) (S: ∀ A i s Q E,s.heap.IsStrIter it ty x t i->Q (.ref it) s->RX (R4 P w) A (Zb (.ref it)) Q E s) :
  Turn P w K tg (OT x) [it] it (λi h=>h.IsStrIter it ty x t i) where
 mem:=by simp
 obj:=λi h st b hb=>by
  have e:b=it:=by simpa using hb
  subst e;obtain⟨o,e,c,d⟩:=st;exact⟨o,e,λv z=>by simp_all⟩
 keep:=λi h h' st k=>by obtain⟨o,e,r⟩:=st;exact⟨o,k it (by simp) o e,r⟩
 item:=by
  intro X hP hw hK hc i pins s σ H E I hf st hg;subst hP hw hK;obtain⟨f0,f1,f2,f3,f4,f5⟩:=hf it (by simp);refine(W X.A (I.ok.hd hc)).item i s _ _ hg st λv h' tk hv st' hk=>?_;obtain⟨c,u,hx,rfl⟩:=hv;have I1:=I.turned (t':=tk) (λb o hb e=>hk b o (by simpa using hb) e) f0 f1 f3 f4 f5;obtain⟨o,e,cc,d⟩:=id st';exact⟨_,rfl,v5 (s:={ s with heap:=h',toks:=tk}) e cc d hty ⟨.str ⟨#[c]⟩,H,I1,⟨_,rfl⟩,⟨rfl,c,hx,rfl⟩,st',λb hb=>(hf b hb).1⟩⟩
 done:=by
  intro X hP hw hK hc i pins s σ H E I hf st hg;subst hP hw hK;obtain⟨f0,f1,f2,f3,f4,f5⟩:=hf it (by simp);have hi:=hg;subst hi;exact(W X.A (I.ok.hd hc)).done s _ _ st λh' tk hk=>⟨rfl,I.turned (t':=tk) (λb o hb e=>hk b o (by simpa using hb) e) f0 f1 f3 f4 f5⟩
 self:=λA i s Q E st h=>S A i s Q E st h
theorem ip{x:Str}{k:Nat}{g:TG}{tt:TT}{te:TE}[sY g][rU tt][sF te]{σ :St}{H:Hp}{Q:VK}(Pv:Nat->List V->Hp->Prop)(h0:Pv 0 [] H)(hl: ∀ i ys H,i<=x.cps.size->Pv i ys H->ys.length<=i)(hz:x.cps.size<=RF)
  (hs: ∀ i c ys H,x.cps[i]?=fv c->Pv i ys H->g (.str ⟨#[c]⟩) (σ ++Rz k Rv) H fun σ2 H2=>tt σ2 H2 λb H3=>if b=true then te σ2 H3 λy H4=>Pv (i+1) (ys++[y]) H4 else Pv (i+1) ys H3)
  (hd: ∀ ys H,Pv x.cps.size ys H-> ∀ p,H p=Rv->Q (.ref p) (upd H p (.lst ys))):Qo k g tt te σ Q (OT x) H:=by
 refine⟨λi m ys H=>m=x.cps.size - i/\i<=x.cps.size/\Pv i ys H,⟨x.cps.size,by simp,Si _,h0⟩,?_⟩;rintro i m ys H ⟨rfl,hi,p⟩;have hy:=hl i ys H hi p;by_cases hlt:i < x.cps.size
 . refine .inr ⟨hlt,by omega,λv H' y=>?_⟩;obtain⟨e,c,hc,rfl⟩:=y;subst e;refine sY.m (g:=g) _ _ _ _ _ (fun σ2 H2 z=>rU.m (t:=tt) _ _ _ _ (λb H3 z=>?_) z) (hs i c ys _ hc p);cases b with
   | true =>
    exact sF.m (t:=te) _ _ _ _ (λv H4 w=>⟨x.cps.size - (i+1),by omega,rfl,hlt,w⟩) z
   | false =>
    exact⟨x.cps.size - (i+1),by omega,rfl,hlt,z⟩
 . have e:i=x.cps.size:=by omega
   subst e;exact .inl ⟨rfl,hd ys H p⟩
theorem B7(hg:Gl X x)(hm:X.mg x=fv (.ref a))(hd:(x == ("__debug__"))=false:=by decide):QE X (.Name x pos) (tC (.ref a)):=⟨wG hg hm rfl hd⟩
theorem ou l o b u :
  Zy (Vw.«dict.__eq__» ⟨[.ref l,.str b u],[]⟩) (λ_ R s=>s.heap.get? l=fv o/\R (.ok (.ret .notImplemented)) s) :=
 .of_wp λprog w A R s h=>by
  obtain⟨hl,h⟩:=h;have f1:=X9;wp_walk;exact⟨_,rfl,h⟩
theorem qj b u l c es ep dd sl :
  Zy (Vw.«str.__eq__» ⟨[.str b u,.ref l],[]⟩) (λ_ R s=>s.heap.get? l=fv { cls:=c,dict:=dd,data:= .dict es ep,slots:=sl}/\R (.ok (.ret .notImplemented)) s) :=
 .of_wp λprog w A R s h=>by obtain⟨hl,h⟩:=h;wp_walk using S0 hl,U8 hl;exact⟨_,rfl,h⟩
theorem tj b u (hl:s.heap.get? l=fv o) (hx:o.ExactDict) (hd:o.data= .dict es ep) (hu:A.units < Vp):SeqAt.RcAt A s (.ref l) (.str b u) false:=λprog w E Q h=>by
 obtain⟨cls,dd,data,sl⟩:=o;have hc:=hx.1;subst hc hd;exact SeqAt.rc_eq_decline_or (k:=false) ⟨_,hl,rfl⟩ (YD s b u) (by decide) X9 Ya WV
  (λ_ hq=>TR Ya ⟨_,hl,rfl⟩ PySem.F.entry_dict_eq (PySem.F.args_dict_eq_2 _ _) (ou l _ b u) ⟨hl,hq⟩)
  (λ_ hq=>TR WV (YD s b u) PySem.F.entry_str_eq (PySem.F.args_str_eq_2 _ _) (qj b u l (.type "dict") es ep dd sl) ⟨hl,hq⟩)
  (λ_ z=>wpAny_of_eq (show isSame (.ref l) (.str b u)=pure false from rfl) z) (.inr hu) h
noncomputable def Oz(K:Rx):R2:=λx y H Q=> ∃ p z,x= .ref p/\y= .str z/\((∃ xs,fO K H p xs)\/(∃ xs,dz K H p xs)\/ ∃ kvs,H p=fv (.dK kvs))/\Q (.bl false) H
def NO(K:Rx):V->Option Int->Option Int->Hp->VK->Prop:=λx lo hi H Q=> ∃ a xs,x= .ref a/\dz K H a xs/\(HT.cH xs.length 0 lo=0/\HT.cH xs.length xs.length hi=xs.length)/\Q (.ref a) H
noncomputable def FK(K:Rx):R2:=λx y H Q=> ∃ a b ys,x= .ref a/\y= .ref b/\dz K H a []/\dz K H b ys/\Q (.ref b) H
noncomputable def FP:R2:=λx y H Q=> ∃ a b,x= .str a/\y= .str b/\a.length+b.length<=RF/\Q (.str (a++b)) H
theorem kn:fillsNumberSlot (.type "tuple") "mul" =pure false :=
 PySem.fillsNumberSlot_seq (id:= "tuple.__mul__") (r:=fv (.builtin "tuple.__rmul__")) Ue.lookup (by rfl) Xg.lookup (by rfl)
theorem pD:seqRepeat? (.type "tuple")=pure (fv (.builtin "tuple.__mul__")):=by
 unfold seqRepeat?;rw[Zk (T:= "tuple") (name:= "__mul__") (id:= "tuple.__mul__") Ue.lookup (by rfl),Zk (T:= "tuple") (name:= "__rmul__") (id:= "tuple.__rmul__") Xg.lookup (by rfl)];rfl
theorem lK a t l items n dd sl :
  Zy (Vw.«int.__rmul__» ⟨[.int a t,.ref l],[]⟩) (λ_ R s=>s.heap.get? l=fv { cls:= .type "tuple",dict:=dd,data:= .seq items n,slots:=sl}/\R (.ok (.ret Value.notImplemented)) s) :=
 .of_wp λprog w A R s h=>by obtain⟨hl,h⟩:=h;wp_walk using S0 hl,U8 hl;exact⟨_,rfl,h⟩
theorem nX{prog:Sv}{w:SQ}{A:Ti}{E:RA->RD->Prop}{s:RD}{t sl:RQ}{items:Array RA}{vl vu:RA}{lo hi:Option Int}{Q:RA->RD->Prop}(ht:IsTup s.heap t items)(hs:s.heap.IsSliceOf sl vl vu .none)(pl:Xr vl lo)(pu:Xr vu hi)
  (hw:HT.cH items.size 0 lo=0/\HT.cH items.size items.size hi=items.size) (h:Q (.ref t) s):RX (R4 prog w) A (We (.ref t) (.ref sl)) Q E s:=by
 obtain⟨os,hos,hcs,hds⟩:=id hs;have hTs:s.TypeIs (.ref sl) "slice" :=⟨os,hos,hcs⟩
 unfold We
 try with_reducible refine Tx ?_
 refine Ru (YT ht.typeIs (by decide) ?_);refine Ru (Tu (name:=RZ "__getitem__") ht.typeIs SJ
  (TQ SJ ht.typeIs Ym ?_ (YC _ _)))
 show RX _ _ (Wq (.ref t) >>= _) _ _ s;refine Ru (tupleItemsOf_ ht ?_);refine Ru (Vd hTs ?_);refine Ru (HT.fK hs pl pu ?_);show RX _ _ (if (((HT.cH items.size 0 lo):Int) == 0&&(1) == 1&&(HT.cH items.size items.size hi - HT.cH items.size 0 lo) == items.size)=true then _ else _) _ _ s;rw[if_pos (by simp_all)];refine Ru (m:=Z5 _) (Ru (Vd ht.typeIs (RG ?_)));exact Ru (XA (RG ⟨_,rfl,RG h⟩))
section
variable{X:Cx}
theorem EM(hu:X.A.units < Vp):bR X (R9 .Eq) (Oz X.K):=by
 intro pins s σ H x y v u Q I rx ry h;obtain⟨p,z,rfl,rfl,hp,hQ⟩:=h;cases(show v=R0 p from rx);obtain⟨t,rfl⟩:=ry;have fin:EP X pins σ Q (.bool false) s:=⟨.bl false,H,I,rfl,hQ⟩
 rcases hp with⟨xs,hp⟩ | ⟨xs,hp⟩ | ⟨kvs,hp⟩
 . obtain⟨aj,hv,pl,hz⟩:=I.list hp;exact SeqAt.RcAt.list_str z t pl.isList hu _ _ _ _ fin
 . obtain⟨aj,hv,pl,hz⟩:=I.tuple hp;exact SeqAt.RcAt.tuple_str z t pl hu _ _ _ _ fin
 . obtain⟨_,_,vs,_,o,es,ep,e,hx,hd,_⟩:=vY I.aW hp;exact tj z t e hx hd hu _ _ _ _ fin
theorem CN:BR X (NO X.K):=by
 intro pins s σ H x v vl vu lo hi sl Q I rx hs pl pu h;obtain⟨a,xs,rfl,hx,hw,q⟩:=h;cases rx;obtain⟨aj,r,ht,hz⟩:=I.tuple hx;have hlen:aj.toArray.size=xs.length:=by exact r.length.symm
 refine⟨"tuple",_,SJ.lookup,ht.typeIs,?_⟩;exact nX ht hs pl pu (by rw[hlen];exact hw) ⟨.ref a,H,I,rfl,q⟩
theorem Cd:bR X (Td .Add) (FK X.K):=by
 intro pins s σ H x y v u Q I rx ry h;obtain⟨a,b,ys,rfl,rfl,ha,hb,q⟩:=h;cases(show v=R0 a from rx);cases(show u=R0 b from ry);obtain⟨aj,r1,p1,_⟩:=I.tuple ha;obtain⟨its2,r2,p2,_⟩:=I.tuple hb;have e1:aj=[]:=by cases r1;rfl
 subst e1;obtain⟨⟨cls,dd,data,sl⟩,ho,hc,n,hd⟩:=id p1;obtain⟨⟨cls2,dd2,data2,sl2⟩,ho2,hc2,n2,hd2⟩:=id p2;simp only at hc hd hc2 hd2;subst hc hd hc2 hd2;exact YS ⟨_,ho,rfl⟩ ⟨_,ho2,rfl⟩ W8 Yu VL VD (Vs _ _)
  (tuple_addW0 a b _ _ n n2 dd dd2 sl sl2 rfl) ⟨ho,ho2,⟨.ref b,H,I,rfl,q⟩⟩
theorem D0:bR X (Td .Add) FP:=by
 intro pins s σ H x y v u Q I rx ry h;obtain⟨a,b,rfl,rfl,hz,q⟩:=h;obtain⟨t,rfl⟩:=rx;obtain⟨t',rfl⟩:=ry;exact PyProof.Rows.add_str (λt' tk=>⟨.str (a++b),H,I.tok _,⟨_,rfl⟩,q⟩) hz
theorem Gu:bR X (Td .Add) (λx y H Q=>(B0 λi j=> .int (i+j)) x y H Q\/(N1 x y H Q\/(Fu X.K x y H Q\/(FK X.K x y H Q\/FP x y H Q)))):=Iv.or (HE.or (Ez.or (Cd.or D0)))
theorem Rk:BR X (λx lo hi H Q=>Nv X.K x lo hi H Q\/(Oa X.K x lo hi H Q\/NO X.K x lo hi H Q)):=Cc.or (Jg.or CN)
end
noncomputable def wz{α}(c:Nat->Nat->Bool):KasT α -> α
 | .ret a=>a
 | .ask i j k=>wz c (k (c i j))
noncomputable def yK{α}(n:Nat)(c:Nat->Nat->Bool):KasT α ->Bool
 | .ret _=>true
 | .ask i j k=>decide (i < n)&&decide (j < n)&& !decide (i=j)&&yK n c (k (c i j))
theorem q8{α :Type}{cmp:Nat->Nat->(Bool->RD->Prop)->RD->Prop}{n:Nat}{c:Nat->Nat->Bool}{s:RD}(hc: ∀ i j C,i < n->j < n->i≠j->C (c i j) s->cmp i j C s){Q: α ->RD->Prop} :
  ∀ t:KasT α,yK n c t=true->Q (wz c t) s->t.kasWp cmp Q s
 | .ret a,_,q=>q
 | .ask i j k,h,q=>by
  simp only[yK,RT,decide_eq_true_eq,Th,decide_eq_false_iff_not] at h;exact hc i j _ h.1.1.1 h.1.1.2 h.1.2 (q8 hc (k (c i j)) h.2 q)
def fC{α} n (c:Nat->Nat->Bool) (t:KasT α) (Q: α ->Prop):=yK n c t=true/\Q (wz c t)
theorem fC.ret{α :Type}{n:Nat}{c:Nat->Nat->Bool}{a: α}{Q: α ->Prop}(h:Q a):fC n c (.ret a) Q:=⟨rfl,h⟩
theorem fC.ask{α :Type}{n:Nat}{c:Nat->Nat->Bool}{i j:Nat}{k:Bool->KasT α}{Q: α ->Prop}(hi:i < n)(hj:j < n)(hij:i≠j)(h:fC n c (k (c i j)) Q):fC n c (.ask i j k) Q :=
 ⟨by simp only[yK,hi,hj,hij,h.1,decide_true,decide_false,Yb,U0],h.2⟩
theorem fC.bind: ∀{t},fC n c t (λa=>fC n c (f a) Q)->fC n c (t.bind f) Q
 | .ret a,h=>h.2
 | .ask i j k,h=>by
  have e:=h.1;simp only[yK,RT,decide_eq_true_eq,Th,decide_eq_false_iff_not] at e;exact fC.ask e.1.1.1 e.1.1.2 e.1.2 (fC.bind (t:=k (c i j)) ⟨e.2,h.2⟩)
theorem fC.mono(h:fC n c t Q)(f: ∀ a,Q a->Q' a):fC n c t Q':=⟨h.1,f _ h.2⟩
structure fc(n:Nat)(p:Array Nat):Prop where
 perm:p.toList.Perm (RJ n)
theorem fc.size(h:fc n p):p.size=n:=by simpa using h.perm.length_eq
theorem fc.lt(h:fc n p)(hi:i < n):p.getD i 0 < n:=by
 have hi':=h.size ▸ hi;have:p.getD i 0∈p.toList:=by
  simp_all
 exact Sf.mp (h.perm.mem_iff.mp this)
theorem fc.ne(h:fc n p)(hi:i < n)(hj:j < n)(hij:i≠j):p.getD i 0≠p.getD j 0:=λe=>by
 have hi':=h.size ▸ hi;have hj':=h.size ▸ hj;have nd:=h.perm.nodup_iff.mpr List.nodup_range;rw[SM,SM,TN hi',TN hj'] at e;exact hij ((U4 (by omega) nd).mp (by simp_all))
theorem fc.of(h:fc n p)(pm:q.Perm p):fc n q:=⟨(Array.perm_iff_toList_perm.mp pm).trans h.perm⟩
theorem uN n:fc n (List.toArray (RJ n)):=⟨Z6 _⟩
section
variable{n:Nat}{r:Nat->Nat}
noncomputable def rk(r:Nat->Nat)(p:Array Nat) i:=r (p.getD i 0)
def nN(r:Nat->Nat)(p:Array Nat) k:= ∀ i j,i < j->j < k->rk r p i < rk r p j
def nv(r:Nat->Nat)(p:Array Nat) k:= ∀ i j,i < j->j < k->rk r p j < rk r p i
noncomputable def cN(r:Nat->Nat) i j:=decide (r i < r j)
def qu n (r:Nat->Nat):= ∀ i j,i < n->j < n->r i=r j->i=j
theorem zE(hr:qu n r)(h:fc n p)(hi:i < n)(hj:j < n)(hij:i≠j):rk r p i≠rk r p j:=λe=>h.ne hi hj hij (hr _ _ (h.lt hi) (h.lt hj) e)
theorem Et(h:nN r p k)(hk:1<=k)(x:rk r p (k - 1) < rk r p k):nN r p (k+1):=λi j hij hj=>by
 rcases Ug j k with c | c
 . exact h i j hij c
 . have:j=k:=by omega
   subst this;rcases Ug i (j - 1) with d | d
   . exact Wf (h i (j - 1) d (by omega)) x
   . grind
theorem oB(h:nv r p k)(hk:1<=k)(x:rk r p k < rk r p (k - 1)):nv r p (k+1):=λi j hij hj=>by
 rcases Ug j k with c | c
 . exact h i j hij c
 . have:j=k:=by omega
   subst this;rcases Ug i (j - 1) with d | d
   . exact Wf x (h i (j - 1) d (by omega))
   . grind
theorem uI(hr:qu n r)(h:fc n p): ∀ f m,1<=m->m+f<=n->nN r p m ->
  fC n (cN r) (kas_asc p f m) λm'=>m<=m'/\m'<=m+f/\nN r p m'/\(m' < m+f->rk r p m' < rk r p (m' - 1))
 | 0,m,h1,hm,u=>fC.ret ⟨RE _,RE _,u,λx=>absurd x (Sn _)⟩
 | f+1,m,h1,hm,u=>by
  refine fC.ask (h.lt (by omega)) (h.lt (by omega)) (h.ne (by omega) (by omega) (by omega)) ?_;have ne:=zE hr h (i:=m) (j:=m - 1) (by omega) (by omega) (by omega);by_cases c:rk r p m < rk r p (m - 1)
  . have e:cN r (p.getD m 0) (p.getD (m - 1) 0)=true:=decide_eq_true c;rw[e];exact fC.ret ⟨RE _,by omega,u,λ_=>c⟩
  . have e:cN r (p.getD m 0) (p.getD (m - 1) 0)=false:=decide_eq_false c;rw[e];refine(uI hr h f (m+1) (by omega) (by omega) (Et u h1 (by omega))).mono λm' x=>⟨by omega,by omega,x.2.2.1,λy=>x.2.2.2 (by omega)⟩
theorem vo(hr:qu n r)(h:fc n p): ∀ f m,1<=m->m+f<=n->nv r p m ->
  fC n (cN r) (kas_desc f p m 0) λt=>t.1=p/\t.2.2=0/\m<=t.2.1/\t.2.1<=m+f/\nv r p t.2.1
 | 0,m,h1,hm,u=>fC.ret ⟨rfl,rfl,RE _,RE _,u⟩
 | f+1,m,h1,hm,u=>by
  refine fC.ask (h.lt (by omega)) (h.lt (by omega)) (h.ne (by omega) (by omega) (by omega)) ?_;have ne:=zE hr h (i:=m) (j:=m - 1) (by omega) (by omega) (by omega);by_cases c:rk r p m < rk r p (m - 1)
  . have e:cN r (p.getD m 0) (p.getD (m - 1) 0)=true:=decide_eq_true c;rw[e,if_pos rfl];refine(vo hr h f (m+1) (by omega) (by omega) (oB u h1 c)).mono λt x=>⟨x.1,x.2.1,by omega,by omega,x.2.2.2.2⟩
  . have e:cN r (p.getD m 0) (p.getD (m - 1) 0)=false:=decide_eq_false c;rw[e];refine fC.ask (h.lt (by omega)) (h.lt (by omega)) (h.ne (by omega) (by omega) (by omega)) ?_;have e2:cN r (p.getD (m - 1) 0) (p.getD m 0)=true:=decide_eq_true (show rk r p (m - 1) < rk r p m by omega);rw[e2];exact fC.ret ⟨rfl,rfl,RE _,Nat.le_add_right _ _,u⟩
theorem Az(hm:m<=p.size) k:rk r (kas_rev p 0 m) k=if k < m then rk r p (m - 1 - k) else rk r p k:=by
 unfold rk kas_rev;rw[SM,getElem?_mirror_all hm];by_cases c:k < m
 . simp_all
 . rw[if_neg (λx=>c x.2),if_neg c,SM]
theorem AO(hr:qu n r)(h:fc n p)(h1:1<=m)(hm:m<=n)(u:nv r p m):fC n (cN r) (kas_tail3 m n p) λt=>fc n t.2/\1<=t.1/\t.1<=n/\nN r t.2 t.1:=by
 have h':fc n (kas_rev p 0 m):=h.of (mirror_perm _ _ _ _);refine fC.bind ((uI hr h' (n - m) m h1 (by omega) λi j hij hj=>?_).mono λm' x=>fC.ret ⟨h',by omega,by omega,x.2.2.1⟩);rw[Az (by rw[h.size];exact hm),Az (by rw[h.size];exact hm),if_pos (by omega),if_pos hj];exact u _ _ (by omega) (by omega)
theorem BP(hr:qu n r)(h:fc n p)(h1:1<=n):fC n (cN r) (kas_count n p) λt=>fc n t.2/\1<=t.1/\t.1<=n/\nN r t.2 t.1:=by
 refine fC.bind ((uI hr h (n - 1) 1 (RE _) (by omega) λi j hij hj=>by omega).mono λm x=>?_);obtain⟨x1,x2,x3,x4⟩:=x;by_cases c:m=n
 . rw[if_pos (by simpa using c)];exact fC.ret ⟨h,x1,by omega,x3⟩
 . rw[if_neg (by simpa using c)];by_cases c2:m > 1
   . rw[if_pos c2];refine fC.ask (h.lt (by omega)) (h.lt (by omega)) (h.ne (by omega) (by omega) (by omega)) ?_;have e2:cN r (p.getD 0 0) (p.getD (m - 1) 0)=true:=decide_eq_true (x3 0 (m - 1) (by omega) (by omega));rw[e2];exact fC.ret ⟨h,x1,by omega,x3⟩
   . have:m=1:=by omega
     subst this;refine fC.bind ((vo hr h (n - (1+1)) (1+1) (by omega) (by omega) (oB (λi j hij hj=>by omega) (RE _) (x4 (by omega)))).mono λt y=>?_);obtain⟨y1,y2,y3,y4,y5⟩:=y;rw[if_neg (by omega),y1];exact AO hr h (by omega) (by omega) y5
theorem lM(hr:qu n r)(h:fc n p)(hk:k < n)(u:nN r p k): ∀ f l m,l<=m->m<=k->m - l<=f->(∀ i,i < l->rk r p i < rk r p k)->(∀ i,m<=i->i < k->rk r p k < rk r p i) ->
  fC n (cN r) (kas_place p k f l m) λt=>t<=k/\(∀ i,i < t->rk r p i < rk r p k)/\(∀ i,t<=i->i < k->rk r p k < rk r p i)
 | 0,l,m,h1,h2,h3,a,b=>fC.ret ⟨by omega,a,λi hi hik=>b i (by omega) hik⟩
 | f+1,l,m,h1,h2,h3,a,b=>by
  unfold kas_place;by_cases c:l ≥ m
  . rw[if_pos c];exact fC.ret ⟨by omega,a,λi hi hik=>b i (by omega) hik⟩
  . rw[if_neg c];refine fC.ask (h.lt (by omega)) (h.lt (by omega)) (h.ne (by omega) (by omega) (by omega)) ?_;have ne:=zE hr h (i:=k) (j:=(l+m) / 2) (by omega) (by omega) (by omega);by_cases d:rk r p k < rk r p ((l+m) / 2)
    . have e:cN r (p.getD k 0) (p.getD ((l+m) / 2) 0)=true:=decide_eq_true d;rw[e];refine lM hr h hk u f l ((l+m) / 2) (by omega) (by omega) (by omega) a λi hi hik=>?_;rcases Ug ((l+m) / 2) i with z | z
      . exact Wf d (u _ _ z hik)
      . grind
    . have e:cN r (p.getD k 0) (p.getD ((l+m) / 2) 0)=false:=decide_eq_false d;rw[e];refine lM hr h hk u f ((l+m) / 2+1) m (by omega) (by omega) (by omega) (λi hi=>?_) b;have d':rk r p ((l+m) / 2) < rk r p k:=by omega
      rcases Ug i ((l+m) / 2) with z | z
      . exact Wf (u _ _ z (by omega)) d'
      . grind
theorem oR(hk:k < p.size)(hd:d<=k) i:rk r (bubble p k d) i=if i=k - d then rk r p k else if k - d < i/\i<=k then rk r p (i - 1) else rk r p i:=by
 have g: ∀(q:Array Nat)(j:Nat),rk r q j=r (q[j]?.getD 0):=λq j=>by unfold rk;rw[SM]
 rw[g,g,g,g,getElem?_bubble hk d hd]
 repeat' split
 all_goals rfl
theorem zT(hr:qu n r): ∀ f p k,fc n p->k+f=n->nN r p k->fC n (cN r) (kas_bin f p k) λq=>fc n q/\nN r q n
 | 0,p,k,h,e,u=>fC.ret ⟨h,(show k=n from e) ▸ u⟩
 | f+1,p,k,h,e,u=>by
  refine fC.bind ((lM hr h (by omega) u k 0 k (by omega) (by omega) (by omega) (λi hi=>by omega) (λi h1 h2=>by omega)).mono λl x=>?_);obtain⟨x1,x2,x3⟩:=x;refine zT hr f _ (k+1) (h.of (bubble_perm _ _ _)) (by omega) λi j hij hj=>?_;have hs:k < p.size:=by rw[h.size];omega
  rw[oR hs (by omega),oR hs (by omega)]
  repeat' split
  all_goals first | (exfalso;omega) | exact u _ _ (by omega) (by omega) | exact x2 _ (by omega) | exact x3 _ (by omega) (by omega)
theorem C0(hr:qu n r)(h1:1<=n):fC n (cN r) (UU n) λq=>fc n q/\nN r q n:=by
 refine fC.bind ((BP hr (uN n) h1).mono λt x=>?_);obtain⟨x1,x2,x3,x4⟩:=x;by_cases c:t.1 < n
 . rw[if_pos c];have:max t.1 1=t.1:=by omega
   rw[this];exact zT hr _ _ _ x1 (by omega) x4
 . rw[if_neg c];have:t.1=n:=by omega
   exact fC.ret ⟨x1,this ▸ x4⟩
end
theorem tu(h: ∀ i j,i < n->j < n->c i j=c' i j): ∀ t:KasT α,yK n c' t=true->yK n c t=true/\wz c t=wz c' t
 | .ret a,_=>⟨rfl,rfl⟩
 | .ask i j k,e=>by
  simp only[yK,RT,decide_eq_true_eq,Th,decide_eq_false_iff_not] at e;have hc:=h i j e.1.1.1 e.1.1.2;have:=tu h (k (c' i j)) e.2;simp only[yK,wz,RT,decide_eq_true_eq,Th,decide_eq_false_iff_not];rw[hc];exact⟨⟨e.1,this.1⟩,this.2⟩
def iB(a b:Str):=a.cps.toList < b.cps.toList
instance (a b:Str):Decidable (iB a b):=inferInstanceAs (Decidable (a.cps.toList < b.cps.toList))
theorem gf a: ¬ iB a a:=List.lt_irrefl _
theorem ie(h1:iB a b)(h2:iB b c):iB a c:=List.lt_trans h1 h2
theorem oQ(h:iB a b): ¬ iB b a:=λz=>gf a (ie h z)
theorem Fe{ b:Str}(h:a.cps.toList=b.cps.toList):a=b:=by
 cases a;simp only at h;rw[Zl.mp h]
theorem kg(h:a≠b):iB a b\/iB b a:=by
 by_cases h1:iB a b
 . exact .inl h1
 . by_cases h2:iB b a
   . exact .inr h2
   . exact absurd (Fe (List.le_antisymm (List.not_lt.mp h2) (List.not_lt.mp h1))) h
noncomputable def jv(xs:List Str) x:=(xs.filter λy=>decide (iB y x)).length
theorem oV(hx:x∈xs)(h:iB x y):jv xs x < jv xs y:=by
 unfold jv;have sub: ∀ l:List Str,(l.filter λz=>decide (iB z x)).length<=(l.filter λz=>decide (iB z y)).length:=λl=>by
  induction l with
  | nil=>exact RE _
  | cons z r ih =>
   by_cases h1:iB z x
   . rw[Sw (by simpa using h1),Sw (by simpa using ie h1 h)];simpa using ih
   . rw[SO (by simpa using h1)];by_cases h2:iB z y
     . rw[Sw (by simpa using h2)];exact Ux ih
     . rw[SO (by simpa using h2)];exact ih
 induction xs with
 | nil=>cases hx
 | cons z r ih =>
  rcases RW.mp hx with rfl | hr
  . rw[SO (by simpa using gf x),Sw (by simpa using h)];exact YX (sub r)
  . by_cases h1:iB z x
    . rw[Sw (by simpa using h1),Sw (by simpa using ie h1 h)];simpa using ih hr
    . rw[SO (by simpa using h1)];by_cases h2:iB z y
      . rw[Sw (by simpa using h2)];exact Uw (ih hr)
      . rw[SO (by simpa using h2)];exact ih hr
theorem Bh(hx:x∈xs)(hy:y∈xs):jv xs x < jv xs y↔iB x y:=by
 refine⟨λh=>?_,oV hx⟩;by_cases e:x=y
 . simp_all
 . rcases kg e with z | z
   . exact z
   . exact absurd (oV hy z) (Nat.lt_asymm h)
noncomputable def cS(xs:List Str) i j:=decide (iB (xs.getD i "") (xs.getD j ""))
theorem getD_mem{xs:List Str}(h:i < xs.length):xs.getD i "" ∈xs:=by
 simp_all
theorem rK(h1:1<=xs.length)(nd:xs.Nodup) :
  yK xs.length (cS xs) (UU xs.length)=true/\(wz (cS xs) (UU xs.length)).toList.Perm (RJ xs.length)/\((wz (cS xs) (UU xs.length)).toList.map λi=>xs.getD i "").Pairwise iB:=by
 have rkI: ∀ i j,i < xs.length->j < xs.length->(jv xs (xs.getD i "") < jv xs (xs.getD j "")↔iB (xs.getD i "") (xs.getD j "")):=λi j hi hj=>Bh (getD_mem hi) (getD_mem hj);have hr:qu xs.length λi=>jv xs (xs.getD i ""):=λi j hi hj e=>by
  have a:=rkI i j hi hj;have b:=rkI j i hj hi;have e':=Decidable.byContradiction λne=>by
   rcases kg ne with z | z
   . have:=a.mpr z;simp only at e;omega
   . grind
  rw[R8,R8,RH hi,RH hj] at e';exact(U4 hi nd).mp (by rw[RH hi,RH hj];exact congrArg fv e')
 have ok:=C0 hr h1;have al: ∀ i j,i < xs.length->j < xs.length->cS xs i j=cN (λi=>jv xs (xs.getD i "")) i j:=λi j hi hj=>by
  unfold cS cN;rw[decide_eq_decide];exact(rkI i j hi hj).symm
 have ea:=tu al (UU xs.length) ok.1;rw[ea.2];have sh:=ok.2.1;refine⟨ea.1,sh.perm,?_⟩;rw[VM,List.pairwise_iff_getElem];intro i j hi hj hij;have hj':j < xs.length:=by rw[<- sh.size];simpa using hj
 have:=ok.2.2 i j hij hj';have:=(rkI _ _ (sh.lt (by omega)) (sh.lt hj')).mp this;rw[SM,SM,TN (by omega),TN (by omega)] at this;simpa using this
section
variable{prog:Sv}{w:SQ}{A:Ti}{E:RA->RD->Prop}{s:RD}
noncomputable def bZ(h:S6) a (vs:List RA):=((h.update a (Uz λ_=>(#[]))).push (Vl "tuple" vs.toArray 0)).push (Vl "list" #[] 0)
theorem lS(hb:b < h.objs.size):(bZ h a vs).get? b=(h.update a (Uz λ_=>(#[]))).get? b :=
 (VN _ _ _ (R1 (Wt (Uw hb) ((size_push' _ _).trans (congrArg (· +1) (Xh _ _ _))).symm))).trans
  (VN _ _ _ (R1 (Wt hb (Xh _ _ _).symm)))
theorem sf(hb:b≠a)(e:h.get? b=fv o):(bZ h a vs).get? b=fv o :=
 (lS (RI e)).trans ((Yo _ _ _ _ hb).trans e)
theorem kF{vs:List RA}(h:vs.length < 64):vs.length<=RF:=R5 (Uv h) (by decide)
theorem oh{a:RQ}{vs:List RA}{n:Nat}{P:PySem.Fin->RD->Prop}{κ :Y4}{G:Array Nat->Prop}(ho:s.heap.get? a=fv (Vl "list" vs.toArray n))(h64:vs.length < 64)
  (hk:2<=vs.length-> ∀ Q':Y4->RD->Prop,Q' κ { s with heap:=bZ s.heap a vs}->RX (R4 prog w) A (keyKind' vs.toArray) Q' E { s with heap:=bZ s.heap a vs})
  (ha:2<=vs.length-> ∀ Q':Array Nat->RD->Prop,(∀ p,G p->Q' p { s with heap:=bZ s.heap a vs})->(UU vs.length).kasWp (kas_ask prog w A κ vs) Q' { s with heap:=bZ s.heap a vs})
  (h0:vs.length < 2->P (.done (.ret .none)) { s with heap:=Xz s.heap a vs vs.toArray})
  (h: ∀ p:Array Nat,p.size=vs.length->G p->P (.done (.ret .none)) { s with heap:=Xz s.heap a vs (p.toList.map λi=>vs.getD i Uy).toArray}):RX (R4 prog w) A (Vw.«list.sort» ⟨[.ref a],[]⟩) P E s:=by
 obtain⟨ep,g1⟩: ∃ k,(s.heap.update a (Uz λ_=>(#[]))).get? a=fv (Vl "list" #[] k):=⟨_,ZG ho λ_=> #[]⟩
 have g2:(bZ s.heap a vs).get? a=fv (Vl "list" #[] ep):=(lS (RI ho)).trans g1;have z:=R6 (as:=vs);rw[list_sort_plain];refine Ru (Y5 ho rfl (Ru (WW ho rfl (Ru (Zz g1 rfl (Ru (wpAny_newTuple (Ru (VY (Tx ?_) (Si _))) (kF h64))))) (z ▸ kF h64) (Si _))));show RX (R4 prog w) A _ P E { s with heap:=bZ s.heap a vs};dsimp only;have last: ∀ out:Array RA,out.size<=RF->P (.done (.ret .none)) { s with heap:=Xz s.heap a vs out}->P (.done (.ret .none)) { s with heap:=(bZ s.heap a vs).update a (Uz λ_=>out)}:=λ_ _ q=>q;rcases Ug vs.toArray.size 2 with c | c
 . rw[if_pos c,if_pos c];have e:(arrOf (SortSt.mk' general' (vs.toArray.zip vs.toArray) #[] 7 Rv)).map (·.2)=vs.toArray:=by
    apply Zl.mp;rw[Array.toList_map,Array.toList_zip];exact List.map_snd_zip (RE _)
   refine Ru (m:=pure general') (RG ?_);refine Ru (RG (Ru (Zz g2 rfl (Ru (WW g2 rfl ?_ (Si _) (hsz2:=by rw[e,z];exact Ux (kF h64)))))));rw[if_neg (by simp)];refine RG ?_;rw[e];exact last _ (by rw[z];exact kF h64) (h0 (z ▸ c))
 . rw[if_neg (YG.mpr c),if_neg (YG.mpr c)];have c':=z ▸ c;have run:=kat_run (E:=E) (ks:=vs) (vs:=vs) (Q:=λst u=>u={ s with heap:=bZ s.heap a vs}/\ ∃ p ,p.size=vs.length/\arrOf st=p.map (kas_item (vs.toArray.zip vs.toArray))/\failedOf st=Rv/\G p)
    (G:=λp u=>u={ s with heap:=bZ s.heap a vs}/\G p) rfl c' h64 (λp st u b1 b2 b3 b4=>⟨b4.1,p,b1,b2,b3,b4.2⟩) (ha c' _ λp g=>⟨rfl,g⟩)
   refine Ru (hk c' _ (Ru (Sq run (λr u x=>?_) λ_ _ x=>x)));obtain⟨⟨⟩,st⟩:=r;obtain⟨rfl,p,hp,har,hf,g⟩:=x;have el:(List.toArray (p.toList.map λi=>vs.getD i Uy)).size<=RF:=by rw[R6,RB,T7,hp];exact kF h64
   rw[kat_snds rfl har,hf];refine Ru (Zz g2 rfl (Ru (WW g2 rfl ?_ (Si _) (Ux el))));rw[if_neg (by simp)];exact RG (last _ el (h p hp g))
abbrev jY(h:S6)(vs:List RA):S6:=((h.push (Vl "list" #[] 0)).update h.objs.size (Uz (· ++vs.toArray))).push (Vl "list" vs.toArray 0)
theorem dW(h:S6)(vs:List RA):((h.push (Vl "list" #[] 0)).update h.objs.size (Uz (· ++vs.toArray))).objs.size=h.objs.size+1:=(Xh _ _ _).trans (size_push' _ _)
theorem gA h vs:(jY h vs).get? (h.objs.size+1)=fv (Vl "list" vs.toArray 0):=(dW h vs) ▸ RO _ rfl
theorem rB(e:h.get? b=fv o):(jY h vs).get? b=fv o:=by
 have l:=RI e;have z:=dW h vs;exact(VN _ _ _ (R1 (Wt (Uw l) z.symm))).trans ((Yo _ _ _ _ (R1 l)).trans ((VN _ _ _ (R1 l)).trans e))
theorem uO{l:RQ}{vs:List RA}{Q:RA->RD->Prop}{κ :Y4}{G:Array Nat->Prop}(hl:s.heap.IsList l vs.toArray)(h64:vs.length < 64)
  (hk: ∀ h':S6,(∀ b o,s.heap.get? b=fv o->h'.get? b=fv o)->2<=vs.length-> ∀ Q':Y4->RD->Prop,Q' κ { s with heap:=h'}->RX (R4 prog w) A.in1.in1 (keyKind' vs.toArray) Q' E { s with heap:=h'})
  (ha: ∀ h':S6,(∀ b o,s.heap.get? b=fv o->h'.get? b=fv o)->2<=vs.length-> ∀ Q':Array Nat->RD->Prop,(∀ p,G p->Q' p { s with heap:=h'})->(UU vs.length).kasWp (kas_ask prog w A.in1.in1 κ vs) Q' { s with heap:=h'})
  (h0:vs.length < 2->Q (.ref (s.heap.objs.size+1)) { s with heap:=Zm s.heap vs vs.toArray})
  (h: ∀ p:Array Nat,p.size=vs.length->G p->Q (.ref (s.heap.objs.size+1)) { s with heap:=Zm s.heap vs (p.toList.map λi=>vs.getD i Uy).toArray}):RX (R4 prog w) A (call (.builtin "sorted") [.ref l]) Q E s:=by
 have kp: ∀ b o,s.heap.get? b=fv o->(bZ (jY s.heap vs) (s.heap.objs.size+1) vs).get? b=fv o:=λb o e=>sf (R1 (Uw (RI e))) (rB e);refine Vg Zx YY YZ (Y0 (.ref l)) ?_;refine Ru (m:=Z4 "sorted" 1 1 [R0 l].length) (RG (Ru (collect_list hl (Ru (VY ?_ (kF h64))) (kF h64))));show RX _ _ _ _ _ { s with heap:=jY s.heap vs};rw [dW];refine Ru (Tx (TQ X0 ⟨_,gA s.heap vs,rfl⟩ XO (oh (G:=G) (κ := κ) (gA s.heap vs) h64 (hk _ kp) (ha _ kp) (λc=>⟨_,rfl,?_⟩) λp hp g=>⟨_,rfl,?_⟩) (X1 (.ref (s.heap.objs.size+1)))))
 . exact RG ⟨_,rfl,h0 c⟩
 . exact RG ⟨_,rfl,h p hp g⟩
end
def iR(H:Hp)(y:V)(q:Str × Int):= ∃ b,y= .ref b/\H b=fv (.tup [.str q.1,.int q.2])
theorem iR.v(h:iR H y q):oE H y (.inr q.1,.int q.2):=h
theorem iR.same{H H':Hp}{y:V}{q:Str × Int}(h:iR H y q)(s:k4 H H'):iR H' y q:=let ⟨b,e,h⟩:=h;⟨b,e,s _ _ h⟩
def Ew(h:S6)(v:RA)(q:Str × Int):= ∃ b o k t u,v= .ref b/\h.get? b=fv o/\o.cls= .type "tuple" /\o.data= .seq #[.str q.1 t,.int q.2 u] k
theorem Ew.kept(k: ∀ b o,h.get? b=fv o->h'.get? b=fv o)(x:Ew h v q):Ew h' v q:=by obtain⟨b,o,n,t,u,e1,e2,e3,e4⟩:=x;exact⟨b,o,n,t,u,e1,k _ _ e2,e3,e4⟩
theorem tE(ok:iS P w H h): ∀{ys ps aj},SW (iR H) ys ps->Vals ys aj->SW (Ew h) aj ps
 | _,_,_,.nil,.nil=> .nil
 | _,_,_,.cons hp hr,.cons hv hrv=>by
  obtain⟨b,rfl,hb⟩:=hp;obtain⟨_,its0,r0,o,e1,e2,n,e3,_⟩:=(show aN P w H h b (.tup [.str _,.int _]) from ok b _ hb)
  obtain⟨u1,u2,rfl,⟨t1,rfl⟩,⟨t2,rfl⟩⟩:=vals2 r0;cases(show _=R0 b from hv);exact .cons ⟨b,o,n,t1,t2,rfl,e1,e2,e3⟩ (tE ok hr hrv)
theorem qc: ∀{vs ps},SW (Ew h) vs ps-> ∀{i},i < vs.length-> ∃ q,ps[i]?=fv q/\Ew h (vs.getD i Uy) q
 | _,_,.nil,i,hi=>absurd hi (Vx _)
 | _,_,.cons hp hr,0,_=>⟨_,rfl,hp⟩
 | _,_,.cons hp hr,i+1,hi=>by
  obtain ⟨q,e,a⟩:=qc hr (i:=i) (by simp_all);exact ⟨q,by simpa using e,by simpa using a⟩
theorem tf : ∀{vs ps}, SW (Ew h) vs ps -> ∃ fs, KatTups h vs fs /\ fs.length = vs.length /\ ∀ v ∈ fs, ∃ x t, v = VS x t
  | _, _, .nil => ⟨[], .nil, rfl, λv m => by cases m⟩
  | _, _, .cons hp hr => by
    obtain ⟨fs, k, l, st⟩ := tf hr;obtain ⟨b, o, n, t, u, rfl, e1, e2, e3⟩ := hp
    exact ⟨_, .cons e1 e2 e3 rfl k, by simp [l], fun v m => by rcases List.mem_cons.mp m with rfl | m; · exact ⟨_, _, rfl⟩
                                                               . exact st v m⟩
section
variable {prog:Sv} {w:SQ} {A:Ti} {E:RA->RD->Prop} {s:RD}
theorem xB{vs:List RA}{ps:List (Str × Int)}(hp:SW (Ew s.heap) vs ps)(nd:(ps.map (·.1)).Nodup){i j:Nat}{C:Bool->RD->Prop}(hi:i < vs.length)(hj:j < vs.length)(hij:i≠j)(h:C (cS (ps.map (·.1)) i j) s):kas_ask prog w A (tuples' true) vs i j C s:=by
 obtain⟨q1,f1,b1,o1,n1,t1,u1,e1,g1,c1,d1⟩:=qc hp hi;obtain⟨q2,f2,b2,o2,n2,t2,u2,e2,g2,c2,d2⟩:=qc hp hj;have hne:q1.1≠q2.1:=λz=>hij ((U4 (by rw[RB];exact(RC.mp f1).1) nd).mp (by simp_all));unfold kas_ask;rw[e1,e2];refine kat_lt g1 d1 g2 d2 (YE q1.1 t1 q2.1 t2 _ _ _ _ ?_);refine Ri (by simpa using hne) ?_;refine oneLt_str ?_;have e:cS (ps.map (·.1)) i j=decide (q1.1.cps.toList < q2.1.cps.toList):=by
  unfold cS;rw[R8,R8,RP,RP,f1,f2];rfl
 rw[e] at h;exact h
theorem uK{vs:List RA}{ps:List (Str × Int)}(hp:SW (Ew s.heap) vs ps)(h2:2<=vs.length){Q':Y4->RD->Prop}(q:Q' (tuples' true) s):RX (R4 prog w) A (keyKind' vs.toArray) Q' E s:=by
 obtain⟨fs,k,l,st⟩:=tf hp;refine kat_kind (T:= .type "str") k (by omega) (λv m=>?_) (by decide) q;obtain⟨x,t,rfl⟩:=st v m;exact Looks.now
end
theorem nE: ∀{xs:List α}{zs:List β},SW R xs zs-> ∀{i} d e,i < xs.length->R (xs.getD i d) (zs.getD i e)
 | _,_,.nil,i,_,_,hi=>absurd hi (Vx _)
 | _,_,.cons hp hr,0,_,_,_=>hp
 | _,_,.cons hp hr,i+1,d,e,hi=>by simpa using nE hr (i:=i) d e (by simp_all)
theorem kO{xs:List α}{zs:List β}(hp:SW R xs zs) d e: ∀{is:List Nat},(∀ i∈is,i < xs.length)->SW R (is.map λi=>xs.getD i d) (is.map λi=>zs.getD i e)
 | [],_=> .nil
 | i::r,hi=> .cons (nE hp d e (hi i RU)) (kO hp d e λj m=>hi j (RS _ m))
theorem sS: ∀{xs us},Vals xs us-> ∀{i},i < xs.length->RelV (xs.getD i .non) (us.getD i .none)
 | _,_,.nil,i,hi=>absurd hi (Vx _)
 | _,_,.cons hp hr,0,_=>hp
 | _,_,.cons hp hr,i+1,hi=>by simpa using sS hr (i:=i) (by simp_all)
theorem oG(h:Vals xs us): ∀{is:List Nat},(∀ i∈is,i < xs.length)->Vals (is.map λi=>xs.getD i .non) (is.map λi=>us.getD i .none)
 | [],_=> .nil
 | i::r,hi=> .cons (sS h (hi i RU)) (oG h λj m=>hi j (RS _ m))
theorem xc{α :Type} l (d: α):(RJ l.length).map (λi=>l.getD i d)=l:=by
 refine List.ext_getElem? λi=>?_;rw[RP];by_cases h:i < l.length
 . simp[h]
 . simp_all
def ve(K:Rx):List V->Hp->VK->Prop:=λxs H Q=> ∃(p:RQ)(ys:List V)(ps:List (Str × Int)),xs=[.ref p]/\fO K H p ys/\SW (iR H) ys ps/\ps.length < 64/\(ps.map (·.1)).Nodup /\
 ∀ l ys' ps',H l=Rv->ps'.Perm ps->(ps'.map (·.1)).Pairwise iB->SW (iR H) ys' ps'->Q (.ref l) (upd H l (.lst ys'))
section
variable{X:Cx}
theorem pM:aG X (.builtin "sorted") (ve X.K):=by
 intro pins s σ H xs us Q I r h;obtain⟨p,ys,ps,rfl,hS,hP,h5,nd,q⟩:=h;obtain⟨u,rfl,ru⟩:=vals1 r;cases(show u=R0 p from ru);obtain⟨aj,hv,hl,hz⟩:=I.list hS;have hat:=tE I.aW hP hv;have hlen:=hv.length;have hpl:=Vo hP;have fs0:=rK (xs:=ps.map (·.1))
 rw[RB] at fs0;have el:aj.length=ps.length:=by omega
 have fin: ∀(out:List RA)(ys':List V)(ps':List (Str × Int)),ys'.length=ps.length->Vals ys' out->ps'.Perm ps->(ps'.map (·.1)).Pairwise iB->SW (iR H) ys' ps'->EP X pins σ Q (.ref (s.heap.objs.size+1)) { s with heap:=Zm s.heap aj out.toArray}:=λout ys' ps' hl' hv' pm pw pp=>by
  obtain⟨e,he⟩:=Y1 s.heap aj out.toArray;obtain⟨hn,I'⟩:=I.kA (a:=s.heap.objs.size+1) (o:= .lst ys') (t':=s.toks) (λb o e=>Yv e) (TY (WI _)) ⟨by rw[hl'];exact R5 (Uv h5) (by decide),out,e,hv',by simpa [Vl] using he⟩;exact⟨.ref _,_,I',rfl,q _ ys' ps' hn pm pw pp⟩
 refine uO (κ :=tuples' true) (G:=λp=>2<=aj.length/\p=wz (cS (ps.map (·.1))) (UU ps.length)) hl.isList (by omega)
  (λh' k h2 Q' hq=>uK (s:={ s with heap:=h'}) (Paired.yc hat λv q x=>x.kept k) h2 hq)
  (λh' k h2 Q' hq=>q8 (n:=aj.length) (c:=cS (ps.map (·.1))) (λi j C hi hj hij hc=>xB (s:={ s with heap:=h'}) (Paired.yc hat λv q x=>x.kept k) nd hi hj hij hc) _ (by rw[el];exact(fs0 (by omega) nd).1) (hq _ ⟨h2,by rw[el]⟩))
  (λh2=>?_) λpp hpp g=>?_
 . refine fin aj ys ps (by omega) hv (Z6 _) ?_ hP;cases ps with
   | nil=>exact .nil
   | cons x r=>cases r with
    | nil=>exact Xi _ _
    | cons y r'=>simp at el;omega
 . obtain⟨g2,g⟩:=g;have fs:=fs0 (by omega) nd;subst g;have lt: ∀ i∈(wz (cS (ps.map (·.1))) (UU ps.length)).toList,i < ps.length:=λi hi=>Sf.mp (fs.2.1.mem_iff.mp hi)
   refine fin _ ((wz (cS (ps.map (·.1))) (UU ps.length)).toList.map λi=>ys.getD i .non) ((wz (cS (ps.map (·.1))) (UU ps.length)).toList.map λi=>ps.getD i ("",0)) ?_ (oG hv λi hi=>by have:=lt i hi;omega) ?_ ?_ (kO hP _ _ λi hi=>by have:=lt i hi;omega)
   . rw[RB,T7,hpp,el]
   . have:=fs.2.1.map (λi=>ps.getD i ("",0));rw[xc] at this;exact this
   . have e:(((wz (cS (ps.map (·.1))) (UU ps.length)).toList.map λi=>ps.getD i ("",0)).map (·.1))=(wz (cS (ps.map (·.1))) (UU ps.length)).toList.map λi=>(ps.map (·.1)).getD i ("" :Str):=by
      rw[Tc];refine Vm λi hi=>?_;show(ps.getD i ("",0)).1=_;rw[R8,R8,RP,RH (lt i hi)];rfl
     rw[e];exact fs.2.2
theorem sQ(hc:X.calm=true):aG X (.builtin "sorted") (λxs H Q=>AM X.K xs H Q\/(BN xs H Q\/ve X.K xs H Q)):=kG.or ((kc hc).or pM)
end
def FC(K:Rx):List V->Hp->VK->Prop:=λxs H Q=> ∃ x p Ts T b,xs=[x,.ref p]/\H p=fv (.tup (aak V.ty Ts))/\iF K H x (.type T)/\Yc K (.type T) (aak U6 Ts)=fv b/\Q (.bl b) H
theorem vR: ∀{Ts:List String}{us},Vals (Ts.map V.ty) us->us=Ts.map U6
 | [],_,.nil=>rfl
 | T::r,u::us,.cons h t=>by rw[vR t,show u=U6 T from h];rfl
section
variable{X:Cx}
theorem pJ:aG X (.builtin "isinstance") (FC X.K):=by
 intro pins s σ H xs us Q I r h;obtain⟨x,p,Ts,T,b,rfl,hp,ty,e,q⟩:=h;obtain⟨u,c,rfl,ru,rc⟩:=vals2 r;cases(show c=R0 p from rc);obtain⟨_,aj,hv,⟨oc,dd,dat,sl⟩,e1,e2,n,e3,_⟩:=(show aN X.prog X.w H s.heap p (.tup (Ts.map V.ty)) from I.aW p _ hp)
 simp only at e2 e3;subst e2 e3;obtain rfl:=vR hv;have fin: ∀ tk,EP X pins σ Q (.bool b) { s with toks:=tk}:=λtk=>⟨.bl b,H,I.tok tk,rfl,q⟩
 generalize hT:U6 T=t at ty e;cases ty with
 | non=>cases(show u=Uy from ru);exact Wh kitx_none I.j9 trivial e1 e nofun fin
 | bl y=>cases(show u=Wj y from ru);exact Wh kitx_bool I.j9 trivial e1 e nofun fin
 | int i=>obtain⟨_,rfl⟩:=(show ∃ t,u=Vc i t from ru);exact Wh kitx_int I.j9 trivial e1 e nofun fin
 | str y=>obtain⟨_,rfl⟩:=(show ∃ t,u=VS y t from ru);exact Wh kitx_str I.j9 trivial e1 e nofun fin
 | flt y=>obtain⟨_,rfl⟩:=(show ∃ t,u=Zt y t from ru);exact Wh ZV I.j9 trivial e1 e nofun fin
 | @lst a xs ea =>
  cases(show u=R0 a from ru)
  obtain⟨_,_,_,_,g⟩:=(show aN X.prog X.w H s.heap a (.lst xs) from I.aW a _ ea)
  exact Wh WQ I.j9 ⟨_,g,rfl⟩ e1 e nofun fin
 | @iW a ob xs ea =>
  cases(show u=R0 a from ru)
  obtain⟨_,_,_,_,_,g⟩:=(show aN X.prog X.w H s.heap a (.iW ob (.lst xs)) from I.aW a _ ea)
  exact Wh WQ I.j9 ⟨_,g,rfl⟩ e1 e nofun fin
 | @tup a xs ea =>
  cases(show u=R0 a from ru)
  obtain⟨_,_,_,o,g1,g2,_⟩:=(show aN X.prog X.w H s.heap a (.tup xs) from I.aW a _ ea)
  exact Wh ZW I.j9 ⟨o,g1,g2⟩ e1 e nofun fin
 | @dK a kvs ea =>
  cases(show u=R0 a from ru)
  obtain⟨_,_,_,_,o,_,_,g1,g2,_⟩:=(show aN X.prog X.w H s.heap a (.dK kvs) from I.aW a _ ea)
  exact Wh WR I.j9 ⟨o,g1,g2.1⟩ e1 e nofun fin
 | @dT a kvs ea =>
  cases(show u=R0 a from ru)
  obtain⟨_,_,_,_,o,_,_,g1,g2,_⟩:=(show aN X.prog X.w H s.heap a (.dT kvs) from I.aW a _ ea)
  exact Wh WR I.j9 ⟨o,g1,g2.1⟩ e1 e nofun fin
 | ins=>cases hT
theorem zF:aG X (.builtin "isinstance") (λxs H Q=>Nn X.K xs H Q\/FC X.K xs H Q):=Cg.or pJ
end
section
variable{prog:Sv}{w:SQ}{A:Ti}{E:RA->RD->Prop}{s:RD}
theorem Qe[Decidable c](hc: ¬ c)(h:RX M A m' Q E s):RX M A (if c then m else m') Q E s:=by rw[if_neg hc];exact h
theorem fU{it t:RQ}{i:Nat}{items:Array RA}{x:RA}{Q:RA->RD->Prop}(hit:s.heap.IsTupleIter it t i)(ht:s.heap.IsTuple t items)(hx:items[i]?=fv x)
  (q: ∀ h',h'.IsTupleIter it t (i+1)->Xo it s.heap h'->Q x { s with heap:=h'}):RX (R4 prog w) A (SU (.ref it)) Q E s:=by
 obtain⟨oi,g1,c1,d1⟩:=id hit;obtain⟨ot,g2,_,k,d2⟩:=id ht;have new:(s.heap.update it (Obj.mapFields (·.setIfInBounds 1 (ZU ((i:Int)+1))))).IsTupleIter it t (i+1):=⟨_,XT _ g1 (Obj.isFreed_of_fields (YH d1 _)),(Obj.cls_mapFields ..).trans c1,(YH d1 _).trans (by rfl)⟩
 refine Ru (Tu (name:=RZ "__next__") hit.typeIs TJ (TQ TJ hit.typeIs VH ?_ (Vz (.ref it))));refine Ru (m:=Yd (.ref it) 0) (Tf g1 d1 (x:= .ref t) rfl (Qe (λz=>by cases z) (Ru (m:=Yd (.ref it) 1) (Tf g1 d1 (x:= .int i 0) rfl (Ru (m:=seqItems? (.ref t)) (T1 g2 d2 ?_))))));dsimp only;rw[Sj,hx];exact Ru (wpAny_setField g1 d1 (by simp) (RG ⟨x,rfl,RG (q _ new (Yp ..))⟩))
theorem kJ{it t:RQ}{i:Nat}{items:Array RA}{Q:RA->RD->Prop}(hh:A.handled=Rv)(hit:s.heap.IsTupleIter it t i)(ht:s.heap.IsTuple t items)(hx:items[i]?=Rv)
  (q: ∀ h' e,Heap.ExtBut it s.heap h'->(∃ o,h'.get? e=fv o/\o.cls= .type "StopIteration")->E (.ref e) { s with heap:=h'}):RX (R4 prog w) A (SU (.ref it)) Q E s:=by
 obtain⟨oi,g1,c1,d1⟩:=id hit;obtain⟨ot,g2,_,k,d2⟩:=id ht;refine Ru (Tu (name:=RZ "__next__") hit.typeIs TJ (TQ TJ hit.typeIs VH ?_ (Vz (.ref it))));refine Ru (m:=Yd (.ref it) 0) (Tf g1 d1 (x:= .ref t) rfl (Qe (λz=>by cases z) (Ru (m:=Yd (.ref it) 1) (Tf g1 d1 (x:= .int i 0) rfl (Ru (m:=seqItems? (.ref t)) (T1 g2 d2 ?_))))));dsimp only;rw[Sj,hx];refine Ru (XA (Ru (wpAny_setField g1 d1 (by simp) (Ru (m:=newExc (.type "StopIteration") []) (Ru (m:=newTuple []) (Tg ?_ (by size_fits)))))));refine Ru (m:=firstArgMember _ _) (wpAny_of_eq (a:=Uy) (by rfl) (Tg ?_ (by size_fits)));refine Ru (wpAny_handled ?_);rw[show A.in1.handled=Rv from hh];exact Ru (RG (wpAny_throw (q _ _ (((Yp ..).extBut.push _).push _) ⟨_,RO _ rfl,rfl⟩)))
structure rf(h:S6)(z TI TO i1 i2 l1 l2:RQ)(k:Nat):Prop where
 xn:IsZip h z TI TO .none
 aj:WX h TI (.ref i1) (.ref i2)
 old: ∃ a b,WX h TO a b
 one:h.IsTupleIter i1 l1 k
 two:h.IsTupleIter i2 l2 k
theorem xJ{z TI TO i1 i2 l1 l2:RQ}{k:Nat}{xs ys:Array RA}{x y:RA}{Q:RA->RD->Prop}(D:Y6 z TI TO i1 i2 l1 l2)(Z:rf s.heap z TI TO i1 i2 l1 l2 k)(t1:s.heap.IsTuple l1 xs)(t2:s.heap.IsTuple l2 ys)(hx:xs[k]?=fv x)(hy:ys[k]?=fv y)
  (q: ∀ h',IsZip h' z TI TO (ZU s.heap.objs.size)->WX h' TI (.ref i1) (.ref i2)->WX h' TO x y->h'.IsTupleIter i1 l1 (k+1)->h'.IsTupleIter i2 l2 (k+1)->WX h' s.heap.objs.size x y ->
   (∀ c o,c≠z->c≠TO->c≠i1->c≠i2->s.heap.get? c=fv o->h'.get? c=fv o)->Q (.ref s.heap.objs.size) { s with heap:=h'}):RX (R4 prog w) A (Vw.«zip.__next__» ⟨[.ref z],[]⟩) (λr u=> ∃ v,r= .done (.ret v)/\Q v u) E s:=by
 obtain⟨hz,hTI,⟨a,b,hTO⟩,o1,o2⟩:=Z;refine Ru (m:=Yd (.ref z) 2) (Tf hz rfl (x:= .bool false) rfl ?_);refine Ru (m:=Yd (.ref z) 3) (Tf hz rfl (x:= .ref TI) rfl (Ru (T1 hTI rfl ?_)));refine Ru (m:=Vt (.ref z)) (Ru (m:=Yd (.ref z) 0) (Tf hz rfl (x:= .none) rfl (RG (OV rfl (Ru (XA ?_))))));refine Ru (m:=Yd (.ref z) 4) (Tf hz rfl (x:= .ref TO) rfl (Ru (Uj hz (by simp) λu1 z1 b1=>?_)))
 replace z1:=z1
 refine Ru ?_;rw[show(#[R0 i1,R0 i2]).toList.zipIdx=[(R0 i1,0),(R0 i2,1)] from rfl,UT];refine Ru (Ru (VZ (Ru (m:=SU (.ref i1)) (fU (o1.at λo e=>b1.extBut _ _ D.i1z e) (t1.at λo e=>b1.extBut _ _ D.l1z e) hx λu2 p1 b2=>RG ?_))));have T2:=b2.extBut _ _ D.TOi1 (b1.extBut _ _ D.TOz hTO);refine Ru (T1 T2 rfl (Ru (V4 T2 λu3 T3 b3=>Ru (ZA (RG ?_)))))
 replace T3:=T3
 have k3: ∀ c o,c≠z->c≠TO->c≠i1->s.heap.get? c=fv o->u3.get? c=fv o:=λc o n1 n2 n3 e=>b3.extBut _ _ n2 (b2.extBut _ _ n3 (b1.extBut _ _ n1 e));dsimp only;rw[UT];refine Ru (Ru (VZ (Ru (m:=SU (.ref i2)) (fU (o2.at λo e=>k3 _ o D.i2z D.TOi2.symm D.i12.symm e) (t2.at λo e=>k3 _ o D.l2z D.l2TO D.l2i1 e) hy λu4 p2 b4=>RG ?_))));have T4:=b4.extBut _ _ D.TOi2 T3;refine Ru (T1 T4 rfl (Ru (V4 T4 λu5 T5 b5=>Ru (ZA (RG ?_)))))
 replace T5:WX u5 TO x y:=T5
 have k5:=λc o n1 n2 n3 n4 e=>b5.extBut _ _ n2 (b4.extBut _ _ n4 (k3 c o n1 n2 n3 e));have sz:=b5.1.trans (b4.1.trans (b3.1.trans (b2.1.trans b1.1)));have z5:=b5.extBut _ _ D.TOz.symm (b4.extBut _ _ D.i2z.symm (b3.extBut _ _ D.TOz.symm (b2.extBut _ _ D.i1z.symm z1)));have p15:=p1.at λo e=>b5.extBut _ _ D.TOi1.symm (b4.extBut _ _ D.i12 (b3.extBut _ _ D.TOi1.symm e));have p25:=p2.at λo e=>b5.extBut _ _ D.TOi2.symm e;have lz:=RI z5;dsimp only;rw[List.forIn_nil];refine RG (Ru (T1 T5 rfl (Ru (wpAny_newTuple ?_ (by show 2<=RF;decide)))));have z6:IsZip (u5.push { cls:= .type "tuple",data:= .seq #[x,y]}) z TI TO .ellipsis:=Ry _ z5;refine Ru (m:=Yq (.ref z) (.ref u5.objs.size)) (Ru (Uj z6 (by simp) λu7 z7 b7=>Uj (show IsZip u7 z TI TO (ZU u5.objs.size) from z7) (by simp) λu8 z8 b8=>RG ⟨_,rfl,?_⟩));have up: ∀ c o,c≠z->u5.get? c=fv o->u8.get? c=fv o:=λc o n e=>b8.extBut _ _ n (b7.extBut _ _ n (Ry _ e));have T8:=b8.extBut _ _ (Ub lz) (b7.extBut _ _ (Ub lz) (RO _ rfl))
 replace z8:=z8
 rw[sz] at z8 T8 ⊢;exact q u8 z8 (up _ _ D.TIz (k5 _ _ D.TIz D.TITO D.TIi1 D.TIi2 hTI)) (up _ _ D.TOz T5) (p15.at λo e=>up _ o D.i1z e) (p25.at λo e=>up _ o D.i2z e) T8 λc o n1 n2 n3 n4 e=>up c o n1 (k5 c o n1 n2 n3 n4 e)
theorem An{z TI TO i1 i2 l1 l2:RQ}{k:Nat}{xs ys:Array RA}{Q:PySem.Fin->RD->Prop}(hh:A.handled=Rv)(D:Y6 z TI TO i1 i2 l1 l2)(Z:rf s.heap z TI TO i1 i2 l1 l2 k)(t1:s.heap.IsTuple l1 xs)(t2:s.heap.IsTuple l2 ys)(he:xs[k]?=Rv\/ys[k]?=Rv)
  (q: ∀ h' e,(∀ c o,c≠z->c≠TO->c≠i1->c≠i2->s.heap.get? c=fv o->h'.get? c=fv o)->(∃ o,h'.get? e=fv o/\o.cls= .type "StopIteration")->E (.ref e) { s with heap:=h'}):RX (R4 prog w) A (Vw.«zip.__next__» ⟨[.ref z],[]⟩) Q E s:=by
 obtain⟨hz,hTI,⟨a,b,hTO⟩,o1,o2⟩:=Z;have ap: ∀(h':S6)(f0:RA)(e:RQ)(o:Obj),IsZip h' z TI TO f0->h'.get? e=fv o->o.cls= .type "StopIteration" ->e≠z:=λh' f0 e o y g c n=>by grind
 refine Ru (m:=Yd (.ref z) 2) (Tf hz rfl (x:= .bool false) rfl ?_);refine Ru (m:=Yd (.ref z) 3) (Tf hz rfl (x:= .ref TI) rfl (Ru (T1 hTI rfl ?_)));refine Ru (m:=Vt (.ref z)) (Ru (m:=Yd (.ref z) 0) (Tf hz rfl (x:= .none) rfl (RG (OV rfl (Ru (XA ?_))))));refine Ru (m:=Yd (.ref z) 4) (Tf hz rfl (x:= .ref TO) rfl (Ru (Uj hz (by simp) λu1 z1 b1=>?_)));refine Ru ?_;rw[show(#[R0 i1,R0 i2]).toList.zipIdx=[(R0 i1,0),(R0 i2,1)] from rfl,UT]
 match hx:xs[k]? with
 | none =>
  refine Ru (Ru (VZ (Ru (m:=SU (.ref i1)) (kJ hh (o1.at λo e=>b1.extBut _ _ D.i1z e) (t1.at λo e=>b1.extBut _ _ D.l1z e) hx λu2 e b2 g=>?_))))
  obtain⟨oe,g1,g2⟩:=g
  have z2:=b2 _ _ D.i1z.symm z1
  exact Uj z2 (by simp) λu3 _ b3=>q u3 e (λc o n1 _ n3 _ y=>b3.extBut _ _ n1 (b2 _ _ n3 (b1.extBut _ _ n1 y))) ⟨oe,b3.extBut _ _ (ap u2 _ e oe z2 g1 g2) g1,g2⟩
 | some x =>
  have hy:=he.resolve_left (by simp_all)
  refine Ru (Ru (VZ (Ru (m:=SU (.ref i1)) (fU (o1.at λo e=>b1.extBut _ _ D.i1z e) (t1.at λo e=>b1.extBut _ _ D.l1z e) hx λu2 p1 b2=>RG ?_))))
  have T2:=b2.extBut _ _ D.TOi1 (b1.extBut _ _ D.TOz hTO)
  refine Ru (T1 T2 rfl (Ru (V4 T2 λu3 T3 b3=>Ru (ZA (RG ?_)))))
  have k3: ∀ c o,c≠z->c≠TO->c≠i1->s.heap.get? c=fv o->u3.get? c=fv o:=λc o n1 n2 n3 e=>b3.extBut _ _ n2 (b2.extBut _ _ n3 (b1.extBut _ _ n1 e))
  dsimp only
  rw[UT]
  refine Ru (Ru (VZ (Ru (m:=SU (.ref i2)) (kJ hh (o2.at λo e=>k3 _ o D.i2z D.TOi2.symm D.i12.symm e) (t2.at λo e=>k3 _ o D.l2z D.l2TO D.l2i1 e) hy λu4 e b4 g=>?_))))
  obtain⟨oe,g1,g2⟩:=g
  have z4:=b4 _ _ D.i2z.symm (b3.extBut _ _ D.TOz.symm (b2.extBut _ _ D.i1z.symm z1))
  exact Uj z4 (by simp) λu5 _ b5=>q u5 e (λc o n1 n2 n3 n4 y=>b5.extBut _ _ n1 (b4 _ _ n4 (k3 c o n1 n2 n3 y))) ⟨oe,b5.extBut _ _ (ap u4 _ e oe z4 g1 g2) g1,g2⟩
theorem lO{z TI TO i1 i2 l1 l2:RQ}{k:Nat}{xs ys:Array RA}{x y:RA}{Q:Option RA->RD->Prop}(D:Y6 z TI TO i1 i2 l1 l2)(Z:rf s.heap z TI TO i1 i2 l1 l2 k)(t1:s.heap.IsTuple l1 xs)(t2:s.heap.IsTuple l2 ys)(hx:xs[k]?=fv x)(hy:ys[k]?=fv y)
  (q: ∀ h',IsZip h' z TI TO (ZU s.heap.objs.size)->WX h' TI (.ref i1) (.ref i2)->WX h' TO x y->h'.IsTupleIter i1 l1 (k+1)->h'.IsTupleIter i2 l2 (k+1)->WX h' s.heap.objs.size x y ->
   (∀ c o,c≠z->c≠TO->c≠i1->c≠i2->s.heap.get? c=fv o->h'.get? c=fv o)->Q (fv (.ref s.heap.objs.size)) { s with heap:=h'}):RX (R4 prog w) A (Za (.ref z)) Q E s :=
 have ty:=⟨_,Z.xn,rfl⟩
 Ru (wpAny_attempt (Tu (name:=RZ "__next__") ty U1 (TQ U1 ty XC (xJ D Z t1 t2 hx hy λh' a1 a2 a3 a4 a5 a6 a7=>RG (q h' a1 a2 a3 a4 a5 a6 a7)) (Xj (.ref z)))))
theorem nT{z TI TO i1 i2 l1 l2:RQ}{k:Nat}{xs ys:Array RA}{Q:Option RA->RD->Prop}(hh:A.handled=Rv)(D:Y6 z TI TO i1 i2 l1 l2)(Z:rf s.heap z TI TO i1 i2 l1 l2 k)(t1:s.heap.IsTuple l1 xs)(t2:s.heap.IsTuple l2 ys)(he:xs[k]?=Rv\/ys[k]?=Rv)
  (q: ∀ h',(∀ c o,c≠z->c≠TO->c≠i1->c≠i2->s.heap.get? c=fv o->h'.get? c=fv o)->Q Rv { s with heap:=h'}):RX (R4 prog w) A (Za (.ref z)) Q E s :=
 have ty:=⟨_,Z.xn,rfl⟩
 Ru (wpAny_attempt (Tu (name:=RZ "__next__") ty U1 (TQ U1 ty XC (An (A:=A.in1) hh D Z t1 t2 he λh' e a1 g =>
  by obtain⟨o,g1,g2⟩:=g;exact Ru (Zn (T:= "StopIteration") (b:=true) ⟨o,g1,g2⟩ isSubtype_stop (RG (q h' a1)))) (Xj (.ref z)))))
end
end L2
end
section
open PySem PySem.W PyProof.Rows
namespace P3
open PySem PySem.Spec PyProof.Rows L2
inductive PV where
 | non | bl (b:Bool) | int (i:Int) | str (x:Str) | tup (xs:List PV) | ktup (xs:List PV) | ref (n:Nat) | ty (n:String)
mutual
def PV.beq:PV->PV->Bool
 | .non,.non=>true
 | .bl a,.bl b=>decide (a=b)
 | .int a,.int b=>decide (a=b)
 | .str a,.str b=>decide (a=b)
 | .tup a,.tup b=>PV.Cm a b
 | .ktup a,.ktup b=>PV.Cm a b
 | .ref a,.ref b=>decide (a=b)
 | .ty a,.ty b=>decide (a=b)
 | _,_=>false
def PV.Cm:List PV->List PV->Bool
 | [],[]=>true
 | a::x,b::y=>PV.beq a b&&PV.Cm x y
 | _,_=>false
end
theorem ft{p:Prop}(h: ¬ p):false=true↔p:=⟨λe=>(by cases e),λe=>absurd e h⟩
mutual
theorem PV.beq_iff: ∀(a b:PV),PV.beq a b=true↔a=b
 | .non,b=>by cases b<;>first | exact iff_of_true rfl rfl | exact ft (by intro e;cases e)
 | .bl _,b=>by cases b<;>first | exact decide_eq_true_iff.trans (by simp) | exact ft (by intro e;cases e)
 | .int _,b=>by cases b<;>first | exact decide_eq_true_iff.trans (by simp) | exact ft (by intro e;cases e)
 | .str _,b=>by cases b<;>first | exact decide_eq_true_iff.trans (by simp) | exact ft (by intro e;cases e)
 | .ref _,b=>by cases b<;>first | exact decide_eq_true_iff.trans (by simp) | exact ft (by intro e;cases e)
 | .ty _,b=>by cases b<;>first | exact decide_eq_true_iff.trans (by simp) | exact ft (by intro e;cases e)
 | .tup a,b=>by cases b<;>first | exact(PV.lX a _).trans (by simp) | exact ft (by intro e;cases e)
 | .ktup a,b=>by cases b<;>first | exact(PV.lX a _).trans (by simp) | exact ft (by intro e;cases e)
theorem PV.lX: ∀(a b:List PV),PV.Cm a b=true↔a=b
 | [],b=>by cases b<;>first | exact iff_of_true rfl rfl | exact ft (by intro e;cases e)
 | a::x,b=>by
  cases b with
  | nil=>exact ft (by intro e;cases e)
  | cons b y=>exact(X6.trans (and_congr (PV.beq_iff a b) (PV.lX x y))).trans (by simp)
end
instance:DecidableEq PV:=λa b=>decidable_of_iff _ (PV.beq_iff a b)
mutual
def PV.flat:PV->Bool
 | .ref _=>false
 | .tup xs=>PV.bq xs
 | .ktup xs=>PV.bq xs
 | _=>true
def PV.bq:List PV->Bool
 | []=>true
 | x::r=>x.flat&&PV.bq r
end
mutual
def PV.iK(n:Nat):PV->Bool
 | .ref m=>decide (m < n)
 | .tup xs=>PV.jj n xs
 | .ktup xs=>PV.jj n xs
 | _=>true
def PV.jj(n:Nat):List PV->Bool
 | []=>true
 | x::r=>x.iK n&&PV.jj n r
end
inductive PO where
 | lst (xs:List PV) | jD (xs:List PV) | dct (kvs:List (Key × PV))
 deriving DecidableEq
noncomputable def PO.gu:PO->Bool
 | .jD _=>false
 | _=>true
noncomputable def PO.iK(n:Nat):PO->Bool
 | .lst xs=>PV.jj n xs
 | .jD xs=>PV.jj n xs
 | .dct kvs=>PV.jj n (kvs.map (·.2))
abbrev PH:=List PO
abbrev aM:=List (Option PV)
def KT(K:Rx) a (xs:List V):= ∃(o:Obj)(aj:Array RA)(n:Nat),K.lookup a=fv o/\o.cls= .type "tuple" /\o.data= .seq aj n/\aj.size<=RF/\Vals xs aj.toList
mutual
def rel(K:Rx)(ρ :List RQ)(H:Hp):PV->V->Prop
 | .non,v=>v= .non
 | .bl b,v=>v= .bl b
 | .int i,v=>v= .int i
 | .str x,v=>v= .str x
 | .ty n,v=>v= .ty n
 | .ref n,v=> ∃ a, ρ[n]?=fv a∧v= .ref a
 | .tup xs,v=> ∃ a vs,v= .ref a∧H a=fv (.tup vs)∧ai K ρ H xs vs
 | .ktup xs,v=> ∃ a vs,v= .ref a∧KT K a vs∧ai K ρ H xs vs
def ai(K:Rx)(ρ :List RQ)(H:Hp):List PV->List V->Prop
 | [],vs=>vs=[]
 | x::r,vs=> ∃ v t,vs=v::t∧rel K ρ H x v∧ai K ρ H r t
end
structure Gr (ρ :List RQ) (H:Hp) (ρ':List RQ) (H':Hp):Prop where
 pre: ∀(n:Nat)(a:RQ), ρ[n]?=fv a-> ρ'[n]?=fv a
 tup: ∀ a xs,H a=fv (.tup xs)->H' a=fv (.tup xs)
 iW: ∀ a o u,H a=fv (.iW o u)->H' a=fv (.iW o u)
theorem Gr.refl ρ H:Gr ρ H ρ H:=⟨λ_ _ h=>h,λ_ _ h=>h,λ_ _ _ h=>h⟩
theorem Gr.trans(a:Gr ρ H ρ1 H1)(b:Gr ρ1 H1 ρ2 H2):Gr ρ H ρ2 H2 :=
 ⟨λn x h=>b.pre n x (a.pre n x h),λx xs h=>b.tup x xs (a.tup x xs h),λx o u h=>b.iW x o u (a.iW x o u h)⟩
section
variable{K:Rx}{ρ ρ':List RQ}{H H':Hp}
theorem Gr.BU(g:Gr ρ H ρ' H')(h:dz K H a xs):dz K H' a xs:=by
 rcases h with(h | ⟨o,h⟩) | h
 . exact .inl (.inl (g.tup _ _ h))
 . exact .inl (.inr ⟨o,g.iW _ _ _ h⟩)
 . exact .inr h
theorem Gr.Rm(g:Gr ρ H ρ' H')(h:wD K H a xs):wD K H' a xs:=by
 rcases h with⟨o,h⟩ | h
 . exact .inl ⟨o,g.iW _ _ _ h⟩
 . exact .inr h
mutual
theorem rel.gr(g:Gr ρ H ρ' H'): ∀(x:PV)(v:V),rel K ρ H x v->rel K ρ' H' x v
 | .non,v,h=>by simpa only[rel] using h
 | .bl _,v,h=>by simpa only[rel] using h
 | .int _,v,h=>by simpa only[rel] using h
 | .str _,v,h=>by simpa only[rel] using h
 | .ty _,v,h=>by simpa only[rel] using h
 | .ref n,v,h=>by
  rw[rel] at h ⊢;obtain⟨a,e,h⟩:=h;exact⟨a,g.pre _ _ e,h⟩
 | .tup xs,v,h=>by
  rw[rel] at h ⊢;obtain⟨a,vs,e,s,r⟩:=h;exact⟨a,vs,e,g.tup _ _ s,ai.gr g xs vs r⟩
 | .ktup xs,v,h=>by
  rw[rel] at h ⊢;obtain⟨a,vs,e,s,r⟩:=h;exact⟨a,vs,e,s,ai.gr g xs vs r⟩
theorem ai.gr(g:Gr ρ H ρ' H'): ∀(xs:List PV)(vs:List V),ai K ρ H xs vs->ai K ρ' H' xs vs
 | [],vs,h=>by simpa only[ai] using h
 | x::r,vs,h=>by
  rw[ai] at h ⊢;obtain⟨v,t,e,h1,h2⟩:=h;exact⟨v,t,e,rel.gr g x v h1,ai.gr g r t h2⟩
end
noncomputable def PV.seq?:PV->Option (List PV)
 | .tup xs=>fv xs
 | .ktup xs=>fv xs
 | _=>Rv
theorem rel.seq(e:x.seq?=fv xs)(h:rel K ρ H x v): ∃ a vs,v= .ref a/\dz K H a vs/\ai K ρ H xs vs:=by
 cases x<;>simp only[PV.seq?,reduceCtorEq,U3] at e
 . subst e;obtain⟨a,vs,e,z,r⟩:=h;exact⟨a,vs,e,.of z,r⟩
 . subst e;obtain⟨a,vs,e,z,r⟩:=h;exact⟨a,vs,e,.inr z,r⟩
theorem bI:ai K ρ H [] vs↔vs=[]:=by rw[ai]
theorem aq:ai K ρ H (x::r) vs↔ ∃ v t,vs=v::t/\rel K ρ H x v/\ai K ρ H r t:=by rw[ai]
theorem ai.len: ∀{xs vs},ai K ρ H xs vs->xs.length=vs.length
 | [],vs,h=>by rw[h];rfl
 | x::r,vs,h=>by
  obtain⟨v,t,rfl,_,h2⟩:=aq.mp h;simp[ai.len h2]
theorem ai.get: ∀{xs vs}{i:Nat}{x},ai K ρ H xs vs->xs[i]?=fv x-> ∃ v,vs[i]?=fv v/\rel K ρ H x v
 | [],vs,i,x,h,e=>by simp at e
 | y::r,vs,i,x,h,e=>by
  obtain⟨v,t,rfl,h1,h2⟩:=aq.mp h;cases i with
  | zero=>simp at e;subst e;exact⟨v,rfl,h1⟩
  | succ i=>simpa using ai.get h2 (by simpa using e)
theorem ai.app: ∀{xs ys vs ws},ai K ρ H xs vs->ai K ρ H ys ws->ai K ρ H (xs++ys) (vs++ws)
 | [],ys,vs,ws,h,h'=>by subst h;exact h'
 | x::r,ys,vs,ws,h,h'=>by
  obtain⟨v,t,rfl,h1,h2⟩:=aq.mp h;exact aq.mpr ⟨v,t++ws,rfl,h1,ai.app h2 h'⟩
theorem ai.one(h:rel K ρ H x v):ai K ρ H [x] [v]:=aq.mpr ⟨v,[],rfl,h,bI.mpr rfl⟩
theorem ai.take: ∀{xs vs} n,ai K ρ H xs vs->ai K ρ H (xs.take n) (vs.take n)
 | xs,vs,0,h=>by rfl
 | [],vs,n+1,h=>by subst h;simp[bI]
 | x::r,vs,n+1,h=>by
  obtain⟨v,t,rfl,h1,h2⟩:=aq.mp h;exact aq.mpr ⟨v,t.take n,rfl,h1,ai.take n h2⟩
theorem ai.drop: ∀{xs vs} n,ai K ρ H xs vs->ai K ρ H (xs.drop n) (vs.drop n)
 | xs,vs,0,h=>h
 | [],vs,n+1,h=>by subst h;simp[bI]
 | x::r,vs,n+1,h=>by
  obtain⟨v,t,rfl,h1,h2⟩:=aq.mp h;exact ai.drop n h2
theorem ai.set: ∀{xs vs x v} i,ai K ρ H xs vs->rel K ρ H x v->ai K ρ H (xs.set i x) (vs.set i v)
 | [],vs,x,v,i,h,hv=>by subst h;simp[bI]
 | y::r,vs,x,v,i,h,hv=>by
  obtain⟨w,t,rfl,h1,h2⟩:=aq.mp h;cases i with
  | zero=>exact aq.mpr ⟨v,t,rfl,hv,h2⟩
  | succ i=>exact aq.mpr ⟨w,t.set i v,rfl,h1,ai.set i h2 hv⟩
theorem ai.ints: ∀(ns:List Int),ai K ρ H (ns.map PV.int) (ns.map V.int)
 | []=>bI.mpr rfl
 | n::r=>aq.mpr ⟨.int n,r.map V.int,rfl,by rw[rel],ai.ints r⟩
end
def kH(K:Rx)(ρ :List RQ)(H:Hp)(a:RQ):PO->Prop
 | .lst xs=> ∃ vs,H a=fv (.lst vs)/\ai K ρ H xs vs
 | .jD xs=> ∃ vs,wD K H a vs/\ai K ρ H xs vs
 | .dct kvs=> ∃ kws,H a=fv (.dK kws)/\SW (λ(p) (q)=>p.1=q.1/\rel K ρ H p.2 q.2) kvs kws
structure b6(K:Rx)(ρ :List RQ)(h:PH)(H:Hp):Prop where
 len: ρ.length=h.length
 nd: ∀(i j:Nat)(a:RQ)(oi oj:PO),h[i]?=fv oi->h[j]?=fv oj->oi.gu=true->oj.gu=true-> ρ[i]?=fv a-> ρ[j]?=fv a->i=j
 ob: ∀(i:Nat)(o:PO)(a:RQ),h[i]?=fv o-> ρ[i]?=fv a->kH K ρ H a o
section
variable {K:Rx} {ρ ρ':List RQ} {H H':Hp} {h:PH}
theorem b6.at(s:b6 K ρ h H){i:Nat}(e:h[i]?=fv o): ∃ a, ρ[i]?=fv a∧kH K ρ H a o:=by
 have hi:i < ρ.length:=by rw [s.len];exact (RC.mp e).1
 exact ⟨ρ[i],RH hi,s.ob i o _ e (RH hi)⟩
theorem Paired.kE(g:Gr ρ H ρ' H')(h:SW (λ(p:Key × PV) (q:Key × V)=>p.1=q.1∧rel K ρ H p.2 q.2) kvs kws) :
  SW (λ(p) (q)=>p.1=q.1/\rel K ρ' H' p.2 q.2) kvs kws:=Paired.yc h λ_ _ z=>⟨z.1,rel.gr g _ _ z.2⟩
theorem hE(m:o.gu=true)(r:kH K ρ H a o):(∃ vs,H a=fv (.lst vs))\/ ∃ kws,H a=fv (.dK kws):=by
 cases o with
 | lst xs=>obtain⟨vs,e,_⟩:=r;exact .inl ⟨vs,e⟩
 | jD xs=>cases m
 | dct kvs=>obtain⟨kws,e,_⟩:=r;exact .inr ⟨kws,e⟩
theorem ky(g:Gr ρ H ρ' H')(k:o.gu=true->H' a=H a)(r:kH K ρ H a o):kH K ρ' H' a o:=by
 cases o with
 | lst xs=>obtain⟨vs,e,r⟩:=r;exact⟨vs,(k rfl).trans e,ai.gr g _ _ r⟩
 | jD xs=>obtain ⟨vs,e,r⟩:=r;exact ⟨vs,g.Rm e,ai.gr g _ _ r⟩
 | dct kvs=>obtain ⟨kws,e,r⟩:=r;exact ⟨kws,(k rfl).trans e,Paired.kE g r⟩
theorem Gr.new{p : RQ}{o : HO}(hp : H p = Rv)(l : List RQ) : Gr ρ H (ρ ++ l) (upd H p o) :=
  ⟨λn a e => by rw [So (RC.mp e).1]; exact e,
   λa xs e => by rw [av (ax e hp)]; exact e, λa o u e => by rw [av (ax e hp)]; exact e⟩
theorem Gr.uJ{p:RQ}{o:HO}(hp:H p=Rv):Gr ρ H ρ (upd H p o):=by simpa using Gr.new (ρ := ρ) (o:=o) hp []
theorem b6.tup(s:b6 K ρ h H){p o}(hp:H p=Rv):b6 K ρ h (upd H p o) :=
 ⟨s.len,s.nd,λi x a e1 e2=>ky (Gr.uJ hp) (λm=>by
  have:=hE m (s.ob i x a e1 e2);refine av ?_;rcases this with⟨_,z⟩ | ⟨_,z⟩<;>exact ax z hp) (s.ob i x a e1 e2)⟩
theorem b6.new(s:b6 K ρ h H)(hp:H p=Rv)(r:kH K (ρ ++[p]) (upd H p ho) p o):b6 K (ρ ++[p]) (h++[o]) (upd H p ho):=by
 have g:Gr ρ H (ρ ++[p]) (upd H p ho):=Gr.new hp [p];have old: ∀{i:Nat}{x:PO},(h++[o])[i]?=fv x->(i < h.length/\h[i]?=fv x)\/(i=h.length/\x=o):=λ{i x} e=>by
  rcases Ug i h.length with z | z
  . rw[So z] at e;exact .inl ⟨z,e⟩
  . rw[Sa z] at e;have:i - h.length=0:=by
     grind
    rw[this] at e;exact .inr ⟨by omega,by simpa using e.symm⟩
 have oldρ : ∀{i:Nat}{a:RQ},i < h.length->(ρ ++[p])[i]?=fv a-> ρ[i]?=fv a:=λ{i a} z e=>by
  rw[So (by rw[s.len];exact z)] at e;exact e
 have newρ : ∀{a:RQ},(ρ ++[p])[h.length]?=fv a->a=p:=λ{a} e=>by
  rw[<- s.len,Sa (RE _)] at e;simpa using e.symm
 refine⟨by simp[s.len],λi j a oi oj ei ej mi mj ri rj=>?_,λi x a e1 e2=>?_⟩
 . rcases old ei with⟨zi,ei⟩ | ⟨zi,ei⟩<;>rcases old ej with⟨zj,ej⟩ | ⟨zj,ej⟩
   . exact s.nd i j a oi oj ei ej mi mj (oldρ zi ri) (oldρ zj rj)
   . subst zj;have:=hE mi (s.ob i oi a ei (oldρ zi ri));rw[newρ rj] at this;rcases this with⟨_,z⟩ | ⟨_,z⟩<;>(rw[hp] at z;nomatch z)
   . subst zi;have:=hE mj (s.ob j oj a ej (oldρ zj rj));rw[newρ ri] at this;rcases this with⟨_,z⟩ | ⟨_,z⟩<;>(rw[hp] at z;nomatch z)
   . rw[zi,zj]
 . rcases old e1 with⟨z,e⟩ | ⟨z,e⟩
   . refine ky g (λm=>?_) (s.ob i x a e (oldρ z e2));have:=hE m (s.ob i x a e (oldρ z e2));refine av ?_;rcases this with ⟨_,y⟩ | ⟨_,y⟩<;>exact ax y hp
   . subst z;subst e;rw [newρ e2];exact r
theorem Gr.write{a : RQ}{ho : HO}(m : (∃ vs, H a = fv (.lst vs)) ∨ ∃ kws, H a = fv (.dK kws)) : Gr ρ H ρ (upd H a ho) :=
  ⟨fun _ _ h => h, fun b xs e => by rw [av]; · exact e
                                    . rintro rfl; rcases m with ⟨_, z⟩ | ⟨_, z⟩ <;> (rw [e] at z; cases z),
   fun b o u e => by rw [av]; · exact e
                     . rintro rfl; rcases m with ⟨_, z⟩ | ⟨_, z⟩ <;> (rw [e] at z; cases z)⟩
theorem b6.write(s:b6 K ρ h H)(e:h[i]?=fv o)(ea: ρ[i]?=fv a)(m:o.gu=true)(m':o'.gu=true)(r:kH K ρ (upd H a ho) a o') :
  b6 K ρ (h.set i o') (upd H a ho):=by
 have ma:=hE m (s.ob i o a e ea);have g:Gr ρ H ρ (upd H a ho):=Gr.write ma;have hi:=(RC.mp e).1;have at_: ∀{j:Nat}{x:PO},(h.set i o')[j]?=fv x->(j=i/\x=o')\/(j≠i/\h[j]?=fv x):=λ{j x} q=>by
  by_cases z:j=i
  . subst z;rw[TB hi] at q;exact .inl ⟨rfl,by simpa using q.symm⟩
  . rw[TZ (UK z)] at q;exact .inr ⟨z,q⟩
 refine⟨by simp[s.len],λj k b oj ok ej ek mj mk rj rk=>?_,λj x b e1 e2=>?_⟩
 . rcases at_ ej with⟨zj,_⟩ | ⟨_,ej2⟩<;>rcases at_ ek with⟨zk,_⟩ | ⟨_,ek2⟩
   . rw[zj,zk]
   . rw[zj] at rj ⊢; exact s.nd _ _ b o ok e ek2 m mk rj rk
   . rw[zk] at rk ⊢; exact s.nd _ _ b oj o ej2 e mj m rj rk
   . exact s.nd j k b oj ok ej2 ek2 mj mk rj rk
 . rcases at_ e1 with⟨rfl,rfl⟩ | ⟨z,e1⟩
   . simp_all
   . refine ky g (λmx=>av λq=>z ?_) (s.ob j x b e1 e2);subst q;exact s.nd j i b x o e1 e mx m e2 ea
end
inductive RV(α :Type) where
 | ok (a: α) (h:PH) | ex (c:String) (vs:List PV) (h:PH) | no
variable{α β :Type}
noncomputable def RV.bind:RV α ->(α ->PH->RV β)->RV β
 | .ok a h,f=>f a h
 | .ex c vs h,_=> .ex c vs h
 | .no,_=> .no
theorem j2:(RV.ok a h).bind f=f a h:=rfl
theorem bind_eq{r:RV α}:r.bind f= .ok b h'↔ ∃ a h,r= .ok a h/\f a h= .ok b h':=by
 cases r with
 | ok a h=>exact⟨λe=>⟨a,h,rfl,e⟩,by rintro ⟨a',h2,e,q⟩;exact by cases e;exact q⟩
 | ex c vs h=>exact⟨λe=>(by cases e),by simp_all⟩
 | no=>exact⟨λe=>(by cases e),by simp_all⟩
theorem Ao[Decidable c]{ b:RV α}:(if c then a else b).bind f=if c then a.bind f else b.bind f:=by split<;>rfl
def Ok(r:RV α)(Q: α ->PH->Prop):= ∃ a h,r= .ok a h/\Q a h
abbrev CF:=String->List PV->PH->RV PV
abbrev ME:=CF->aM->PH->RV PV
abbrev MT:=CF->aM->PH->RV Bool
abbrev MA:=CF->aM->PH->RV (List PV)
inductive Fl where
 | nx (e:aM) | rt (v:PV) | bk (e:aM) | ct (e:aM)
abbrev MS:=CF->aM->PH->RV Fl
abbrev MG:=PV->aM->PH->RV aM
structure qN where
 gd:Option Nat
 items:List PV
abbrev MI:=CF->aM->PH->RV qN
structure Df where
 ps:List Str
 nl:Nat
 body:MS
structure Tb where
 fns:String->Option Df
 con:Str->Option PV
 vU:Str->Option (List (Key × PV))
def bH(n:Nat):PH->PH->Bool
 | [],_=>true
 | _::_,[]=>false
 | o::h,o'::h'=>(decide (o=o')||(o'.iK n&&o.gu == o'.gu))&&bH n h h'
def settle(h:PH)(v:PV)(h':PH):RV PV:=if (v.flat&&bH h.length h h')=true then .ok v (h'.take h.length) else .ok v h'
theorem iX n: ∀ h g,bH n h (h++g)=true
 | [],g=>rfl
 | o::h,g=>by rw[Ui,bH,iX n h g];simp
theorem i8(hu:o'.iK n=true): ∀ h h' i o,bH n h h'=true->h[i]?=fv o->o.gu=o'.gu->bH n h (h'.set i o')=true
 | [],h',i,o,_,e,_=>by simp at e
 | a::h,[],i,o,q,_,_=>by simp[bH] at q
 | a::h,b::h',0,o,q,e,m=>by
  rw[bH,RT] at q;simp at e;subst e;rw[List.set_cons_zero,bH,q.2,hu,m];simp
 | a::h,b::h',i+1,o,q,e,m=>by
  rw[bH,RT] at q;rw[VA,bH,i8 hu h h' i o q.2 (by simpa using e) m,q.1];rfl
theorem l7: ∀{h h'},bH n h h'=true->h.length<=h'.length
 | [],h',_=>Si _
 | o::h,[],e=>by simp[bH] at e
 | o::h,o'::h',e=>by
  rw[bH,RT] at e;exact Xa (l7 e.2)
theorem pj: ∀{h h'}{i:Nat}{o'},bH n h h'=true->(h'.take h.length)[i]?=fv o'-> ∃ o,h[i]?=fv o/\o.gu=o'.gu/\(o=o'\/o'.iK n=true)
 | [],h',i,o',_,e=>by simp at e
 | a::h,[],i,o',q,_=>by simp[bH] at q
 | a::h,b::h',0,o',q,e=>by
  rw[bH,RT,V9,RT] at q;simp at e;subst e;refine⟨a,rfl,?_,?_⟩
  . rcases q.1 with z | z
    . rw[of_decide_eq_true z]
    . simpa using z.2
  . rcases q.1 with z | z
    . exact .inl (of_decide_eq_true z)
    . exact .inr z.1
 | a::h,b::h',i+1,o',q,e=>by
  rw[bH,RT] at q;simpa using pj q.2 (by simpa using e)
def run(pg:Tb):Nat->CF
 | 0,_,_,_=> .no
 | k+1,f,vs,h=>match pg.fns f with
  | none=> .no
  | some d=>if vs.length=d.ps.length then
    (match d.body (run pg k) (vs.map fv++Rz d.nl Rv) h with
    | .ok (.rt v) h'=>settle h v h'
    | .ok (.nx _) h'=>settle h .non h'
    | .ok _ _=> .no
    | .ex c us h'=> .ex c us h'
    | .no=> .no)
   else .no
def cQ(K:Rx)(ρ :List RQ) H v h' (Q:VK):= ∀ v' ρ' H',Gr ρ H ρ' H'->b6 K ρ' h' H'->rel K ρ' H' v v'->Q v' H'
def kS(K:Rx)(ρ :List RQ) H h' (Q:Hp->Prop):= ∀ ρ' H',Gr ρ H ρ' H'->b6 K ρ' h' H'->Q H'
def Nl(K:Rx)(ρ :List RQ) H (vs:List PV) h' (Q:List V->Hp->Prop):= ∀ us ρ' H',Gr ρ H ρ' H'->b6 K ρ' h' H'->ai K ρ' H' vs us->Q us H'
structure cO (K:Rx) (ρ :List RQ) (H:Hp) (e:aM) (σ :L2.St):Prop where
 len:e.length= σ.length
 get: ∀(i:Nat)(v:PV),e[i]?=fv (fv v)-> ∃ v', σ[i]?=fv (fv v')∧rel K ρ H v v'
def eA(K:Rx)(ρ :List RQ) H e' h' (Q:L2.St->Hp->Prop):= ∀ σ' ρ' H',Gr ρ H ρ' H'->b6 K ρ' h' H'->cO K ρ' H' e' σ'->Q σ' H'
def wN(K:Rx)(ρ :List RQ)(H:Hp)(D:Ends)(h':PH):Fl->Prop
 | .nx e=>eA K ρ H e h' D.nx
 | .bk e=>eA K ρ H e h' D.bk
 | .ct e=>eA K ρ H e h' D.ct
 | .rt v=>cQ K ρ H v h' D.rt
section
variable{K:Rx}{ρ ρ1:List RQ}{H H1:Hp}{h':PH}
theorem cO.gr(r:cO K ρ H e σ)(g:Gr ρ H ρ1 H1):cO K ρ1 H1 e σ :=⟨r.len,λi v q=>by obtain⟨v',a,b⟩:=r.get i v q;exact⟨v',a,rel.gr g _ _ b⟩⟩
theorem cO.set(r:cO K ρ H e σ) i (h:rel K ρ H v v'):cO K ρ H (e.set i (fv v)) (σ.set i (fv v')):=by
 refine⟨by simp[r.len],λj x q=>?_⟩;by_cases z:j=i
 . subst z;have hj:j < e.length:=by
    have:=(RC.mp q).1;simpa using this
   rw[TB hj] at q;cases q;exact⟨v',TB (by rw[<- r.len];exact hj),h⟩
 . rw[TZ (UK z)] at q ⊢;exact r.get j x q
theorem cO.more(r:cO K ρ H e σ) k:cO K ρ H (e++Rz k Rv) (σ ++Rz k Rv):=by
 refine⟨by simp[r.len],λj x q=>?_⟩;rcases Ug j e.length with z | z
 . rw[So z] at q;rw[So (by rw[<- r.len];exact z)];exact r.get j x q
 . rw[Sa z,S7] at q;split at q<;>nomatch q
theorem cQ.gr(p:cQ K ρ H v h' Q)(g:Gr ρ H ρ1 H1):cQ K ρ1 H1 v h' Q:=λv' ρ' H' g'=>p v' ρ' H' (g.trans g')
theorem kS.gr(p:kS K ρ H h' Q)(g:Gr ρ H ρ1 H1):kS K ρ1 H1 h' Q:=fun ρ' H' g'=>p ρ' H' (g.trans g')
theorem eA.gr(p:eA K ρ H e h' Q)(g:Gr ρ H ρ1 H1):eA K ρ1 H1 e h' Q:=λv' ρ' H' g'=>p v' ρ' H' (g.trans g')
theorem wN.gr(p:wN K ρ H D h' f)(g:Gr ρ H ρ1 H1):wN K ρ1 H1 D h' f:=by
 cases f with
 | nx e=>exact eA.gr p g
 | bk e=>exact eA.gr p g
 | ct e=>exact eA.gr p g
 | rt e=>exact cQ.gr p g
end
def SE c (K:Rx) (t:TE) (m:ME):= ∀ ρ h H e σ Q v h',b6 K ρ h H->cO K ρ H e σ ->m c e h= .ok v h'->cQ K ρ H v h' Q->t σ H Q
def ST c (K:Rx) (t:TT) (m:MT):= ∀ ρ h H e σ Q b h',b6 K ρ h H->cO K ρ H e σ ->m c e h= .ok b h'->kS K ρ H h' (Q b)->t σ H Q
def SA c (K:Rx) (t:TA) (m:MA):= ∀ ρ h H e σ Q vs h',b6 K ρ h H->cO K ρ H e σ ->m c e h= .ok vs h'->Nl K ρ H vs h' Q->t σ H Q
def SS c (K:Rx) (t:TS) (m:MS):= ∀ ρ h H e σ D f h',b6 K ρ h H->cO K ρ H e σ ->m c e h= .ok f h'->wN K ρ H D h' f->t D σ H
def SG(K:Rx)(t:TG)(m:MG):= ∀ ρ h H e σ Q v v' e' h',b6 K ρ h H->cO K ρ H e σ ->rel K ρ H v v'->m v e h= .ok e' h'->eA K ρ H e' h' Q->t v' σ H Q
noncomputable def qN.j5(it:qN)(h:PH):Bool:=match it.gd with
 | none=>true
 | some n=>decide (h[n]?=fv (.lst it.items)\/h[n]?=fv (.jD it.items))
def QK(K:Rx)(ρ0:List RQ) H0 (J:It) (it:qN):= ∀ i ρ h H,Gr ρ0 H0 ρ H->b6 K ρ h H->it.j5 h=true ->
 (∀ x,it.items[i]?=fv x->J.go i H∧ ∀ v H',J.FJ i H v H'-> ∃ ρ',Gr ρ H ρ' H'∧b6 K ρ' h H'∧rel K ρ' H' x v)∧(i=it.items.length->J.stop i H)
def SI c (K:Rx) (t:TI) (m:MI):= ∀ ρ h H e σ R it h',b6 K ρ h H->cO K ρ H e σ ->m c e h= .ok it h'->(∀ ρ' H' J,Gr ρ H ρ' H'->b6 K ρ' h' H'->QK K ρ' H' J it->R J H')->t σ H R
def vg(K:Rx)(pg:Tb)(k:Nat)(f:String):Sp:=λvs H Q _=> ∃ ρ h args v h',b6 K ρ h H∧ai K ρ H args vs∧run pg k f args h= .ok v h'∧cQ K ρ H v h' Q
noncomputable def fI:List Str:=["len", "range", "isinstance", "int", "bool", "tuple", "dict", "sorted", "min", "max", "abs", "all", "any", "sum", "str", "list", "zip", "set", "repr", "enumerate"]
def xr(K:Rx)(v:V):= ∀ a,v= .ref a-> ∃ o,K.lookup a=fv o∧o.cls= .type "tuple" ∧o.dict=Rv
structure bQ (X:Cx) (pg:Tb) (k:Nat):Prop where
 room:cx k X.A
 calm:X.calm=true
 mW: ∀ v s,¬ X.xe v s
 defs: ∀ f d,pg.fns f=fv d->kR X.prog X.w X.K X.mg X.base (RZ f) k d.ps (vg X.K pg k f)
 blt: ∀ x∈fI,X.mg x=Rv
 con: ∀ x v,pg.con x=fv v-> ∃ u v',X.mg x=fv u/\RelV v' u/\xr X.K v'/\ ∀ ρ H,rel X.K ρ H v v'
 vU: ∀ x kvs,pg.vU x=fv kvs-> ∃ a kws,X.mg x=fv (.ref a)/\KD X.prog X.w X.K a kws/\ ∀ ρ H,SW (λ(p:Key × PV) (q:Key × V)=>p.1=q.1/\rel X.K ρ H p.2 q.2) kvs kws
theorem bQ.dQ(a:bQ X pg k) vars scope cl C s₀ H₀ ex pn:bQ (dQ X vars scope cl C s₀ H₀ ex pn) pg k :=
 ⟨a.room,a.calm,a.mW,a.defs,a.blt,a.con,a.vU⟩
structure JE(X:Cx)(pg:Tb)(k:Nat)(e:Sy)(m:ME):Prop where h:bQ X pg k-> ∃ t,QE X e t/\SE (run pg k) X.K t m
structure JT(X:Cx)(pg:Tb)(k:Nat)(e:Sy)(m:MT):Prop where h:bQ X pg k-> ∃ t,QT X e t/\ST (run pg k) X.K t m
structure JW(X:Cx)(pg:Tb)(k:Nat)(e:Sy)(m:MT):Prop where h:bQ X pg k-> ∃ t,QW X e t/\ST (run pg k) X.K t m
structure JA(X:Cx)(pg:Tb)(k:Nat)(e:List Sy)(m:MA):Prop where h:bQ X pg k-> ∃ t,QA X e t/\SA (run pg k) X.K t m
structure JS(X:Cx)(pg:Tb)(k:Nat)(s:W5)(m:MS):Prop where h:bQ X pg k-> ∃ t,QS X s t/\SS (run pg k) X.K t m
structure uT(X:Cx)(pg:Tb)(k:Nat)(s:List W5)(m:MS):Prop where h:bQ X pg k-> ∃ t,Al X s t/\SS (run pg k) X.K t m
structure JG(X:Cx)(pg:Tb)(k:Nat)(e:Sy)(m:MG):Prop where h:bQ X pg k-> ∃ t,QG X e t/\SG X.K t m
structure JI(X:Cx)(pg:Tb)(k:Nat)(tg e:Sy)(m:MI):Prop where h:bQ X pg k-> ∃ t,QI X tg e t/\SI (run pg k) X.K t m
structure JF(X:Cx)(pg:Tb)(k:Nat)(es:List Sy)(m:MT):Prop where h:bQ X pg k-> ∃ t,QF X es t/\ST (run pg k) X.K t m
def kb(K:Rx)(r:R2)(f:PV->PV->PH->RV PV):= ∀ ρ h H x y x' y' Q v h',b6 K ρ h H->rel K ρ H x x'->rel K ρ H y y'->f x y h= .ok v h'->cQ K ρ H v h' Q->r x' y' H Q
def xP(K:Rx)(r:List V->Hp->VK->Prop)(f:List PV->PH->RV PV):= ∀ ρ h H xs us Q v h',b6 K ρ h H->ai K ρ H xs us->f xs h= .ok v h'->cQ K ρ H v h' Q->r us H Q
def Lm(K:Rx)(T:String)(r:V->List V->Hp->VK->Prop)(f:PV->List PV->PH->RV PV)(ty:PV->PH->Bool) :=
 (∀ ρ h H x x',b6 K ρ h H->rel K ρ H x x'->ty x h=true->N6 K T x' H) /\
 ∀ ρ h H x x' xs us Q v h',b6 K ρ h H->rel K ρ H x x'->ai K ρ H xs us->f x xs h= .ok v h'->cQ K ρ H v h' Q->r x' us H Q
noncomputable def aa(i:Nat):ME:=λ_ e h=>match e[i]? with
 | some (fv v)=> .ok v h
 | _=> .no
noncomputable def eC(v:PV):ME:=λ_ _ h=> .ok v h
def aw(f:PV->PV->PH->RV PV)(a b:ME):ME:=λc e h=>(a c e h).bind λx h1=>(b c e h1).bind λy h2=>f x y h2
def qQ(f:PV->PH->RV PV)(a:ME):ME:=λc e h=>(a c e h).bind f
noncomputable def qP(v:PV)(h:PH):RV Bool:=match v with
 | .bl b=> .ok b h
 | _=> .no
def j8(a b:ME):ME:=λc e h=>((a c e h).bind qP).bind λx h1=>if x=true then b c e h1 else .ok (.bl false) h1
def Ov(a b:ME):ME:=λc e h=>((a c e h).bind qP).bind λx h1=>if x=true then .ok (.bl true) h1 else b c e h1
def Cu(a:ME):ME:=λc e h=>((a c e h).bind qP).bind λx h1=> .ok (.bl (!x)) h1
def yt(t:MT)(a b:ME):ME:=λc e h=>(t c e h).bind λx h1=>if x=true then a c e h1 else b c e h1
def aC(a:ME):MT:=λc e h=>(a c e h).bind qP
def n6(a b:MT):MT:=λc e h=>(a c e h).bind λx h1=>if x=true then b c e h1 else .ok false h1
def yx(a b:MT):MT:=λc e h=>(a c e h).bind λx h1=>if x=true then .ok true h1 else b c e h1
def qG(a:MT):MT:=λc e h=>(a c e h).bind λx h1=> .ok (!x) h1
noncomputable def bf:MT:=λ_ _ h=> .ok true h
noncomputable def ao:MA:=λ_ _ h=> .ok [] h
def ab(a:ME)(r:MA):MA:=λc e h=>(a c e h).bind λx h1=>(r c e h1).bind λxs h2=> .ok (x::xs) h2
noncomputable def kF n (r:RV α):=if n<=RF then r else .no
def az(r:MA):ME:=λc e h=>(r c e h).bind λxs h1=>kF xs.length (.ok (.tup xs) h1)
def cY(r:MA):ME:=λc e h=>(r c e h).bind λxs h1=>kF xs.length (.ok (.ref h1.length) (h1++[.lst xs]))
def ah(f:String)(r:MA):ME:=λc e h=>(r c e h).bind λxs h1=>c f xs h1
def eB(f:List PV->PH->RV PV)(r:MA):ME:=λc e h=>(r c e h).bind f
def eM(f:PV->List PV->PH->RV PV)(ty:PV->PH->Bool)(a:ME)(r:MA):ME:=λc e h=>(a c e h).bind λx h1=>if ty x h1=true then(r c e h1).bind λxs h2=>f x xs h2 else .no
def pX(f g:PV->PV->PH->RV PV)(a b d:ME):ME:=λc e h=>(a c e h).bind λx h1=>(b c e h1).bind λy h2=>((f x y h2).bind qP).bind λk h3=>if k=true then(d c e h3).bind λz h4=>g y z h4 else .ok (.bl false) h3
theorem ja:kF n r= .ok a h↔n<=RF/\r= .ok a h:=by
 unfold kF;split
 . exact⟨λe=>⟨by assumption,e⟩,λe=>e.2⟩
 . exact⟨λe=>(by cases e),λe=>absurd e.1 (by assumption)⟩
theorem mY:qP v h= .ok b h'↔v= .bl b/\h'=h:=by
 cases v<;>simp[qP,eq_comm]
section
variable{X:Cx}{pg:Tb}{k:Nat}{a b c d e:Sy}{es:List Sy}{ma mb mc md:ME}{mr:MA}{mt mt':MT}{pos p pos' apos cpos:Pos}{x:Str}
theorem Ku i (hN:X.N[i]?=fv x:=by rfl) (hv:Ll X.env.scope x:=by first | exact Zj rfl | exact X7 (Zj rfl) | exact X7 (X7 rfl)) (hd:(x == ("__debug__"))=false:=by decide)
  (hcd:(x == ("__classdict__"))=false:=by decide):JE X pg k (.Name x pos) (aa i):=⟨λA=>⟨_,qv i hN hv hd hcd,fun ρ h H e σ Q v h' s r q P=>by
 unfold aa at q;split at q
 . cases q;obtain⟨v',e1,e2⟩:=r.get i v (by assumption);exact⟨v',e1,P v' ρ H (.refl _ _) s e2⟩
 . cases q⟩⟩
theorem xy{K}(hr: ∀ ρ H,rel K ρ H v v'):SE cf K (tC v') (eC v):=fun ρ h H e σ Q w h' s r q P=>by cases q;exact P v' ρ H (.refl _ _) s (hr ρ H)
theorem Jj:JE X pg k (.Constant (.int n) j pos) (eC (.int n)):=⟨λA=>⟨_,Kg,xy fun ρ H=>by rw[rel]⟩⟩
theorem L6:JE X pg k (.Constant (.bool n) j pos) (eC (.bl n)):=⟨λA=>⟨_,M0,xy fun ρ H=>by rw[rel]⟩⟩
theorem Il:JE X pg k (.Constant .none j pos) (eC .non):=⟨λA=>⟨_,Jv,xy fun ρ H=>by rw[rel]⟩⟩
theorem GB:JE X pg k (.Constant (.str n) j pos) (eC (.str n)):=⟨λA=>⟨_,Gf,xy fun ρ H=>by rw[rel]⟩⟩
theorem Hn(hc:pg.con x=fv v)(hg:Gl X x)(hd:(x == ("__debug__"))=false:=by decide):JE X pg k (.Name x pos) (eC v):=⟨λA=>by obtain⟨u,v',e1,e2,_,e3⟩:=A.con x v hc;exact⟨_,vI hg e1 e2 hd,xy e3⟩⟩
theorem tD(hg:Gl X x)(hb:x∈fI)(hv:Ta x=fv (.type T))(hn:x≠ "__name__" :=by decide)(hd:(x == ("__debug__"))=false:=by decide):JE X pg k (.Name x pos) (eC (.ty T)) :=
 ⟨λA=>⟨_,Fc (v:= .ty T) hg (A.blt x hb) hv rfl hn hd,xy fun ρ H=>by rw[rel]⟩⟩
theorem wA{K}(ho:kb K r f)(ha:SE cf K ta ma)(hb:SE cf K tb mb):SE cf K (CZ r ta tb) (aw f ma mb):=fun ρ h H e σ Q v h' s r q P=>by
 obtain⟨x,h1,e1,q⟩:=bind_eq.mp q;obtain⟨y,h2,e2,q⟩:=bind_eq.mp q;refine ha ρ h H e σ _ x h1 s r e1 λx' ρ1 H1 g1 s1 r1=>?_;refine hb ρ1 h1 H1 e σ _ y h2 s1 (r.gr g1) e2 λy' ρ2 H2 g2 s2 r2=>?_;exact ho ρ2 h2 H2 x y x' y' Q v h' s2 (rel.gr g2 _ _ r1) r2 q (P.gr (g1.trans g2))
theorem Nh(ho:bQ X pg k-> ∃ r,bR X (Td op) r/\kb X.K r f)(ha:JE X pg k a ma)(hb:JE X pg k b mb):JE X pg k (.BinOp a op b pos) (aw f ma mb):=⟨λA =>
 let ⟨_,q1,s1⟩:=ha.h A;let ⟨_,q2,s2⟩:=hb.h A;by obtain⟨_,q,s⟩:=ho A;exact⟨_,L1 q q1 q2,wA s s1 s2⟩⟩
theorem yH(ho:bQ X pg k-> ∃ r,bR X (R9 op) r/\kb X.K r f)(ha:JE X pg k a ma)(hb:JE X pg k b mb)(hm:Tj op b=false):JE X pg k (.Compare a [op] [b] pos) (aw f ma mb):=⟨λA =>
 let ⟨_,q1,s1⟩:=ha.h A;let ⟨_,q2,s2⟩:=hb.h A;by obtain⟨_,q,s⟩:=ho A;exact⟨_,De q q1 q2 hm,wA s s1 s2⟩⟩
theorem qK{K}(ha:SE cf K ta ma):ST cf K (BG ta) (aC ma):=fun ρ h H e σ Q v h' s r q P=>by
 obtain⟨x,h1,e1,q⟩:=bind_eq.mp q;obtain⟨rfl,rfl⟩:=mY.mp q;refine ha ρ h H e σ _ _ _ s r e1 λx' ρ1 H1 g1 s1 r1=>?_;exact⟨v,r1,P ρ1 H1 g1 s1⟩
theorem zJ(ho:bQ X pg k-> ∃ r,bR X (R9 op) r/\kb X.K r f)(ha:JE X pg k a ma)(hb:JE X pg k b mb)(hm:Tj op b=false):JT X pg k (.Compare a [op] [b] pos) (aC (aw f ma mb)):=⟨λA =>
 let ⟨_,q1,s1⟩:=ha.h A;let ⟨_,q2,s2⟩:=hb.h A;by obtain⟨_,q,s⟩:=ho A;exact⟨_,CO q q1 q2 hm,qK (wA s s1 s2)⟩⟩
theorem IA(ha:JE X pg k e ma)(he: ∀ whole,Y8 e X.env whole=(do let v <- whole;ZO e.pos;WC [v] (truthy v)):=by intro _;rfl):JT X pg k e (aC ma):=⟨λA =>
 by obtain⟨_,q1,s1⟩:=ha.h A;exact⟨_,JZ q1 he,qK s1⟩⟩
theorem KJ(ha:JE X pg k a ma):JE X pg k (.UnaryOp .Not a pos) (Cu ma):=⟨λA =>
 by obtain⟨_,q1,s1⟩:=ha.h A;exact⟨_,JQ q1,fun ρ h H e σ Q v h' s r q P=>by
  obtain⟨x,h2,q2,q⟩:=bind_eq.mp q;obtain⟨y,h1,e1,q2⟩:=bind_eq.mp q2;obtain⟨rfl,rfl⟩:=mY.mp q2;cases q;refine s1 ρ h H e σ _ _ _ s r e1 λx' ρ1 H1 g1 z1 r1=>?_;exact⟨x,r1,P _ ρ1 H1 g1 z1 (by rw[rel])⟩⟩⟩
theorem IB(h:JE X pg k a ma):JE X pg k (.BoolOp op [a] pos) ma:=⟨λA=>by obtain⟨_,q1,s1⟩:=h.h A;exact⟨_,J7 q1,s1⟩⟩
theorem JR{rest}(ha:JE X pg k a ma)(hb:JE X pg k (.BoolOp .And (b::rest) pos) mb):JE X pg k (.BoolOp .And (a::b::rest) pos) (j8 ma mb):=⟨λA =>
 by obtain⟨_,q1,s1⟩:=ha.h A;exact by obtain⟨_,q2,s2⟩:=hb.h A;exact⟨_,KN q1 q2,fun ρ h H e σ Q v h' s r q P=>by
  obtain⟨x,h2,q2,q⟩:=bind_eq.mp q;obtain⟨y,h1,e1,q2⟩:=bind_eq.mp q2;obtain⟨rfl,rfl⟩:=mY.mp q2;refine s1 ρ h H e σ _ _ _ s r e1 λx' ρ1 H1 g1 z1 r1=>?_;refine⟨x,r1,?_⟩;cases x with
  | true=>exact s2 ρ1 _ H1 e σ _ _ _ z1 (r.gr g1) q (P.gr g1)
  | false=>cases q;exact P _ ρ1 H1 g1 z1 (by rw[rel])⟩⟩
theorem Ls{rest}(ha:JE X pg k a ma)(hb:JE X pg k (.BoolOp .Or (b::rest) pos) mb):JE X pg k (.BoolOp .Or (a::b::rest) pos) (Ov ma mb):=⟨λA =>
 by obtain⟨_,q1,s1⟩:=ha.h A;exact by obtain⟨_,q2,s2⟩:=hb.h A;exact⟨_,Ox q1 q2,fun ρ h H e σ Q v h' s r q P=>by
  obtain⟨x,h2,q2,q⟩:=bind_eq.mp q;obtain⟨y,h1,e1,q2⟩:=bind_eq.mp q2;obtain⟨rfl,rfl⟩:=mY.mp q2;refine s1 ρ h H e σ _ _ _ s r e1 λx' ρ1 H1 g1 z1 r1=>?_;refine⟨x,r1,?_⟩;cases x with
  | false=>exact s2 ρ1 _ H1 e σ _ _ _ z1 (r.gr g1) q (P.gr g1)
  | true=>cases q;exact P _ ρ1 H1 g1 z1 (by rw[rel])⟩⟩
theorem AA(hc:JT X pg k c mt)(ha:JE X pg k a ma)(hb:JE X pg k b mb):JE X pg k (.IfExp c a b pos) (yt mt ma mb):=⟨λA =>
 by obtain⟨_,q0,s0⟩:=hc.h A;exact let ⟨_,q1,s1⟩:=ha.h A;let ⟨_,q2,s2⟩:=hb.h A;⟨_,AW q0 q1 q2,fun ρ h H e σ Q v h' s r q P=>by
  obtain⟨x,h1,e1,q⟩:=bind_eq.mp q;refine s0 ρ h H e σ _ _ _ s r e1 fun ρ1 H1 g1 z1=>?_;cases x with
  | true=>exact s1 ρ1 _ H1 e σ _ _ _ z1 (r.gr g1) q (P.gr g1)
  | false=>exact s2 ρ1 _ H1 e σ _ _ _ z1 (r.gr g1) q (P.gr g1)⟩⟩
theorem CY(ha:JT X pg k a mt):JW X pg k (.BoolOp .And [a] pos) mt:=⟨λA=>by obtain⟨_,q1,s1⟩:=ha.h A;exact⟨_,Cw q1,s1⟩⟩
theorem Ld(ha:JT X pg k a mt):JW X pg k (.BoolOp .Or [a] pos) mt:=⟨λA=>by obtain⟨_,q1,s1⟩:=ha.h A;exact⟨_,Kh q1,s1⟩⟩
theorem AQ{rest}(ha:JT X pg k a mt)(hb:JW X pg k (.BoolOp .And (b::rest) pos) mt'):JW X pg k (.BoolOp .And (a::b::rest) pos) (n6 mt mt'):=⟨λA =>
 by obtain⟨_,q1,s1⟩:=ha.h A;exact by obtain⟨_,q2,s2⟩:=hb.h A;exact⟨_,Kx q1 q2,fun ρ h H e σ Q v h' s r q P=>by
  obtain⟨x,h1,e1,q⟩:=bind_eq.mp q;refine s1 ρ h H e σ _ _ _ s r e1 fun ρ1 H1 g1 z1=>?_;cases x with
  | true=>exact s2 ρ1 _ H1 e σ _ _ _ z1 (r.gr g1) q (P.gr g1)
  | false=>cases q;exact P ρ1 H1 g1 z1⟩⟩
theorem FD{rest}(ha:JT X pg k a mt)(hb:JW X pg k (.BoolOp .Or (b::rest) pos) mt'):JW X pg k (.BoolOp .Or (a::b::rest) pos) (yx mt mt'):=⟨λA =>
 by obtain⟨_,q1,s1⟩:=ha.h A;exact by obtain⟨_,q2,s2⟩:=hb.h A;exact⟨_,N2 q1 q2,fun ρ h H e σ Q v h' s r q P=>by
  obtain⟨x,h1,e1,q⟩:=bind_eq.mp q;refine s1 ρ h H e σ _ _ _ s r e1 fun ρ1 H1 g1 z1=>?_;cases x with
  | false=>exact s2 ρ1 _ H1 e σ _ _ _ z1 (r.gr g1) q (P.gr g1)
  | true=>cases q;exact P ρ1 H1 g1 z1⟩⟩
theorem JW.pt(h:JW X pg k e mt):JT X pg k e mt:=⟨λA=>by obtain⟨_,q1,s1⟩:=h.h A;exact⟨_,q1.pt,s1⟩⟩
theorem JL(ha:JT X pg k a mt):JT X pg k (.UnaryOp .Not a pos) (qG mt):=⟨λA=>by obtain⟨_,q1,s1⟩:=ha.h A;exact⟨_,Jc q1,fun ρ h H e σ Q v h' s r q P=>by
  obtain⟨x,h1,e1,q⟩:=bind_eq.mp q;cases q;exact s1 ρ h H e σ _ _ _ s r e1 fun ρ1 H1 g1 z1=>P ρ1 H1 g1 z1⟩⟩
theorem Hc:JF X pg k [] bf:=⟨λA=>⟨_,Hw,fun ρ h H e σ Q v h' s r q P=>by cases q;exact P ρ H (.refl _ _) s⟩⟩
theorem Gb(h:JT X pg k c mt):JF X pg k [c] mt:=⟨λA=>by obtain⟨_,q1,s1⟩:=h.h A;exact⟨_,Jo q1,s1⟩⟩
theorem Kk:JA X pg k [] ao:=⟨λA=>⟨_,ur,fun ρ h H e σ Q v h' s r q P=>by cases q;exact P [] ρ H (.refl _ _) s (bI.mpr rfl)⟩⟩
theorem Ci(ha:JE X pg k e ma)(hr:JA X pg k es mr)(hs:noStar e=true:=by rfl):JA X pg k (e::es) (ab ma mr):=⟨λA =>
 by obtain⟨_,q1,s1⟩:=ha.h A;exact by obtain⟨_,q2,s2⟩:=hr.h A;exact⟨_,qk q1 q2 hs,fun ρ h H e σ Q v h' s r q P=>by
  obtain⟨x,h1,e1,q⟩:=bind_eq.mp q;obtain⟨xs,h2,e2,q⟩:=bind_eq.mp q;cases q;refine s1 ρ h H e σ _ _ _ s r e1 λx' ρ1 H1 g1 z1 r1=>?_;refine s2 ρ1 h1 H1 e σ _ _ _ z1 (r.gr g1) e2 λus ρ2 H2 g2 z2 r2=>?_;exact P _ ρ2 H2 (g1.trans g2) z2 (aq.mpr ⟨x',us,rfl,rel.gr g2 _ _ r1,r2⟩)⟩⟩
theorem Ig(h:JA X pg k es mr):JE X pg k (.Tuple es x1 pos) (az mr):=⟨λA =>
 by obtain⟨_,q1,s1⟩:=h.h A;exact⟨_,HY q1,fun ρ h H e σ Q v h' s r q P=>by
  obtain⟨xs,h1,e1,q⟩:=bind_eq.mp q;obtain⟨hl,q⟩:=ja.mp q;cases q;refine s1 ρ h H e σ _ _ _ s r e1 λus ρ1 H1 g1 z1 r1=>⟨by rw[<- r1.len];exact hl,λp hp=>?_⟩
  refine P _ ρ1 _ (g1.trans (Gr.uJ hp)) (z1.tup hp) ?_;exact⟨p,us,rfl,aX,ai.gr (Gr.uJ hp) _ _ r1⟩⟩⟩
theorem cJ{K}(s:b6 K ρ h H)(r:ai K ρ H xs us)(P:cQ K ρ H (.ref h.length) (h++[.lst xs]) Q) p (hp:H p=Rv):Q (.ref p) (upd H p (.lst us)):=by
 refine P _ (ρ ++[p]) _ (Gr.new hp [p]) (s.new hp ⟨us,aX,ai.gr (Gr.new hp [p]) _ _ r⟩) ?_;exact⟨p,by rw[<- s.len,Sa (RE _)];simp,rfl⟩
theorem Gh(h:JA X pg k es mr):JE X pg k (.List es pos) (cY mr):=⟨λA =>
 by obtain⟨_,q1,s1⟩:=h.h A;exact⟨_,Iu q1,fun ρ h H e σ Q v h' s r q P=>by
  obtain⟨xs,h1,e1,q⟩:=bind_eq.mp q;obtain⟨hl,q⟩:=ja.mp q;cases q;exact s1 ρ h H e σ _ _ _ s r e1 λus ρ1 H1 g1 z1 r1=>⟨by rw[<- r1.len];exact hl,λp hp=>cJ z1 r1 (P.gr g1) p hp⟩⟩⟩
theorem CH{d}(hf:pg.fns f=fv d)(hg:Gl X (RZ f))(ha:JA X pg k (e::es) mr)(hdb:(RZ f == ("__debug__"))=false:=by decide)(he:noStar e=true:=by rfl)(hpl:es.all noStar=true:=by rfl) :
  JE X pg k (.Call (.Name (RZ f) p) (e::es) [] pos) (ah f mr):=⟨λA =>
 by obtain⟨_,q1,s1⟩:=ha.h A;exact⟨_,qd (A.defs f d hf) A.room hg (RE _) q1 hdb he hpl,fun ρ h H e σ Q v h' s r q P=>by
  obtain⟨xs,h1,e1,q⟩:=bind_eq.mp q;refine s1 ρ h H e σ _ _ _ s r e1 λus ρ1 H1 g1 z1 r1=>?_;rw[Tq];exact⟨ρ1,h1,xs,v,h',z1,r1,q,P.gr g1⟩⟩⟩
theorem NZ{K}(ho:xP K r f)(ha:SA cf K ta mr):SE cf K (HK r ta) (eB f mr):=fun ρ h H e σ Q v h' s r q P=>by
 obtain⟨xs,h1,e1,q⟩:=bind_eq.mp q;exact ha ρ h H e σ _ _ _ s r e1 λus ρ1 H1 g1 z1 r1=>ho ρ1 h1 H1 xs us Q v h' z1 r1 q (P.gr g1)
theorem zM{id}(hc:bQ X pg k-> ∃ r,aG X (.builtin id) r/\xP X.K r f)(hg:Gl X x)(hb:x∈fI)(hv:Ta x=fv (.builtin id))(ha:JA X pg k (e::es) mr)
  (hn:x≠ "__name__" :=by decide) (hdb:(x == ("__debug__"))=false:=by decide) (he:noStar e=true:=by rfl) (hpl:es.all noStar=true:=by rfl):JE X pg k (.Call (.Name x p) (e::es) [] pos) (eB f mr):=⟨λA =>
 by obtain⟨_,q1,s1⟩:=ha.h A;exact by obtain⟨_,q,s⟩:=hc A;exact⟨_,qB q hg (A.blt x hb) hv q1 hn hdb he hpl,NZ s s1⟩⟩
theorem DQ(hc:bQ X pg k-> ∃ r,aG X (.type T) r/\xP X.K r f)(hg:Gl X x)(hb:x∈fI)(hv:Ta x=fv (.type T))(ha:JA X pg k (e::es) mr)
  (hn:x≠ "__name__" :=by decide) (hdb:(x == ("__debug__"))=false:=by decide) (he:noStar e=true:=by rfl) (hpl:es.all noStar=true:=by rfl):JE X pg k (.Call (.Name x p) (e::es) [] pos) (eB f mr):=⟨λA =>
 by obtain⟨_,q1,s1⟩:=ha.h A;exact by obtain⟨_,q,s⟩:=hc A;exact⟨_,qT q hg (A.blt x hb) hv q1 hn hdb he hpl,NZ s s1⟩⟩
theorem Im{id}(pa:Wr T)(slot:Slot T name id)(hty:Z0 (.builtin id)=pure (.type "method_descriptor"))(hm:bQ X pg k-> ∃ r,zB X id r/\Lm X.K T r f ty)
  (ho:JE X pg k d md) (ha:JA X pg k [e] mr) (hbase:TX d name X.env (Tw d X.env)=Tw d X.env:=by rfl) (hline:(apos.endLine == cpos.line)=true:=by rfl) (hs:noStar e=true:=by rfl) :
  JE X pg k (.Call (.Attribute d name apos) [e] [] cpos) (eM f ty md mr):=⟨λA =>
 by obtain⟨_,q0,s0⟩:=ho.h A;exact by obtain⟨_,q1,s1⟩:=ha.h A;exact by obtain⟨_,q,s⟩:=hm A;exact⟨_,FO pa slot hty q q0 q1 hbase hline hs,fun ρ h H e σ Q v h' z r q P=>by
  obtain⟨x,h1,e1,q⟩:=bind_eq.mp q;refine s0 ρ h H e σ _ _ _ z r e1 λx' ρ1 H1 g1 z1 r1=>?_;split at q
  . rename_i ht;obtain⟨xs,h2,e2,q⟩:=bind_eq.mp q;refine⟨s.1 ρ1 h1 H1 x x' z1 r1 ht,?_⟩;exact s1 ρ1 h1 H1 e σ _ _ _ z1 (r.gr g1) e2 λus ρ2 H2 g2 z2 r2=>s.2 ρ2 h2 H2 x x' xs us Q v h' z2 (rel.gr g2 _ _ r1) r2 q (P.gr (g1.trans g2))
  . simp_all⟩⟩
theorem yz{K}(ho:kb K r f)(ho':kb K r' g)(ha:SE cf K ta ma)(hb:SE cf K tb mb)(hc:SE cf K tc mc):SE cf K (ui r r' ta tb tc) (pX f g ma mb mc):=fun ρ h H e σ Q v h' s r q P=>by
 obtain⟨x,h1,e1,q⟩:=bind_eq.mp q;obtain⟨y,h2,e2,q⟩:=bind_eq.mp q;obtain⟨z,h3,e3,q⟩:=bind_eq.mp q;obtain⟨z0,h4,e4,e5⟩:=bind_eq.mp e3;obtain⟨rfl,rfl⟩:=mY.mp e5;refine ha ρ h H e σ _ x h1 s r e1 λx' ρ1 H1 g1 s1 r1=>?_;refine hb ρ1 h1 H1 e σ _ y h2 s1 (r.gr g1) e2 λy' ρ2 H2 g2 s2 r2=>?_;refine ho ρ2 h2 H2 x y x' y' _ _ _ s2 (rel.gr g2 _ _ r1) r2 e4 λz' ρ3 H3 g3 s3 r3=>?_;refine⟨z,r3,?_⟩;cases z with
 | true =>
  obtain⟨w,h5,e5,q⟩:=bind_eq.mp q
  refine hc ρ3 _ H3 e σ _ w h5 s3 (r.gr ((g1.trans g2).trans g3)) e5 λw' ρ4 H4 g4 s4 r4=>?_
  exact ho' ρ4 h5 H4 y w y' w' Q v h' s4 (rel.gr (g3.trans g4) _ _ r2) r4 q (P.gr (((g1.trans g2).trans g3).trans g4))
 | false=>cases q;exact P _ ρ3 H3 ((g1.trans g2).trans g3) s3 (by rw[rel])
theorem zr(ho:bQ X pg k-> ∃ r,bR X (R9 op) r/\kb X.K r f)(ho':bQ X pg k-> ∃ r,bR X (R9 op') r/\kb X.K r g)(ha:JE X pg k a ma)(hb:JE X pg k b mb)(hc:JE X pg k c mc)
  (hm:lastMarks [op,op'] [b,c]=false:=by with_unfolding_all rfl):JE X pg k (.Compare a [op,op'] [b,c] pos) (pX f g ma mb mc):=⟨λA =>
 let ⟨_,q1,s1⟩:=ha.h A;let ⟨_,q2,s2⟩:=hb.h A;let ⟨_,q3,s3⟩:=hc.h A;let ⟨_,q,s⟩:=ho A;let ⟨_,q',s'⟩:=ho' A;⟨_,yZ q q' q1 q2 q3 hm,yz s s' s1 s2 s3⟩⟩
end
noncomputable def cL:MS:=λ_ e h=> .ok (.nx e) h
def ag(a b:MS):MS:=λc e h=>(a c e h).bind λf h1=>match f with
 | .nx e1=>b c e1 h1
 | f=> .ok f h1
def gM(a:ME):MS:=λc e h=>(a c e h).bind λ_ h1=> .ok (.nx e) h1
def aB(a:ME):MS:=λc e h=>(a c e h).bind λv h1=> .ok (.rt v) h1
def ck(t:MT)(a b:MS):MS:=λc e h=>(t c e h).bind λx h1=>if x=true then a c e h1 else b c e h1
noncomputable def gH:MS:=λ_ _ _=> .no
def ar(a:ME)(g:MG):MS:=λc e h=>(a c e h).bind λv h1=>(g v e h1).bind λe1 h2=> .ok (.nx e1) h2
noncomputable def gN(i:Nat):MG:=λv e h=> .ok (e.set i (fv v)) h
noncomputable def gT(n:Nat)(g:List PV->aM->PH->RV aM):MG:=λv e h=>match v.seq? with
 | some xs=>if xs.length=n then g xs e h else .no
 | none=> .no
noncomputable def eF:List PV->aM->PH->RV aM:=λvs e h=>match vs with
 | []=> .ok e h
 | _=> .no
def aT(g:MG)(r:List PV->aM->PH->RV aM):List PV->aM->PH->RV aM:=λvs e h=>match vs with
 | []=> .no
 | v::t=>(g v e h).bind λe1 h1=>r t e1 h1
def EO(f:PV->PV->PV->PH->RV Unit)(o i a:ME):MS:=λc e h=>(a c e h).bind λv h1=>(o c e h1).bind λx h2=>(i c e h2).bind λy h3=>(f x y v h3).bind λ_ h4=> .ok (.nx e) h4
def bg(it:qN)(step:PV->aM->PH->RV Fl):List PV->aM->PH->RV Fl
 | [],e,h=>if it.j5 h=true then .ok (.nx e) h else .no
 | x::xs,e,h=>if it.j5 h=true then(step x e h).bind (λf h1=>match f with
   | .nx e1=>bg it step xs e1 h1
   | .ct e1=>bg it step xs e1 h1
   | .bk e1=> .ok (.nx e1) h1
   | .rt v=> .ok (.rt v) h1) else .no
def pK(i:MI)(g:MG)(b:MS):MS:=λc e h=>(i c e h).bind λit h1=>bg it (λx e h=>(g x e h).bind λe1 h1=>b c e1 h1) it.items e h1
def dA(t:aM->PH->RV Bool)(b:aM->PH->RV Fl):Nat->aM->PH->RV Fl
 | 0,_,_=> .no
 | n+1,e,h=>(t e h).bind λx h1=>if x=true then(b e h1).bind (λf h2=>match f with
   | .nx e1=>dA t b n e1 h2
   | .ct e1=>dA t b n e1 h2
   | .bk e1=> .ok (.nx e1) h2
   | .rt v=> .ok (.rt v) h2) else .ok (.nx e) h1
def tQ(t:MT)(b:MS):MS:=λc e h=>dA (t c) (b c) 100000 e h
def ip(it:qN)(step:PV->PH->RV (Option PV)):List PV->List PV->PH->RV (List PV)
 | [],ys,h=>if it.j5 h=true then .ok ys h else .no
 | x::xs,ys,h=>if it.j5 h=true/\ys.length < RF then(step x h).bind (λo h1=>match o with
   | some y=>ip it step xs (ys++[y]) h1
   | none=>ip it step xs ys h1) else .no
def aR k (g:MG) (t:MT) (a:ME) c (e:aM) x h:=(g x (e++Rz k Rv) h).bind λe2 h2=>(t c e2 h2).bind λb h3=>if b=true then(a c e2 h3).bind (λy h4=> .ok (fv y) h4) else .ok Rv h3
def lD(k:Nat)(i:MI)(g:MG)(t:MT)(a:ME):ME:=λc e h=>(i c e h).bind λit h1=>(ip it (aR k g t a c e) it.items [] h1).bind λys h2=> .ok (.ref h2.length) (h2++[.lst ys])
section
variable{X:Cx}{pg:Tb}{k:Nat}{a b c d e o i:Sy}{es:List Sy}{ma mb mc md mo mi:ME}{mr:MA}{mt mt':MT}{ms ms' mu:MS}{pos p pos' apos cpos spos:Pos}{x y:Str}{st:W5}{body rest:List W5}{g:MG}{mI:MI}{tg iter:Sy}{gs:List PV->aM->PH->RV aM}
theorem M9{c K}:SS c K Aw cL:=fun ρ h H e σ D f h' s r q P=>by cases q;exact P σ ρ H (.refl _ _) s r
theorem IH{c K}(h1:SS c K t ms)(h2:SS c K u mu):SS c K (G3 t u) (ag ms mu):=fun ρ h H e σ D f h' s r q P=>by
 obtain⟨f1,h1',e1,q⟩:=bind_eq.mp q;refine h1 ρ h H e σ _ f1 h1' s r e1 ?_;cases f1 with
 | nx e'=>exact fun σ1 ρ1 H1 g1 s1 r1=>h2 ρ1 h1' H1 e' σ1 D f h' s1 r1 q (P.gr g1)
 | rt v=>cases q;exact P
 | bk e'=>cases q;exact P
 | ct e'=>cases q;exact P
theorem DG:uT X pg k [] cL:=⟨λA=>⟨_,B5,M9⟩⟩
theorem B8(h:JS X pg k st ms):uT X pg k [st] ms:=⟨λA=>by obtain⟨_,q,s⟩:=h.h A;exact⟨_,En q,s⟩⟩
theorem yO(h1:JS X pg k st ms)(h2:uT X pg k rest mu):uT X pg k (st::rest) (ag ms mu):=⟨λA=>by obtain⟨_,q1,s1⟩:=h1.h A;exact by obtain⟨_,q2,s2⟩:=h2.h A;exact⟨_,zq q1 q2,IH s1 s2⟩⟩
theorem DM(ha:JE X pg k e ma)(hs:UX e Rv pos.line X.env=pure false:=by rfl):JS X pg k (.Expr e pos) (gM ma):=⟨λA=>by obtain⟨_,q1,s1⟩:=ha.h A;exact⟨_,DK q1 hs,fun ρ h H e σ D f h' s r q P=>by
 obtain⟨x,h1,e1,q⟩:=bind_eq.mp q;cases q;exact s1 ρ h H e σ _ x _ s r e1 λx' ρ1 H1 g1 z1 r1=>P σ ρ1 H1 g1 z1 (r.gr g1)⟩⟩
theorem K7(ha:JE X pg k e ma):JS X pg k (.Return (fv e) pos) (aB ma):=⟨λA=>by obtain⟨_,q1,s1⟩:=ha.h A;exact⟨_,HQ q1,fun ρ h H e σ D f h' s r q P=>by
 obtain⟨x,h1,e1,q⟩:=bind_eq.mp q;cases q;exact s1 ρ h H e σ _ x _ s r e1 P⟩⟩
theorem N3(hc:JT X pg k c mt)(ha:uT X pg k A ms)(hb:uT X pg k B mu):JS X pg k (.If c A B pos) (ck mt ms mu):=⟨λZ =>
 by obtain⟨_,q0,s0⟩:=hc.h Z;exact let ⟨_,q1,s1⟩:=ha.h Z;let ⟨_,q2,s2⟩:=hb.h Z;⟨_,Mb q0 q1 q2,fun ρ h H e σ D f h' s r q P=>by
  obtain⟨x,h1,e1,q⟩:=bind_eq.mp q;refine s0 ρ h H e σ _ _ _ s r e1 fun ρ1 H1 g1 z1=>?_;cases x with
  | true=>exact s1 ρ1 _ H1 e σ _ _ _ z1 (r.gr g1) q (P.gr g1)
  | false=>exact s2 ρ1 _ H1 e σ _ _ _ z1 (r.gr g1) q (P.gr g1)⟩⟩
theorem AJ:JS X pg k st gH:=⟨λA=>⟨_,⟨BM⟩,fun ρ h H e σ D f h' s r q P=>by cases q⟩⟩
theorem vS{K i}:SG K (d6 i) (gN i):=fun ρ h H e σ Q v v' e' h' s r rv q P=>by cases q;exact P _ ρ H (.refl _ _) s (r.set i rv)
theorem DZ{i}(hN:X.N.Nodup)(hi:X.N[i]?=fv x)(hx:Loc X.env.scope x)(hf:X.fn x=true\/X.env.scope.names.lookup x=fv .local:=by first | exact .inl rfl | exact .inr rfl | assumption):JG X pg k (.Name x pos) (gN i):=⟨λA=>⟨_,vA hN hi hx hf,vS⟩⟩
structure Lr(X:Cx)(pg:Tb)(k:Nat)(e:List Sy)(m:List PV->aM->PH->RV aM):Prop where
 h:bQ X pg k-> ∃ t,Ja X e t/\ ∀ ρ h H e σ Q vs us e' h',b6 X.K ρ h H->cO X.K ρ H e σ ->ai X.K ρ H vs us->m vs e h= .ok e' h'->eA X.K ρ H e' h' Q->t us σ H Q
theorem D1:Lr X pg k [] eF:=⟨λA=>⟨_,wF,fun ρ h H e σ Q vs us e' h' s r rv q P=>by
 cases vs with
 | nil=>cases q;exact⟨rv,P σ ρ H (.refl _ _) s r⟩
 | cons=>cases q⟩⟩
theorem A5(h1:JG X pg k e g)(h2:Lr X pg k es gs)(hs:(S3 (e::es) X.env).map (·.2)=V7 e X.env::(S3 es X.env).map (·.2):=by rfl):Lr X pg k (e::es) (aT g gs):=⟨λA =>
 by obtain⟨_,q1,s1⟩:=h1.h A;exact by obtain⟨_,q2,s2⟩:=h2.h A;exact⟨_,qR q1 q2 hs,fun ρ h H e σ Q vs us e' h' s r rv q P=>by
 cases vs with
 | nil=>cases q
 | cons v t =>
  obtain⟨w,u,rfl,r1,r2⟩:=aq.mp rv
  obtain⟨e1,h1,e2,q⟩:=bind_eq.mp q
  refine⟨w,u,rfl,?_⟩
  exact s1 ρ h H e σ _ v w e1 h1 s r r1 e2 fun σ1 ρ1 H1 g1 z1 y1=>s2 ρ1 h1 H1 e1 σ1 Q t u e' h' z1 y1 (ai.gr g1 _ _ r2) q (P.gr g1)⟩⟩
theorem GO{j}(h:Lr X pg k es gs)(hn:(S3 es X.env).length=n:=by rfl)(hst:(S3 es X.env).findIdx? (·.1)=Rv:=by rfl):JG X pg k (.Tuple es j pos) (gT n gs):=⟨λA =>
 by obtain⟨_,q1,s1⟩:=h.h A;exact⟨_,Aa A.calm q1 hn hst,fun ρ h H e σ Q v v' e' h' s r rv q P=>by
 unfold gT at q
 split at q
 . rename_i xs ex;obtain⟨a,vs,rfl,z,rr⟩:=rel.seq ex rv;split at q
   . rename_i hl;exact⟨a,vs,rfl,z,by rw[<- rr.len];exact hl,s1 ρ h H e σ Q xs vs e' h' s r rr q P⟩
   . nomatch q
 . nomatch q⟩⟩
theorem Gy(hN:X.N.Nodup)(hi:X.N[j]?=fv x)(hx:Loc X.env.scope x)(he:JE X pg k e ma)(hs:UX e (fv (.Name x pos')) pos.line X.env=pure false:=by rfl)(hf:X.fn x=true\/X.env.scope.names.lookup x=fv .local:=by first | exact .inl rfl | exact .inr rfl | assumption) :
  JS X pg k (.Assign [.Name x pos'] e pos) (ar ma (gN j)):=⟨λA=>by obtain⟨_,q1,s1⟩:=he.h A;exact⟨_,GG hN hi hx q1 hs hf,fun ρ h H e σ D f h' s r q P=>by
 obtain⟨v,h1,e1,q⟩:=bind_eq.mp q;obtain⟨e2,h2,e3,q⟩:=bind_eq.mp q;cases q;cases e3;exact s1 ρ h H e σ _ v _ s r e1 λv' ρ1 H1 g1 z1 r1=>P _ ρ1 H1 g1 z1 ((r.gr g1).set j r1)⟩⟩
theorem G4(he:JE X pg k e ma)(hg:JG X pg k tg g)(hs:WN [tg] e pos.line X.env=pure false:=by rfl)(hw:WO [tg] e X.env=pure Rv:=by rfl)(h1:(S3 [tg] X.env).map (·.2)=[V7 tg X.env]:=by rfl) :
  JS X pg k (.Assign [tg] e pos) (ar ma g):=⟨λA=>by obtain⟨_,q1,s1⟩:=he.h A;exact by obtain⟨_,q2,s2⟩:=hg.h A;exact⟨_,zo q1 q2 hs hw h1,fun ρ h H e σ D f h' s r q P=>by
 obtain⟨v,h1,e1,q⟩:=bind_eq.mp q;obtain⟨e2,h2,e3,q⟩:=bind_eq.mp q;cases q;exact s1 ρ h H e σ _ v h1 s r e1 λv' ρ1 H1 g1 z1 r1=>s2 ρ1 h1 H1 e σ _ v v' e2 _ z1 (r.gr g1) r1 e3 (eA.gr P g1)⟩⟩
theorem Jw(hp:bQ X pg k-> ∃ t,nP X t/\ ∀ ρ h H x y v x' y' v' u h' Q,b6 X.K ρ h H->rel X.K ρ H x x'->rel X.K ρ H y y'->rel X.K ρ H v v'->f x y v h= .ok u h'->kS X.K ρ H h' Q->t x' y' v' H Q)
  (ho:JE X pg k o mo) (hi:JE X pg k i mi) (hv:JE X pg k e ma) (hs:WN [.Subscript o i pos'] e pos.line X.env=pure false:=by rfl) (hw:WO [.Subscript o i pos'] e X.env=pure Rv:=by rfl) (h1:(S3 [.Subscript o i pos'] X.env).map (·.2)=[V7 (.Subscript o i pos') X.env]:=by rfl)
  (ha: ∀ v,V7 (.Subscript o i pos') X.env v=(do
   let ov <- WC [v] (Tw o X.env)
   let iv <- WC [v,ov] (Tw i X.env)
   ZO pos'
   WC [v,ov,iv] (setItem ov iv v)
   release [v,ov,iv] []):=by intro _;rfl):JS X pg k (.Assign [.Subscript o i pos'] e pos) (EO f mo mi ma):=⟨λA =>
 let ⟨_,q0,s0⟩:=hv.h A;let ⟨_,q1,s1⟩:=ho.h A;let ⟨_,q2,s2⟩:=hi.h A;by obtain⟨_,q3,s3⟩:=hp A;exact⟨_,zo q0 ⟨Km q1.h q2.h q3 ha⟩ hs hw h1,fun ρ h H e σ D f' h' s r q P=>by
 obtain⟨v,h1,e1,q⟩:=bind_eq.mp q
 obtain⟨x,h2,e2,q⟩:=bind_eq.mp q
 obtain⟨y,h3,e3,q⟩:=bind_eq.mp q
 obtain⟨u,h4,e4,q⟩:=bind_eq.mp q
 cases q
 refine s0 ρ h H e σ _ v h1 s r e1 λv' ρ1 H1 g1 z1 r1=>?_
 refine s1 ρ1 h1 H1 e σ _ x h2 z1 (r.gr g1) e2 λx' ρ2 H2 g2 z2 r2=>?_
 refine s2 ρ2 h2 H2 e σ _ y h3 z2 (r.gr (g1.trans g2)) e3 λy' ρ3 H3 g3 z3 r3=>?_
 have g:=(g1.trans g2).trans g3
 exact s3 ρ3 h3 H3 x y v x' y' v' u _ _ z3 (rel.gr g3 _ _ r2) r3 (rel.gr (g2.trans g3) _ _ r1) e4 fun ρ4 H4 g4 z4=>P σ ρ4 H4 (g.trans g4) z4 (r.gr (g.trans g4))⟩⟩
theorem KQ(hi:JI X pg k tg iter mI)(hg:JG X pg k tg g)(hb:uT X pg k body ms)(hp:W6 (R4 X.prog X.w) X.A X.env X.xe)(hs: ∀ x,SD iter X.env x=pure x:=by intro _;rfl):JS X pg k (.For tg iter body [] pos) (pK mI g ms):=⟨λA =>
 by obtain⟨_,q1,s1⟩:=hi.h A;exact by obtain⟨_,q2,s2⟩:=hg.h A;exact by obtain⟨_,q3,s3⟩:=hb.h A;exact⟨_,Gz hp A.calm q1 q2 q3 hs,fun ρ h H e σ D f h' s r q P=>by
 obtain ⟨it,h1,e1,q⟩:=bind_eq.mp q
 refine s1 ρ h H e σ _ it h1 s r e1 fun ρ1 H1 J g1 z1 w1=>?_
 let step:=λx e h=>(g x e h).bind λe1 h1=>ms (run pg k) e1 h1
 refine ⟨λi m σ' H'=> ∃ ρ' h2 e',Gr ρ1 H1 ρ' H'∧b6 X.K ρ' h2 H'∧cO X.K ρ' H' e' σ'∧i<=it.items.length∧m=it.items.length - i∧bg it step (it.items.drop i) e' h2= .ok f h',⟨_, ρ1,h1,e,.refl _ _,z1,r.gr g1,Si _,rfl,q⟩,?_⟩
 rintro i m σ2 H2 ⟨ρ2,h2,e2,g2,z2,r2,hi,rfl,q2⟩
 cases hx:it.items[i]? with
 | none =>
  have hl:=Vi.mp hx
  rw[Ud hl,bg] at q2
  split at q2
  . rename_i hf;cases q2;exact .inl ⟨(w1 i ρ2 _ H2 g2 z2 hf).2 (by omega),P σ2 ρ2 H2 (g1.trans g2) z2 r2⟩
  . cases q2
 | some x =>
  have hlt:=(RC.mp hx).1
  have hd:it.items.drop i=x::it.items.drop (i+1):=by
   rw[Vh hlt,(RC.mp hx).2]
  rw[hd,bg] at q2
  split at q2
  . rename_i hf;obtain⟨go,yl⟩:=(w1 i ρ2 _ H2 g2 z2 hf).1 x hx;obtain⟨f3,h3,e3,q3⟩:=bind_eq.mp q2;obtain ⟨e4,h4,e5,q4⟩:=bind_eq.mp e3;refine .inr ⟨go,fun σ' H'=> ∃ ρ' h2 e',Gr ρ1 H1 ρ' H'∧b6 X.K ρ' h2 H'∧cO X.K ρ' H' e' σ'∧bg it step (it.items.drop (i+1)) e' h2= .ok f h',?_,?_⟩
    . rintro σ' H' ⟨ρ',h2,e',a1,a2,a3,a4⟩;exact ⟨it.items.length - (i+1),by omega, ρ',h2,e',a1,a2,a3,hlt,rfl,a4⟩
    . intro v H3 hy;obtain ⟨ρ3,g3,z3,r3⟩:=yl v H3 hy;refine s2 ρ3 h2 H3 e2 σ2 _ x v e4 h4 z3 (r2.gr g3) r3 e5 fun σ4 ρ4 H4 g4 z4 r4=>?_;have gg:=(g2.trans g3).trans g4;refine s3 ρ4 h4 H4 e4 σ4 _ f3 h3 z4 r4 q4 ?_;cases f3 with
      | nx e6=>exact fun σ5 ρ5 H5 g5 z5 r5=>⟨ρ5,h3,e6,gg.trans g5,z5,r5,q3⟩
      | ct e6=>exact fun σ5 ρ5 H5 g5 z5 r5=>⟨ρ5,h3,e6,gg.trans g5,z5,r5,q3⟩
      | bk e6=>cases q3;exact eA.gr P (g1.trans gg)
      | rt v=>cases q3;exact cQ.gr P (g1.trans gg)
  . simp_all⟩⟩
theorem Aj(hc:JT X pg k c mt)(hb:uT X pg k body ms)(hp:W6 (R4 X.prog X.w) X.A X.env X.xe):JS X pg k (.While c body [] pos) (tQ mt ms):=⟨λA =>
 by obtain ⟨_,q1,s1⟩:=hc.h A;exact by obtain ⟨_,q2,s2⟩:=hb.h A;exact ⟨_,zW hp q1 q2,fun ρ h H e σ D f h' s r q P=>by
 refine ⟨λm σ' H'=> ∃ ρ' h2 e',Gr ρ H ρ' H'∧b6 X.K ρ' h2 H'∧cO X.K ρ' H' e' σ'∧dA (mt (run pg k)) (ms (run pg k)) m e' h2= .ok f h',⟨100000, ρ,h,e,.refl _ _,s,r,q⟩,?_⟩
 rintro m σ1 H1 ⟨ρ1,h1,e1,g1,z1,r1,q1⟩
 cases m with
 | zero=>cases q1
 | succ m =>
  obtain⟨x,h2,e2,q1⟩:=bind_eq.mp q1
  refine s1 ρ1 h1 H1 e1 σ1 _ x h2 z1 r1 e2 fun ρ2 H2 g2 z2=>?_
  cases x with
  | false=>cases q1;exact P σ1 ρ2 H2 (g1.trans g2) z2 (r1.gr g2)
  | true =>
   obtain⟨f3,h3,e3,q3⟩:=bind_eq.mp q1
   refine⟨fun σ' H'=> ∃ ρ' h2 e',Gr ρ H ρ' H'/\b6 X.K ρ' h2 H'/\cO X.K ρ' H' e' σ'/\dA (mt (run pg k)) (ms (run pg k)) m e' h2= .ok f h',fun σ' H' w=>⟨m,VU _,w⟩,?_⟩
   refine s2 ρ2 h2 H2 e1 σ1 _ f3 h3 z2 (r1.gr g2) e3 ?_
   have gg:=g1.trans g2
   cases f3 with
   | nx e6=>exact fun σ5 ρ5 H5 g5 z5 r5=>⟨ρ5,h3,e6,gg.trans g5,z5,r5,q3⟩
   | ct e6=>exact fun σ5 ρ5 H5 g5 z5 r5=>⟨ρ5,h3,e6,gg.trans g5,z5,r5,q3⟩
   | bk e6=>cases q3;exact eA.gr P gg
   | rt v=>cases q3;exact cQ.gr P gg⟩⟩
theorem FU{K tg}(s1:SI cf K wi mI)(s2:SG K tg g)(s3:ST cf K tt mt)(s4:SE cf K te ma):SE cf K (OC n wi tg tt te) (lD n mI g mt ma):=fun ρ h H e σ Q v h' s r q P=>by
 obtain⟨it,h1,e1,q⟩:=bind_eq.mp q;obtain ⟨ys,h2,e2,q⟩:=bind_eq.mp q;cases q;refine s1 ρ h H e σ _ it h1 s r e1 fun ρ1 H1 J g1 z1 w1=>?_;refine ⟨λi m us H'=> ∃ ρ' h3 zs,Gr ρ1 H1 ρ' H'∧b6 K ρ' h3 H'∧ai K ρ' H' zs us∧i<=it.items.length∧m=it.items.length - i∧ip it (aR n g mt ma cf e) (it.items.drop i) zs h3= .ok ys h2,⟨_, ρ1,h1,[],.refl _ _,z1,bI.mpr rfl,Si _,rfl,e2⟩,?_⟩;rintro i m us H2 ⟨ρ2,h3,zs,g2,z2,r2,hi,rfl,q2⟩;cases hx:it.items[i]? with
 | none =>
  have hl:=Vi.mp hx
  rw[Ud hl,ip] at q2
  split at q2
  . rename_i hf;cases q2;exact .inl ⟨(w1 i ρ2 _ H2 g2 z2 hf).2 (by omega),λp hp=>cJ z2 r2 (P.gr (g1.trans g2)) p hp⟩
  . cases q2
 | some x =>
  have hlt:=(RC.mp hx).1
  have hd:it.items.drop i=x::it.items.drop (i+1):=by
   rw[Vh hlt,(RC.mp hx).2]
  rw[hd,ip] at q2
  split at q2
  . rename_i hf;obtain⟨go,yl⟩:=(w1 i ρ2 _ H2 g2 z2 hf.1).1 x hx;obtain⟨o,h4,e3,q3⟩:=bind_eq.mp q2;obtain⟨e4,h5,e5,q4⟩:=bind_eq.mp e3;obtain⟨b,h6,e6,q5⟩:=bind_eq.mp q4;refine .inr ⟨go,by rw[<- r2.len];exact hf.2,λv H3 hy=>?_⟩;obtain⟨ρ3,g3,z3,r3⟩:=yl v H3 hy;refine s2 ρ3 h3 H3 _ _ _ x v e4 h5 z3 (((r.gr (g1.trans (g2.trans g3)))).more n) r3 e5 fun σ4 ρ4 H4 g4 z4 r4=>?_;refine s3 ρ4 h5 H4 e4 σ4 _ b h6 z4 r4 e6 fun ρ5 H5 g5 z5=>?_;have gg:=((g2.trans g3).trans g4).trans g5;cases b with
    | false=>cases q5;exact ⟨it.items.length - (i+1),by omega, ρ5,_,zs,gg,z5,ai.gr ((g3.trans g4).trans g5) _ _ r2,hlt,rfl,q3⟩
    | true =>
     obtain ⟨y,h7,e7,q6⟩:=bind_eq.mp q5
     cases q6
     refine s4 ρ5 h6 H5 e4 σ4 _ y _ z5 (r4.gr g5) e7 λy' ρ6 H6 g6 z6 r6=>?_
     exact ⟨it.items.length - (i+1),by omega, ρ6,_,zs++[y],gg.trans g6,z6,(ai.gr (((g3.trans g4).trans g5).trans g6) _ _ r2).app (ai.one r6),hlt,rfl,q3⟩
  . simp_all
end
noncomputable def Q3(c:CF)(K:Rx)(m:ME):TE:=fun σ H Q=> ∃ ρ h e v h',b6 K ρ h H∧cO K ρ H e σ ∧m c e h= .ok v h'∧cQ K ρ H v h' Q
noncomputable def Q9(c:CF)(K:Rx)(m:MT):TT:=fun σ H Q=> ∃ ρ h e b h',b6 K ρ h H/\cO K ρ H e σ /\m c e h= .ok b h'/\kS K ρ H h' (Q b)
theorem FR{K}:SE c K (Q3 c K m) m:=fun ρ h H e σ Q v h' s r q P=>⟨ρ,h,e,v,h',s,r,q,P⟩
theorem FI{K}:ST c K (Q9 c K m) m:=fun ρ h H e σ Q v h' s r q P=>⟨ρ,h,e,v,h',s,r,q,P⟩
theorem JE.MD(j:JE X pg k e m)(A:bQ X pg k):QE X e (Q3 (run pg k) X.K m) :=
 by obtain⟨_,q,s⟩:=j.h A;exact⟨λpins st σ H Q I=>by rintro ⟨ρ,h,e,v,h',a,b,c,d⟩;exact q.h pins st σ H Q I (s ρ h H e σ Q v h' a b c d)⟩
theorem JF.MD(j:JF X pg k e m)(A:bQ X pg k):QF X e (Q9 (run pg k) X.K m) :=
 by obtain⟨_,q,s⟩:=j.h A;exact⟨λpins st σ H Q I=>by rintro ⟨ρ,h,e,v,h',a,b,c,d⟩;exact q.h pins st σ H Q I (s ρ h H e σ Q v h' a b c d)⟩
structure GC(K:Rx)(n:Nat)(t:TG)(m:MG):Prop where
 sg:SG K t m
 gk:GK n t
 mono:p9 t
structure OG(K:Rx)(n:Nat)(t:BX)(m:List PV->aM->PH->RV aM):Prop where
 sg: ∀ ρ h H e σ Q vs us e' h',b6 K ρ h H->cO K ρ H e σ ->ai K ρ H vs us->m vs e h= .ok e' h'->eA K ρ H e' h' Q->t us σ H Q
 gk:Nt n t
 mono: ∀ xs σ H Q Q',(∀ σ2 H2,Q σ2 H2->Q' σ2 H2)->t xs σ H Q->t xs σ H Q'
theorem CC{K}(h:n<=i):GC K n (d6 i) (gN i):=⟨vS,B9 h,uQ⟩
theorem vP{K}:OG K n xl eF:=⟨fun ρ h H e σ Q vs us e' h' s r rv q P=>by
 cases vs with
 | nil=>cases q;exact⟨rv,P σ ρ H (.refl _ _) s r⟩
 | cons=>exact(by cases q),Gg,λxs σ H Q Q' f q=>⟨q.1,f _ _ q.2⟩⟩
theorem jA{K}(a:GC K n t m)(b:OG K n ts ms):OG K n (kU t ts) (aT m ms):=⟨fun ρ h H e σ Q vs us e' h' s r rv q P=>by
 cases vs with
 | nil=>cases q
 | cons v t =>
  obtain⟨w,u,rfl,r1,r2⟩:=aq.mp rv
  obtain⟨e1,h1,e2,q⟩:=bind_eq.mp q
  refine⟨w,u,rfl,?_⟩
  exact a.sg ρ h H e σ _ v w e1 h1 s r r1 e2 fun σ1 ρ1 H1 g1 z1 y1=>b.sg ρ1 h1 H1 e1 σ1 Q t u e' h' z1 y1 (ai.gr g1 _ _ r2) q (P.gr g1),CA a.gk a.mono b.gk,
 λxs σ H Q Q' f=>by rintro ⟨v,r,e,q⟩;exact⟨v,r,e,a.mono _ _ _ _ _ (fun σ2 H2 z=>b.mono _ _ _ _ _ f z) q⟩⟩
theorem AV{K}(b:OG K n ts ms):GC K n (vf K j ts) (gT j ms):=⟨fun ρ h H e σ Q v v' e' h' s r rv q P=>by
 unfold gT at q;split at q
 . rename_i xs ex;obtain⟨a,vs,rfl,z,rr⟩:=rel.seq ex rv;split at q
   . rename_i hl;exact⟨a,vs,rfl,z,by rw[<- rr.len];exact hl,b.sg ρ h H e σ Q xs vs e' h' s r rr q P⟩
   . nomatch q
 . exact(nomatch q),Js b.gk,λx σ H Q Q' f=>by rintro ⟨a,xs,e1,e2,e3,q⟩;exact⟨a,xs,e1,e2,e3,b.mono _ _ _ _ _ f q⟩⟩
section
variable{X:Cx}{pg:Tb}{k:Nat}{e tg iter:Sy}{ma:ME}{mt:MT}{g:MG}{tG:TG}{mI:MI}{scope:WA}{ifs:List Sy}{pos spos py:Pos}{y:Str}
theorem sv vars (hkind:scope.kind= .function) (hlc:gy scope.names X.env.scope.names X.N vars=true) (hi:JI X pg k tg iter mI)
  (hb: ∀ cl C s₀ H₀ ex pn,(bQ X pg k->QG (dQ X vars scope cl C s₀ H₀ ex pn) tg tG)/\JF (dQ X vars scope cl C s₀ H₀ ex pn) pg k ifs mt/\JE (dQ X vars scope cl C s₀ H₀ ex pn) pg k e ma) (hG:GC X.K X.N.length tG g)
  (hs: ∀ x,SD iter X.env x=pure x:=by intro _;rfl):JE X pg k (.ListComp e [⟨tg,iter,ifs,0⟩] scope pos) (lD vars.length mI g mt ma):=⟨λA =>
 by obtain⟨_,q1,s1⟩:=hi.h A;exact⟨_,yQ vars A.calm A.mW hkind hlc q1 (λcl C s₀ H₀ ex pn=>by obtain⟨h1,h2,h3⟩:=hb cl C s₀ H₀ ex pn;exact⟨h1 A,h2.MD (A.dQ ..),h3.MD (A.dQ ..)⟩) hG.gk hs,FU s1 hG.sg FI FR⟩⟩
theorem rO vars i (hkind:scope.kind= .function) (hlc:gy scope.names X.env.scope.names X.N vars=true) (hN:X.N.Nodup) (hiy:X.N[i]?=fv y) (hy:Loc X.env.scope y) (hi:JI X pg k tg iter mI)
  (hb: ∀ cl C s₀ H₀ ex pn,(bQ X pg k->QG (dQ X vars scope cl C s₀ H₀ ex pn) tg tG)/\JF (dQ X vars scope cl C s₀ H₀ ex pn) pg k ifs mt/\JE (dQ X vars scope cl C s₀ H₀ ex pn) pg k e ma) (hG:GC X.K X.N.length tG g)
  (hsw:UX (.ListComp e [⟨tg,iter,ifs,0⟩] scope pos) (fv (.Name y py)) spos.line X.env=pure true:=by rfl) (hs: ∀ x,SD iter X.env x=pure x:=by intro _;rfl)
  (hf:X.fn y=true\/X.env.scope.names.lookup y=fv .local:=by first | exact .inl rfl | exact .inr rfl | assumption) :
  JS X pg k (.Assign [.Name y py] (.ListComp e [⟨tg,iter,ifs,0⟩] scope pos) spos) (ar (lD vars.length mI g mt ma) (gN i)):=⟨λA =>
 by obtain⟨_,q1,s1⟩:=hi.h A;exact⟨_,Bi vars i A.calm A.mW hkind hlc hN hiy hy q1 (λcl C s₀ H₀ ex pn=>let ⟨h1,h2,h3⟩:=hb cl C s₀ H₀ ex pn;⟨h1 A,h2.MD (A.dQ ..),h3.MD (A.dQ ..)⟩) hG.gk hsw hs hf,fun ρ h H e σ D f h' s r q P=>by
  obtain⟨v,h1,e1,q⟩:=bind_eq.mp q;obtain⟨e2,h2,e3,q⟩:=bind_eq.mp q;cases q;cases e3;exact FU s1 hG.sg FI FR ρ h H e σ _ v _ s r e1 λv' ρ1 H1 g1 z1 r1=>P _ ρ1 H1 g1 z1 ((r.gr g1).set i r1)⟩⟩
end
section
variable{K:Rx}{ρ ρ':List RQ}{H H':Hp}{h h':PH}
mutual
theorem rel.flat: ∀(x:PV)(v:V),x.flat=true->rel K ρ' H' x v->rel K ρ H' x v
 | .non,v,_,h=>by simpa only[rel] using h
 | .bl _,v,_,h=>by simpa only[rel] using h
 | .int _,v,_,h=>by simpa only[rel] using h
 | .str _,v,_,h=>by simpa only[rel] using h
 | .ty _,v,_,h=>by simpa only[rel] using h
 | .ref n,v,f,h=>by simp[PV.flat] at f
 | .tup xs,v,f,h=>by
  rw[rel] at h ⊢;rw[PV.flat] at f;obtain⟨a,vs,e,s,r⟩:=h;exact⟨a,vs,e,s,ai.flat xs vs f r⟩
 | .ktup xs,v,f,h=>by
  rw[rel] at h ⊢;rw[PV.flat] at f;obtain⟨a,vs,e,s,r⟩:=h;exact⟨a,vs,e,s,ai.flat xs vs f r⟩
theorem ai.flat: ∀(xs:List PV)(vs:List V),PV.bq xs=true->ai K ρ' H' xs vs->ai K ρ H' xs vs
 | [],vs,_,h=>by simpa only[ai] using h
 | x::r,vs,f,h=>by
  rw[ai] at h ⊢;rw[PV.bq,RT] at f;obtain⟨v,t,e,h1,h2⟩:=h;exact ⟨v,t,e,rel.flat x v f.1 h1,ai.flat r t f.2 h2⟩
end
mutual
theorem rel.iK(g: ∀ (n:Nat) (a:RQ), ρ[n]?=fv a-> ρ'[n]?=fv a): ∀(x:PV)(v:V),x.iK ρ.length=true->rel K ρ' H' x v->rel K ρ H' x v
 | .non,v,_,h=>by simpa only [rel] using h
 | .bl _,v,_,h=>by simpa only [rel] using h
 | .int _,v,_,h=>by simpa only [rel] using h
 | .str _,v,_,h=>by simpa only[rel] using h
 | .ty _,v,_,h=>by simpa only[rel] using h
 | .ref n,v,f,h=>by
  rw[rel] at h ⊢;rw[PV.iK,decide_eq_true_eq] at f;obtain⟨a,e,h⟩:=h;have:=g n _ (RH f);rw[e] at this;exact⟨a,by rw[RH f,<- Sx this],h⟩
 | .tup xs,v,f,h=>by
  rw[rel] at h ⊢;rw[PV.iK] at f;obtain⟨a,vs,e,s,r⟩:=h;exact⟨a,vs,e,s,ai.iK g xs vs f r⟩
 | .ktup xs,v,f,h=>by
  rw[rel] at h ⊢;rw [PV.iK] at f;obtain ⟨a,vs,e,s,r⟩:=h;exact ⟨a,vs,e,s,ai.iK g xs vs f r⟩
theorem ai.iK(g: ∀ (n:Nat) (a:RQ), ρ[n]?=fv a-> ρ'[n]?=fv a): ∀(xs:List PV)(vs:List V),PV.jj ρ.length xs=true->ai K ρ' H' xs vs->ai K ρ H' xs vs
 | [],vs,_,h=>by simpa only [ai] using h
 | x::r,vs,f,h=>by
  rw [ai] at h ⊢;rw[PV.jj,RT] at f;obtain⟨v,t,e,h1,h2⟩:=h;exact⟨v,t,e,rel.iK g x v f.1 h1,ai.iK g r t f.2 h2⟩
end
mutual
theorem rel.low: ∀(x:PV)(v:V),rel K ρ H x v->x.iK ρ.length=true
 | .non,v,_=>rfl
 | .bl _,v,_=>rfl
 | .int _,v,_=>rfl
 | .str _,v,_=>rfl
 | .ty _,v,_=>rfl
 | .ref n,v,h=>by
  rw[rel] at h;obtain⟨a,e,h⟩:=h;rw[PV.iK,decide_eq_true_eq];exact(RC.mp e).1
 | .tup xs,v,h=>by
  rw[rel] at h;obtain⟨a,vs,e,s,r⟩:=h;rw[PV.iK];exact ai.low xs vs r
 | .ktup xs,v,h=>by
  rw[rel] at h;obtain⟨a,vs,e,s,r⟩:=h;rw[PV.iK];exact ai.low xs vs r
theorem ai.low: ∀(xs:List PV)(vs:List V),ai K ρ H xs vs->PV.jj ρ.length xs=true
 | [],vs,_=>rfl
 | x::r,vs,h=>by
  rw[ai] at h;obtain⟨v,t,e,h1,h2⟩:=h;rw[PV.jj,rel.low x v h1,ai.low r t h2];rfl
end
theorem Paired.low: ∀{kvs kws},SW (λ(p:Key × PV) (q:Key × V)=>p.1=q.1/\rel K ρ H p.2 q.2) kvs kws->PV.jj ρ.length (kvs.map (·.2))=true
 | _,_,.nil=>rfl
 | _,_,.cons r t=>by rw[RL,PV.jj,rel.low _ _ r.2,Paired.low t];rfl
theorem kH.low: ∀{o},kH K ρ H a o->o.iK ρ.length=true
 | .lst xs,⟨vs,_,r⟩=>ai.low _ _ r
 | .jD xs,⟨vs,_,r⟩=>ai.low _ _ r
 | .dct kvs,⟨kws,_,r⟩=>Paired.low r
theorem Paired.iK(g: ∀ (n:Nat) (a), ρ[n]?=fv a-> ρ'[n]?=fv a): ∀{kvs kws},PV.jj ρ.length (kvs.map (·.2))=true ->
  SW (λ(p:Key × PV) (q)=>p.1=q.1∧rel K ρ' H' p.2 q.2) kvs kws->SW (λ(p) (q:Key × V)=>p.1=q.1∧rel K ρ H' p.2 q.2) kvs kws
 | _,_,_,.nil=> .nil
 | _,_,f,.cons r t=>by
  rw [RL,PV.jj,RT] at f;exact .cons ⟨r.1,rel.iK g _ _ f.1 r.2⟩ (Paired.iK g f.2 t)
theorem kH.iK(g: ∀ (n:Nat) (a), ρ[n]?=fv a-> ρ'[n]?=fv a): ∀{o},o.iK ρ.length=true->kH K ρ' H' a o->kH K ρ H' a o
 | .lst xs,f,⟨vs,e,r⟩=>⟨vs,e,ai.iK g _ _ f r⟩
 | .jD xs,f,⟨vs,e,r⟩=>⟨vs,e,ai.iK g _ _ f r⟩
 | .dct kvs,f,⟨kws,e,r⟩=>⟨kws,e,Paired.iK g f r⟩
theorem b6.drop(s:b6 K ρ h H)(g:Gr ρ H ρ' H')(s':b6 K ρ' h' H')(ok:bH h.length h h'=true):b6 K ρ (h'.take h.length) H':=by
 have old: ∀{i:Nat}{o:PO},(h'.take h.length)[i]?=fv o->i < h.length/\h'[i]?=fv o:=λ{i o} e=>by
  have hi:i < h.length:=by
   have:=(RC.mp e).1;rw[Tt] at this;omega
  rw[VB,if_pos hi] at e;exact⟨hi,e⟩
 refine⟨by rw[Tt,s.len,XQ (l7 ok)],λi j a oi oj ei ej mi mj ri rj=>?_,λi o a e ea=>?_⟩
 . exact s'.nd i j a oi oj (old ei).2 (old ej).2 mi mj (g.pre _ _ ri) (g.pre _ _ rj)
 . have r:=s'.ob i o a (old e).2 (g.pre _ _ ea);obtain⟨o0,e0,_,z⟩:=pj ok e;refine kH.iK g.pre ?_ r;rcases z with z | z
   . subst z;exact(s.ob i o0 a e0 ea).low
   . rw[s.len];exact z
theorem fk(s:b6 K ρ h H)(e:settle h v h'= .ok w h2)(P:cQ K ρ H w h2 Q):cQ K ρ H v h' Q:=by
 unfold settle at e;split at e
 . rename_i ok;rw[RT] at ok;cases e;exact λv' ρ' H' g s' r=>P v' ρ H' ⟨λ_ _ z=>z,g.tup,g.iW⟩ (s.drop g s' ok.2) (rel.flat _ _ ok.1 r)
 . simp_all
end
theorem fX{K}: ∀{args vs},ai K ρ H args vs-> ∀ n,cO K ρ H (args.map fv++Rz n Rv) (vs.map fv++Rz n Rv)
 | args,vs,r,n=>by
  have:cO K ρ H (args.map fv) (vs.map fv):=⟨by simp[r.len],λi v e=>by
   rw[RP] at e;cases q:args[i]? with
   | none=>simp_all
   | some w =>
    rw[q] at e
    cases e
    obtain⟨v',e1,e2⟩:=r.get q
    exact⟨v',by simp_all,e2⟩⟩
  exact this.more n
structure iA(P:Sv)(w:SQ)(K:Rx)(mg:Str->Option RA)(base:S6)(pg:Tb)(f:String)(d:Df):Prop where
 ex: ∃(st:W5)(N:List Str),At K mg (RZ f) st/\cE N d.ps (ak st)/\N.length=d.ps.length+d.nl /\
  (∀(kV doc pm:RA)(an:Option RQ)(cdv ct:RA)(us:List RA),us.length=d.ps.length->UR (S4 (RZ f) (RZ f) (bP st) (aQ st) (ak st) .none kV doc pm an cdv ct) ⟨us,[]⟩=pure (d.ps.zip us)) /\
  ∀(fa:RQ)(cdv:RA)(A:Ti)(outer:List Env)(s:RD)(H:Hp)(E:XK)(k:Nat),uT (iE pH P w K mg base N (RZ f) (ak st) fa cdv A outer s H E).mW pg k (aQ st) d.body
structure Top(P:Sv)(w:SQ)(K:Rx)(mg:Str->Option RA)(pg:Tb):Prop where
 blt: ∀ x∈fI,mg x=Rv
 con: ∀ x v,pg.con x=fv v-> ∃ u v',mg x=fv u/\RelV v' u/\xr K v'/\ ∀ ρ H,rel K ρ H v v'
 vU: ∀ x kvs,pg.vU x=fv kvs-> ∃ a kws,mg x=fv (.ref a)∧KD P w K a kws∧ ∀ ρ H,SW (λ(p:Key × PV) (q:Key × V)=>p.1=q.1∧rel K ρ H p.2 q.2) kvs kws
section
variable {P:Sv} {w:SQ} {K:Rx} {mg:Str->Option RA} {base:S6} {pg:Tb}
theorem AF(T : Top P w K mg pg)(G : ∀ f d, pg.fns f = fv d -> iA P w K mg base pg f d) : ∀ k f d, pg.fns f = fv d -> kR P w K mg base (RZ f) k d.ps (vg K pg k f) := by
  intro k
  induction k with
  | zero =>
    intro f d hf
    obtain ⟨st, N, a, S, hl, hb, body⟩ := (G f d hf).ex
    exact At.xC a hb λvs H Q E => by rintro ⟨ρ, h, args, v, h', _, _, q, _⟩ ; exact by cases q
  | succ k ih =>
    intro f d hf
    obtain ⟨st, N, a, S, hl, hb, body⟩ := (G f d hf).ex
    have run_eq : ∀{args : List PV}{h h' : PH}{v : PV}, run pg (k + 1) f args h = .ok v h' -> args.length = d.ps.length ∧
        ((∃ w h2, d.body (run pg k) (args.map fv ++ Rz d.nl Rv) h = .ok (.rt w) h2 /\ settle h w h2 = .ok v h') ∨
         (∃ e h2, d.body (run pg k) (args.map fv ++ Rz d.nl Rv) h = .ok (.nx e) h2 /\ settle h .non h2 = .ok v h')) := λ{args h h' v} q => by
      rw [run, hf] at q;simp only at q;split at q
      . rename_i hn;refine ⟨hn, ?_⟩;split at q
        . rename_i w h2 e; exact .inl ⟨w, h2, e, q⟩
        . rename_i e' h2 e; exact .inr ⟨e', h2, e, q⟩
        . nomatch q
        . cases q
        . nomatch q
      . simp_all
    refine At.O9 a S hb (λvs H Q E => by rintro ⟨ρ, h, args, v, h', _, r, q, _⟩ ; exact by rw [<- r.len]; exact (run_eq q).1) ?_
    rintro fa cdv A outer s H vs Q E hr ⟨ρ, h, args, v, h', sm, r, q, post⟩
    have amb : bQ (iE pH P w K mg base N (RZ f) (ak st) fa cdv A outer s H E).mW pg k := ⟨hr, rfl, λ_ _ z => z, ih, T.blt, T.con, T.vU⟩
    obtain ⟨t, qt, st'⟩ := (body fa cdv A outer s H E k).h amb
    refine ⟨t, qt, ?_⟩
    obtain ⟨hn, q⟩ := run_eq q
    have he : L2.start N vs = vs.map fv ++ Rz d.nl Rv := by
      unfold L2.start;rw [hl, <- r.len, hn, Xk]
    rw [he]
    rcases q with ⟨w, h2, e, q⟩ | ⟨e', h2, e, q⟩
    . exact st' ρ h H _ _ _ _ h2 sm (fX r _) e (fk sm q post)
    . exact st' ρ h H _ _ _ _ h2 sm (fX r _) e fun σ' ρ' H' g s' _ => fk sm q post .non ρ' H' g s' (by rw [rel])
end
def p2(f:Int->Int->RV PV):PV->PV->PH->RV PV:=λx y h=>match x,y with
 | .int i,.int j=>(f i j).bind λv _=> .ok v h
 | _,_=> .no
noncomputable def BY(v:PV):RV PV:= .ok v []
section
variable{K:Rx}{X:Cx}{pg:Tb}{k:Nat}
theorem Hj(hf: ∀ i j v h,f i j= .ok v h->C i j/\ ∀ ρ H,rel K ρ H v (g i j)):kb K (rI C g) (p2 f):=fun ρ h H x y x' y' Q v h' s rx ry q P=>by
 unfold p2 at q;split at q
 . rename_i i j;obtain⟨w,h0,e,q⟩:=bind_eq.mp q;cases q;obtain⟨hc,hr⟩:=hf i j v h0 e;exact⟨i,j,rx,ry,hc,P _ ρ H (.refl _ _) s (hr ρ H)⟩
 . cases q
theorem sN(hf: ∀ i j v h,f i j= .ok v h-> ∀ ρ H,rel K ρ H v (g i j)):kb K (B0 g) (p2 f):=fun ρ h H x y x' y' Q v h' s rx ry q P=>by
 unfold p2 at q;split at q
 . rename_i i j;obtain⟨w,h0,e,q⟩:=bind_eq.mp q;cases q;exact⟨i,j,rx,ry,P _ ρ H (.refl _ _) s (hf i j v h0 e ρ H)⟩
 . cases q
def Eg:=p2 λi j=>BY (.int (i - j))
def hJ:=p2 λi j=>if 0 < j then BY (.int (i % j)) else .no
def l5:=p2 λi j=>if 0 < j/\j < 1073741824 then BY (.int (i / j)) else .no
def Cb:=p2 λi j=>if 0<=j/\j<=1000000/\i.natAbs < 2 ^ 64 then BY (.int (i ^ j.toNat)) else .no
def Lh:=p2 λi j=>BY (.bl (decide (i < j)))
def OO:=p2 λi j=>BY (.bl (decide (i<=j)))
def KY:=p2 λi j=>BY (.bl (decide (j < i)))
def Pt:=p2 λi j=>BY (.bl (decide (j<=i)))
theorem M5:bQ X pg k-> ∃ r,bR X (Td .Sub) r/\kb X.K r Eg:=λ_=>⟨_,Hd,sN λi j v h e ρ H=>by cases e;rw[rel]⟩
theorem Ol:bQ X pg k-> ∃ r,bR X (Td .Mod) r/\kb X.K r hJ:=λ_=>⟨_,Jh,Hj λi j v h e=>by
 split at e
 . cases e;exact⟨by assumption,fun ρ H=>by rw[rel]⟩
 . cases e⟩
theorem Ie:bQ X pg k-> ∃ r,bR X (Td .FloorDiv) r/\kb X.K r l5:=λ_=>⟨_,D7,Hj λi j v h e=>by
 split at e
 . cases e;exact⟨by assumption,fun ρ H=>by rw[rel]⟩
 . cases e⟩
theorem Oq:bQ X pg k-> ∃ r,bR X (Td .Pow) r/\kb X.K r Cb:=λ_=>⟨_,ID,Hj λi j v h e=>by
 split at e
 . cases e;exact⟨by assumption,fun ρ H=>by rw[rel]⟩
 . cases e⟩
theorem P1:bQ X pg k-> ∃ r,bR X (R9 .Lt) r/\kb X.K r Lh:=λ_=>⟨_,Nw,sN λi j v h e ρ H=>by cases e;rw[rel]⟩
theorem PK:bQ X pg k-> ∃ r,bR X (R9 .LtE) r/\kb X.K r OO:=λ_=>⟨_,Mf,sN λi j v h e ρ H=>by cases e;rw[rel]⟩
theorem Pn:bQ X pg k-> ∃ r,bR X (R9 .Gt) r/\kb X.K r KY:=λ_=>⟨_,Mq,sN λi j v h e ρ H=>by cases e;rw[rel]⟩
theorem PB:bQ X pg k-> ∃ r,bR X (R9 .GtE) r/\kb X.K r Pt:=λ_=>⟨_,NV,sN λi j v h e ρ H=>by cases e;rw[rel]⟩
def Ou(xs:List PV)(h:PH):RV PV:=kF xs.length (.ok (.ref h.length) (h++[.lst xs]))
def bM:PV->PV->PH->RV PV:=λx y h=>match x,y with
 | .int i,.int j=> .ok (.int (i+j)) h
 | .str a,.str b=>kF (a.length+b.length) (.ok (.str (a++b)) h)
 | .tup xs,.tup ys=>kF (xs.length+ys.length) (.ok (.tup (xs++ys)) h)
 | .ref n,.ref m=>(match h[n]?,h[m]? with
  | some (.lst xs),fv (.lst ys)=>Ou (xs++ys) h
  | _,_=> .no)
 | _,_=> .no
theorem b6.lst{ρ h H}(s:b6 K ρ h H){n xs}(e:h[n]?=fv (.lst xs)){v}(r:rel K ρ H (.ref n) v): ∃ a vs,v= .ref a/\ ρ[n]?=fv a/\H a=fv (.lst vs)/\ai K ρ H xs vs:=by
 obtain⟨a,ea,rfl⟩:=r;obtain⟨vs,e1,e2⟩:=s.ob n _ a e ea;exact⟨a,vs,rfl,ea,e1,e2⟩
theorem b6.jD(s:b6 K ρ h H)(e:h[n]?=fv (.jD xs))(r:rel K ρ H (.ref n) v): ∃ a vs,v= .ref a/\ ρ[n]?=fv a/\fO K H a vs/\ai K ρ H xs vs:=by
 obtain⟨a,ea,rfl⟩:=r;obtain⟨vs,e1,e2⟩:=s.ob n _ a e ea;exact⟨a,vs,rfl,ea,e1.sq,e2⟩
noncomputable def bU(h:PH)(n:Nat):Option (List PV):=match h[n]? with
 | some (.lst xs)=>fv xs
 | some (.jD xs)=>fv xs
 | _=>Rv
theorem b6.sq(s:b6 K ρ h H)(e:bU h n=fv xs)(r:rel K ρ H (.ref n) v): ∃ a vs,v= .ref a/\ ρ[n]?=fv a/\fO K H a vs/\ai K ρ H xs vs:=by
 unfold bU at e;split at e
 . cases e;obtain⟨a,vs,e1,e2,e3,e4⟩:=s.lst (by assumption) r;exact⟨a,vs,e1,e2,.of e3,e4⟩
 . cases e;exact s.jD (by assumption) r
 . cases e
theorem lE(s:b6 K ρ h H)(r:ai K ρ H xs us)(P:cQ K ρ H (.tup xs) h Q) p (hp:H p=Rv):Q (.ref p) (upd H p (.tup us)):=by
 refine P _ ρ _ (Gr.uJ hp) (s.tup hp) ?_;exact⟨p,us,rfl,aX,ai.gr (Gr.uJ hp) _ _ r⟩
theorem LU:bQ X pg k-> ∃ r,bR X (Td .Add) r/\kb X.K r bM:=λ_=>⟨_,Gu,fun ρ h H x y x' y' Q v h' s rx ry q P=>by
 unfold bM at q;split at q
 . cases q;exact .inl ⟨_,_,rx,ry,P _ ρ H (.refl _ _) s (by rw[rel])⟩
 . obtain⟨hl,q⟩:=ja.mp q;cases q;exact .inr (.inr (.inr (.inr ⟨_,_,rx,ry,hl,P _ ρ H (.refl _ _) s (by rw[rel])⟩)))
 . rename_i xs ys;obtain⟨hl,q⟩:=ja.mp q;cases q;have ry':=ry;obtain⟨a,us,e1,e2,e3⟩:=rx;obtain⟨b,ws,d1,d2,d3⟩:=ry;cases xs with
   | nil =>
    subst e3
    exact .inr (.inr (.inr (.inl ⟨a,b,ws,e1,d1,.of e2,.of d2,d1 ▸ P y' ρ H (.refl _ _) s ry'⟩)))
   | cons x r =>
    refine .inr (.inr (.inl ⟨a,b,us,ws,e1,d1,.of e2,.of d2,?_,by rw[<- e3.len,<- d3.len];exact hl,?_⟩))
    . rintro rfl;have:=e3.len;simp at this
    . refine⟨λz=>?_,λ_ p hp=>lE s (e3.app d3) P p hp⟩;subst z;have:=V5 d3.len;subst this;rw[Tq] at P;exact P _ ρ H (.refl _ _) s (by exact⟨a,us,rfl,e2,e3⟩)
 . split at q
   . rename_i h1 h2;obtain⟨hl,q⟩:=ja.mp q;cases q;obtain⟨a,us,rfl,_,e1,e2⟩:=s.lst h1 rx;obtain⟨b,ws,rfl,_,d1,d2⟩:=s.lst h2 ry;refine .inr (.inl ⟨a,b,us,ws,rfl,rfl,e1,d1,?_,λp hp=>cJ s (e2.app d2) P p hp⟩);rw[<- e2.len,<- d2.len];simpa using hl
   . nomatch q
 . nomatch q⟩
noncomputable def dm(kvs:List (Key × PV)) k:=(kvs.find? λkv=>decide (kv.1=k)).map (·.2)
noncomputable def p6 kvs (k:Key) (v:PV) :=
 if (kvs.any λkv=>decide (kv.1=k))=true then kvs.map (λkv=>if kv.1=k then(kv.1,v) else kv) else kvs++[(k,v)]
noncomputable def iG:PV->Option Key
 | .int i=>fv (.inl i)
 | .str x=>fv (.inr x)
 | _=>Rv
theorem fM{k}(e:iG x=fv k)(r:rel K ρ H x v):v=kV k:=by
 cases x<;>simp only[iG,reduceCtorEq,U3] at e<;>(subst e;exact r)
abbrev RK(K:Rx)(ρ :List RQ)(H:Hp)(kvs:List (Key × PV))(kws:List (Key × V)):Prop:=SW (λ(p:Key × PV) (q:Key × V)=>p.1=q.1/\rel K ρ H p.2 q.2) kvs kws
theorem RK.val: ∀{kvs kws} k,RK K ρ H kvs kws->match dm kvs k,fL kws k with
  | some x,fv v=>rel K ρ H x v
  | none,Rv=>True
  | _,_=>False
 | _,_,k,.nil=>trivial
 | _,_,k,.cons (a:=p) (b:=q) r t=>by
  have ih:=RK.val k t;unfold dm fL at ih ⊢;rw[ZH,ZH,<- r.1];by_cases e:p.1=k
  . simp only[e,decide_true];exact r.2
  . simp only[e,decide_false];exact ih
theorem RK.some{k}(r:RK K ρ H kvs kws)(e:dm kvs k=fv x): ∃ v,fL kws k=fv v/\rel K ρ H x v:=by
 have:=RK.val k r;rw[e] at this;cases q:fL kws k with
 | none=>rw[q] at this;exact TF this
 | some v=>rw[q] at this;exact⟨v,rfl,this⟩
theorem RK.is k (r:RK K ρ H kvs kws):(fL kws k).isSome=(dm kvs k).isSome:=by
 have:=RK.val k r;cases p:dm kvs k<;>cases q:fL kws k<;>rw[p,q] at this<;>first | rfl | exact TF this
theorem RK.len(r:RK K ρ H kvs kws):kvs.length=kws.length:=Vo r
theorem RK.any: ∀{kvs kws} k,RK K ρ H kvs kws->(kws.any λkv=>decide (kv.1=k))=kvs.any λkv=>decide (kv.1=k)
 | _,_,k,.nil=>rfl
 | _,_,k,.cons (a:=p) (b:=q) r t=>by rw[Tz,Tz,RK.any k t,r.1]
theorem RK.zg{k}(h:rel K ρ H x v): ∀{kvs kws},RK K ρ H kvs kws->RK K ρ H (kvs.map λkv=>if kv.1=k then(kv.1,x) else kv) (kws.map λkv=>if kv.1=k then(kv.1,v) else kv)
 | _,_,.nil=> .nil
 | _,_,.cons (a:=p) (b:=q) a t=> .cons (by
   show(if p.1=k then(p.1,x) else p).1=(if q.1=k then(q.1,v) else q).1/\rel K ρ H (if p.1=k then(p.1,x) else p).2 (if q.1=k then(q.1,v) else q).2;rw[<- a.1];split
   . exact⟨rfl,h⟩
   . exact a) (RK.zg h t)
theorem RK.snoc{k}(h:rel K ρ H x v): ∀{kvs kws},RK K ρ H kvs kws->RK K ρ H (kvs++[(k,x)]) (kws++[(k,v)])
 | _,_,.nil=> .cons ⟨rfl,h⟩ .nil
 | _,_,.cons a t=> .cons a (RK.snoc h t)
theorem RK.put{k}(r:RK K ρ H kvs kws)(h:rel K ρ H x v):RK K ρ H (p6 kvs k x) (putK kws k v):=by
 unfold p6 putK;rw[RK.any k r];split
 . exact RK.zg h r
 . exact RK.snoc h r
def aL:PV->PV->PH->RV PV:=λx y h=>match x with
 | .tup xs=>(match y with
  | .int i=>(match fN xs i with | some v=> .ok v h | none=> .no)
  | _=> .no)
 | .ktup xs=>(match y with
  | .int i=>(match fN xs i with | some v=> .ok v h | none=> .no)
  | _=> .no)
 | .str z=>(match y with
  | .int i=>kF z.length (match fN z.cps.toList i with | some c=> .ok (.str ⟨#[c]⟩) h | none=> .no)
  | _=> .no)
 | .ref n=>(match h[n]? with
  | some (.dct kvs)=>(match iG y with
   | some k=>(match dm kvs k with | some v=> .ok v h | none=> .no)
   | none=> .no)
  | some (.lst xs)=>(match y with
   | .int i=>(match fN xs i with | some v=> .ok v h | none=> .no)
   | _=> .no)
  | some (.jD xs)=>(match y with
   | .int i=>(match fN xs i with | some v=> .ok v h | none=> .no)
   | _=> .no)
  | none=> .no)
 | _=> .no
theorem ai.at(r:ai K ρ H xs vs)(e:fN xs i=fv x): ∃ v,fN vs i=fv v/\rel K ρ H x v:=by
 unfold fN at e ⊢;rw[<- r.len];cases q:o6 xs.length i with
 | none=>simp_all
 | some j =>
  rw [q] at e
  exact r.get e
noncomputable def Rn:R2:=λx y H Q=> ∃ a v,x= .ref a∧iH H a y (fv v)∧Q v H
theorem xX(hu : X.A.units + 1 < Vp) : wV X Rn := by
  intro value slice pins s σ H x y v u Q I rx ry h hs;obtain ⟨a, w, rfl, g, q⟩ := h;obtain rfl : v = R0 a := rx;have hT := su I g;refine Ru ?_;refine Ru (XM hT Wz.lookup ?_);have fin : RX (R4 X.prog X.w) X.A (WG slice false (.ref a) u) (λr s₃ => RX (R4 X.prog X.w) X.A (letTemporaryGo value (.ref a) r >>= λ_ => pure r) (EP X pins σ Q) X.xe s₃) X.xe s := by
    rw [hs];exact ZE (xh hu I g ry λw' s' I' r' => Ru (X3 (RG ⟨w, H, I', r', q⟩)))
  first
    | exact RG (Ru fin)
    | exact Ru (RG (Ru fin))
    | exact Ru fin
theorem bQ.hu(A:bQ X pg k):X.A.units+1 < Vp:=MB A.room
theorem Pe:bQ X pg k-> ∃ r,wV X r/\kb X.K r aL:=λA=>⟨_,Ib.or (xX A.hu),fun ρ h H x y x' y' Q v h' s rx ry q P=>by
 cases x with
 | tup xs =>
  cases y with
  | int i =>
   simp only[aL] at q
   split at q
   . rename_i w e;cases q;obtain⟨a,vs,rfl,z,r⟩:=rel.seq (x:= .tup xs) rfl rx;obtain⟨u,e1,e2⟩:=r.at e;exact .inl (.inr (.inl ⟨a,vs,i,u,rfl,ry,z,e1,P _ ρ H (.refl _ _) s e2⟩))
   . nomatch q
  | _=>cases q
 | ktup xs =>
  cases y with
  | int i =>
   simp only[aL] at q
   split at q
   . rename_i w e;cases q;obtain⟨a,vs,rfl,z,r⟩:=rel.seq (x:= .ktup xs) rfl rx;obtain⟨u,e1,e2⟩:=r.at e;exact .inl (.inr (.inl ⟨a,vs,i,u,rfl,ry,z,e1,P _ ρ H (.refl _ _) s e2⟩))
   . nomatch q
  | _=>cases q
 | str z =>
  cases y with
  | int i =>
   obtain⟨hl,q⟩:=ja.mp q
   split at q
   . rename_i c e;cases q;exact .inl (.inr (.inr ⟨z,i,c,rx,ry,hl,e,P _ ρ H (.refl _ _) s (by rw[rel])⟩))
   . nomatch q
  | _=>cases q
 | ref n =>
  simp only[aL] at q
  split at q
  . rename_i kvs e;split at q
    . rename_i key ek;split at q
      . rename_i w ew;cases q;obtain⟨a,ea,rfl⟩:=rx;obtain⟨kws,e1,e2⟩:=s.ob n _ a e ea;obtain⟨u,e3,e4⟩:=RK.some e2 ew;have:=fM ek ry;subst this;exact .inr ⟨a,u,rfl,e3 ▸ iH.k (k:=key) e1,P _ ρ H (.refl _ _) s e4⟩
      . nomatch q
    . nomatch q
  . rename_i xs e;cases y with
    | int i =>
     simp only at q
     split at q
     . rename_i w ew;cases q;obtain⟨a,vs,rfl,_,z,r⟩:=s.lst e rx;obtain⟨u,e1,e2⟩:=r.at ew;exact .inl (.inl ⟨a,vs,i,u,rfl,ry,.of z,e1,P _ ρ H (.refl _ _) s e2⟩)
     . nomatch q
    | _=>nomatch q
  . rename_i xs e;cases y with
    | int i =>
     simp only at q
     split at q
     . rename_i w ew;cases q;obtain⟨a,vs,rfl,_,z,r⟩:=s.jD e rx;obtain⟨u,e1,e2⟩:=r.at ew;exact .inl (.inl ⟨a,vs,i,u,rfl,ry,z,e1,P _ ρ H (.refl _ _) s e2⟩)
     . nomatch q
    | _=>nomatch q
  . nomatch q
 | _=>cases q⟩
theorem Ot(hr:bQ X pg k-> ∃ r,wV X r/\kb X.K r f)(ha:JE X pg k a ma)(hb:JE X pg k b mb)(hs:qJ b):JE X pg k (.Subscript a b pos) (aw f ma mb):=⟨λA =>
 let ⟨_,q1,s1⟩:=ha.h A;let ⟨_,q2,s2⟩:=hb.h A;by obtain⟨_,q,s⟩:=hr A;exact⟨_,Lx q q1 q2 hs,wA s s1 s2⟩⟩
def A1:PV->PV->PV->PH->RV Unit:=λx y v h=>match x with
 | .ref n=>(match h[n]? with
  | some (.dct kvs)=>(match iG y with
   | some k=>if kvs.length < RF then .ok () (h.set n (.dct (p6 kvs k v))) else .no
   | none=> .no)
  | some (.lst xs)=>(match y with
   | .int i=>(match o6 xs.length i with | some j=> .ok () (h.set n (.lst (xs.set j v))) | none=> .no)
   | _=> .no)
  | _=> .no)
 | _=> .no
noncomputable def Mp:GZ:=λo i v H Q=> ∃ a H',o= .ref a/\tX H a i v H'/\Q H'
theorem set_dict(hu:X.A.units+1 < Vp):nP X Mp:=by
 intro pins s σ H o i v ov iv u Q I ro ri rv h;obtain⟨a,H',rfl,g,q⟩:=h;obtain rfl:ov=R0 a:=ro;exact x8 hu I g ri rv λs' I'=>⟨H',I',q⟩
theorem nP.or(h:nP X t)(h':nP X t'):nP X (λo i v H Q=>t o i v H Q\/t' o i v H Q):=by
 intro pins s σ H o i v ov iv u Q I ro ri rv q;rcases q with q | q
 . exact h pins s σ H o i v ov iv u Q I ro ri rv q
 . exact h' pins s σ H o i v ov iv u Q I ro ri rv q
theorem LJ:bQ X pg k-> ∃ t,nP X t/\ ∀ ρ h H x y v x' y' v' u h' Q,b6 X.K ρ h H->rel X.K ρ H x x'->rel X.K ρ H y y'->rel X.K ρ H v v'->A1 x y v h= .ok u h'->kS X.K ρ H h' Q->t x' y' v' H Q:=λA =>
 ⟨_,nP.or set_list (set_dict A.hu),fun ρ h H x y v x' y' v' u h' Q s rx ry rv q P=>by
 cases x with
 | ref n =>
  simp only[A1] at q
  obtain⟨a,ea,rfl⟩:=rx
  split at q
  . rename_i kvs e;split at q
    . rename_i key ek;split at q
      . rename_i hl;cases q;obtain⟨kws,e1,e2⟩:=s.ob n _ a e ea;have:=fM ek ry;subst this;refine .inr ⟨a,_,rfl,tX.k e1 (by rw[<- RK.len e2];exact hl),?_⟩;have g:Gr ρ H ρ (upd H a (.dK (putK kws key v'))):=Gr.write (.inr ⟨_,e1⟩);exact P ρ _ g (s.write e ea rfl rfl ⟨_,aX,Paired.kE g (RK.put e2 rv)⟩)
      . nomatch q
    . nomatch q
  . rename_i xs e;cases y with
    | int i =>
     simp only at q
     split at q
     . rename_i j ej;cases q;obtain⟨vs,e1,e2⟩:=s.ob n _ a e ea;have g:Gr ρ H ρ (upd H a (.lst (vs.set j v'))):=Gr.write (.inl ⟨_,e1⟩);exact .inl ⟨a,vs,i,j,rfl,ry,e1,by rw[<- e2.len];exact ej,P ρ _ g (s.write e ea rfl rfl ⟨_,aX,ai.gr g _ _ (e2.set j rv)⟩)⟩
     . nomatch q
    | _=>cases q
  . nomatch q
 | _=>cases q⟩
end
mutual
def bN(K:Rx)(H:Hp):Uo->V->Prop
 | .none,v=>v= .non
 | .bool b,v=>v= .bl b
 | .int i,v=>v= .int i
 | .str x,v=>v= .str x
 | .list xs,v=> ∃ a vs,v= .ref a/\fO K H a vs/\eP K H xs vs
 | .tuple xs,v=> ∃ a vs,v= .ref a/\dz K H a vs/\eP K H xs vs
 | .dict _,_=>False
def eP(K:Rx)(H:Hp):List Uo->List V->Prop
 | [],vs=>vs=[]
 | x::r,vs=> ∃ v t,vs=v::t/\bN K H x v/\eP K H r t
end
mutual
theorem bN.reads{X:Cx}{pins:List (RQ × Obj)}{σ :L2.St}{H:Hp}{s:RD}(I:Inv X pins σ H s): ∀(d:Uo)(v:V)(u:RA),bN X.K H d v->RelV v u-> ∃ as,Reads s.heap u d as
 | .none,v,u,h,r=>by rw[bN] at h;subst h;cases(show u=Uy from r);exact⟨_,.none⟩
 | .bool b,v,u,h,r=>by rw[bN] at h;subst h;cases(show u=Wj b from r);exact⟨_,.bool b⟩
 | .int i,v,u,h,r=>by rw[bN] at h;subst h;obtain⟨t,rfl⟩:=(show ∃ t,u=Vc i t from r);exact⟨_,.int i t⟩
 | .str x,v,u,h,r=>by rw[bN] at h;subst h;obtain⟨t,rfl⟩:=(show ∃ t,u=VS x t from r);exact⟨_,.str x t⟩
 | .list xs,v,u,h,r=>by
  rw[bN] at h;obtain⟨a,vs,rfl,z,q⟩:=h;cases(show u=R0 a from r);obtain⟨aj,rv,⟨o,n,e,c,_,dd⟩,_⟩:=I.list z;obtain⟨as,ra⟩:=eP.reads I xs vs aj q rv;exact⟨_,.list e c dd (by simpa using ra)⟩
 | .tuple xs,v,u,h,r=>by
  rw[bN] at h;obtain⟨a,vs,rfl,z,q⟩:=h;cases(show u=R0 a from r);obtain⟨aj,rv,⟨o,e,c,n,dd⟩,_⟩:=I.tuple z;obtain⟨as,ra⟩:=eP.reads I xs vs aj q rv;exact⟨_,.tuple e c dd (by simpa using ra)⟩
 | .dict _,v,u,h,r=>by rw[bN] at h;exact h.elim
theorem eP.reads{X:Cx}{pins:List (RQ × Obj)}{σ :L2.St}{H:Hp}{s:RD}(I:Inv X pins σ H s): ∀(xs:List Uo)(vs:List V)(us:List RA),eP X.K H xs vs->Vals vs us-> ∃ as,ReadsAll s.heap us xs as
 | [],vs,us,h,r=>by rw[eP] at h;subst h;cases r;exact⟨_,.nil⟩
 | x::t,vs,us,h,r=>by
  rw[eP] at h;obtain⟨v,w,rfl,h1,h2⟩:=h;cases r with
  | cons r1 r2 =>
   obtain⟨as,a⟩:=bN.reads I x v _ h1 r1
   obtain⟨bs,b⟩:=eP.reads I t w _ h2 r2
   exact⟨_,.cons a b⟩
end
mutual
def fG(sub:Nat->Option Uo):PV->Option Uo
 | .non=>fv .none
 | .bl b=>fv (.bool b)
 | .int i=>fv (.int i)
 | .str x=>fv (.str x)
 | .tup xs=>(bh sub xs).map .tuple
 | .ktup xs=>(bh sub xs).map .tuple
 | .ref n=>sub n
 | .ty _=>Rv
def bh(sub:Nat->Option Uo):List PV->Option (List Uo)
 | []=>fv []
 | x::r=>match fG sub x,bh sub r with
  | some d1,fv ds1=>fv (d1::ds1)
  | _,_=>Rv
end
noncomputable def dat:Nat->PH->PV->Option Uo
 | 0,_=>fG λ_=>Rv
 | n+1,h=>fG λm=>match h[m]? with
  | some (.lst xs)=>(bh (λj=>dat n h (.ref j)) xs).map .list
  | some (.jD xs)=>(bh (λj=>dat n h (.ref j)) xs).map .list
  | _=>Rv
mutual
theorem fG.v{K:Rx}{ρ :List RQ}{H:Hp}{sub:Nat->Option Uo}(hs: ∀ n d v,sub n=fv d->rel K ρ H (.ref n) v->bN K H d v): ∀(x:PV)(d:Uo)(v:V),fG sub x=fv d->rel K ρ H x v->bN K H d v
 | .non,d,v,e,r=>by cases e;rw[rel] at r;rw[bN];exact r
 | .bl b,d,v,e,r=>by cases e;rw[rel] at r;rw[bN];exact r
 | .int b,d,v,e,r=>by cases e;rw[rel] at r;rw[bN];exact r
 | .str b,d,v,e,r=>by cases e;rw[rel] at r;rw[bN];exact r
 | .ty b,d,v,e,r=>by nomatch e
 | .ref n,d,v,e,r=>hs n d v e r
 | .tup xs,d,v,e,r=>by
  rw[fG] at e;cases q:bh sub xs with
  | none=>rw[q] at e;nomatch e
  | some ds =>
   rw[q] at e;cases e
   obtain⟨a,vs,e1,e2,e3⟩:=rel.seq (x:= .tup xs) rfl r
   rw[bN];exact⟨a,vs,e1,e2,bh.v hs xs ds vs q e3⟩
 | .ktup xs,d,v,e,r=>by
  rw[fG] at e;cases q:bh sub xs with
  | none=>rw[q] at e;nomatch e
  | some ds =>
   rw[q] at e;cases e
   obtain⟨a,vs,e1,e2,e3⟩:=rel.seq (x:= .ktup xs) rfl r
   rw[bN];exact⟨a,vs,e1,e2,bh.v hs xs ds vs q e3⟩
theorem bh.v{K:Rx}{ρ :List RQ}{H:Hp}{sub:Nat->Option Uo}(hs: ∀ n d v,sub n=fv d->rel K ρ H (.ref n) v->bN K H d v): ∀(xs:List PV)(ds:List Uo)(vs:List V),bh sub xs=fv ds->ai K ρ H xs vs->eP K H ds vs
 | [],ds,vs,e,r=>by cases e;rw[ai] at r;rw[eP];exact r
 | x::t,ds,vs,e,r=>by
  rw[bh] at e;split at e
  . rename_i d ds' e1 e2;cases e;obtain⟨v,w,rfl,r1,r2⟩:=aq.mp r;rw[eP];exact⟨v,w,rfl,fG.v hs x d v e1 r1,bh.v hs t ds' w e2 r2⟩
  . nomatch e
end
theorem dat.v{K}(s:b6 K ρ h H): ∀ n x d v,dat n h x=fv d->rel K ρ H x v->bN K H d v
 | 0,x,d,v,e,r=>fG.v (λ_ _ _ z _=>by cases z) x d v e r
 | n+1,x,d,v,e,r=>by
  refine fG.v (λm d' v' z rv=>?_) x d v e r;split at z
  . rename_i xs em;cases q:bh (λj=>dat n h (.ref j)) xs with
    | none=>rw[q] at z;nomatch z
    | some ds =>
     rw[q] at z;cases z
     obtain⟨a,vs,e1,_,e2,e3⟩:=s.lst em rv
     exact⟨a,vs,e1,.of e2,bh.v (λj d v z rv=>dat.v s n (.ref j) d v z rv) xs ds vs q e3⟩
  . rename_i xs em;cases q:bh (λj=>dat n h (.ref j)) xs with
    | none=>rw[q] at z;nomatch z
    | some ds =>
     rw[q] at z;cases z
     obtain⟨a,vs,e1,_,e2,e3⟩:=s.jD em rv
     exact⟨a,vs,e1,e2,bh.v (λj d v z rv=>dat.v s n (.ref j) d v z rv) xs ds vs q e3⟩
  . cases z
section
variable{K:Rx}{X:Cx}{pg:Tb}{k:Nat}
noncomputable def Mj(K:Rx)(f:Bool->Bool):R2:=λx y H Q=> ∃ d d',bN K H d x/\bN K H d' y/\d.canLay0=true/\d'.canLay0=true/\min d.depth d'.depth<=64/\Q (.bl (f (TK d d'))) H
theorem La(hr:X.A.units+64 < Vp):bR X (R9 .Eq) (Mj X.K id):=by
 rintro pins s σ H x y v u Q I rx ry ⟨d,d',h1,h2,c1,c2,hd,q⟩;obtain⟨as,ra⟩:=bN.reads I d x v h1 rx;obtain⟨bs,rb⟩:=bN.reads I d' y u h2 ry;exact SeqAt.compareEq_reads ra rb c1 c2 (by omega) ⟨.bl _,H,I,rfl,q⟩
theorem KL(hr:X.A.units+64 < Vp):bR X (R9 .NotEq) (Mj X.K not):=by
 rintro pins s σ H x y v u Q I rx ry ⟨d,d',h1,h2,c1,c2,hd,q⟩;obtain⟨as,ra⟩:=bN.reads I d x v h1 rx;obtain⟨bs,rb⟩:=bN.reads I d' y u h2 ry;exact SeqAt.compareNe_reads ra rb c1 c2 (by omega) ⟨.bl _,H,I,rfl,q⟩
noncomputable def gY:PV->PV->Bool
 | .non,.non=>true | .non,.int _=>true | .int _,.non=>true | .non,.bl _=>true | .bl _,.non=>true | .non,.str _=>true | .str _,.non=>true
 | .int _,.int _=>true | .bl _,.bl _=>true | .str _,.str _=>true
 | .int _,.str _=>true | .str _,.int _=>true | .bl _,.str _=>true | .str _,.bl _=>true
 | _,_=>false
noncomputable def fi(h:PH):PV->Bool
 | .ref n=>(match h[n]? with
  | some (.dct _)=>true
  | _=>false)
 | _=>false
noncomputable def isStr:PV->Bool
 | .str _=>true
 | _=>false
def alike x y h :=
 if gY x y=true then fv (decide (x=y)) else match dat 6 h x,dat 6 h y with
  | some a,fv b=>if a.canLay0=true/\b.canLay0=true/\min a.depth b.depth<=64 then fv (TK a b) else Rv
  | _,_=>if fi h x=true/\isStr y=true then fv false else Rv
def dE(x y:PV)(h:PH):RV PV:=match alike x y h with
 | some b=> .ok (.bl b) h
 | none=> .no
def gq(x y:PV)(h:PH):RV PV:=match alike x y h with
 | some b=>if fi h x=true then .no else .ok (.bl (!b)) h
 | none=> .no
theorem zO{ρ : List RQ}{H : Hp}{x y : PV}{x' y' : V}(h : gY x y = true)(rx : rel K ρ H x x')(ry : rel K ρ H y y') : Cv x' y' = true /\ decide (x' = y') = decide (x = y) := by
  cases x <;> cases y <;> first
    | exact absurd (show false = true from h) RY
    | (rw [rel] at rx; rw [rel] at ry; subst rx; subst ry; exact ⟨rfl, by simp⟩)
theorem m5(s:b6 K ρ h H)(rx:rel K ρ H x x')(ry:rel K ρ H y y')(e:alike x y h=fv b) :
  (Cv x' y'=true∧b=decide (x'=y'))∨(∃ d d',bN K H d x'∧bN K H d' y'∧d.canLay0=true∧d'.canLay0=true∧min d.depth d'.depth<=64∧b=TK d d') ∨
  (fi h x=true∧b=false∧ ∃ p z,x'= .ref p∧y'= .str z∧ ∃ kvs,H p=fv (.dK kvs)):=by
 unfold alike at e;split at e
 . rename_i hs;cases e;obtain⟨z,w⟩:=zO hs rx ry;exact .inl ⟨z,w.symm⟩
 . split at e
   . rename_i a c e1 e2;split at e
     . rename_i hc;cases e;exact .inr (.inl ⟨a,c,dat.v s 6 x a x' e1 rx,dat.v s 6 y c y' e2 ry,hc.1,hc.2.1,hc.2.2,rfl⟩)
     . nomatch e
   . split at e
     . rename_i hc;cases e;refine .inr (.inr ⟨hc.1,rfl,?_⟩);obtain⟨c1,c2⟩:=hc;cases x with
       | ref n =>
        cases y with
        | str z =>
         obtain⟨a,ea,rfl⟩:=rx
         simp only[fi] at c1
         split at c1
         . rename_i kvs en;obtain⟨kws,e1,_⟩:=s.ob n _ a en ea;exact⟨a,z,rfl,ry,kws,e1⟩
         . cases c1
        | _=>cases c2
       | _=>cases c1
     . nomatch e
theorem Pq:bQ X pg k-> ∃ r,bR X (R9 .Eq) r/\kb X.K r dE:=λA=>⟨_,LV.or ((La A.room.units).or (EM A.room.Kw)),fun ρ h H x y x' y' Q v h' s rx ry q P=>by
 unfold dE at q;split at q
 . rename_i b e;cases q;have fin:=P _ ρ H (.refl _ _) s (by rw[rel]);rcases m5 s rx ry e with⟨z,rfl⟩ | ⟨d,d',h1,h2,h3,h4,h5,rfl⟩ | ⟨_,rfl,p,z,e1,e2,kvs,e3⟩
   . exact .inl ⟨z,fin⟩
   . exact .inr (.inl ⟨d,d',h1,h2,h3,h4,h5,fin⟩)
   . exact .inr (.inr ⟨p,z,e1,e2,.inr (.inr ⟨kvs,e3⟩),fin⟩)
 . cases q⟩
theorem P5:bQ X pg k-> ∃ r,bR X (R9 .NotEq) r/\kb X.K r gq:=λA=>⟨_,Oo.or (KL A.room.units),fun ρ h H x y x' y' Q v h' s rx ry q P=>by
 unfold gq at q;split at q
 . rename_i b e;split at q
   . nomatch q
   . rename_i hd;cases q;have fin:=P _ ρ H (.refl _ _) s (by rw[rel]);rcases m5 s rx ry e with⟨z,rfl⟩ | ⟨d,d',h1,h2,h3,h4,h5,rfl⟩ | ⟨z,_⟩
     . exact .inl ⟨z,fin⟩
     . exact .inr ⟨d,d',h1,h2,h3,h4,h5,fin⟩
     . exact absurd z hd
 . nomatch q⟩
noncomputable def Mm(K:Rx)(f:Bool->Bool):R2:=λx y H Q=> ∃ p vs xs d,y= .ref p/\(fO K H p vs\/dz K H p vs)/\eP K H xs vs/\bN K H d x/\SF xs=true/\d.canLay0=true/\min (SN xs) d.depth<=60/\Q (.bl (f (xs.any λz=>TK z d))) H
theorem HZ(hr:X.A.units+64 < Vp):bR X (R9 .In) (Mm X.K id):=by
 rintro pins s σ H x y v u Q I rx ry ⟨p,vs,xs,d,e,hq,h1,h2,c1,c2,hd,q⟩;subst e;obtain⟨bs,rb⟩:=bN.reads I d x v h2 rx;rcases hq with hq | hq
 . obtain⟨as,ra⟩:=bN.reads I (.list xs) (.ref p) u (by exact⟨p,vs,rfl,hq,h1⟩) ry;exact SeqAt.in_list_reads ra rb c1 c2 (by omega) ⟨.bl _,H,I,rfl,q⟩
 . obtain⟨as,ra⟩:=bN.reads I (.tuple xs) (.ref p) u (by exact⟨p,vs,rfl,hq,h1⟩) ry;exact SeqAt.in_tuple_reads ra rb c1 c2 (by omega) ⟨.bl _,H,I,rfl,q⟩
theorem xp(hr:X.A.units+64 < Vp):bR X (R9 .NotIn) (Mm X.K not):=by
 rintro pins s σ H x y v u Q I rx ry ⟨p,vs,xs,d,e,hq,h1,h2,c1,c2,hd,q⟩;subst e;obtain⟨bs,rb⟩:=bN.reads I d x v h2 rx;rcases hq with hq | hq
 . obtain⟨as,ra⟩:=bN.reads I (.list xs) (.ref p) u (by exact⟨p,vs,rfl,hq,h1⟩) ry;exact SeqAt.notIn_list_reads ra rb c1 c2 (by omega) ⟨.bl _,H,I,rfl,q⟩
 . obtain⟨as,ra⟩:=bN.reads I (.tuple xs) (.ref p) u (by exact⟨p,vs,rfl,hq,h1⟩) ry;exact SeqAt.notIn_tuple_reads ra rb c1 c2 (by omega) ⟨.bl _,H,I,rfl,q⟩
noncomputable def NB(f:Bool->Bool):R2:=λx y H Q=> ∃ a o,y= .ref a/\iH H a x o/\Q (.bl (f o.isSome)) H
theorem Ic(hu:X.A.units+1 < Vp):bR X (R9 .In) (NB id):=by
 rintro pins s σ H x y v u Q I rx ry ⟨a,o,e,g,q⟩;subst e;obtain rfl:u=R0 a:=ry;exact PQ hu I g rx λs' I'=>⟨.bl _,H,I',rfl,q⟩
theorem wO(hu:X.A.units+1 < Vp):bR X (R9 .NotIn) (NB not):=by
 rintro pins s σ H x y v u Q I rx ry ⟨a,o,e,g,q⟩;subst e;obtain rfl:u=R0 a:=ry;exact DE hu I g rx λs' I'=>⟨.bl _,H,I',rfl,q⟩
def itemsOf(h:PH):PV->Option (List PV)
 | .tup xs=>fv xs
 | .ktup xs=>fv xs
 | .ref n=>bU h n
 | _=>Rv
theorem b6.items(s:b6 K ρ h H)(e:itemsOf h x=fv xs)(r:rel K ρ H x v): ∃ a vs,v= .ref a/\(fO K H a vs\/dz K H a vs)/\ai K ρ H xs vs:=by
 cases x with
 | tup ys=>cases e;obtain⟨a,vs,e1,e2,e3⟩:=rel.seq (x:= .tup xs) rfl r;exact⟨a,vs,e1,.inr e2,e3⟩
 | ktup ys=>cases e;obtain⟨a,vs,e1,e2,e3⟩:=rel.seq (x:= .ktup xs) rfl r;exact⟨a,vs,e1,.inr e2,e3⟩
 | ref n=>obtain⟨a,vs,e1,_,e2,e3⟩:=s.sq e r;exact⟨a,vs,e1,.inl e2,e3⟩
 | _=>cases e
noncomputable def cP:PV->Bool
 | .non=>true
 | .bl _=>true
 | .int _=>true
 | .str _=>true
 | _=>false
noncomputable def Ds:PV->PV->Bool
 | .non,.non=>true
 | .bl a,.bl b=>a == b
 | .bl a,.int b=>(if a then 1 else 0) == b
 | .int a,.bl b=>a == (if b then 1 else 0)
 | .int a,.int b=>a == b
 | .str a,.str b=>a == b
 | _,_=>false
theorem qS(h:cP x=true)(r:rel K ρ H x v):gw v=true:=by
 cases x<;>first | (revert h;simp [cP];done) | (subst r;rfl)
theorem Eo(hx : cP x = true)(hy : cP y = true)(rx : rel K ρ H x v)(ry : rel K ρ H y w) : DS v w = Ds x y := by
  cases x <;> first
    | (exfalso; revert hx; simp [cP]; done)
    | (cases y <;> first
        | (exfalso; revert hy; simp[cP]; done)
        | (subst rx; subst ry; rfl))
theorem F1(hx:cP x=true)(rx:rel K ρ H x v): ∀{xs vs},xs.all cP=true->ai K ρ H xs vs->vs.all gw=true/\dF v vs=xs.any λz=>Ds z x
 | [],vs,_,r=>by subst r;exact⟨rfl,rfl⟩
 | y::t,vs,h,r=>by
  obtain⟨w,u,rfl,r1,r2⟩:=aq.mp r;simp only[RT,UZ] at h;obtain⟨a,b⟩:=F1 hx rx h.2 r2;refine⟨by rw[UZ,qS h.1 r1,a];rfl,?_⟩;unfold dF at b ⊢;rw[Tz,Tz,b,Eo h.1 hx r1 rx]
def isIn(x y:PV)(h:PH):Option Bool:=match itemsOf h y with
 | some xs=>if (cP x&&xs.all cP)=true then fv (xs.any λz=>Ds z x) else(match dat 6 h x,bh (λj=>dat 6 h (.ref j)) xs with
  | some d,fv ds=>if SF ds=true/\d.canLay0=true/\min (SN ds) d.depth<=60 then fv (ds.any λz=>TK z d) else Rv
  | _,_=>Rv)
 | none=>(match y with
  | .ref n=>(match h[n]? with
   | some (.dct kvs)=>(iG x).map λk=>(dm kvs k).isSome
   | _=>Rv)
  | .str j=>(match x with
   | .str i=>fv (!(UG j i 0 j.length 1).isEmpty)
   | _=>Rv)
  | _=>Rv)
def qV(x y:PV)(h:PH):RV PV:=match isIn x y h with
 | some b=> .ok (.bl b) h
 | none=> .no
def gR(x y:PV)(h:PH):RV PV:=match isIn x y h with
 | some b=> .ok (.bl (!b)) h
 | none=> .no
theorem pe(s:b6 K ρ h H)(rx:rel K ρ H x x')(ry:rel K ρ H y y')(e:isIn x y h=fv b) :
  (∃ p xs,y'= .ref p/\(fO K H p xs\/dz K H p xs)/\gw x'=true/\xs.all gw=true/\b=dF x' xs) \/
  (∃ p vs xs d,y'= .ref p/\(fO K H p vs\/dz K H p vs)/\eP K H xs vs/\bN K H d x'/\SF xs=true/\d.canLay0=true/\min (SN xs) d.depth<=60/\b=xs.any λz=>TK z d) \/
  (∃ a o,y'= .ref a/\iH H a x' o/\b=o.isSome) \/
  (∃ i j,x'= .str i/\y'= .str j/\b= !(UG j i 0 j.length 1).isEmpty):=by
 unfold isIn at e;split at e
 . rename_i xs ei;obtain⟨a,vs,rfl,z,r⟩:=s.items ei ry;split at e
   . rename_i hf;cases e;rw[RT] at hf;obtain⟨f1,f2⟩:=F1 hf.1 rx hf.2 r;exact .inl ⟨a,vs,rfl,z,qS hf.1 rx,f1,f2.symm⟩
   . split at e
     . rename_i d ds e1 e2;split at e
       . rename_i hc;cases e;exact .inr (.inl ⟨a,vs,ds,d,rfl,z,bh.v (λj d v w rv=>dat.v s 6 (.ref j) d v w rv) xs ds vs e2 r,dat.v s 6 x d x' e1 rx,hc.1,hc.2.1,hc.2.2,rfl⟩)
       . nomatch e
     . nomatch e
 . split at e
   . rename_i n ei;split at e
     . rename_i kvs en;cases q:iG x with
       | none=>simp_all
       | some key =>
        rw[q] at e
        cases e
        obtain⟨a,ea,rfl⟩:=ry
        obtain⟨kws,e1,e2⟩:=s.ob n _ a en ea
        have:=fM q rx
        subst this
        exact .inr (.inr (.inl ⟨a,_,rfl,iH.k (k:=key) e1,(RK.is key e2).symm⟩))
     . simp_all
   . split at e
     . cases e;exact .inr (.inr (.inr ⟨_,_,rx,ry,rfl⟩))
     . nomatch e
   . nomatch e
theorem O6:bQ X pg k-> ∃ r,bR X (R9 .In) r/\kb X.K r qV:=λA=>⟨_,wR.or ((HZ A.room.units).or ((Ic A.hu).or xM)),fun ρ h H x y x' y' Q v h' s rx ry q P=>by
 unfold qV at q;split at q
 . rename_i b e;cases q;have fin:=P _ ρ H (.refl _ _) s (by rw[rel]);rcases pe s rx ry e with⟨p,xs,e1,e2,e3,e4,rfl⟩ | ⟨p,vs,xs,d,e1,e2,e3,e4,e5,e6,e7,rfl⟩ | ⟨a,o,e1,e2,rfl⟩ | ⟨i,j,e1,e2,rfl⟩
   . exact .inl ⟨p,xs,e1,e2,e3,e4,fin⟩
   . exact .inr (.inl ⟨p,vs,xs,d,e1,e2,e3,e4,e5,e6,e7,fin⟩)
   . exact .inr (.inr (.inl ⟨a,o,e1,e2,fin⟩))
   . exact .inr (.inr (.inr ⟨i,j,e1,e2,fin⟩))
 . cases q⟩
theorem Dq:bQ X pg k-> ∃ r,bR X (R9 .NotIn) r/\kb X.K r gR:=λA=>⟨_,p8.or ((xp A.room.units).or ((wO A.hu).or pY)),fun ρ h H x y x' y' Q v h' s rx ry q P=>by
 unfold gR at q;split at q
 . rename_i b e;cases q;have fin:=P _ ρ H (.refl _ _) s (by rw[rel]);rcases pe s rx ry e with⟨p,xs,e1,e2,e3,e4,rfl⟩ | ⟨p,vs,xs,d,e1,e2,e3,e4,e5,e6,e7,rfl⟩ | ⟨a,o,e1,e2,rfl⟩ | ⟨i,j,e1,e2,rfl⟩
   . exact .inl ⟨p,xs,e1,e2,e3,e4,fin⟩
   . exact .inr (.inl ⟨p,vs,xs,d,e1,e2,e3,e4,e5,e6,e7,fin⟩)
   . exact .inr (.inr (.inl ⟨a,o,e1,e2,fin⟩))
   . exact .inr (.inr (.inr ⟨i,j,e1,e2,fin⟩))
 . cases q⟩
noncomputable def dq(neg:Bool)(x:PV)(h:PH):RV PV:= .ok (.bl (if neg then !decide (x= .non) else decide (x= .non))) h
theorem Dg(r:rel K ρ H x v):decide (v= .non)=decide (x= .non):=by
 cases x with
 | non=>subst r;rfl
 | bl=>subst r;rfl
 | int=>subst r;rfl
 | str=>subst r;rfl
 | ty=>subst r;rfl
 | tup=>obtain⟨a,_,rfl,_⟩:=r;rfl
 | ktup=>obtain⟨a,_,rfl,_⟩:=r;rfl
 | ref=>obtain⟨a,_,rfl⟩:=r;rfl
variable{a:Sy}{ma:ME}{pos pos':Pos}
theorem uq(neg:Bool)(s1:SE c K ta ma):SE c K (fun σ H Q=>ta σ H λx H1=>Q (.bl (if neg then !decide (x= .non) else decide (x= .non))) H1) (qQ (dq neg) ma):=fun ρ h H e σ Q v h' s r q P=>by
 obtain⟨x,h1,e1,q⟩:=bind_eq.mp q;cases q;refine s1 ρ h H e σ _ x _ s r e1 λx' ρ1 H1 g1 z1 r1=>?_;rw[Dg r1];exact P _ ρ1 H1 g1 z1 (by rw[rel])
theorem G7(ha:JE X pg k a ma):JE X pg k (.Compare a [.Is] [.Constant .none j pos'] pos) (qQ (dq false) ma):=⟨λA=>by obtain⟨_,q1,s1⟩:=ha.h A;exact⟨_,Hu q1,uq false s1⟩⟩
theorem HU(ha:JE X pg k a ma):JT X pg k (.Compare a [.Is] [.Constant .none j pos'] pos) (aC (qQ (dq false) ma)):=⟨λA=>by obtain⟨_,q1,s1⟩:=ha.h A;exact⟨_,HC q1,qK (uq false s1)⟩⟩
theorem Ef(ha:JE X pg k a ma):JT X pg k (.Compare a [.IsNot] [.Constant .none j pos'] pos) (aC (qQ (dq true) ma)):=⟨λA=>by obtain⟨_,q1,s1⟩:=ha.h A;exact⟨_,C3 q1,qK (uq true s1)⟩⟩
end
section
variable{K:Rx}{X:Cx}{pg:Tb}{k:Nat}
abbrev MO:=CF->aM->PH->RV (Option Int)
noncomputable def iN:MO:=λ_ _ h=> .ok Rv h
def iI(a:ME):MO:=λc e h=>(a c e h).bind λv h1=>match v with
 | .int i=> .ok (fv i) h1
 | _=> .no
def fD(xs:List PV)(lo hi:Option Int):=(xs.drop (HT.cH xs.length 0 lo)).take (HT.cH xs.length xs.length hi - HT.cH xs.length 0 lo)
def EF(x:PV)(lo hi:Option Int)(h:PH):RV PV:=match x with
 | .tup xs=> .ok (.tup (fD xs lo hi)) h
 | .ref n=>(match bU h n with
  | some xs=> .ok (.ref h.length) (h++[.lst (fD xs lo hi)])
  | none=> .no)
 | _=> .no
def BV(a:ME)(l u:MO):ME:=λc e h=>(a c e h).bind λx h1=>(l c e h1).bind λlo h2=>(u c e h2).bind λhi h3=>EF x lo hi h3
structure JO(X:Cx)(pg:Tb)(k:Nat)(e:Option Sy)(m:MO):Prop where
 h:bQ X pg k-> ∃ t,QO X e t/\ ∀ ρ h H e σ Q o h',b6 X.K ρ h H->cO X.K ρ H e σ ->m (run pg k) e h= .ok o h'->kS X.K ρ H h' (Q o)->t σ H Q
theorem D2:JO X pg k Rv iN:=⟨λA=>⟨_,EG,fun ρ h H e σ Q o h' s r q P=>by cases q;exact P ρ H (.refl _ _) s⟩⟩
theorem Dx(ha:JE X pg k e ma):JO X pg k (fv e) (iI ma):=⟨λA=>by obtain⟨_,q1,s1⟩:=ha.h A;exact⟨_,Ex q1,fun ρ h H e σ Q o h' s r q P=>by
 obtain⟨v,h1,e1,q⟩:=bind_eq.mp q;refine s1 ρ h H e σ _ v h1 s r e1 λv' ρ1 H1 g1 z1 r1=>?_;cases v with
 | int i=>cases q;exact⟨i,r1,P ρ1 H1 g1 z1⟩
 | _=>cases q⟩⟩
theorem ai.cut(r:ai K ρ H xs vs) lo hi:ai K ρ H (fD xs lo hi) (lb vs lo hi):=by
 unfold fD lb;rw[<- r.len];exact(r.drop _).take _
theorem zP{lo p2}(ha:JE X pg k e ma)(hl:JO X pg k lo ml)(hh:JO X pg k hi mu):JE X pg k (.Subscript e (.Slice lo hi Rv p2) pos) (BV ma ml mu):=⟨λA =>
 by obtain⟨_,q1,s1⟩:=ha.h A;exact by obtain⟨_,q2,s2⟩:=hl.h A;exact by obtain⟨_,q3,s3⟩:=hh.h A;exact⟨_,zd Rk q1 q2 q3,fun ρ h H e σ Q v h' s r q P=>by
 obtain⟨x,h1,e1,q⟩:=bind_eq.mp q
 obtain⟨lo,h2,e2,q⟩:=bind_eq.mp q
 obtain⟨hi,h3,e3,q⟩:=bind_eq.mp q
 refine s1 ρ h H e σ _ x h1 s r e1 λx' ρ1 H1 g1 z1 r1=>?_
 refine s2 ρ1 h1 H1 e σ _ lo h2 z1 (r.gr g1) e2 fun ρ2 H2 g2 z2=>?_
 refine s3 ρ2 h2 H2 e σ _ hi h3 z2 (r.gr (g1.trans g2)) e3 fun ρ3 H3 g3 z3=>?_
 have r3:=rel.gr (K:=X.K) (g2.trans g3) _ _ r1
 have P3:=P.gr ((g1.trans g2).trans g3)
 cases x with
 | tup xs =>
  cases q
  obtain⟨a,vs,rfl,d1,d2⟩:=r3
  by_cases hw:HT.cH vs.length 0 lo=0/\HT.cH vs.length vs.length hi=vs.length
  . refine .inr (.inr ⟨a,vs,rfl,.of d1,hw,P3 _ ρ3 H3 (.refl _ _) z3 ?_⟩);have:fD xs lo hi=xs:=by
     unfold fD;rw[d2.len,hw.1,hw.2,X8,Y2,<- d2.len,Zo]
    rw[this];exact⟨a,vs,rfl,d1,d2⟩
  . exact .inr (.inl ⟨a,vs,rfl,.of d1,hw,λp hp=>lE z3 (d2.cut lo hi) P3 p hp⟩)
 | ref n =>
  simp only[EF] at q
  split at q
  . rename_i xs en;cases q;obtain⟨a,vs,rfl,_,d1,d2⟩:=z3.sq en r3;exact .inl ⟨a,vs,rfl,d1,λp hp=>cJ z3 (d2.cut lo hi) P3 p hp⟩
  . cases q
 | _=>cases q⟩⟩
def b9:List PV->PH->RV PV:=λxs h=>match xs with
 | [x]=>(match itemsOf h x with
  | some ys=> .ok (.int ys.length) h
  | none=>(match x with
   | .str z=>kF z.length (.ok (.int z.length) h)
   | .ref n=>(match h[n]? with
    | some (.dct kvs)=> .ok (.int kvs.length) h
    | _=> .no)
   | _=> .no))
 | _=> .no
theorem aO(r:ai K ρ H [x] us): ∃ u,us=[u]/\rel K ρ H x u:=by
 obtain⟨v,t,rfl,r1,r2⟩:=aq.mp r;exact⟨v,by rw[r2],r1⟩
theorem gQ(r:ai K ρ H [x,y] us): ∃ u w,us=[u,w]/\rel K ρ H x u/\rel K ρ H y w:=by
 obtain⟨v,t,rfl,r1,r2⟩:=aq.mp r;obtain⟨w,rfl,r3⟩:=aO r2;exact⟨v,w,rfl,r1,r3⟩
theorem Lq:bQ X pg k-> ∃ r,aG X (.builtin "len") r/\xP X.K r b9:=λA=>⟨_,D5.or xf,fun ρ h H xs us Q v h' s r q P=>by
 unfold b9 at q;split at q
 . obtain⟨u,rfl,r1⟩:=aO r;have r:=r1;split at q
   . rename_i ys e;cases q;obtain⟨a,vs,rfl,z,r2⟩:=s.items e r;exact .inl (.inl ⟨a,vs,rfl,z,by rw[<- r2.len];exact P _ ρ H (.refl _ _) s (by rw[rel])⟩)
   . split at q
     . obtain⟨hl,q⟩:=ja.mp q;cases q;subst r;exact .inl (.inr ⟨_,rfl,hl,P _ ρ H (.refl _ _) s (by rw[rel])⟩)
     . split at q
       . rename_i e;cases q;obtain⟨a,ea,rfl⟩:=r;obtain⟨kws,e1,e2⟩:=s.ob _ _ a e ea;exact .inr ⟨a,kws,rfl,e1,by rw[<- RK.len e2];exact P _ ρ H (.refl _ _) s (by rw[rel])⟩
       . nomatch q
     . nomatch q
 . nomatch q⟩
inductive Ty where
 | non | bool | int | str | tuple | list | dict
 deriving DecidableEq
noncomputable def Ty.n:Ty->String
 | .non=> "NoneType" | .bool=> "bool" | .int=> "int" | .str=> "str" | .tuple=> "tuple" | .list=> "list" | .dict=> "dict"
noncomputable def Ty.of:String->Option Ty
 | "bool" =>fv .bool | "int" =>fv .int | "str" =>fv .str | "tuple" =>fv .tuple | "list" =>fv .list | "dict" =>fv .dict
 | _=>Rv
noncomputable def Ty.Nj(a b:Ty):=decide (a=b)||(decide (a= .bool)&&decide (b= .int))
def tyP(h:PH):PV->Option Ty
 | .non=>fv .non
 | .bl _=>fv .bool
 | .int _=>fv .int
 | .str _=>fv .str
 | .tup _=>fv .tuple
 | .ref n=>(match h[n]? with
  | some (.lst _)=>fv .list
  | some (.dct _)=>fv .dict
  | _=>Rv)
 | _=>Rv
theorem BK(s:b6 K ρ h H)(e:tyP h x=fv t)(r:rel K ρ H x v):iF K H v (.type t.n):=by
 cases x with
 | non=>cases e;subst r;exact .non
 | bl b=>cases e;subst r;exact .bl b
 | int i=>cases e;subst r;exact .int i
 | str z=>cases e;subst r;exact .str z
 | tup xs=>cases e;obtain⟨a,vs,rfl,e1,_⟩:=r;exact .tup e1
 | ref n =>
  obtain⟨a,ea,rfl⟩:=r
  simp only[tyP] at e
  split at e
  . rename_i en;cases e;obtain⟨vs,e1,_⟩:=s.ob n _ a en ea;exact .lst e1
  . rename_i en;cases e;obtain⟨vs,e1,_⟩:=s.ob n _ a en ea;exact .dK e1
  . cases e
 | _=>cases e
theorem Bx(a b:Ty)(hb:b≠ .non):Wm K (.type a.n) (.type b.n)=fv (a.Nj b):=by
 cases b<;>first | (exact absurd rfl hb) | (cases a<;>rfl)
theorem Ty.LB(h:Ty.of T=fv t):T=t.n/\t≠ .non:=by
 unfold Ty.of at h;split at h<;>first | (cases h;exact⟨rfl,by decide⟩) | cases h
def wL:List PV->Option (List Ty)
 | []=>fv []
 | .ty T::r=>(match Ty.of T,wL r with
  | some t,fv ts=>fv (t::ts)
  | _,_=>Rv)
 | _=>Rv
def qm:List PV->PH->RV PV:=λxs h=>match xs with
 | [x,.ty T]=>(match tyP h x,Ty.of T with
  | some a,fv b=> .ok (.bl (a.Nj b)) h
  | _,_=> .no)
 | [x,.tup ts]=>(match tyP h x,wL ts with
  | some a,fv bs=> .ok (.bl (bs.any a.Nj)) h
  | _,_=> .no)
 | _=> .no
theorem wg: ∀{ts bs vs},wL ts=fv bs->ai K ρ H ts vs->vs=(bs.map Ty.n).map V.ty/\ ∀ b∈bs,b≠ .non
 | [],bs,vs,e,r=>by cases e;subst r;exact⟨rfl,λ_ m=>by cases m⟩
 | .ty T::t,bs,vs,e,r=>by
  simp only[wL] at e;split at e
  . rename_i b bs' e1 e2;cases e;obtain⟨v,w,rfl,r1,r2⟩:=aq.mp r;obtain⟨h1,h2⟩:=wg e2 r2;obtain⟨n1,n2⟩:=Ty.LB e1;refine⟨by rw[r1,h1,n1];rfl,λc m=>?_⟩;rcases RW.mp m with rfl | m
    . exact n2
    . exact h2 c m
  . cases e
 | .non::_,_,_,e,_=>by cases e
 | .bl _::_,_,_,e,_=>by cases e
 | .int _::_,_,_,e,_=>by cases e
 | .str _::_,_,_,e,_=>by cases e
 | .tup _::_,_,_,e,_=>by cases e
 | .ktup _::_,_,_,e,_=>by cases e
 | .ref _::_,_,_,e,_=>by cases e
theorem wc(a:Ty): ∀(bs:List Ty),(∀ b∈bs,b≠ .non)->Yc K (.type a.n) ((bs.map Ty.n).map U6)=fv (bs.any a.Nj)
 | [],_=>rfl
 | b::r,h=>by
  have h1:=Bx (K:=K) a b (h b RU);have h2:=wc a r λc m=>h c (RS _ m);simp only[RL,Tz,Yc,h1,h2];cases a.Nj b<;>rfl
theorem L8:bQ X pg k-> ∃ r,aG X (.builtin "isinstance") r/\xP X.K r qm:=λA=>⟨_,zF,fun ρ h H xs us Q v h' s r q P=>by
 unfold qm at q;split at q
 . rename_i x T;split at q
   . rename_i a b e1 e2;cases q;obtain⟨u,w,rfl,r1,r2⟩:=gQ r;subst r2;obtain⟨n1,n2⟩:=Ty.LB e2;exact .inl ⟨u,T,_,_,rfl,BK s e1 r1,by rw[n1];exact Bx a b n2,P _ ρ H (.refl _ _) s (by rw[rel])⟩
   . nomatch q
 . split at q
   . rename_i a bs e1 e2;cases q;obtain⟨u,w,rfl,r1,r2⟩:=gQ r;obtain⟨p,vs,rfl,e3,e4⟩:=r2;obtain⟨h1,h2⟩:=wg e2 e4;subst h1;exact .inr ⟨u,p,_,_,_,rfl,e3,BK s e1 r1,wc a bs h2,P _ ρ H (.refl _ _) s (by rw[rel])⟩
   . nomatch q
 . nomatch q⟩
noncomputable def CT:List PV->PH->RV PV:=λxs h=>match xs with
 | [.int i]=> .ok (.int i) h
 | [.bl b]=> .ok (.int (if b then 1 else 0)) h
 | _=> .no
theorem MR:bQ X pg k-> ∃ r,aG X (.type "int") r/\xP X.K r CT:=λA=>⟨_,Dz,fun ρ h H xs us Q v h' s r q P=>by
 unfold CT at q;split at q
 . cases q;obtain⟨u,rfl,r1⟩:=aO r;have r:=r1;subst r;exact .inl ⟨_,rfl,P _ ρ H (.refl _ _) s (by rw[rel])⟩
 . cases q;obtain⟨u,rfl,r1⟩:=aO r;have r:=r1;subst r;exact .inr ⟨_,rfl,P _ ρ H (.refl _ _) s (by rw[rel])⟩
 . cases q⟩
def bz:List PV->PH->RV PV:=λxs h=>match xs with
 | [.tup ys]=> .ok (.tup ys) h
 | [.ref n]=>(match bU h n with
  | some ys=> .ok (.tup ys) h
  | none=> .no)
 | _=> .no
theorem EE:bQ X pg k-> ∃ r,aG X (.type "tuple") r/\xP X.K r bz:=λA=>⟨_,DA,fun ρ h H xs us Q v h' s r q P=>by
 unfold bz at q;split at q
 . cases q;obtain⟨u,rfl,r1⟩:=aO r;have r:=r1;have r':=r;obtain⟨a,vs,rfl,e1,e2⟩:=r;exact⟨a,vs,rfl,.inr ⟨.of e1,P _ ρ H (.refl _ _) s r'⟩⟩
 . split at q
   . rename_i ys e;cases q;obtain⟨u,rfl,r1⟩:=aO r;have r:=r1;obtain⟨a,vs,rfl,_,e1,e2⟩:=s.sq e r;exact⟨a,vs,rfl,.inl ⟨e1,λp hp=>lE s e2 P p hp⟩⟩
   . nomatch q
 . nomatch q⟩
def vz:List PV->PH->RV PV:=λxs h=>match xs with
 | [x]=>(match itemsOf h x with
  | some ys=> .ok (.ref h.length) (h++[.lst ys])
  | none=> .no)
 | _=> .no
theorem K4:bQ X pg k-> ∃ r,aG X (.type "list") r/\xP X.K r vz:=λA=>⟨_,ql,fun ρ h H xs us Q v h' s r q P=>by
 unfold vz at q;split at q
 . split at q
   . rename_i ys e;cases q;obtain⟨u,rfl,r1⟩:=aO r;have r:=r1;obtain⟨a,vs,rfl,z,r2⟩:=s.items e r;exact⟨a,vs,rfl,z,λp hp=>cJ s r2 P p hp⟩
   . nomatch q
 . nomatch q⟩
noncomputable def Be:List PV->PH->RV PV:=λxs h=>match xs with
 | [.int i,.int j]=> .ok (.int (if j < i then j else i)) h
 | _=> .no
theorem N0:bQ X pg k-> ∃ r,aG X (.builtin "min") r/\xP X.K r Be:=λA=>⟨_,EV A.calm,fun ρ h H xs us Q v h' s r q P=>by
 unfold Be at q;split at q
 . cases q;obtain⟨u,w,rfl,r1,r2⟩:=gQ r;rw[rel] at r1;rw[rel] at r2;subst r1;subst r2;exact⟨_,_,rfl,P _ ρ H (.refl _ _) s (by rw[rel])⟩
 . nomatch q⟩
noncomputable def uR:List PV->Option (List Bool)
 | []=>fv []
 | .bl b::r=>(uR r).map (b:: ·)
 | _=>Rv
theorem vy: ∀{xs bs},uR xs=fv bs->xs=bs.map PV.bl
 | [],bs,e=>by cases e;rfl
 | .bl b::r,bs,e=>by
  rw[uR] at e;cases q:uR r with
  | none=>simp_all
  | some cs=>rw[q] at e;cases e;rw[vy q];rfl
 | .non::_,_,e=>by cases e
 | .int _::_,_,e=>by cases e
 | .str _::_,_,e=>by cases e
 | .tup _::_,_,e=>by cases e
 | .ktup _::_,_,e=>by cases e
 | .ref _::_,_,e=>by cases e
 | .ty _::_,_,e=>by cases e
theorem vN: ∀{bs:List Bool}{vs},ai K ρ H (bs.map PV.bl) vs->vs=bs.map V.bl
 | [],vs,r=>bI.mp r
 | b::t,vs,r=>by
  obtain⟨v,w,rfl,r1,r2⟩:=aq.mp r;rw[r1,vN r2];rfl
def wq{α :Type}(g:List PV->Option (List α))(f:List α ->PV):List PV->PH->RV PV:=λxs h=>match xs with
 | [.ref n]=>(match bU h n with
  | some ys=>(match g ys with
   | some bs=> .ok (f bs) h
   | none=> .no)
  | none=> .no)
 | _=> .no
theorem BC(q:wq g f xs h= .ok v h'): ∃ n ys bs,xs=[.ref n]/\bU h n=fv ys/\g ys=fv bs/\v=f bs/\h'=h:=by
 unfold wq at q;split at q
 . split at q
   . split at q
     . cases q;exact⟨_,_,_,rfl,by assumption,by assumption,rfl,rfl⟩
     . nomatch q
   . nomatch q
 . nomatch q
def DP:=wq uR λbs=> .bl (bs.any id)
theorem Mv:bQ X pg k-> ∃ r,aG X (.builtin "any") r/\xP X.K r DP:=λA=>⟨_,callAny A.calm,fun ρ h H xs us Q v h' s r q P=>by
 obtain⟨n,ys,bs,rfl,e1,e2,rfl,rfl⟩:=BC q;obtain⟨u,rfl,r1⟩:=aO r;have r:=r1;obtain⟨a,vs,rfl,_,z,r2⟩:=s.sq e1 r;rw[vy e2] at r2;exact⟨a,bs,rfl,by rw[vN r2] at z;exact z,P _ ρ H (.refl _ _) s (by rw[rel])⟩⟩
def cu:PV->PH->Bool:=λx h=>match x with
 | .ref n=>(match h[n]? with
  | some (.lst _)=>true
  | _=>false)
 | _=>false
theorem jE(s:b6 K ρ h H)(r:rel K ρ H x v)(e:cu x h=true):N6 K "list" v H:=by
 cases x with
 | ref n =>
  simp only[cu] at e
  split at e
  . rename_i en;obtain⟨a,vs,rfl,_,e1,_⟩:=s.lst en r;exact .inl ⟨rfl,vs,.of e1⟩
  . cases e
 | _=>cases e
def dc:PV->List PV->PH->RV PV:=λx vs h=>match x,vs with
 | .ref n,[v]=>(match h[n]? with
  | some (.lst xs)=>if xs.length < RF then .ok .non (h.set n (.lst (xs++[v]))) else .no
  | _=> .no)
 | _,_=> .no
theorem Bn:bQ X pg k-> ∃ r,zB X "list.append" r/\Lm X.K "list" r dc cu:=λA=>⟨_,xi,fun ρ h H x x' s r e=>jE s r e,fun ρ h H x x' xs us Q v h' s rx rs q P=>by
 unfold dc at q;split at q
 . split at q
   . rename_i ys en;split at q
     . rename_i hl;cases q;obtain⟨a,vs,rfl,ea,e1,e2⟩:=s.lst en rx;obtain⟨u,rfl,r⟩:=aO rs;have g:Gr ρ H ρ (upd H a (.lst (vs++[u]))):=Gr.write (.inl ⟨_,e1⟩);exact⟨a,vs,u,rfl,rfl,e1,by rw[<- e2.len];exact hl,P _ ρ _ g (s.write en ea rfl rfl ⟨_,aX,ai.gr g _ _ (e2.app (ai.one r))⟩) (by rw[rel])⟩
     . nomatch q
   . nomatch q
 . nomatch q⟩
end
section
variable{K:Rx}{X:Cx}{pg:Tb}{k:Nat}{tg l:Sy}
theorem qx{σ :L2.St}(I:Inv X pins σ H s): ∀ b∈[s.heap.objs.size],lh X pins H b:=λb hb=>by
 have e:b=s.heap.objs.size:=by simpa using hb
 subst e;exact I.CQ (RE _) (I.aW.fresh (RE _))
theorem AX{pins:List (RQ × Obj)}{σ :L2.St}{H:Hp}{s:RD}{R:It->Hp->Prop}{a:RQ}{xs:List V}(I:Inv X pins σ H s)(hq:fO X.K H a xs)(q:R (PZ X.K a) H):RX (R4 X.prog X.w) X.A (Zb (.ref a)) (Og X pins σ tg R) X.xe s:=by
 obtain⟨aj,rv,p,hz⟩:=I.list hq;exact Y3 p.isList ⟨s.heap.objs.size,[s.heap.objs.size],_,_,H,rfl,I.kept (t':=s.toks) (λb o e=>Ry _ e),xa a _,⟨_,RO _ rfl,rfl,rfl⟩,qx I,q⟩
theorem Bs{pins:List (RQ × Obj)}{σ :L2.St}{H:Hp}{s:RD}{R:It->Hp->Prop}{a:RQ}{xs:List V}(I:Inv X pins σ H s)(hq:dz X.K H a xs)(q:R (BE X.K a) H):RX (R4 X.prog X.w) X.A (Zb (.ref a)) (Og X pins σ tg R) X.xe s:=by
 obtain⟨aj,rv,p,hz⟩:=I.tuple hq;exact TV (show s.heap.IsTuple a aj.toArray from p) ⟨s.heap.objs.size,[s.heap.objs.size],_,_,H,rfl,I.kept (t':=s.toks) (λb o e=>Ry _ e),tO a _,⟨_,RO _ rfl,rfl,rfl⟩,qx I,q⟩
theorem zf{pins:List (RQ × Obj)}{σ :L2.St}{H:Hp}{s:RD}{R:It->Hp->Prop}{z:Str}{t:Tok}(I:Inv X pins σ H s)(q:R (OT z) H):RX (R4 X.prog X.w) X.A (Zb (.str z t)) (Og X pins σ tg R) X.xe s:=by
 cases ha:z.cps.all (· < 128)
 . exact wpAny_pyIter_wide ha ⟨s.heap.objs.size,[s.heap.objs.size],_,_,H,rfl,I.kept (t':=s.toks) (λb o e=>Ry _ e),sW z t _ (by decide) (λA' hA=>Walks.strWide hA _ z t) (λ_ _ _ _ _ st h=>wpAny_pyIter_striter_wide st h),⟨_,RO _ rfl,rfl,rfl⟩,qx I,q⟩
 . exact wpAny_pyIter_ascii ha ⟨s.heap.objs.size,[s.heap.objs.size],_,_,H,rfl,I.kept (t':=s.toks) (λb o e=>Ry _ e),sW z t _ (by decide) (λA' hA=>Walks.strAscii hA _ z t) (λ_ _ _ _ _ st h=>wpAny_pyIter_striter_ascii st h),⟨_,RO _ rfl,rfl,rfl⟩,qx I,q⟩
def Mo(K:Rx)(tl:TE):TI:=fun σ H R=>tl σ H λx H1=>(∃ a xs,x= .ref a/\fO K H1 a xs/\R (PZ K a) H1)\/(∃ a xs,x= .ref a/\dz K H1 a xs/\R (BE K a) H1)\/ ∃ z,x= .str z/\R (OT z) H1
theorem IZ(hl:PE X l tl):PI X tg l (Mo X.K tl):=by
 intro pins s σ H R I h;refine gL (hl pins s σ H _ I h) λv s1 x H1 I1 r1 q1=>?_;rcases q1 with⟨a,xs,rfl,hq,q⟩ | ⟨a,xs,rfl,hq,q⟩ | ⟨z,rfl,q⟩
 . cases r1;exact AX I1 hq q
 . cases r1;exact Bs I1 hq q
 . obtain⟨t,rfl⟩:=r1;exact zf I1 q
def uM(x:PV)(h:PH):RV qN:=match x with
 | .tup xs=> .ok ⟨Rv,xs⟩ h
 | .ktup xs=> .ok ⟨Rv,xs⟩ h
 | .str z=> .ok ⟨Rv,z.cps.toList.map λc=> .str ⟨#[c]⟩⟩ h
 | .ref n=>(match bU h n with
  | some xs=> .ok ⟨fv n,xs⟩ h
  | none=> .no)
 | _=> .no
def qO(a:ME):MI:=λc e h=>(a c e h).bind uM
end
section
variable{X:Cx}{pg:Tb}{k:Nat}{tg l:Sy}{ma:ME}{ta:TE}
theorem Kz{K}(s1:SE c K ta ma):SI c K (Mo K ta) (qO ma):=fun ρ h H e σ R it h' s r q P=>by
 obtain⟨x,h1,e1,q⟩:=bind_eq.mp q;refine s1 ρ h H e σ _ x h1 s r e1 λx' ρ1 H1 g1 z1 r1=>?_;have tupc: ∀(xs:List PV),x.seq?=fv xs->it=⟨Rv,xs⟩->h'=h1->(∃ a xs,x'= .ref a/\dz K H1 a xs/\R (BE K a) H1):=λxs ex ei eh=>by
  subst ei eh;obtain⟨a,vs,rfl,zz,rr⟩:=rel.seq ex r1;refine⟨a,vs,rfl,zz,P ρ1 H1 _ g1 z1 λi ρ2 h2 H2 g s _=>?_⟩;have z2:=g.BU zz;have r2:=ai.gr g _ _ rr;refine⟨λy e=>?_,λe=>⟨vs,z2,by rw[e,<- rr.len];exact RE _⟩⟩;obtain⟨v,d1,d2⟩:=r2.get e;refine⟨⟨vs,v,z2,d1⟩,?_⟩;rintro w H' ⟨rfl,hw⟩;have:=hw vs z2;rw[d1] at this;cases this;exact⟨ρ2,.refl _ _,s,d2⟩
 cases x with
 | tup xs=>cases q;exact .inr (.inl (tupc xs rfl rfl rfl))
 | ktup xs=>cases q;exact .inr (.inl (tupc xs rfl rfl rfl))
 | str z =>
  cases q
  refine .inr (.inr ⟨z,r1,P ρ1 H1 _ g1 z1 λi ρ2 h2 H2 g s _=>⟨λy e=>?_,λe=>by show i=z.cps.size;simpa using e⟩⟩)
  rw[RP] at e
  cases q:z.cps.toList[i]? with
  | none=>simp_all
  | some c =>
   rw[q] at e
   cases e
   have hc:z.cps[i]?=fv c:=by simpa using q
   refine⟨(Array.getElem?_eq_some_iff.mp hc).1,?_⟩
   rintro v H' ⟨rfl,c',e1,rfl⟩
   rw[hc] at e1
   cases e1
   exact⟨ρ2,.refl _ _,s,by rw[rel]⟩
 | ref n =>
  simp only[uM] at q
  split at q
  . rename_i xs en;cases q;obtain⟨a,vs,rfl,ea,zz,rr⟩:=z1.sq en r1;refine .inl ⟨a,vs,rfl,zz,P ρ1 H1 _ g1 z1 λi ρ2 h2 H2 g s hf=>?_⟩;have ea2:=g.pre _ _ ea;have hl:bU h2 n=fv xs:=by
     have:h2[n]?=fv (.lst xs)\/h2[n]?=fv (.jD xs):=by simpa [qN.j5] using hf
     unfold bU;rcases this with q | q<;>rw[q]
    obtain⟨a',vs2,e3,e4,z2,r2⟩:=s.sq hl (show rel K ρ2 H2 (.ref n) (.ref a) by exact⟨a,ea2,rfl⟩);cases e3;refine⟨λy e=>?_,λe=>⟨vs2,z2,by rw[e,<- r2.len];exact RE _⟩⟩;obtain⟨v,d1,d2⟩:=r2.get e;refine⟨⟨vs2,v,z2,d1⟩,?_⟩;rintro w H' ⟨rfl,hw⟩;have:=hw vs2 z2;rw[d1] at this;cases this;exact⟨ρ2,.refl _ _,s,d2⟩
  . cases q
 | _=>cases q
theorem Jy(ha:JE X pg k l ma):JI X pg k tg l (qO ma):=⟨λA=>by obtain⟨_,q1,s1⟩:=ha.h A;exact⟨_,⟨IZ q1.h⟩,Kz s1⟩⟩
def au lo n:=(RJ n).map λ(i:Nat)=>PV.int (lo+(i))
def fj(r:MA):MI:=λc e h=>(r c e h).bind λvs h1=>match vs with
 | [.int j]=>if -(2 ^ 62)<=j/\j < 2 ^ 62 then .ok ⟨Rv,au 0 j.toNat⟩ h1 else .no
 | _=> .no
theorem xx{K} lo n:QK K ρ H (O1 lo n) ⟨Rv,au lo n⟩:=λi ρ1 h1 H1 g s _=>by
 refine⟨λy e=>?_,λe=>by show n<=i;rw[e];simp[au]⟩;unfold au at e;rw[RP] at e;rcases Ug i n with z | z
 . rw[Ua z] at e;cases e;exact⟨z,λv H'=>by rintro ⟨e1,e2⟩;exact by subst e1;subst e2;exact⟨ρ1,.refl _ _,s,by rw[rel]⟩⟩
 . simp_all
variable{a b:Sy}{p pos:Pos}{mr:MA}
theorem ym(hg:Gl X "range")(ha:JA X pg k [a] mr)(hs:Ss [a] X.env=[(false,Tw a X.env)]:=by rfl):JI X pg k tg (.Call (.Name "range" p) [a] [] pos) (fj mr):=⟨λA =>
 by obtain⟨_,q1,s1⟩:=ha.h A;exact⟨_,⟨wZ hg (A.blt _ (by decide)) q1.h hs⟩,fun ρ h H e σ R it h' s r q P=>by
 obtain⟨vs,h1,e1,q⟩:=bind_eq.mp q
 refine s1 ρ h H e σ _ vs h1 s r e1 λus ρ1 H1 g1 z1 r1=>?_
 split at q
 . rename_i j;split at q
   . rename_i hj;cases q;obtain⟨u,rfl,r2⟩:=aO r1;subst r2;exact⟨j,rfl,hj.1,hj.2,P ρ1 H1 _ g1 z1 (xx 0 _)⟩
   . nomatch q
 . nomatch q⟩⟩
abbrev MP:=CF->aM->PH->RV (List (Key × PV))
def fm(kvs more:List (Key × PV)):=more.foldl (λacc kv=>p6 acc kv.1 kv.2) kvs
structure JP(X:Cx)(pg:Tb)(k:Nat)(pos:Pos)(ks:List (Option Sy))(vs:List Sy)(m:MP):Prop where
 h:bQ X pg k-> ∃ t,QP X pos ks vs t/\ ∀ ρ h H e σ Q kvs h',b6 X.K ρ h H->cO X.K ρ H e σ ->m (run pg k) e h= .ok kvs h'->(∀ kws ρ' H',Gr ρ H ρ' H'->b6 X.K ρ' h' H'->RK X.K ρ' H' kvs kws->Q (kws.map λkv=>(kV kv.1,kv.2)) H')->mD t σ H Q
theorem RK.merge{K}: ∀{more mw kvs kws},RK K ρ H more mw->RK K ρ H kvs kws->RK K ρ H (fm kvs more) (cX kws mw)
 | _,_,_,_,.nil,r=>r
 | _,_,_,_,.cons (a:=p) (b:=q) a t,r=>by
  show RK K ρ H (fm (p6 _ p.1 p.2) _) (cX (putK _ q.1 q.2) _);refine RK.merge t ?_;rw[<- a.1];exact RK.put r a.2
def pB(kvs:List (Key × PV))(a:ME):ME:=λc e h=>(a c e h).bind λx h1=>match iG x with
 | some key=>(match dm kvs key with
  | some v=> .ok v h1
  | none=> .no)
 | none=> .no
variable{x:Str}{kvs:List (Key × PV)}{i:Sy}{mi:ME}{pos':Pos}
theorem CD(hd:pg.vU x=fv kvs)(hg:Gl X x)(hi:JE X pg k i mi)(hs:Ct i)(hdb:(x == ("__debug__"))=false:=by decide):JE X pg k (.Subscript (.Name x pos') i pos) (pB kvs mi):=⟨λA =>
 by obtain⟨a,kws,e1,e2,e3⟩:=A.vU x kvs hd;exact by obtain⟨_,q1,s1⟩:=hi.h A;exact⟨_,Ce e2 (B7 hg e1 hdb) q1 hs,fun ρ h H e σ Q v h' s r q P=>by
 obtain⟨y,h1,d1,q⟩:=bind_eq.mp q
 refine s1 ρ h H e σ _ y h1 s r d1 λy' ρ1 H1 g1 z1 r1=>?_
 split at q
 . rename_i key ek;split at q
   . rename_i w ew;cases q;obtain⟨u,f1,f2⟩:=RK.some (e3 ρ1 H1) ew;exact⟨key,u,fM ek r1,f1,P _ ρ1 H1 g1 z1 f2⟩
   . nomatch q
 . nomatch q⟩⟩
def zH(d a b:ME):ME:=λc e h=>(d c e h).bind λx h1=>if fi h1 x=true then(a c e h1).bind (λy h2=>(b c e h2).bind λz h3=>match x,iG y with
 | .ref n,fv key=>(match h3[n]? with
  | some (.dct kvs)=> .ok ((dm kvs key).getD z) h3
  | _=> .no)
 | _,_=> .no) else .no
theorem EZ(ho:JE X pg k o md)(he:JE X pg k e me)(hf:JE X pg k f mf)(m:M2 X o "get" apos e f cpos):JE X pg k (.Call (.Attribute o "get" apos) [e,f] [] cpos) (zH md me mf):=⟨λA =>
 let ⟨_,q1,s1⟩:=ho.h A;let ⟨_,q2,s2⟩:=he.h A;let ⟨_,q3,s3⟩:=hf.h A;⟨_,Bm A.hu q1 q2 q3 m,fun ρ h H e σ Q v h' s r q P=>by
 obtain⟨x,h1,e1,q⟩:=bind_eq.mp q
 refine s1 ρ h H e σ _ x h1 s r e1 λx' ρ1 H1 g1 z1 r1=>?_
 split at q
 . rename_i hd;obtain⟨y,h2,e2,q⟩:=bind_eq.mp q;obtain⟨z,h3,e3,q⟩:=bind_eq.mp q;cases x with
   | ref n =>
    obtain⟨a,ea,rfl⟩:=r1
    refine⟨a,rfl,?_,?_⟩
    . simp only[fi] at hd;split at hd
      . rename_i kvs0 en;obtain⟨kws,d1,_⟩:=z1.ob n _ a en ea;exact .inl ⟨kws,.inl d1⟩
      . cases hd
    refine s2 ρ1 h1 H1 e σ _ y h2 z1 (r.gr g1) e2 λy' ρ2 H2 g2 z2 r2=>?_
    refine s3 ρ2 h2 H2 e σ _ z h3 z2 (r.gr (g1.trans g2)) e3 λz' ρ3 H3 g3 z3 r3=>?_
    cases ek:iG y with
    | none=>simp only[ek] at q;nomatch q
    | some key =>
     simp only[ek] at q
     split at q
     . rename_i kvs en;cases q;obtain⟨kws,d1,d2⟩:=z3.ob n _ a en (g3.pre _ _ (g2.pre _ _ ea));have:=fM ek r2;subst this;refine⟨_,iH.k (k:=key) d1,P _ ρ3 H3 ((g1.trans g2).trans g3) z3 ?_⟩;have:=RK.val key d2;cases p1:dm kvs key<;>cases p2:fL kws key<;>rw[p1,p2] at this<;>first | exact r3 | exact this | exact TF this
     . nomatch q
   | _=>cases hd
 . nomatch q⟩⟩
end
section
variable{K:Rx}{X:Cx}{pg:Tb}{k:Nat}
def pairP?:PV->Option (Key × PV)
 | .tup [a,v]=>(iG a).map λk=>(k,v)
 | _=>Rv
noncomputable def jf:List PV->Option (List (Key × PV))
 | []=>fv []
 | x::r=>(match pairP? x,jf r with
  | some p,fv ps=>fv (p::ps)
  | _,_=>Rv)
section
variable{prog:Sv}{w:SQ}{A:Ti}{E:RA->RD->Prop}{s:RD}
theorem nz{p:RQ}{kvs:List (Key × RA)}{R:RA->RD->Prop}(hS:(p == Te)=false)(hp:s.heap.DictOf (aF prog w) p kvs)(hz:kvs.length<=RF)
  (q: ∀ g:S6,g.DictOf (aF prog w) s.heap.objs.size (merged [] kvs)->(∀ b o,s.heap.get? b=fv o->g.get? b=fv o)->R (.ref s.heap.objs.size) { s with heap:=g}) :
  RX (R4 prog w) A (call (.type "dict") [.ref p]) R E s:=by
 let g0:=s.heap.push { cls:= .type "dict",data:= .dict #[]}
 have up: ∀ b o,s.heap.get? b=fv o->g0.get? b=fv o:=λb o e=>Ry _ e;have dn:g0.DictOf (aF prog w) s.heap.objs.size []:=ZF s.heap;have dp:=hp.at λo e=>up p o e;have ne:s.heap.objs.size≠p:=λe=>by
  obtain⟨o,_,_,ho,_⟩:=hp;exact absurd (RI ho) (by rw[e];exact Sn _)
 refine callType_codes (Q₁ :=λz u=>z= .ref s.heap.objs.size/\u={ s with heap:=g0}) F.kt_called_dict (F.kt_typeCall_dict_1 _) F.entry_dict_init (Zi _ ⟨rfl,rfl⟩) ?_;rintro obj s1 ⟨rfl,rfl⟩;refine⟨dn.typeIs,F.args_dict_init_2 _ _,?_⟩
 with_unfolding_all refine Ru (m:=WU _ _) (Ru (XW dn.typeIs (RG ?_)))
 show RX _ _ (Xf "dict.__init__" s.heap.objs.size (.ref p) [] .none) _ _ _;refine Ru (Vd dp.typeIs ?_);refine Ru (Ru (Ru (Zn dp.typeIs isSubtype_dict_dict ?_)));refine Ru (XM dp.typeIs F.slot_dict_iter.lookup (RG ?_));refine Ru (RG (wpAny_mergeDict (hsz:=by simpa using hz) ne hS dn dp λg dg _ sb=>?_));exact Ru (RG (RG ⟨rfl,q g dg λb o e=>(sb.2 b (R1 (RI e))).trans (up b o e)⟩))
end
def KW:List V->Hp->VK->Prop:=λxs H Q=> ∃ p kvs,xs=[.ref p]/\H p=fv (.dK kvs)/\kvs.length<=RF/\ ∀ d,H d=Rv->Q (.ref d) (upd H d (.dK (cX [] kvs)))
theorem uh:aG X (.type "dict") KW:=by
 intro pins s σ H xs us Q I r h;obtain⟨p,kvs,rfl,hp,hz,q⟩:=h;obtain⟨u,rfl,ru⟩:=vals1 r;cases(show u=R0 p from ru);obtain⟨z1,n1,vs,r1,d1⟩:=vY I.aW hp;refine nz n1 d1 (by rw[<- r1.length];exact z1) λg dd keep=>?_;have hle:(cX [] kvs).length<=RF:=by have:=fB kvs [];simp at this;omega
 obtain⟨hn,I'⟩:=I.kA (a:=s.heap.objs.size) (o:= .dK (cX [] kvs)) (t':=s.toks) keep (TY (RE _)) (tZ hle (beq_eq_false_iff_ne.mpr (UK (R1 I.big))) (KV.rW r1) dd);exact⟨.ref _,_,I',rfl,q _ hn⟩
def wC:List PV->PH->RV PV:=λxs h=>match xs with
 | [.tup ys]=>(match jf ys with
  | some kvs=>if ys.length < RF then .ok (.ref h.length) (h++[.dct (fm [] kvs)]) else .no
  | none=> .no)
 | [.ref n]=>(match h[n]? with
  | some (.dct kvs)=>if kvs.length<=RF then .ok (.ref h.length) (h++[.dct (fm [] kvs)]) else .no
  | _=> .no)
 | _=> .no
theorem EC(e:pairP? x=fv p)(r:rel K ρ H x v): ∃ q ,oE H v q/\p.1=q.1/\rel K ρ H p.2 q.2:=by
 cases x with
 | tup xs =>
  match xs,e with
  | [a,w],e =>
   simp only[pairP?] at e
   cases q:iG a with
   | none=>simp_all
   | some key =>
    rw[q] at e
    cases e
    obtain⟨b,vs,rfl,e1,e2⟩:=r
    obtain⟨u,u',rfl,r1,r2⟩:=gQ e2
    have:=fM q r1
    subst this
    exact⟨(key,u'),⟨b,rfl,e1⟩,rfl,r2⟩
 | _=>cases e
theorem tF: ∀{xs kvs vs},jf xs=fv kvs->ai K ρ H xs vs-> ∃ kws,SW (oE H) vs kws/\RK K ρ H kvs kws
 | [],kvs,vs,e,r=>by cases e;subst r;exact⟨[],.nil,.nil⟩
 | x::t,kvs,vs,e,r=>by
  simp only[jf] at e;split at e
  . rename_i p ps e1 e2;cases e;obtain⟨v,w,rfl,r1,r2⟩:=aq.mp r;obtain⟨q,a,b⟩:=EC e1 r1;obtain⟨qs,c,d⟩:=tF e2 r2;exact⟨q::qs,.cons a c,.cons b d⟩
  . cases e
theorem wd(s:b6 K ρ h H)(r:RK K ρ H kvs kws)(P:cQ K ρ H (.ref h.length) (h++[.dct kvs]) Q) p (hp:H p=Rv):Q (.ref p) (upd H p (.dK kws)):=by
 refine P _ (ρ ++[p]) _ (Gr.new hp [p]) (s.new hp ⟨kws,aX,Paired.kE (Gr.new hp [p]) r⟩) ?_;exact⟨p,by rw[<- s.len,Sa (RE _)];simp,rfl⟩
theorem Ij:bQ X pg k-> ∃ r,aG X (.type "dict") r/\xP X.K r wC:=λA=>⟨_,(yL A.calm).or uh,fun ρ h H xs us Q v h' s r q P=>by
 unfold wC at q;split at q
 . split at q
   . rename_i kvs e;split at q
     . rename_i hl;cases q;obtain⟨u,rfl,r1⟩:=aO r;obtain⟨a,vs,rfl,e1,e2⟩:=r1;obtain⟨kws,c,d⟩:=tF e e2;exact .inl ⟨a,vs,kws,rfl,e1,c,by rw[<- e2.len];exact hl,λp hp=>wd s (RK.merge d .nil) P p hp⟩
     . nomatch q
   . nomatch q
 . rename_i n;split at q
   . rename_i kvs en;split at q
     . rename_i hl;cases q;obtain⟨u,rfl,r1⟩:=aO r;obtain⟨a,ea,rfl⟩:=r1;obtain⟨kws,e1,e2⟩:=s.ob n _ a en ea;exact .inr ⟨a,kws,rfl,e1,by rw[<- RK.len e2];exact hl,λp hp=>wd s (RK.merge e2 .nil) P p hp⟩
     . nomatch q
   . nomatch q
 . nomatch q⟩
theorem kC{α :Type}{le}: ∀{l1 l2:List α},(∀ a∈l1,∀ b∈l1,le a b->le b a->a=b)->l1.Perm l2->l1.Pairwise le->l2.Pairwise le->l1=l2
 | [],l2,_,p,_,_=>List.Perm.nil_eq p
 | a::r,[],_,p,_,_=>absurd p.length_eq (by simp)
 | a::r,b::r',anti,p,h1,h2=>by
  rw[Wu] at h1 h2;have hb:=p.mem_iff.mpr RU;have e:a=b:=by
   rcases RW.mp (p.mem_iff.mp (RU)) with e | m
   . exact e
   . rcases RW.mp hb with e | m'
     . exact e.symm
     . exact anti a RU b hb (h1.1 b m') (h2.1 a m)
  subst e;rw[kC (λx hx y hy=>anti x (RS _ hx) y (RS _ hy)) (List.Perm.cons_inv p) h1.2 h2.2]
noncomputable def nK a b:= !decide (iB b a)
def cR(ss:List Str):=ss.mergeSort nK
theorem fH a b c (h1:nK a b=true) (h2:nK b c=true):nK a c=true:=by
 unfold nK at h1 h2 ⊢;simp only[Th,decide_eq_false_iff_not] at h1 h2 ⊢;intro h;by_cases e:b=a
 . subst e;exact h2 h
 . rcases kg e with z | z
   . exact h1 z
   . exact h2 (ie h z)
theorem hX a b:(nK a b||nK b a)=true:=by
 unfold nK;by_cases h:iB b a
 . simp [oQ h]
 . simp [h]
theorem sd(h1 : nK a b = true)(h2 : nK b a = true) : a = b := by
  unfold nK at h1 h2;simp only [Th, decide_eq_false_iff_not] at h1 h2
  exact Decidable.byContradiction fun e => by rcases kg e with z | z; · exact h2 z
                                              . exact h1 z
theorem xD: ∀{r p},risingS p r=true->(p::r).Pairwise λa b=>nK a b=true:=by
 intro r
 induction r with
 | nil=>intro p _;exact Xi _ _
 | cons x r ih =>
  intro p h
  simp only[risingS,RT] at h
  have h1:nK p x=true:=by
   have:=h.1;rw[ltCps_eq] at this;exact this
  have h2:=ih h.2
  refine Wu.mpr ⟨λy hy=>?_,h2⟩
  rcases RW.mp hy with rfl | m
  . exact h1
  . exact fH _ _ _ h1 ((Wu.mp h2).1 y m)
theorem xH(h:WK ss=true):ss.Pairwise λa b=>nK a b=true:=by
 cases ss with
 | nil=>exact .nil
 | cons p r=>exact xD h
theorem nh(p:ss'.Perm ss)(h:WK ss'=true):ss'=cR ss :=
 kC (le:=λa b=>nK a b=true) (λ_ _ _ _ h1 h2=>sd h1 h2) (p.trans (Vn ss nK).symm) (xH h) (UI fH (λa b=>by simpa using hX a b) ss)
noncomputable def dH:List PV->Option (List Str)
 | []=>fv []
 | .str x::r=>(dH r).map (x:: ·)
 | _=>Rv
theorem d7: ∀{xs ss},dH xs=fv ss->xs=ss.map PV.str
 | [],bs,e=>by cases e;rfl
 | .str b::r,bs,e=>by
  rw[dH] at e;cases q:dH r with
  | none=>simp_all
  | some cs=>rw[q] at e;cases e;rw[d7 q];rfl
 | .non::_,_,e=>by cases e
 | .bl _::_,_,e=>by cases e
 | .int _::_,_,e=>by cases e
 | .tup _::_,_,e=>by cases e
 | .ktup _::_,_,e=>by cases e
 | .ref _::_,_,e=>by cases e
 | .ty _::_,_,e=>by cases e
theorem cZ: ∀ ss,dH (ss.map PV.str)=fv ss
 | []=>rfl
 | b::r=>by rw[RL,dH,cZ r];rfl
theorem bK: ∀{ss:List Str}{vs},ai K ρ H (ss.map PV.str) vs↔vs=ss.map V.str
 | [],vs=>bI
 | b::t,vs=>by
  constructor
  . rintro ⟨v,w,rfl,r1,r2⟩;rw[r1,bK.mp r2];rfl
  . rintro rfl;exact⟨.str b,t.map V.str,rfl,by rw[rel],bK.mpr rfl⟩
noncomputable def uH:List PV->Option (List (Str × Int))
 | []=>fv []
 | .tup [.str x,.int i]::r=>(uH r).map ((x,i):: ·)
 | _=>Rv
noncomputable def gP(q:Str × Int):PV:= .tup [.str q.1,.int q.2]
theorem qX: ∀ ps,uH (ps.map gP)=fv ps
 | []=>rfl
 | b::r=>by rw[RL,gP,uH,qX r];rfl
theorem CW: ∀{xs ps},uH xs=fv ps->xs=ps.map gP:=by
 intro xs
 induction xs with
 | nil=>intro ps e;cases e;rfl
 | cons x r ih =>
  intro ps e
  unfold uH at e
  split at e
  . simp_all
  . rename_i y i r' h;cases h;cases q:uH r with
    | none=>simp_all
    | some cs=>rw[q] at e;cases e;rw[ih q];rfl
  . cases e
theorem jI: ∀{ps vs},ai K ρ H (ps.map gP) vs↔SW (iR H) vs ps
 | [],vs=>⟨λh=>by subst h;exact .nil,λh=>by cases h;exact bI.mpr rfl⟩
 | b::t,vs=>by
  constructor
  . rintro ⟨v,w,rfl,r1,r2⟩;obtain⟨a,us,rfl,e1,e2⟩:=r1;obtain⟨u,u',rfl,d1,d2⟩:=gQ e2;subst d1 d2;exact .cons ⟨a,rfl,e1⟩ (jI.mp r2)
  . intro h;cases h with
    | cons h1 h2 =>
     obtain⟨a,rfl,e1⟩:=h1
     refine⟨.ref a,_,rfl,?_,jI.mpr h2⟩
     exact⟨a,_,rfl,e1,aq.mpr ⟨_,_,rfl,by rw[rel],ai.one (by rw[rel])⟩⟩
theorem A9: ∀{ps:List (Str × Int)},(ps.map (·.1)).Nodup-> ∀{a b},a∈ps->b∈ps->a.1=b.1->a=b
 | [],_,a,b,ha,_,_=>by cases ha
 | p::r,nd,a,b,ha,hb,e=>by
  rw[RL] at nd;rw[Us] at nd;rcases RW.mp ha with ha | ha<;>rcases RW.mp hb with hb | hb
  . rw[ha,hb]
  . exact absurd (by rw[<- ha,e];exact Se.mpr ⟨b,hb,rfl⟩) nd.1
  . exact absurd (by rw[<- hb,<- e];exact Se.mpr ⟨a,ha,rfl⟩) nd.1
  . exact A9 nd.2 ha hb e
def mN(ps:List (Str × Int)):=ps.mergeSort λa b=>nK a.1 b.1
theorem AL(nd:(ps.map (·.1)).Nodup)(p:ps'.Perm ps)(h:(ps'.map (·.1)).Pairwise iB):ps'=mN ps:=by
 have h2:ps'.Pairwise λa b=>nK a.1 b.1=true:=by
  rw[VM] at h;exact h.imp λ{a b} z=>by unfold nK;simp[oQ z]
 refine kC (le:=λa b=>nK a.1 b.1=true) (λa ha b hb z1 z2=>?_) (p.trans (Vn ps _).symm) h2 (UI (λa b c=>fH a.1 b.1 c.1) (λa b=>by simpa using hX a.1 b.1) ps);have e:=sd z1 z2;have ha':=p.mem_iff.mp ha;have hb':=p.mem_iff.mp hb;exact A9 nd ha' hb' e
def jC:List PV->PH->RV PV:=λxs h=>match xs with
 | [x]=>(match itemsOf h x with
  | some ys=>(match x with
   | .ref _=>(match dH ys with
    | some ss=>if ss.length < 64 then .ok (.ref h.length) (h++[.lst ((cR ss).map PV.str)]) else .no
    | none=>(match uH ys with
     | some ps=>if ps.length < 64/\(ps.map (·.1)).Nodup then .ok (.ref h.length) (h++[.lst ((mN ps).map gP)]) else .no
     | none=> .no))
   | _=> .no)
  | none=>(match x with
   | .ref n=>(match h[n]? with
    | some (.dct kvs)=>(match dH (kvs.map λkv=>match kv.1 with | .inl i=> .int i | .inr z=> .str z) with
     | some ss=>if ss.length < 64 then .ok (.ref h.length) (h++[.lst ((cR ss).map PV.str)]) else .no
     | none=> .no)
    | _=> .no)
   | _=> .no))
 | _=> .no
theorem RK.keys: ∀{kvs kws},RK K ρ H kvs kws->kws.map (·.1)=kvs.map (·.1)
 | _,_,.nil=>rfl
 | _,_,.cons a t=>by rw[RL,RL,RK.keys t,a.1]
theorem keys_str: ∀{kvs:List (Key × PV)}{ss:List Str},(kvs.map λkv=>(match kv.1 with | .inl i=>PV.int i | .inr z=>PV.str z))=ss.map PV.str->kvs.map (·.1)=ss.map UJ
 | [],ss,e=>by simp_all
 | (.inl i,v)::r,ss,e=>by cases ss with | nil=>cases e | cons=>simp at e
 | (.inr z,v)::r,ss,e=>by
  cases ss with
  | nil=>cases e
  | cons y t =>
   rw[RL,RL,ZI] at e
   rw[RL,keys_str e.2]
   cases e.1;rfl
theorem sk(A:bQ X pg k):xP X.K (λxs H Q=>AM X.K xs H Q\/(BN xs H Q\/ve X.K xs H Q)) jC:=fun ρ h H xs us Q v h' s r q P=>by
 unfold jC at q;split at q
 . obtain⟨u,rfl,r1⟩:=aO r;split at q
   . rename_i ys e;split at q
     . obtain⟨a,vs,rfl,_,z,r2⟩:=s.sq e r1;split at q
       . rename_i ss es;split at q
         . rename_i hl;cases q;rw[d7 es,bK] at r2;subst r2;refine .inl ⟨a,ss,rfl,z,hl,λl ss' hp pm so=>?_⟩;rw[nh pm so];exact cJ s (bK.mpr rfl) P l hp
         . simp_all
       . split at q
         . rename_i ps eps;split at q
           . rename_i hl;cases q;rw[CW eps,jI] at r2;refine .inr (.inr ⟨a,vs,ps,rfl,z,r2,hl.1,hl.2,λl ys' ps' hp pm so pr=>?_⟩);have:=AL hl.2 pm so;subst this;exact cJ s (jI.mpr pr) P l hp
           . simp_all
         . nomatch q
     . nomatch q
   . split at q
     . rename_i n _;split at q
       . rename_i kvs en;split at q
         . rename_i ss es;split at q
           . rename_i hl;cases q;obtain⟨a,ea,rfl⟩:=r1;obtain⟨kws,e1,e2⟩:=s.ob n _ a en ea;refine .inr (.inl ⟨a,kws,ss,rfl,e1,by rw[RK.keys e2];exact keys_str (d7 es),hl,λl ss' hp pm so=>?_⟩);rw[nh pm so];exact cJ s (bK.mpr rfl) P l hp
           . nomatch q
         . nomatch q
       . nomatch q
     . nomatch q
 . nomatch q
theorem iA.of{P:Sv}{w:SQ}{K:Rx}{mg:Str->Option RA}{base:S6}{pg:Tb}{f:String}{d:Df}(b:MS)(st:W5)(N:List Str)(e:d.body=b)(a:At K mg (RZ f) st)(S:cE N d.ps (ak st))(hl:N.length=d.ps.length+d.nl)
  (hb: ∀(kV doc pm:RA)(an:Option RQ)(cdv ct:RA)(us:List RA),us.length=d.ps.length->UR (S4 (RZ f) (RZ f) (bP st) (aQ st) (ak st) .none kV doc pm an cdv ct) ⟨us,[]⟩=pure (d.ps.zip us))
  (h: ∀(fa:RQ)(cdv:RA)(A:Ti)(outer:List Env)(s:RD)(H:Hp)(E:XK)(k:Nat),uT (iE pH P w K mg base N (RZ f) (ak st) fa cdv A outer s H E).mW pg k (aQ st) b):iA P w K mg base pg f d :=
 ⟨st,N,a,S,hl,hb,by rw[e];exact h⟩
end
section
variable{X:Cx}{pins:List (RQ × Obj)}{σ :L2.St}{H:Hp}{s:RD}{h':S6}
theorem A0{turned:List RQ}(I:Inv X pins σ H s)(kp: ∀ b o,b ∉ turned->s.heap.get? b=fv o->h'.get? b=fv o)(fp: ∀ b∈turned,lh X pins H b):Inv X pins σ H { s with heap:=h',toks:=t'}:=by
 have away: ∀ b u,H b=fv u->b ∉ turned:=λb u e m=>by
  have:=(fp b m).1;rw[e] at this;cases this
 refine I.step (g':=s.gens) (d':=s.drawn) (ch:=turned) (λb m=>?_) (λb o _ _ n e _=>kp b o n e) (λb o _ _ n e _=>⟨o.slots,kp b o n e⟩) (λ_ _ _ _ e=>e) (λb o n e=>⟨o,kp b o n e⟩) (λ_ _ e=>e) (λ_ _ _ e=>e) (λb ps e=>⟨#[],by simp_all⟩) (λm hm=>?_) (λb u e=>?_) I.bare
 . obtain⟨_,a2,_,a4,a5,a6⟩:=fp b m;exact⟨a4,a2,a5,a6⟩
 . obtain⟨o,es,ep,ho,r⟩:=hm;exact⟨o,es,ep,kp _ o (λm=>(fp _ m).2.1 rfl) ho,r⟩
 . refine(I.aW b u e).qh (λc v hc q=>kp c v ?_ q) (λ_ q=>q) λ_ _ q=>q;rcases hc with z | z
   . rw[z];exact away b u e
   . exact away c _ z
theorem pd{turned:List RQ}{p:RQ}(I:Inv X pins σ H s)(kp: ∀ b o,b ∉ turned->s.heap.get? b=fv o->h'.get? b=fv o)(fp: ∀ b∈turned,lh X pins H b)(hp:s.heap.objs.size<=p)
  (new:aN X.prog X.w (upd H p (.tup vs)) h' p (.tup vs)):Inv X pins σ (upd H p (.tup vs)) { s with heap:=h',toks:=t'}:=by
 have hn:=I.aW.fresh hp;have away: ∀ b u,H b=fv u->b ∉ turned:=λb u e m=>by
  have:=(fp b m).1;rw[e] at this;cases this
 have old: ∀ b o,s.heap.get? b=fv o->b≠p:=λb o e z=>absurd (RM (RI e) (z ▸ hp)) (Sn _);refine I.step (g':=s.gens) (d':=s.drawn) (ch:=turned) (λb m=>?_) (λb o _ _ n e _=>kp b o n e) (λb o _ _ n e _=>⟨o.slots,kp b o n e⟩) (λb o _ e n=>by rw[av (old b o e)];exact n) (λb o n e=>⟨o,kp b o n e⟩)
  (λb xs e=>by rw[av (ax e hn)];exact e) (λb o u e=>by rw[av (ax e hn)];exact e) (λb ps e=>⟨#[],by rw[av (ax e hn),e];simp⟩) (λm hm=>?_) (λb u e=>?_) I.bare
 . obtain⟨_,a2,_,a4,a5,a6⟩:=fp b m;exact⟨a4,a2,a5,a6⟩
 . obtain⟨o,es,ep,ho,r⟩:=hm;exact⟨o,es,ep,kp _ o (λm=>(fp _ m).2.1 rfl) ho,r⟩
 . by_cases hb:b=p
   . subst hb;rw[aX] at e;cases e;exact new
   . rw[av hb] at e;refine(I.aW b u e).qh (λc v hc q=>kp c v ?_ q) (λc q=>by rw[av (ax q hn)];exact q) λc xs q=>by rw[av (ax q hn)];exact q
     rcases hc with z | z
     . rw[z];exact away b u e
     . exact away c _ z
end
def QC(K : Rx)(a1 a2 : RQ) : It :=
  ⟨λi H => ∃ xs ys x y, dz K H a1 xs /\ dz K H a2 ys /\ xs[i]? = fv x /\ ys[i]? = fv y,
   λi H v H' => ∃ p x y, H p = Rv /\ v = .ref p /\ H' = upd H p (.tup [x, y]) /\ (∀ xs, dz K H a1 xs -> xs[i]? = fv x) /\ ∀ ys, dz K H a2 ys -> ys[i]? = fv y,
   λi H => ∃ xs ys, dz K H a1 xs /\ dz K H a2 ys /\ (xs.length <= i ∨ ys.length <= i)⟩
theorem xF{TI TO}(Z:rf h z TI TO i1 i2 l1 l2 k)(kp: ∀ b∈[z,TI,TO,i1,i2],∀ o,h.get? b=fv o->h'.get? b=fv o):rf h' z TI TO i1 i2 l1 l2 k:=by
 obtain ⟨a,b,⟨u,v,c⟩,⟨o1,d1,d2⟩,⟨o2,e1,e2⟩⟩:=Z;exact ⟨kp _ (by simp) _ a,kp _ (by simp) _ b,⟨u,v,kp _ (by simp) _ c⟩,⟨o1,kp _ (by simp) _ d1,d2⟩,⟨o2,kp _ (by simp) _ e1,e2⟩⟩
theorem A7{K TI TO}(D:Y6 z TI TO i1 i2 a1 a2) :
  Turn P w K (.Tuple els j pos) (QC K a1 a2) [z,TI,TO,i1,i2] z (λi h=>rf h z TI TO i1 i2 a1 a2 i) where
 mem:=by simp
 obj:=λi h Z b hb=>by
  obtain⟨e1,e2,⟨u,v,e3⟩,⟨o4,e4,_,d4⟩,⟨o5,e5,_,d5⟩⟩:=Z;simp only[Sz,or_false,RW] at hb;rcases hb with rfl | rfl | rfl | rfl | rfl
  . exact⟨_,e1,λv q=>by cases q⟩
  . exact⟨_,e2,λv q=>by cases q⟩
  . exact⟨_,e3,λv q=>by cases q⟩
  . exact⟨_,e4,λv q=>by rw[d4] at q;nomatch q⟩
  . exact⟨_,e5,λv q=>by rw[d5] at q;nomatch q⟩
 keep:=λi h h' Z kp=>xF Z kp
 item:=by
  intro X hP hw hK hc i pins s σ H E I hf Z hg;subst hP hw hK;obtain⟨xs,ys,x,y,s1,s2,ex,ey⟩:=hg;obtain⟨us,ru,pu,_⟩:=I.tuple s1;obtain⟨ws,rw',pw,_⟩:=I.tuple s2;obtain⟨ux,eu,rx⟩:=ru.get ex;obtain⟨uy,ew,ry⟩:=rw'.get ey;refine lO D Z pu pw (by simpa using eu) (by simpa using ew) λh1 f1 f2 f3 f4 f5 f6 f7=>⟨_,rfl,?_⟩
  refine wpAny_letOwnedTupleGo_zip (s:={ s with heap:=h1}) f1 λh2 g1 g2=>?_;have ex1:=g2.extBut;have zlt:=RI Z.xn;have pz:=Ub zlt;have new:=ex1 _ _ pz f6;have hn:=I.aW.fresh (RE _);have I2:Inv X pins σ (upd H s.heap.objs.size (.tup [x,y])) { s with heap:=h2,toks:=s.toks}:=by
   refine pd (turned:=[z,TO,i1,i2]) I (λb o nb e=>?_) (λb hb=>hf b ?_) (RE _) ?_
   . simp only[RW,Sz,or_false,not_or] at nb;exact ex1 _ _ nb.1 (f7 b o nb.1 nb.2.1 nb.2.2.1 nb.2.2.2 e)
   . simp only[RW,Sz,or_false] at hb ⊢;rcases hb with rfl | rfl | rfl | rfl<;>simp
   . exact⟨by show 2<=RF;decide,[ux,uy],.cons rx (.cons ry .nil),_,new,rfl,_,rfl,rfl⟩
  refine⟨.ref s.heap.objs.size,upd H s.heap.objs.size (.tup [x,y]),I2,rfl,⟨_,x,y,hn,rfl,rfl,λxs' q=>?_,λys' q=>?_⟩,?_,λb hb=>?_⟩
  . rw[I.ia q s1];exact ex
  . rw[I.ia q s2];exact ey
  . obtain⟨o4,e4,c4⟩:=f4;obtain⟨o5,e5,c5⟩:=f5;exact⟨g1,ex1 _ _ D.TIz f2,⟨_,_,ex1 _ _ D.TOz f3⟩,⟨o4,ex1 _ _ D.i1z e4,c4⟩,⟨o5,ex1 _ _ D.i2z e5,c5⟩⟩
  . have hb0:=(hf b hb).1;have: ∃ o,s.heap.get? b=fv o:=by
     obtain⟨e1,e2,⟨u,v,e3⟩,⟨o4,e4,_⟩,⟨o5,e5,_⟩⟩:=Z;simp only[Sz,or_false,RW] at hb;rcases hb with rfl | rfl | rfl | rfl | rfl
     . exact⟨_,e1⟩
     . exact⟨_,e2⟩
     . exact⟨_,e3⟩
     . exact⟨_,e4⟩
     . exact⟨_,e5⟩
    obtain⟨o,eo⟩:=this;rw[av (R1 (RI eo))];exact hb0
 done:=by
  intro X hP hw hK hc i pins s σ H E I hf Z hg;subst hP hw hK;obtain⟨xs,ys,s1,s2,he⟩:=hg;obtain⟨us,ru,pu,_⟩:=I.tuple s1;obtain⟨ws,rw',pw,_⟩:=I.tuple s2;refine nT (I.ok.hd hc) D Z pu pw ?_ λh1 kp=>⟨rfl,A0 (turned:=[z,TO,i1,i2]) (t':=s.toks) I (λb o nb e=>?_) λb hb=>hf b ?_⟩
  . have l1:=ru.length;have l2:=rw'.length;rcases he with he | he
    . simp_all
    . simp_all
  . simp only[RW,Sz,or_false,not_or] at nb;exact kp b o nb.1 nb.2.1 nb.2.2.1 nb.2.2.2 e
  . grind
 self:=λA i s Q E Z h=>Zp Z.xn h
abbrev tI(a:RQ):Obj:={ cls:= .type "tuple_iterator",data:= .fields #[.ref a,.int 0 0]}
abbrev OJ(h:S6)(a b:RQ):S6 :=
 Tv (Tv (Tv (Tv (Tv h (tI a)) (tI b)) { cls:= .type "tuple",data:= .seq #[.ref h.objs.size,.ref (h.objs.size+1)]}) { cls:= .type "tuple",data:= .seq #[.none,.none]})
  { cls:= .type "zip",data:= .fields #[.none,.bool false,.bool false,.ref (h.objs.size+2),.ref (h.objs.size+3)]}
theorem pO a b us ws:Zy (Vw.«zip.__new__» ⟨[.type "zip",.ref a,.ref b],[]⟩) (λ_ R u=>u.heap.IsTuple a us/\u.heap.IsTuple b ws/\R (.ok (.ret (.ref (u.heap.objs.size+4)))) { u with heap:=OJ u.heap a b}) :=
 .of_wp λprog w A R u hu=>by
  obtain⟨hp,gg,dd,tk,os⟩:=u;obtain⟨ha,hb,hr⟩:=hu;have sub:=sub_zip;have fa:=ha;have fb:Heap.IsTuple (Shared.heap ⟨hp.push (tI a),gg,dd,tk,os⟩) b ws:=by obtain⟨o,e,c⟩:=hb;exact⟨o,Ry _ e,c⟩
  wp_walk using TV fa,TV fb
  refine⟨_,rfl,?_⟩;simp only[SK];exact hr
section
variable{X:Cx}{pg:Tb}{k:Nat}{a b:Sy}{ma mb:ME}{p pos:Pos}{els:List Sy}{j:Nat}{tpos:Pos}
theorem K2 h l1 l2:rf (OJ h l1 l2) (h.objs.size+4) (h.objs.size+2) (h.objs.size+3) h.objs.size (h.objs.size+1) l1 l2 0/\(OJ h l1 l2).objs.size=h.objs.size+5:=by
 have n1:(Tv h (tI l1)).objs.size=h.objs.size+1:=SK ..;have n2:(Tv (Tv h (tI l1)) (tI l2)).objs.size=h.objs.size+2:=by rw[SK,n1]
 have n3:(Tv (Tv (Tv h (tI l1)) (tI l2)) { cls:= .type "tuple",data:= .seq #[.ref h.objs.size,.ref (h.objs.size+1)]}).objs.size=h.objs.size+3:=by rw[SK,n2]
 have n4:(Tv (Tv (Tv (Tv h (tI l1)) (tI l2)) { cls:= .type "tuple",data:= .seq #[.ref h.objs.size,.ref (h.objs.size+1)]}) { cls:= .type "tuple",data:= .seq #[.none,.none]}).objs.size=h.objs.size+4:=by rw[SK,n3]
 refine⟨⟨?_,?_,⟨.none,.none,?_⟩,⟨tI l1,?_,rfl,rfl⟩,⟨tI l2,?_,rfl,rfl⟩⟩,by rw[SK,n4]⟩
 . rw[<- n4];exact RO _ rfl
 . refine Ry _ (Ry _ ?_);rw[<- n2];exact RO _ rfl
 . refine Ry _ ?_;rw[<- n3];exact RO _ rfl
 . exact Ry _ (Ry _ (Ry _ (Ry _ (RO _ rfl))))
 . refine Ry _ (Ry _ (Ry _ ?_));rw[<- n1];exact RO _ rfl
def Nd(K:Rx)(ta:TA):TI:=fun σ H R=>ta σ H λvs H1=> ∃ a1 a2 xs ys,vs=[.ref a1,.ref a2]/\dz K H1 a1 xs/\dz K H1 a2 ys/\R (QC K a1 a2) H1
theorem GH(hg:Gl X "zip")(hm:X.mg "zip" =Rv)(ha:PA X [a,b] ta)(hs:Ss [a,b] X.env=[(false,Tw a X.env),(false,Tw b X.env)])(hs2:Ss [b] X.env=[(false,Tw b X.env)]) :
  PI X (.Tuple els j tpos) (.Call (.Name "zip" p) [a,b] [] pos) (Nd X.K ta):=by
 intro pins s σ H R I h;refine Call_ (gU I hg hm boot_zip (S5 (yu (ha pos pins s σ H _ I h) λus s1 vs H1 I1 r1 ⟨a1,a2,xs,ys,e,q1,q2,q⟩=>?_) (by simp_all) (by rw[hs2];rfl)));subst e;cases r1 with
 | cons ra rr =>
  cases rr with
  | cons rb rr =>
   cases rr
   cases ra
   cases rb
   obtain⟨u1,_,p1,_⟩:=I1.tuple q1
   obtain⟨u2,_,p2,_⟩:=I1.tuple q2
   refine callType_new F.called_zip (by decide) (F.typeCall_zip_2 _ _) (F.newCall_zip_2 _ _) (λobj=>F.args_object_init_3 obj _ _) F.entry_zip_new (pO a1 a2 u1.toArray u2.toArray) ⟨p1,p2,?_⟩
   obtain⟨Z,zs⟩:=K2 s1.heap a1 a2
   have lt1:=let ⟨_,e,_⟩:=p1;RI e
   have lt2:=let ⟨_,e,_⟩:=p2;RI e
   refine⟨⟨_,Z.xn,rfl⟩,Zp Z.xn ?_⟩
   have kp: ∀ c o,s1.heap.get? c=fv o->(OJ s1.heap a1 a2).get? c=fv o:=λc o e=>Ry _ (Ry _ (Ry _ (Ry _ (Ry _ e))))
   refine⟨s1.heap.objs.size+4,[s1.heap.objs.size+4,s1.heap.objs.size+2,s1.heap.objs.size+3,s1.heap.objs.size,s1.heap.objs.size+1],_,_,H1,rfl,I1.kept (t':=s1.toks) kp,A7 (zipApart_new lt1 lt2),Z,λc hc=>?_,q⟩
   have hle:s1.heap.objs.size<=c:=by
    grind
   exact I1.CQ hle (I1.aW.fresh hle)
def JD(a b:ME):MI:=λc e h=>(a c e h).bind λx h1=>(b c e h1).bind λy h2=>match x.seq?,y.seq? with
 | some xs,fv ys=> .ok ⟨Rv,(xs.zip ys).map λp=> .tup [p.1,p.2]⟩ h2
 | _,_=> .no
theorem Kt(hg:Gl X "zip")(ha:JE X pg k a ma)(hb:JE X pg k b mb)(hs1:noStar a=true:=by rfl)(hs2:noStar b=true:=by rfl):JI X pg k (.Tuple els j tpos) (.Call (.Name "zip" p) [a,b] [] pos) (JD ma mb):=⟨λA =>
 let ⟨_,q1,s1⟩:=ha.h A;let ⟨_,q2,s2⟩:=hb.h A
 ⟨_,⟨GH hg (A.blt _ (by decide +kernel)) (qk q1 (qk q2 ur hs2) hs1).h (by rw[bp hs1,bp hs2];rfl) (by rw[bp hs2];rfl)⟩,fun ρ h H e σ R it h' s r q P=>by
 obtain⟨x,h1,e1,q⟩:=bind_eq.mp q
 obtain⟨y,h2,e2,q⟩:=bind_eq.mp q
 refine s1 ρ h H e σ _ x h1 s r e1 λx' ρ1 H1 g1 z1 r1=>?_
 refine s2 ρ1 h1 H1 e σ _ y h2 z1 (r.gr g1) e2 λy' ρ2 H2 g2 z2 r2=>?_
 split at q
 . rename_i xs ys ex ey;cases q;obtain⟨a1,us,rfl,t1,d1⟩:=rel.seq ex (rel.gr g2 _ _ r1);obtain⟨a2,ws,rfl,t2,d2⟩:=rel.seq ey r2;refine⟨a1,a2,us,ws,rfl,t1,t2,P ρ2 H2 _ (g1.trans g2) z2 λi ρ3 h3 H3 g s3 _=>⟨λv ev=>?_,λei=>?_⟩⟩
   . rw[RP] at ev;cases ez:(xs.zip ys)[i]? with
     | none=>simp_all
     | some pr =>
      rw[ez] at ev
      cases ev
      obtain⟨zx,zy⟩:=List.getElem?_zip_eq_some.mp ez
      obtain⟨u,f1,f2⟩:=(ai.gr g _ _ d1).get zx
      obtain⟨w,f3,f4⟩:=(ai.gr g _ _ d2).get zy
      refine⟨⟨us,ws,u,w,g.BU t1,g.BU t2,f1,f3⟩,?_⟩
      rintro v' H' ⟨p,u',w',hp,rfl,rfl,k1,k2⟩
      have:=k1 us (g.BU t1)
      rw[f1] at this;cases this
      have:=k2 ws (g.BU t2)
      rw[f3] at this;cases this
      have gn:Gr ρ3 H3 ρ3 (upd H3 p (.tup [u,w])):=Gr.uJ hp
      refine⟨ρ3,gn,s3.tup hp,?_⟩
      exact⟨p,_,rfl,aX,aq.mpr ⟨_,_,rfl,rel.gr gn _ _ f2,ai.one (rel.gr gn _ _ f4)⟩⟩
   . refine⟨us,ws,g.BU t1,g.BU t2,?_⟩;have:i=min xs.length ys.length:=by simpa using ei
     rw[<- d1.len,<- d2.len];omega
 . cases q⟩⟩
end
structure aU(P:Sv)(w:SQ)(K:Rx)(mg:Str->Option RA)(pg:Tb)(f:String)(d:Df)(st:W5)(N:List Str):Prop where
 at_:At K mg (RZ f) st
 sc:cE N d.ps (ak st)
 len:N.length=d.ps.length+d.nl
 bd: ∀(kV doc pm:RA)(an:Option RQ)(cdv ct:RA)(us:List RA),us.length=d.ps.length->UR (S4 (RZ f) (RZ f) (bP st) (aQ st) (ak st) .none kV doc pm an cdv ct) ⟨us,[]⟩=pure (d.ps.zip us)
 body: ∀(base:S6)(fa:RQ)(cdv:RA)(A:Ti)(outer:List Env)(s:RD)(H:Hp)(E:XK)(k:Nat),uT (iE pH P w K mg base N (RZ f) (ak st) fa cdv A outer s H E).mW pg k (aQ st) d.body
section
variable{P:Sv}{w:SQ}{K:Rx}{mg:Str->Option RA}{pg:Tb}
theorem aU.of{f:String}{d:Df}(b:MS){st:W5}{N:List Str}(e:d.body=b)(a:At K mg (RZ f) st)(S:cE N d.ps (ak st))(hl:N.length=d.ps.length+d.nl)
  (hb: ∀(kV doc pm:RA)(an:Option RQ)(cdv ct:RA)(us:List RA),us.length=d.ps.length->UR (S4 (RZ f) (RZ f) (bP st) (aQ st) (ak st) .none kV doc pm an cdv ct) ⟨us,[]⟩=pure (d.ps.zip us))
  (h: ∀(base:S6)(fa:RQ)(cdv:RA)(A:Ti)(outer:List Env)(s:RD)(H:Hp)(E:XK)(k:Nat),uT (iE pH P w K mg base N (RZ f) (ak st) fa cdv A outer s H E).mW pg k (aQ st) b):aU P w K mg pg f d st N :=
 ⟨a,S,hl,hb,by rw[e];exact h⟩
theorem aU.good{st}(g:aU P w K mg pg f d st N):iA P w K mg base pg f d:=⟨st,N,g.at_,g.sc,g.len,g.bd,g.body base⟩
theorem zZ{fnT:List (String × Df)}(hf:pg.fns=λf=>(fnT.find? λp=>p.1 == f).map (·.2))(h: ∀ p∈fnT,∃ st N,aU P w K mg pg p.1 p.2 st N) base: ∀ f d,pg.fns f=fv d->iA P w K mg base pg f d:=λf d e=>by
 rw[hf] at e;dsimp only at e;cases q:fnT.find? λp=>p.1 == f with
 | none=>simp_all
 | some p =>
  rw[q] at e
  cases e
  obtain⟨st,N,g⟩:=h p (Vj q)
  have:p.1=f:=by simpa using XR q
  rw [<- this]
  exact g.good
theorem K1{st}(T : Top P w K mg pg)(G : ∀ base f d, pg.fns f = fv d -> iA P w K mg base pg f d)(hf : pg.fns "law" = fv d)(hx : d.ps = [x])(g : aU P w K mg pg "law" d st N)(hfa : mg "law" = fv (.ref fa)) :
    ∃ fd , (∀ s v, Xp s fd ⟨[v], []⟩ [(x, v)]) /\ ∀ base , K.In base -> base.Ns Sg mg -> jr P w K mg base pH (k + 1) fa fd [x] (vg K pg (k + 1) "law") := by
  obtain ⟨f, fd, F, hm⟩ := g.at_;have e := hfa.symm.trans hm;cases e;refine ⟨fd, λs v => .of_eq ?_, λbase _ _ => ?_⟩
  . have := yv.args F g.bd [v] (by rw [hx]; rfl);rw [this, hx]; rfl
  . have key : ∀{args : List PV}{h h' : PH}{v : PV}, run pg (k + 1) "law" args h = .ok v h' -> args.length = d.ps.length ∧
        ((∃ w h2, d.body (run pg k) (args.map some ++ List.replicate d.nl none) h = .ok (.rt w) h2 /\ settle h w h2 = .ok v h') ∨
         (∃ e h2, d.body (run pg k) (args.map fv ++ Rz d.nl Rv) h = .ok (.nx e) h2 /\ settle h .non h2 = .ok v h')) := λ{args h h' v} q => by
      rw [run, hf] at q;simp only at q;split at q
      . rename_i hn;refine ⟨hn, ?_⟩;split at q
        . rename_i w h2 e; exact .inl ⟨w, h2, e, q⟩
        . rename_i e' h2 e; exact .inr ⟨e', h2, e, q⟩
        . nomatch q
        . cases q
        . nomatch q
      . simp_all
    have S := g.sc;rw [hx] at S;refine yv.O9 F S (λvs H Q E => by rintro ⟨ρ, h, args, v, h', _, r, q, _⟩ ; exact by rw [<- r.len, (key q).1, hx]) ?_;rintro fa cdv A outer s H vs Q E hr ⟨ρ, h, args, v, h', sm, r, q, post⟩;have amb : bQ (iE pH P w K mg base N (RZ "law") (ak st) fa cdv A outer s H E).mW pg k := ⟨hr, rfl, λ_ _ z => z, AF T (G base) k, T.blt, T.con, T.vU⟩
    obtain ⟨t, qt, st'⟩ := (g.body base fa cdv A outer s H E k).h amb;refine ⟨t, qt, ?_⟩;obtain ⟨hn, q⟩ := key q;have he : L2.start N vs = vs.map fv ++ Rz d.nl Rv := by
      unfold L2.start;rw [g.len, <- r.len, hn, Xk]
    rw [he];rcases q with ⟨w, h2, e, q⟩ | ⟨e', h2, e, q⟩
    . exact st' ρ h H _ _ _ _ h2 sm (fX r _) e (fk sm q post)
    . exact st' ρ h H _ _ _ _ h2 sm (fX r _) e fun σ' ρ' H' g s' _ => fk sm q post .non ρ' H' g s' (by rw [rel])
end
theorem GU{K}(hl: ∀ ns:List Int,ns.length<=63->Ok (run pg k "law" [.ref 0] [.jD (ns.map PV.int)]) λv _=>v= .bl true) H a (ns:List Int) (hn:ns.length<=63) (o:y8 H) (q:fO K H a (ns.map V.int)) :
  vg K pg k "law" [.ref a] H (λv _=>v= .bl true) E:=by
 obtain⟨v,h',e,rfl⟩:=hl ns hn;refine⟨[a],_,[.ref 0],_,h',⟨rfl,λi j b oi oj ei ej mi mj _ _=>?_,λi ob b ei eb=>?_⟩,ai.one (by exact⟨a,rfl,rfl⟩),e,λv' ρ' H' g s r=>by exact r⟩
 . cases i with
   | zero=>simp at ei;subst ei;cases mi
   | succ i=>simp at ei
 . cases i with
   | zero =>
    simp at ei eb
    subst ei eb
    exact⟨_,G1 o q,ai.ints ns⟩
   | succ i=>simp at ei
section
variable{P:Sv}{w:SQ}{K:Rx}{mg:Str->Option RA}{pg:Tb}
theorem Dh{conT:List (Str × PV)}(hc:pg.con=λx=>(conT.find? λp=>decide (p.1=x)).map (·.2))(h: ∀ p∈conT,∃ u v',mg p.1=fv u/\RelV v' u/\xr K v'/\ ∀ ρ H,rel K ρ H p.2 v'): ∀ x v,pg.con x=fv v-> ∃ u v',mg x=fv u/\RelV v' u/\xr K v'/\ ∀ ρ H,rel K ρ H v v':=λx v e=>by
 rw[hc] at e;dsimp only at e;cases q:conT.find? λp=>decide (p.1=x) with
 | none=>simp_all
 | some p =>
  rw[q] at e
  cases e
  have:p.1=x:=by simpa using XR q
  rw[<- this]
  exact h p (Vj q)
theorem Dp{dcT:List (Str × List (Key × PV))}(hc:pg.vU=λx=>(dcT.find? λp=>decide (p.1=x)).map (·.2))(h: ∀ p∈dcT,∃ a kws,mg p.1=fv (.ref a)/\KD P w K a kws/\ ∀ ρ H,RK K ρ H p.2 kws) :
  ∀ x kvs,pg.vU x=fv kvs-> ∃ a kws,mg x=fv (.ref a)/\KD P w K a kws/\ ∀ ρ H,SW (λ(p:Key × PV) (q:Key × V)=>p.1=q.1/\rel K ρ H p.2 q.2) kvs kws:=λx v e=>by
 rw[hc] at e;dsimp only at e;cases q:dcT.find? λp=>decide (p.1=x) with
 | none=>simp_all
 | some p =>
  rw[q] at e
  cases e
  have:p.1=x:=by simpa using XR q
  rw[<- this]
  exact h p (Vj q)
inductive CV:PV->RA->Prop where
 | int (i:Int) (t:Tok):CV (.int i) (.int i t)
 | str (x:Str) (t:Tok):CV (.str x) (.str x t)
theorem CV.v(c:CV x u): ∃ v,RelV v u/\ ∀ ρ H,rel K ρ H x v:=by
 cases c with
 | int i t=>exact⟨.int i,⟨t,rfl⟩,λ_ _=>by rw[rel]⟩
 | str z t=>exact⟨.str z,⟨t,rfl⟩,λ_ _=>by rw[rel]⟩
theorem QR.v: ∀{xs us},SW CV xs us-> ∃ vs,Vals vs us/\ ∀ ρ H,ai K ρ H xs vs
 | _,_,.nil=>⟨[],.nil,λ_ _=>bI.mpr rfl⟩
 | _,_,.cons c t=>by obtain⟨v,a,b⟩:=CV.v c;exact by obtain⟨vs,d,e⟩:=QR.v t;exact⟨v::vs,.cons a d,fun ρ H=>aq.mpr ⟨v,vs,rfl,b ρ H,e ρ H⟩⟩
theorem rh(hl:K.lookup a=fv ⟨.type "tuple",d,.seq us.toArray n,sl⟩)(hz:us.length<=RF)(h:SW CV xs us) ρ H:rel K ρ H (.ktup xs) (.ref a):=by
 obtain⟨vs,r,q⟩:=QR.v (K:=K) h;exact⟨a,vs,rfl,⟨_,us.toArray,n,hl,rfl,rfl,by omega,by omega⟩,q ρ H⟩
theorem mS{x:Str}{v:PV}{u:RA}(hm:mg x=fv u)(c:CV v u): ∃ u v',mg x=fv u/\RelV v' u/\xr K v'/\ ∀ ρ H,rel K ρ H v v':=by obtain⟨v',a,b⟩:=CV.v (K:=K) c;exact⟨u,v',hm,a,(λp e=>by subst e;cases(show u=R0 p from a);cases c),b⟩
theorem pC{x:Str}{a:RQ}{us:List RA}{n:Nat}{sl:Array (Option RA)}{xs:List PV}(hm:mg x=fv (.ref a))(hl:K.lookup a=fv ⟨.type "tuple",Rv,.seq us.toArray n,sl⟩)(hz:us.length<=RF)(h:SW CV xs us) :
  ∃ u v',mg x=fv u/\RelV v' u/\xr K v'/\ ∀ ρ H,rel K ρ H (.ktup xs) v':=⟨_,.ref a,hm,rfl,λp e=>by cases e;exact⟨_,hl,rfl,rfl⟩,rh hl hz h⟩
def DV(K:Rx) x (u:RA):= ∃ v,RelV v u/\ ∀ ρ H,rel K ρ H x v
theorem hU(c:CV x u):DV K x u:=CV.v c
theorem dC(hl:K.lookup a=fv ⟨.type "tuple",d,.seq us.toArray n,sl⟩)(hz:us.length<=RF)(h:SW CV xs us):DV K (.ktup xs) (.ref a):=⟨.ref a,rfl,rh hl hz h⟩
theorem EY(h:SW (λ(p) (l:Str × Tok × RA)=>p.1= .inr l.1/\DV K p.2 l.2.2) kvs ls): ∃ kws,KV kws (ls.map λp=>((UJ p.1),p.2.2))/\ ∀ ρ H,RK K ρ H kvs kws:=by
 induction h with
 | nil=>exact⟨[],.nil,λ_ _=> .nil⟩
 | @cons p l ps qs a t ih =>
  obtain⟨kws,r,q⟩:=ih
  obtain⟨e,v,r1,r2⟩:=a
  exact⟨(.inr l.1,v)::kws,.cons ⟨rfl,r1⟩ r,fun ρ H=> .cons ⟨e,r2 ρ H⟩ (q ρ H)⟩
theorem uj{x:Str}{a:RQ}{ls:List (Str × Tok × RA)}{kvs:List (Key × PV)}{ep:Nat}(hm:mg x=fv (.ref a))(hl:K.lookup a=fv { cls:= .type "dict",data:= .dict (ls.map (L9 w)).toArray ep})(ha:(a == Te)=false)(hn:(ls.map λp=>(UJ p.1:Key)).Nodup)
  (h:SW (λ(p:Key × PV) (l:Str × Tok × RA)=>p.1= .inr l.1/\DV K p.2 l.2.2) kvs ls): ∃ a kws,mg x=fv (.ref a)/\KD P w K a kws/\ ∀ ρ H,RK K ρ H kvs kws:=by
 obtain⟨kws,r,q⟩:=EY h;exact⟨a,kws,hm,LZ hl ha hn r,q⟩
end
abbrev J9(aj:List RA)(n:Nat)(dd:Option RQ)(sl:Array (Option RA)):Obj:={ cls:= .type "tuple",dict:=dd,data:= .seq aj.toArray n,slots:=sl}
theorem vj(h1: -(2 ^ 63)<=k)(h2:k < 2 ^ 63): ¬ (decide (k < -(2 ^ 63))||decide (k ≥ 2 ^ 63))=true:=by
 simp_all
theorem uP l aj n k u dd sl (h1: -(2 ^ 63)<=k) (h2:k < 2 ^ 63) (hs:(aj.toArray.isEmpty||k == 1)=true) :
  Zy (Vw.«tuple.__mul__» ⟨[.ref l,.int k u],[]⟩) (λ_ R s=>s.heap.get? l=fv (J9 aj n dd sl)/\R (.ok (.ret (.ref l))) s) :=
 .of_wp λprog w A R s h=>by
  obtain⟨hl,h⟩:=h;refine Tr (λz=>absurd z (vj h1 h2)) (λ_=>?_)
  wp_walk using S0 hl,U8 hl
  refine Tr (λ_=>?_) (λz=>absurd hs z)
  wp_walk using S0 hl,U8 hl
  exact⟨_,rfl,h⟩
theorem t5 l aj n k u dd sl (h1: -(2 ^ 63)<=k) (h2:k<=0) (hs: ¬ (aj.toArray.isEmpty||k == 1)=true) :
  Zy (Vw.«tuple.__mul__» ⟨[.ref l,.int k u],[]⟩) (λ_ R s=>s.heap.get? l=fv (J9 aj n dd sl)/\R (.ok (.ret (.ref s.heap.objs.size))) { s with heap:=s.heap.push { cls:= .type "tuple",data:= .seq #[]}}) :=
 .of_wp λprog w A R s h=>by
  obtain⟨hl,h⟩:=h;have hz:(decide (k<=0)||aj.toArray.isEmpty)=true:=by simp[h2]
  refine Tr (λz=>absurd z (vj h1 (by omega))) (λ_=>?_)
  wp_walk using S0 hl,U8 hl
  refine Tr (λz=>absurd z hs) (λ_=>?_);refine Tr (λ_=>?_) (λz=>absurd hz z);exact Ru (m:=Tn _) (Tg (RG ⟨_,rfl,h⟩) (by size_fits))
theorem tT l aj n (k:Int) u dd sl (h1:0 < k) (h2:(aj.length)*k<=100000) (hk:k<=100000) (hs: ¬ (aj.toArray.isEmpty||k == 1)=true) :
  Zy (Vw.«tuple.__mul__» ⟨[.ref l,.int k u],[]⟩) (λ_ R s=>s.heap.get? l=fv (J9 aj n dd sl)/\R (.ok (.ret (.ref s.heap.objs.size))) { s with heap:=s.heap.push { cls:= .type "tuple",data:= .seq (Rz k.toNat aj).flatten.toArray}}) :=
 .of_wp λprog w A R s h=>by
  obtain⟨hp,g,d,tk,os⟩:=s;obtain⟨hl,h⟩:=h;have f1:=AutoSeq1.idx_int;have hz: ¬ (decide (k<=0)||aj.toArray.isEmpty)=true:=by
   simp_all
  have hc1: ¬ ((aj.toArray.size)*k > (2 ^ 63 - 1) / 8):=by rw[R6];omega
  have hc2: ¬ (Wv ((aj.toArray.size)*k)=true):=by
   unfold Wv;rw[R6,decide_eq_true_eq,show((RF))=16777216 from by decide];omega
  have e0:Z1 (λx1 x2=>x1++x2) #[] (Rz k.toNat aj.toArray)=(Rz k.toNat aj).flatten.toArray:=by
   have:=foldl_rep aj k.toNat [];rw[SY] at this;exact this
  wp_walk using S0 hl,U8 hl
  refine Tr (λz=>absurd z (vj (by omega) (by omega))) (λ_=>?_)
  wp_walk using S0 hl,U8 hl
  refine Tr (λz=>absurd z hs) (λ_=>?_);refine Tr (λz=>absurd z hz) (λ_=>?_);refine Tr (λhab=>absurd hab hc1) (λ_=>?_);refine Tr (λhab=>absurd hab hc2) (λ_=>?_);refine Ru (m:=Tn _) (Tg (RG ⟨_,rfl,?_⟩) ?_)
  . rw[e0];exact h
  . rw[e0];show(Rz k.toNat aj).flatten.toArray.size<=RF;rw[R6,len_rep,YW];refine R5 (show aj.length*k.toNat<=100000 from ?_) (by decide);have e1:((aj.length*k.toNat:Nat))=(aj.length)*k:=by rw[Int.natCast_mul,Int.toNat_of_nonneg (by omega)]
    omega
def Kv(K:Rx):R2:=λx y H Q=> ∃ a k xs,x= .ref a/\y= .int k/\dz K H a xs/\(xs.length)*k<=100000/\ -100000<=k/\k<=100000/\(xs=[]\/k=1->Q (.ref a) H)/\(¬ (xs=[]\/k=1)-> ∀ p,H p=Rv->Q (.ref p) (upd H p (.tup (Rz k.toNat xs).flatten)))
theorem zc:bR X (Td .Mult) (Kv X.K):=by
 intro pins s σ H x y v u Q I rx ry h;obtain⟨a,k,xs,rfl,rfl,ha,hl,k1,k2,q1,q2⟩:=h;cases(show v=R0 a from rx);obtain⟨t,rfl⟩:=ry;obtain⟨aj,r1,p1,_⟩:=I.tuple ha;obtain⟨⟨cls,dd,data,sl⟩,ho,hc,n,hd⟩:=id p1;simp only at hc hd;subst hc hd;have hlen:=r1.length;refine Wy (T:= "tuple") (U:= "int") (by decide) ⟨_,ho,rfl⟩ (λs'=>Xu s' k t) kn PySem.F.fills_int_mul XX pD PySem.F.slot_int_index.lookup
  (TR XX (Xu s k t) PySem.F.entry_int_rmul (PySem.F.args_int_rmul_2 _ _) (lK k t a aj.toArray n dd sl) ⟨ho,rfl,⟨_,ho,rfl⟩,?_⟩)
 have hx:=(r1.lA).symm;by_cases hs:xs=[]\/k=1
 . have hb:(aj.toArray.isEmpty||k == 1)=true:=by
    simp_all
   exact TR Ue ⟨_,ho,rfl⟩ VE (Vu _ _) (uP a aj n k t dd sl (by omega) (by omega) hb) ⟨ho,⟨.ref a,H,I,rfl,q1 hs⟩⟩
 . have hb: ¬ (aj.toArray.isEmpty||k == 1)=true:=λz=>hs (by
    rw[V9] at z;rcases z with z | z
    . exact .inl (hx.mpr (by simpa using z))
    . exact .inr (by simpa using z))
   by_cases hk:0 < k
   . refine TR Ue ⟨_,ho,rfl⟩ VE (Vu _ _) (tT a aj n k t dd sl hk (by rw[<- hlen];exact hl) k2 hb) ⟨ho,?_⟩;refine⟨.ref s.heap.objs.size,_,I.laid (t':=s.toks) (o:= .tup (Rz k.toNat xs).flatten) (λb ob q=>Ry _ q) (RE _) ?_,rfl,q2 hs _ (I.aW.fresh (RE _))⟩;refine⟨?_,_,r1.rep k.toNat,nV.new _ _⟩;rw[len_rep,YW];refine R5 (show xs.length*k.toNat<=100000 from ?_) (by decide);have e1:((xs.length*k.toNat:Nat))=(xs.length)*k:=by grind
     omega
   . refine TR Ue ⟨_,ho,rfl⟩ VE (Vu _ _) (t5 a aj n k t dd sl (by omega) (by omega) hb) ⟨ho,?_⟩;refine⟨.ref s.heap.objs.size,_,I.laid (t':=s.toks) (o:= .tup (Rz k.toNat xs).flatten) (λb ob q=>Ry _ q) (RE _) ?_,rfl,q2 hs _ (I.aW.fresh (RE _))⟩;have:k.toNat=0:=by omega
     rw[this];exact⟨Si _,[],.nil,nV.new _ _⟩
section
variable{X:Cx}{pg:Tb}{k:Nat}
theorem ai.rep{K}(r:ai K ρ H xs vs): ∀ n,ai K ρ H (Rz n xs).flatten (Rz n vs).flatten
 | 0=>bI.mpr rfl
 | n+1=>by exact r.app (r.rep n)
def bE:PV->PV->PH->RV PV:=λx y h=>match x,y with
 | .int i,.int j=>if (-(2 ^ 64) < i/\i < 2 ^ 64)\/(-(2 ^ 64) < j/\j < 2 ^ 64) then .ok (.int (i*j)) h else .no
 | .tup xs,.int k=>if (xs.length)*k<=100000/\ -100000<=k/\k<=100000 then .ok (.tup (Rz k.toNat xs).flatten) h else .no
 | .ref n,.int k=>(match h[n]? with
  | some (.lst xs)=>if (-(2 ^ 63)<=k/\k < 2 ^ 63)/\xs.length*k.toNat<=RF then .ok (.ref h.length) (h++[.lst (Rz k.toNat xs).flatten]) else .no
  | _=> .no)
 | _,_=> .no
theorem J4:bQ X pg k-> ∃ r,bR X (Td .Mult) r/\kb X.K r bE:=λ_=>⟨_,Lb.or (zc.or He),fun ρ h H x y x' y' Q v h' s rx ry q P=>by
 unfold bE at q;split at q
 . split at q
   . rename_i hc;cases q;exact .inl ⟨_,_,rx,ry,hc,P _ ρ H (.refl _ _) s (by rw[rel])⟩
   . nomatch q
 . rename_i xs k;split at q
   . rename_i hc;cases q;have rx':=rx;obtain⟨a,us,rfl,e2,e3⟩:=rx;refine .inr (.inl ⟨a,k,us,rfl,ry,.of e2,by rw[<- e3.len];exact hc.1,hc.2.1,hc.2.2,λz=>?_,λz p hp=>lE s (e3.rep _) P p hp⟩);have:(Rz k.toNat xs).flatten=xs:=by
      rcases z with z | z
      . subst z;have:=V5 e3.len;subst this;simp
      . rw[z];simp[Rz]
     rw[this] at P;exact P _ ρ H (.refl _ _) s rx'
   . nomatch q
 . split at q
   . rename_i xs en;split at q
     . rename_i hc;cases q;obtain⟨a,us,rfl,_,e1,e2⟩:=s.lst en rx;exact .inr (.inr ⟨a,_,us,rfl,ry,e1,hc.1.1,hc.1.2,by rw[<- e2.len];exact hc.2,λp hp=>cJ s (e2.rep _) P p hp⟩)
     . nomatch q
   . nomatch q
 . nomatch q⟩
end
section
variable{prog:Sv}{w:SQ}{A:Ti}{E:RA->RD->Prop}{s:RD}
theorem q9{t:RQ}{us:List RA}{R:List RA->RD->Prop}(ht:s.heap.IsTuple t us.toArray)(fits:us.length<=RF)
  (q:R us { s with heap:=(s.heap.push (Vl "list" #[] 0)).update s.heap.objs.size (Uz (· ++us.toArray))}):RX (R4 prog w) A (collect (.ref t)) R E s:=by
 obtain⟨ob,e1,e2,m,e3⟩:=id ht;have e1':=Ry (Vl "list" #[] 0) e1;have own:(s.heap.push (Vl "list" #[] 0)).get? s.heap.objs.size=fv (Vl "list" #[] 0):=RO _ rfl;have sum:(#[])++us.toArray=us.toArray:=by simp
 refine Ru (wpAny_runValue (Wa entry_proto_collect' (show RX _ _ (newList [] >>= λl=>again (.builtin "list.__iadd__" ⟨[l,.ref t],[]⟩)) _ _ s from ?_)));refine Ru (VY (RG ⟨Code.quiet_builtin _ (by decide +kernel),Wa entry_list_iadd' (show RX _ _ (ZR _ (.ref t) _) _ _ { s with heap:=s.heap.push (Vl "list" #[] 0)} from ?_)⟩));refine Ru (Vd (T:= "tuple") ⟨ob,e1',e2⟩ (OV (by simp) (Ru (Y5 e1' e3 (Ru (Y5 own rfl ?_))))));refine Qe (by simp) (Ru (WW own rfl (RG ?_) (Si _) (by grind)));refine Ru (U8 (ZG own _) ?_);show RX _ _ (pure ((#[])++us.toArray).toList) R E _;rw[sum];exact RG q
theorem lg{t:RQ}{us:List RA}{ss:List Str}{R:RA->RD->Prop}(ht:s.heap.IsTuple t us.toArray)(hS:Wg us ss)(n64:us.length < 64)
  (q: ∀(out:Array RA)(ss':List Str),Wg out.toList ss'->ss'.Perm ss->WK ss'=true->R (.ref (s.heap.objs.size+1)) { s with heap:=Zm s.heap us out}):RX (R4 prog w) A (call (.builtin "sorted") [.ref t]) R E s:=by
 refine Vg Zx YY YZ (Y0 (.ref t)) ?_;refine Ru (m:=Z4 "sorted" 1 1 [R0 t].length) (RG (Ru (q9 ht (L2.kF n64) (Ru (VY ?_ (L2.kF n64))))));show RX _ _ _ _ _ { s with heap:=jY s.heap us};rw[dW];exact Ru (Tx (jt (gA s.heap us) hS n64 λout ss' a1 a2 a3=>RG ⟨_,rfl,q out ss' a1 a2 a3⟩))
end
section
variable{X:Cx}{pg:Tb}{k:Nat}
def E3(K:Rx):List V->Hp->VK->Prop:=λxs H Q=> ∃ p ss,xs=[.ref p]/\dz K H p (ss.map V.str)/\ss.length < 64/\ ∀ l ss',H l=Rv->ss'.Perm ss->WK ss'=true->Q (.ref l) (upd H l (.lst (ss'.map V.str)))
theorem sJ:aG X (.builtin "sorted") (E3 X.K):=by
 rintro pins s σ H xs us Q I r ⟨p,ss,e,hS,h64,q⟩;subst e;obtain⟨u,rfl,ru⟩:=vals1 r;cases(show u=R0 p from ru);obtain⟨aj,hv,hl,hz⟩:=I.tuple hS;have sa:=fZ hv;refine lg hl sa (by rw[sa.length];exact h64) λout ss' a1 a2 a3=>?_;obtain⟨e,he⟩:=Y1 s.heap aj out;have hlen:(ss'.map V.str).length<=RF:=by rw[RB,a2.length_eq];exact Uv (RM h64 (by decide))
 obtain⟨hn,I'⟩:=I.kA (a:=s.heap.objs.size+1) (o:= .lst (ss'.map V.str)) (t':=s.toks) (λb o e=>Yv e) (TY (WI _)) ⟨hlen,out.toList,e,ic a1,by omega⟩;exact⟨.ref _,_,I',rfl,q _ ss' hn a2 a3⟩
def dy:List PV->PH->RV PV:=λxs h=>match xs with
 | [.tup ys]=>(match dH ys with
  | some ss=>if ss.length < 64 then .ok (.ref h.length) (h++[.lst ((cR ss).map PV.str)]) else .no
  | none=> .no)
 | _=>jC xs h
theorem yj:bQ X pg k-> ∃ r,aG X (.builtin "sorted") r/\xP X.K r dy:=λA=>⟨_,sJ.or (sQ A.calm),fun ρ h H xs us Q v h' s r q P=>by
 unfold dy at q;split at q
 . split at q
   . rename_i ss es;split at q
     . rename_i hl;cases q;obtain⟨u,rfl,r1⟩:=aO r;obtain⟨a,vs,rfl,e1,e2⟩:=r1;rw[d7 es,bK] at e2;subst e2;refine .inl ⟨a,ss,rfl,.of e1,hl,λl ss' hp pm so=>?_⟩;rw[nh pm so];exact cJ s (bK.mpr rfl) P l hp
     . simp_all
   . simp_all
 . exact .inr (sk A ρ h H _ us Q v h' s r q P)⟩
end
def fin h (r:RV Fl):=match r with
 | .ok (.rt v) h'=>settle h v h'
 | .ok (.nx _) h'=>settle h .non h'
 | .ok _ _=> .no
 | .ex c us h'=> .ex c us h'
 | .no=> .no
theorem run_eq(hf:pg.fns f=fv d)(hn:vs.length=d.ps.length):run pg (k+1) f vs h=fin h (d.body (run pg k) (vs.map fv++Rz d.nl Rv) h):=by
 rw[run,hf];simp only[if_pos hn];rfl
theorem gv:(RV.ok a h).bind f=f a h:=(rfl)
theorem tS:fin h (.ok (.rt v) h')=settle h v h':=(rfl)
theorem E8[Decidable c]:fin h (if c then a else b)=if c then fin h a else fin h b:=by split<;>rfl
theorem kW:settle h v h= .ok v h:=by unfold settle;split<;>simp
theorem aK(hv:v.flat=true):settle h v (h++g)= .ok v h:=by unfold settle;rw[hv,iX];simp
theorem bG(hv:v.flat=false):settle h v h'= .ok v h':=by unfold settle;rw[hv];rfl
theorem rY{h:PH}{v:PV}{i:Nat}{o o':PO}:settle h v (h.set i o')= .ok v (h.set i o'):=by
 unfold settle;split
 . rw[<- Su (as:=h) (i:=i) (a:=o'),Zo]
 . rfl
theorem pW:RZ a=RZ b↔a=b:=by
 refine⟨λe=>?_,λe=>by rw[e]⟩;rw[XD,XD] at e;have e1:a.toList.map YI=b.toList.map YI:=by
  have:=congrArg (λs:Str=>s.cps.toList) e;simpa using this
 have inj: ∀{l m:List Char},l.map YI=m.map YI->l=m:=by
  intro l
  induction l with
  | nil=>intro m h;cases m with | nil=>rfl | cons=>cases h
  | cons x r ih =>
   intro m h
   cases m with
   | nil=>cases h
   | cons y t =>
    simp only[ZI,RL] at h
    have:=Char.toNat_inj.mp h.1
    rw[this,ih h.2]
 exact String.toList_inj.mp (inj e1)
section
variable{c:CF}{e e1:aM}{h h1:PH}{a b d:ME}{t u:MT}{r:MA}{x y v:PV}{f g:PV->PV->PH->RV PV}{s s':MS}{i n:Nat}
def LS(f:PV->PV->PH->RV PV)(b:ME) c e x h1:=(b c e h1).bind λy h2=>f x y h2
theorem M6:aw f a b c e h=(a c e h).bind (LS f b c e):=rfl
theorem KA:LS f b c e x h1=(b c e h1).bind (f x):=rfl
theorem NK{f}:qQ f a c e h=(a c e h).bind f:=rfl
noncomputable def Gn(o:Option (Option PV))(h:PH):RV PV:=match o with
 | some (fv v)=> .ok v h
 | _=> .no
theorem IE:aa i c e h=Gn (e[i]?) h:=rfl
theorem Cz:Gn (fv (fv v)) h= .ok v h:=rfl
theorem Qf:eC v c e h= .ok v h:=rfl
theorem IC:qP (.bl p) h= .ok p h:=rfl
noncomputable def BF(b:ME) c e x h1:=if x=true then b c e h1 else .ok (.bl false) h1
theorem Hg:j8 a b c e h=((a c e h).bind qP).bind (BF b c e):=rfl
theorem Ec:BF b c e true h=b c e h:=rfl
theorem C7:BF b c e false h= .ok (.bl false) h:=rfl
theorem C9[Decidable p]:BF b c e (decide p) h=if p then b c e h else .ok (.bl false) h:=by unfold BF;by_cases q:p<;>simp[q]
noncomputable def Lz(b:ME) c e x h1:=if x=true then .ok (.bl true) h1 else b c e h1
theorem N4:Ov a b c e h=((a c e h).bind qP).bind (Lz b c e):=rfl
theorem Ji:Lz b c e true h= .ok (.bl true) h:=rfl
theorem Hm:Lz b c e false h=b c e h:=rfl
theorem G5[Decidable p]:Lz b c e (decide p) h=if p then .ok (.bl true) h else b c e h:=by unfold Lz;by_cases q:p<;>simp[q]
noncomputable def Ms(x:Bool)(h1:PH):RV PV:= .ok (.bl (!x)) h1
theorem GP:Cu a c e h=((a c e h).bind qP).bind Ms:=rfl
theorem C8:Ms p h= .ok (.bl (!p)) h:=rfl
noncomputable def Jr(a b:ME) c e x h1:=if x=true then a c e h1 else b c e h1
theorem Nm:yt t a b c e h=(t c e h).bind (Jr a b c e):=rfl
theorem Ho:Jr a b c e true h=a c e h:=rfl
theorem HF:Jr a b c e false h=b c e h:=rfl
theorem HA[Decidable p]:Jr a b c e (decide p) h=if p then a c e h else b c e h:=by unfold Jr;by_cases q:p<;>simp[q]
theorem Gk[Decidable p]:Jr a b c e (!decide p) h=if p then b c e h else a c e h:=by unfold Jr;by_cases q:p<;>simp[q]
theorem Jn:aC a c e h=(a c e h).bind qP:=rfl
noncomputable def lN(u:MT) c e x h1:=if x=true then u c e h1 else .ok false h1
theorem Dc:n6 t u c e h=(t c e h).bind (lN u c e):=rfl
theorem BH:lN u c e true h=u c e h:=rfl
theorem Bk:lN u c e false h= .ok false h:=rfl
theorem yM[Decidable p]:lN u c e (decide p) h=if p then u c e h else .ok false h:=by unfold lN;by_cases q:p<;>simp[q]
theorem zD[Decidable p]:lN u c e (!decide p) h=if p then .ok false h else u c e h:=by unfold lN;by_cases q:p<;>simp[q]
noncomputable def uA(u:MT) c e x h1:=if x=true then .ok true h1 else u c e h1
theorem J0:yx t u c e h=(t c e h).bind (uA u c e):=rfl
theorem C4:uA u c e true h= .ok true h:=rfl
theorem Cn:uA u c e false h=u c e h:=rfl
theorem Dd[Decidable p]:uA u c e (decide p) h=if p then .ok true h else u c e h:=by unfold uA;by_cases q:p<;>simp[q]
theorem D8[Decidable p]:uA u c e (!decide p) h=if p then u c e h else .ok true h:=by unfold uA;by_cases q:p<;>simp[q]
noncomputable def Fy(x:Bool)(h1:PH):RV Bool:= .ok (!x) h1
theorem Fg:qG t c e h=(t c e h).bind Fy:=rfl
theorem zR:Fy p h= .ok (!p) h:=rfl
theorem Ff:bf c e h= .ok true h:=rfl
theorem DD:ao c e h= .ok [] h:=rfl
noncomputable def KI(x:PV)(xs:List PV)(h2:PH):RV (List PV):= .ok (x::xs) h2
def Hz(r:MA) c e x h1:=(r c e h1).bind (KI x)
theorem Af:ab a r c e h=(a c e h).bind (Hz r c e):=rfl
theorem w9:Hz r c e x h=(r c e h).bind (KI x):=rfl
theorem xE:KI x xs h= .ok (x::xs) h:=rfl
theorem tL{r:RV α}(hn:n<=16777216):kF n r=r:=by exact if_pos hn
def Nz(xs:List PV)(h:PH):RV PV:=kF xs.length (.ok (.tup xs) h)
theorem Hi:az r c e h=(r c e h).bind Nz:=rfl
theorem Eu:Nz xs h=kF xs.length (.ok (.tup xs) h):=(rfl)
def OB(xs:List PV)(h:PH):RV PV:=kF xs.length (.ok (.ref h.length) (h++[.lst xs]))
theorem IF:cY r c e h=(r c e h).bind OB:=rfl
theorem EX:OB xs h=kF xs.length (.ok (.ref h.length) (h++[.lst xs])):=(rfl)
theorem DJ{f}:ah f r c e h=(r c e h).bind (c f):=rfl
theorem Py{f}:eB f r c e h=(r c e h).bind f:=rfl
def Pp(f:PV->List PV->PH->RV PV)(ty:PV->PH->Bool)(r:MA) c e x h1:=if ty x h1=true then(r c e h1).bind (f x) else .no
theorem PL{f}:eM f ty a r c e h=(a c e h).bind (Pp f ty r c e):=rfl
def wX(g:PV->PV->PH->RV PV)(d:ME) c e y k h3:=if k=true then(d c e h3).bind (g y) else .ok (.bl false) h3
def K0(f g:PV->PV->PH->RV PV) d c e x y h2:=((f x y h2).bind qP).bind (wX g d c e y)
def Mu(f g:PV->PV->PH->RV PV)(b d:ME) c e x h1:=(b c e h1).bind (K0 f g d c e x)
theorem NT:pX f g a b d c e h=(a c e h).bind (Mu f g b d c e):=rfl
theorem IT:Mu f g b d c e x h=(b c e h).bind (K0 f g d c e x):=rfl
theorem Ih:K0 f g d c e x y h=((f x y h).bind qP).bind (wX g d c e y):=rfl
theorem C6:wX g d c e y true h=(d c e h).bind (g y):=rfl
theorem CP:wX g d c e y false h= .ok (.bl false) h:=rfl
theorem Cf[Decidable p]:wX g d c e y (decide p) h=if p then(d c e h).bind (g y) else .ok (.bl false) h:=by unfold wX;by_cases q:p<;>simp[q]
noncomputable def xS(s:MS) c (f:Fl) (h1:PH):=match f with
 | .nx e1=>s c e1 h1
 | f=> .ok f h1
theorem zX:ag s s' c e h=(s c e h).bind (xS s' c):=rfl
theorem wm:xS s c (.nx e) h=s c e h:=(rfl)
theorem EB:xS s c (.rt v) h= .ok (.rt v) h:=rfl
theorem Dk:xS s c (.bk e) h= .ok (.bk e) h:=rfl
theorem EH:xS s c (.ct e) h= .ok (.ct e) h:=rfl
theorem NG:cL c e h= .ok (.nx e) h:=rfl
noncomputable def Qk(e:aM)(_:PV)(h1:PH):RV Fl:= .ok (.nx e) h1
theorem Co:gM a c e h=(a c e h).bind (Qk e):=rfl
theorem zY:Qk e x h= .ok (.nx e) h:=rfl
noncomputable def NX(v:PV)(h1:PH):RV Fl:= .ok (.rt v) h1
theorem Ge:aB a c e h=(a c e h).bind NX:=rfl
theorem E1:NX v h= .ok (.rt v) h:=rfl
noncomputable def um(s s':MS) c e x h1:=if x=true then s c e h1 else s' c e h1
theorem Lf:ck t s s' c e h=(t c e h).bind (um s s' c e):=rfl
theorem C5:um s s' c e true h=s c e h:=rfl
theorem Dt:um s s' c e false h=s' c e h:=rfl
theorem EL[Decidable p]:um s s' c e (decide p) h=if p then s c e h else s' c e h:=by unfold um;by_cases q:p<;>simp[q]
theorem E4[Decidable p]:um s s' c e (!decide p) h=if p then s' c e h else s c e h:=by unfold um;by_cases q:p<;>simp[q]
noncomputable def Jz(e1:aM)(h2:PH):RV Fl:= .ok (.nx e1) h2
def GN(g:MG) e v h1:=(g v e h1).bind Jz
theorem JC{g}:ar a g c e h=(a c e h).bind (GN g e):=rfl
theorem B1:GN (gN i) e v h= .ok (.nx (e.set i (fv v))) h:=rfl
theorem DU:GN (gT n gs) e v h=(gT n gs v e h).bind Jz:=rfl
theorem Jt:Jz e h= .ok (.nx e) h:=rfl
theorem L0:gN i v e h= .ok (e.set i (fv v)) h:=rfl
theorem Oh(hn:xs.length=n):gT n gs (.tup xs) e h=gs xs e h:=if_pos hn
theorem Kd:gT 2 gs (.tup [x1,x2]) e h=gs [x1,x2] e h:=rfl
theorem KH:gT 3 gs (.tup [x1,x2,x3]) e h=gs [x1,x2,x3] e h:=rfl
theorem Ik:gT 4 gs (.tup [x1,x2,x3,x4]) e h=gs [x1,x2,x3,x4] e h:=rfl
theorem JX:gT 5 gs (.tup [x1,x2,x3,x4,x5]) e h=gs [x1,x2,x3,x4,x5] e h:=rfl
theorem Iy:eF [] e h= .ok e h:=rfl
theorem JH{g r t}:aT g r (v::t) e h=(g v e h).bind (r t):=rfl
def zu(f:PV->PV->PV->PH->RV Unit)(e:aM)(v x y:PV)(h3:PH):RV Fl:=(f x y v h3).bind λ_ h4=> .ok (.nx e) h4
def yC(f:PV->PV->PV->PH->RV Unit)(i:ME) c e v x h2:=(i c e h2).bind (zu f e v x)
def FW(f:PV->PV->PV->PH->RV Unit)(o i:ME) c e v h1:=(o c e h1).bind (yC f i c e v)
theorem Kj{f i}:EO f o i a c e h=(a c e h).bind (FW f o i c e):=rfl
theorem ES{f i}:FW f o i c e v h=(o c e h).bind (yC f i c e v):=rfl
theorem DR{f i}:yC f i c e v x h=(i c e h).bind (zu f e v x):=rfl
noncomputable def Qp(e:aM)(_:Unit)(h:PH):RV Fl:= .ok (.nx e) h
theorem DC{f}:zu f e v x y h=(f x y v h).bind (Qp e):=rfl
theorem Jd{u}:Qp e u h= .ok (.nx e) h:=rfl
def bB(g:MG)(s:MS) c x e h:=(g x e h).bind (s c)
def fork g s c e it h1:=bg it (bB g s c) it.items e h1
theorem A4{i g}:pK i g s c e h=(i c e h).bind (fork g s c e):=(rfl)
theorem wK{g}:fork g s c e it h=bg it (bB g s c) it.items e h:=(rfl)
theorem AD{g}:bB g s c x e h=(g x e h).bind (s c):=(rfl)
theorem Ke:qO a c e h=(a c e h).bind uM:=(rfl)
theorem Kf:uM (.tup xs) h= .ok ⟨Rv,xs⟩ h:=(rfl)
theorem IK:uM (.ktup xs) h= .ok ⟨Rv,xs⟩ h:=(rfl)
def OQ(n:Nat)(h:PH)(o:Option PO):RV qN:=match o with
 | some (.lst xs)=> .ok ⟨fv n,xs⟩ h
 | some (.jD xs)=> .ok ⟨fv n,xs⟩ h
 | _=> .no
theorem Le:uM (.ref n) h=OQ n h (h[n]?):=by
 have e:uM (.ref n) h=(match bU h n with | some xs=> .ok ⟨fv n,xs⟩ h | none=> .no):=rfl;rw[e];unfold bU OQ;generalize h[n]?=oo;cases oo with
 | none=>rfl
 | some o=>cases o<;>rfl
theorem Ko:OQ n h (fv (.lst xs))= .ok ⟨fv n,xs⟩ h:=(rfl)
theorem IV:OQ n h (fv (.jD xs))= .ok ⟨fv n,xs⟩ h:=(rfl)
def Q2(vs:List PV)(h1:PH):RV qN:=match vs with
 | [.int j]=>if -(2 ^ 62)<=j/\j < 2 ^ 62 then .ok ⟨Rv,au 0 j.toNat⟩ h1 else .no
 | _=> .no
theorem Ha:fj r c e h=(r c e h).bind Q2:=by
 rfl
theorem CJ(hj: -4611686018427387904<=j/\j < 4611686018427387904):Q2 [.int j] h= .ok ⟨Rv,au 0 j.toNat⟩ h:=by
 exact if_pos (by omega)
noncomputable def OD(x y:PV)(h2:PH):RV qN:=match x.seq?,y.seq? with
 | some xs,fv ys=> .ok ⟨Rv,(xs.zip ys).map λp=> .tup [p.1,p.2]⟩ h2
 | _,_=> .no
def Qq(b:ME) c e x h1:=(b c e h1).bind (OD x)
theorem K5:JD a b c e h=(a c e h).bind (Qq b c e):=(rfl)
theorem CM:Qq b c e x h=(b c e h).bind (OD x):=(rfl)
theorem AU:OD (.ktup xs) (.tup ys) h= .ok ⟨Rv,(xs.zip ys).map λp=> .tup [p.1,p.2]⟩ h:=(rfl)
theorem yJ:OD (.tup xs) (.tup ys) h= .ok ⟨Rv,(xs.zip ys).map λp=> .tup [p.1,p.2]⟩ h:=(rfl)
def OR it (step:PV->aM->PH->RV Fl) (xs:List PV) (f:Fl) (h1:PH):=match f with
 | .nx e1=>bg it step xs e1 h1
 | .ct e1=>bg it step xs e1 h1
 | .bk e1=> .ok (.nx e1) h1
 | .rt v=> .ok (.rt v) h1
theorem iU{step}:bg ⟨Rv,xs⟩ step [] e h= .ok (.nx e) h:=(rfl)
theorem gZ{step}:bg ⟨Rv,xs⟩ step (y::ys) e h=(step y e h).bind (OR ⟨Rv,xs⟩ step ys):=(rfl)
theorem CL{step}(hf:it.j5 h=true):bg it step [] e h= .ok (.nx e) h:=by rw[bg,if_pos hf]
theorem vq{step}(hf:it.j5 h=true):bg it step (y::ys) e h=(step y e h).bind (OR it step ys):=by rw[bg,if_pos hf];rfl
theorem c9{step}:OR it step xs (.nx e) h=bg it step xs e h:=(rfl)
theorem Dv{step}:OR it step xs (.rt v) h= .ok (.rt v) h:=(rfl)
noncomputable def GS(ys:List PV)(h2:PH):RV PV:= .ok (.ref h2.length) (h2++[.lst ys])
def NP k g t a c e it h1:=(ip it (aR k g t a c e) it.items [] h1).bind GS
theorem Mz{i g}:lD k i g t a c e h=(i c e h).bind (NP k g t a c e):=(rfl)
theorem JM{g}:NP k g t a c e it h=(ip it (aR k g t a c e) it.items [] h).bind GS:=(rfl)
theorem KC:GS ys h= .ok (.ref h.length) (h++[.lst ys]):=(rfl)
noncomputable def Ax(y:PV)(h4:PH):RV (Option PV):= .ok (fv y) h4
def sX(a:ME) c e2 b h3:=if b=true then(a c e2 h3).bind Ax else .ok Rv h3
def NN(t:MT) a c e2 h2:=(t c e2 h2).bind (sX a c e2)
theorem Nq{g}:aR k g t a c e x h=(g x (e++Rz k Rv) h).bind (NN t a c):=(rfl)
theorem Hr:NN t a c e h=(t c e h).bind (sX a c e):=(rfl)
theorem Dr:sX a c e true h=(a c e h).bind Ax:=(rfl)
theorem Dm:sX a c e false h= .ok Rv h:=(rfl)
theorem Fd[Decidable p]:sX a c e (decide p) h=if p then(a c e h).bind Ax else .ok Rv h:=by unfold sX;by_cases q:p<;>simp[q]
theorem DW[Decidable p]:sX a c e (!decide p) h=if p then .ok Rv h else(a c e h).bind Ax:=by unfold sX;by_cases q:p<;>simp[q]
theorem GQ:Ax y h= .ok (fv y) h:=(rfl)
theorem c8{α :Type}{it:qN}(hf:it.j5 h=true){step:PV->PH->RV (Option PV)}{f: α ->Option PV}{g: α ->PV}: ∀(l:List α)(ys:List PV),(∀ x∈l,step (g x) h= .ok (f x) h)->l.length+ys.length<=16777216->ip it step (l.map g) ys h= .ok (ys++l.filterMap f) h
 | [],ys,_,_=>by rw[SX,ip,if_pos hf];simp
 | x::xs,ys,hs,hl=>by
  have hl':ys.length < RF:=by rw[R3] at hl;show ys.length < 16777216;omega
  rw[RL,ip,if_pos ⟨hf,hl'⟩,hs x RU];cases q:f x with
  | none=>exact(c8 hf xs ys (λy m=>hs y (RS _ m)) (by grind)).trans (by rw[UC q])
  | some y=>exact(c8 hf xs (ys++[y]) (λz m=>hs z (RS _ m)) (by rw[R3] at hl;simp;omega)).trans (by rw[UD q];simp)
end
section
variable{h:PH}{i j:Int}{a b:Str}{x y z w u v:PV}{r xs ys:List PV}{p q:Bool}{n m:Nat}
theorem Es:Eg (.int i) (.int j) h= .ok (.int (i - j)) h:=(rfl)
theorem Dl:bM (.int i) (.int j) h= .ok (.int (i+j)) h:=(rfl)
theorem lF(hl:xs.length+ys.length<=16777216):bM (.tup xs) (.tup ys) h= .ok (.tup (xs++ys)) h:=tL hl
theorem wj(hj:0 < j):hJ (.int i) (.int j) h= .ok (.int (i % j)) h:=by unfold hJ p2;simp[hj,BY,j2]
theorem Ac(hj:0 < j/\j < 1073741824):l5 (.int i) (.int j) h= .ok (.int (i / j)) h:=by unfold l5 p2;simp[hj,BY,j2]
theorem B2(hj:0<=j/\j<=1000000/\i.natAbs < 18446744073709551616):Cb (.int i) (.int j) h= .ok (.int (i ^ j.toNat)) h:=by
 unfold Cb p2;simp only;rw[if_pos (by omega)];rfl
theorem DB(hi: -18446744073709551616 < i/\i < 18446744073709551616):bE (.int i) (.int j) h= .ok (.int (i*j)) h:=if_pos (.inl (by omega))
theorem jx(hj: -18446744073709551616 < j/\j < 18446744073709551616):bE (.int i) (.int j) h= .ok (.int (i*j)) h:=if_pos (.inr (by omega))
theorem KG:Lh (.int i) (.int j) h= .ok (.bl (decide (i < j))) h:=(rfl)
theorem IM:OO (.int i) (.int j) h= .ok (.bl (decide (i<=j))) h:=(rfl)
theorem HI:KY (.int i) (.int j) h= .ok (.bl (decide (j < i))) h:=(rfl)
theorem Jb:Pt (.int i) (.int j) h= .ok (.bl (decide (j<=i))) h:=(rfl)
theorem Cr:dE (.str a) (.str b) h= .ok (.bl (decide (a=b))) h:=by simp[dE,alike,gY]
theorem vX:dE (.int i) (.int j) h= .ok (.bl (decide (i=j))) h:=by simp[dE,alike,gY]
theorem EN:gq (.str a) (.str b) h= .ok (.bl (!decide (a=b))) h:=by simp[gq,alike,gY,fi]
theorem CI:gq (.int i) (.int j) h= .ok (.bl (!decide (i=j))) h:=by simp[gq,alike,gY,fi]
theorem BA:aL (.tup (x::r)) (.int 0) h= .ok x h:=by
 simp only[aL,fN,o6];rw[if_pos (by decide),if_pos (by simp_all)];rfl
theorem wQ:aL (.tup (x::y::r)) (.int 1) h= .ok y h:=by
 simp only[aL,fN,o6];rw[if_pos (by decide),if_pos (by simp only[R3];omega)];rfl
theorem D3:aL (.tup (x::y::z::r)) (.int 2) h= .ok z h:=by
 simp only[aL,fN,o6];rw[if_pos (by decide),if_pos (by simp only[R3];omega)];rfl
theorem EJ:aL (.tup (x::y::z::w::r)) (.int 3) h= .ok w h:=by
 simp only[aL,fN,o6];rw[if_pos (by decide),if_pos (by simp only[R3];omega)];rfl
theorem Fm:aL (.tup (x::y::z::w::u::r)) (.int 4) h= .ok u h:=by
 simp only[aL,fN,o6];rw[if_pos (by decide),if_pos (by simp only[R3];omega)];rfl
theorem Io:aL (.tup (x::y::z::w::u::v::r)) (.int 5) h= .ok v h:=by
 simp only[aL,fN,o6];rw[if_pos (by decide),if_pos (by simp only[R3];omega)];rfl
theorem lI(e:fN xs i=fv v):aL (.tup xs) (.int i) h= .ok v h:=by simp only[aL,e]
theorem iC{xs}(e:i=(n)){v: α}(q:xs[n]?=fv v):fN xs i=fv v:=by
 have hl:=(RC.mp q).1;subst e;unfold fN o6;rw[if_pos (by omega),if_pos (by omega)];simpa using q
def O2(y:PV)(h:PH)(o:Option PO):RV PV:=match o with
 | some (.dct kvs)=>(match iG y with
  | some k=>(match dm kvs k with | some v=> .ok v h | none=> .no)
  | none=> .no)
 | some (.lst xs)=>(match y with
  | .int i=>(match fN xs i with | some v=> .ok v h | none=> .no)
  | _=> .no)
 | some (.jD xs)=>(match y with
  | .int i=>(match fN xs i with | some v=> .ok v h | none=> .no)
  | _=> .no)
 | none=> .no
theorem Ba:aL (.ref n) y h=O2 y h (h[n]?):=by
 rfl
noncomputable def OX(h:PH)(o:Option PV):RV PV:=match o with
 | some v=> .ok v h
 | none=> .no
theorem DX:O2 (.int i) h (fv (.lst xs))=OX h (fN xs i):=(rfl)
theorem MF:O2 (.int i) h (fv (.jD xs))=OX h (fN xs i):=(rfl)
theorem E2:OX h (fv v)= .ok v h:=(rfl)
theorem wu:dm ((k,v)::kvs) k=fv v:=by simp[dm]
theorem BI(ne:k'≠k):dm ((k',v)::kvs) k=dm kvs k:=by simp[dm,ne]
def H9(n:Nat)(y v:PV)(h:PH)(o:Option PO):RV Unit:=match o with
 | some (.dct kvs)=>(match iG y with
  | some k=>if kvs.length < RF then .ok () (h.set n (.dct (p6 kvs k v))) else .no
  | none=> .no)
 | some (.lst xs)=>(match y with
  | .int i=>(match o6 xs.length i with | some j=> .ok () (h.set n (.lst (xs.set j v))) | none=> .no)
  | _=> .no)
 | _=> .no
theorem M3:A1 (.ref n) y v h=H9 n y v h (h[n]?):=by
 rfl
def Q7(n:Nat)(v:PV)(h:PH)(o:Option PO):RV PV:=match o with
 | some (.lst xs)=>if xs.length < RF then .ok .non (h.set n (.lst (xs++[v]))) else .no
 | _=> .no
theorem PY:dc (.ref n) [v] h=Q7 n v h (h[n]?):=by
 rfl
theorem Eb(hl:xs.length < 16777216):Q7 n v h (fv (.lst xs))= .ok .non (h.set n (.lst (xs++[v]))):=if_pos hl
theorem len_T:b9 [.tup xs] h= .ok (.int xs.length) h:=(rfl)
theorem LY(e:h[n]?=fv (.jD xs)):b9 [.ref n] h= .ok (.int xs.length) h:=by simp[b9,itemsOf,bU,e]
theorem HN:vz [.tup xs] h= .ok (.ref h.length) (h++[.lst xs]):=(rfl)
theorem M8:CT [.bl p] h= .ok (.int (if p then 1 else 0)) h:=(rfl)
theorem NQ:dq false .non h= .ok (.bl true) h:=(rfl)
theorem MQ:dq false (.int i) h= .ok (.bl false) h:=by simp[dq]
theorem Np:dq false (.tup xs) h= .ok (.bl false) h:=by simp[dq]
theorem J5:dq true .non h= .ok (.bl false) h:=(rfl)
theorem Gs:dq true (.int i) h= .ok (.bl true) h:=by simp[dq]
section
variable{c:CF}{e:aM}{d k1 k2:ME}{rr:MA}{kvs:List (Key × PV)}{ff:PV->List PV->PH->RV PV}
def Qs(a:Str)(z:PV)(h:PH)(o:Option PO):RV PV:=match o with
 | some (.dct kvs)=> .ok ((dm kvs (.inr a)).getD z) h
 | _=> .no
def Qa(x y z:PV)(h3:PH):RV PV:=match x,iG y with
 | .ref n,fv key=>(match h3[n]? with
  | some (.dct kvs)=> .ok ((dm kvs key).getD z) h3
  | _=> .no)
 | _,_=> .no
def OE(b:ME) c e x y h2:=(b c e h2).bind (Qa x y)
def PJ(a b:ME) c e x h1:=if fi h1 x=true then(a c e h1).bind (OE b c e x) else .no
def PN(a b:ME) c e n h (o:Option PO):=match o with
 | some (.dct _)=>(a c e h).bind (OE b c e (.ref n))
 | _=> .no
theorem Kr:zH d k1 k2 c e h=(d c e h).bind (PJ k1 k2 c e):=(rfl)
theorem E6:PJ k1 k2 c e (.ref n) h=PN k1 k2 c e n h (h[n]?):=by
 unfold PJ PN fi;cases q:h[n]? with
 | none=>simp[q]
 | some o=>cases o<;>simp[q]
theorem AI:PN k1 k2 c e n h (fv (.dct kvs))=(k1 c e h).bind (OE k2 c e (.ref n)):=(rfl)
theorem Ck:OE k2 c e x y h=(k2 c e h).bind (Qa x y):=(rfl)
theorem Ea:Qa (.ref n) (.str a) z h=Qs a z h (h[n]?):=by
 rfl
theorem zw:Qs a z h (fv (.dct kvs))= .ok ((dm kvs (.inr a)).getD z) h:=(rfl)
def Pd(f:PV->List PV->PH->RV PV)(r:MA) c e n h (o:Option PO):=match o with
 | some (.lst _)=>(r c e h).bind (f (.ref n))
 | _=> .no
theorem Om:Pp ff cu rr c e (.ref n) h=Pd ff rr c e n h (h[n]?):=by
 unfold Pp Pd cu;cases q:h[n]? with
 | none=>simp[q]
 | some o=>cases o<;>simp[q]
theorem Ks:Pd ff rr c e n h (fv (.lst xs))=(rr c e h).bind (ff (.ref n)):=(rfl)
def L3(ys:List PV)(h:PH)(o:Option (List (Key × PV))):RV PV:=match o with
 | some kvs=>if ys.length < RF then .ok (.ref h.length) (h++[.dct (fm [] kvs)]) else .no
 | none=> .no
theorem HV:wC [.tup ys] h=L3 ys h (jf ys):=by
 rfl
theorem Gx(hl:ys.length < 16777216):L3 ys h (fv kvs)= .ok (.ref h.length) (h++[.dct (fm [] kvs)]):=if_pos hl
end
noncomputable def P0(h:PH)(o:Option PO):RV PV:=match o with
 | some (.lst xs)=> .ok (.tup xs) h
 | some (.jD xs)=> .ok (.tup xs) h
 | _=> .no
theorem Eh:bz [.ref n] h=P0 h (h[n]?):=by
 unfold P0;cases q:h[n]? with
 | none=>simp[bz,bU,q]
 | some o=>cases o<;>simp[bz,bU,q]
theorem Ab:P0 h (fv (.lst xs))= .ok (.tup xs) h:=(rfl)
noncomputable def Qg(h:PH)(o:Option PO):RV PV:=match o with
 | some (.lst xs)=> .ok (.int xs.length) h
 | some (.jD xs)=> .ok (.int xs.length) h
 | some (.dct kvs)=> .ok (.int kvs.length) h
 | _=> .no
theorem BQ:b9 [.ref n] h=Qg h (h[n]?):=by
 unfold Qg;cases q:h[n]? with
 | none=>simp[b9,itemsOf,bU,q]
 | some o=>cases o<;>simp[b9,itemsOf,bU,q]
theorem uz:Qg h (fv (.lst xs))= .ok (.int xs.length) h:=(rfl)
theorem gE{a:Str}: ∀{ss:List Str},((ss.map PV.str).any λz=>Ds z (.str a))=decide (a∈ss)
 | []=>by simp
 | x::t=>by
  rw[RL,Tz,gE];by_cases e:x=a
  . subst e;simp[show Ds (.str x) (.str x)=(x == x) from rfl]
  . have e': ¬ a=x:=λz=>e z.symm;simp[show Ds (.str x) (.str a)=(x == a) from rfl,e,e']
theorem all_strs: ∀{ss:List Str},((ss.map PV.str).all cP)=true
 | []=>rfl
 | x::t=>by rw[RL,UZ,all_strs];rfl
theorem Qd{ss:List Str}:qV (.str a) (.tup (ss.map PV.str)) h= .ok (.bl (decide (a∈ss))) h:=by
 have:isIn (.str a) (.tup (ss.map PV.str)) h=fv (decide (a∈ss)):=by
  unfold isIn;simp only[itemsOf,all_strs,cP,U0,if_true,gE]
 unfold qV;rw[this]
theorem Du{ss:List Str}:gR (.str a) (.tup (ss.map PV.str)) h= .ok (.bl (!decide (a∈ss))) h:=by
 have:isIn (.str a) (.tup (ss.map PV.str)) h=fv (decide (a∈ss)):=by
  unfold isIn;simp only[itemsOf,all_strs,cP,U0,if_true,gE]
 unfold gR;rw[this]
theorem in_K{ss:List Str}:qV (.str a) (.ktup (ss.map PV.str)) h= .ok (.bl (decide (a∈ss))) h:=by
 have:isIn (.str a) (.ktup (ss.map PV.str)) h=fv (decide (a∈ss)):=by
  unfold isIn;simp only[itemsOf,all_strs,cP,U0,if_true,gE]
 unfold qV;rw[this]
section
variable{c:CF}{e:aM}{d:ME}{kvs:List (Key × PV)}
def Qx(kvs:List (Key × PV))(x:PV)(h:PH):RV PV:=match iG x with
 | some key=>(match dm kvs key with
  | some v=> .ok v h
  | none=> .no)
 | none=> .no
theorem Md:pB kvs d c e h=(d c e h).bind (Qx kvs):=(rfl)
theorem HS:Qx kvs (.str a) h=OX h (dm kvs (.inr a)):=(rfl)
end
section
variable{c:CF}{e:aM}{d:ME}{l uu:MO}
def Gp(uu:MO) c e x (lo:Option Int) h:=(uu c e h).bind (EF x lo)
def Oj(l uu:MO) c e x h:=(l c e h).bind (Gp uu c e x)
theorem LA:BV d l uu c e h=(d c e h).bind (Oj l uu c e):=(rfl)
theorem Hs:Oj l uu c e x h=(l c e h).bind (Gp uu c e x):=(rfl)
theorem Je{lo}:Gp uu c e x lo h=(uu c e h).bind (EF x lo):=(rfl)
theorem L5:iN c e h= .ok Rv h:=(rfl)
noncomputable def QH(v:PV)(h1:PH):RV (Option Int):=match v with
 | .int i=> .ok (fv i) h1
 | _=> .no
theorem Na:iI d c e h=(d c e h).bind QH:=(rfl)
theorem Hl:QH (.int i) h= .ok (fv i) h:=(rfl)
theorem Nk{lo}:EF (.tup xs) lo hi h= .ok (.tup (fD xs lo hi)) h:=(rfl)
def Pc(lo hi:Option Int)(h:PH)(o:Option PO):RV PV:=match o with
 | some (.lst xs)=> .ok (.ref h.length) (h++[.lst (fD xs lo hi)])
 | some (.jD xs)=> .ok (.ref h.length) (h++[.lst (fD xs lo hi)])
 | _=> .no
theorem Ph{lo}:EF (.ref n) lo hi h=Pc lo hi h (h[n]?):=by
 unfold Pc;cases q:h[n]? with
 | none=>simp[EF,bU,q]
 | some o=>cases o<;>simp[EF,bU,q]
theorem LP{lo}:Pc lo hi h (fv (.lst xs))= .ok (.ref h.length) (h++[.lst (fD xs lo hi)]):=(rfl)
theorem jX{lo}(h0:0<=lo):fD xs (fv lo) Rv=xs.drop lo.toNat:=by
 have e:lo=((lo.toNat)):=by omega
 unfold fD;rw[e,HT.ly,HT.j0];simp only[Sj];rcases XB lo.toNat xs.length with z | z
 . grind
 . rw[VW z,Ud z];simp
theorem qe(h0:0<=hi):fD xs Rv (fv hi)=xs.take hi.toNat:=by
 have e:hi=((hi.toNat)):=by omega
 unfold fD;rw[e,HT.ly,HT.j0];simp only[Sj,X8,Y2];rcases XB hi.toNat xs.length with z | z
 . rw[XQ z]
 . rw[VW z,UO (RE _),UO z]
end
variable{o o':PO}{g:PH}{k:Nat}
theorem aS:(h++(o::g))[h.length]?=fv o:=by rw[Sa (RE _)];simp
theorem D9:(h++g)[h.length+k]?=g[k]?:=by rw[Sa (by omega)];congr 1;omega
theorem bF(hn:n < h.length):(h++g)[n]?=h[n]?:=So hn
theorem oA:(h++g).set h.length o=h++g.set 0 o:=by simp
theorem cB(e:h[n]?=fv o):n < h.length:=(RC.mp e).1
end
section
variable{h:PH}{i j:Int}{a b:Str}{x y z w u v:PV}{r xs ys:List PV}{p q:Bool}{n m:Nat}
theorem KO:qm [.int i,.ty "bool"] h= .ok (.bl false) h:=(rfl)
theorem Ju:qm [.int i,.ty "int"] h= .ok (.bl true) h:=(rfl)
theorem vB: ∀ bs ,uR (bs.map PV.bl)=fv bs
 | []=>rfl
 | b::r=>by rw[RL,uR,vB r];rfl
theorem L7{bs:List Bool}(e:h[n]?=fv (.lst (bs.map PV.bl))):DP [.ref n] h= .ok (.bl (bs.any id)) h:=by
 simp[DP,wq,bU,e,vB]
theorem IY:fN (x::r) 0=fv x:=by simp only[fN,o6];rw[if_pos (by decide),if_pos (by simp_all)];rfl
theorem Of:fN (x::y::r) 1=fv y:=by simp only[fN,o6];rw[if_pos (by decide),if_pos (by simp only[R3];omega)];rfl
theorem MK:fN (x::y::z::r) 2=fv z:=by simp only[fN,o6];rw[if_pos (by decide),if_pos (by simp only[R3];omega)];rfl
end
section
variable{α :Type}{p:List α ->Prop}
theorem Rj(h:p []): ∀ us:List α,us.length=0->p us:=λus e=>by simp_all
theorem N5{n:Nat}(h: ∀ a: α,∀ us:List α,us.length=n->p (a::us)): ∀ us:List α,us.length=n+1->p us:=λus e=>by
 cases us with
 | nil=>simp at e
 | cons a r=>exact h a r (by simpa using e)
theorem QQ(h: ∀ a,p [a]): ∀ us:List α,us.length=1->p us:=N5 λa=>Rj (h a)
theorem QZ(h: ∀ a b,p [a,b]): ∀ us:List α,us.length=2->p us:=N5 λa=>QQ (h a)
theorem Q1(h: ∀ a b c,p [a,b,c]): ∀ us:List α,us.length=3->p us:=N5 λa=>QZ (h a)
theorem Qn(h: ∀ a b c d,p [a,b,c,d]): ∀ us:List α,us.length=4->p us:=N5 λa=>Q1 (h a)
theorem Ro(h: ∀ a b c d e,p [a,b,c,d,e]): ∀ us:List α,us.length=5->p us:=N5 λa=>Qn (h a)
end
section
variable{X:Cx}{pg:Tb}{k:Nat}{e iter:Sy}{ma:ME}{mt:MT}{mI:MI}{scope:WA}{ifs:List Sy}{pos spos py vp wp tp:Pos}{y v w:Str}{i j m n:Nat}
theorem GC.of{K}(h:Yk n i=true):GC K n (d6 i) (gN i):=CC (Nat.le_of_ble_eq_true h)
theorem GD(hi:JI X pg k (.Name v vp) iter mI)
  (hb: ∀ cl C s₀ H₀ ex pn,(bQ X pg k->QG (dQ X [v] scope cl C s₀ H₀ ex pn) (.Name v vp) (d6 m))/\JF (dQ X [v] scope cl C s₀ H₀ ex pn) pg k ifs mt/\JE (dQ X [v] scope cl C s₀ H₀ ex pn) pg k e ma)
  (hm:Yk X.N.length m=true:=by rfl) (hkind:scope.kind= .function:=by rfl) (hlc:gy scope.names X.env.scope.names X.N [v]=true:=by rfl) (hs: ∀ x,SD iter X.env x=pure x:=by intro _;rfl) :
  JE X pg k (.ListComp e [⟨.Name v vp,iter,ifs,0⟩] scope pos) (lD 1 mI (gN m) mt ma):=sv [v] hkind hlc hi hb (GC.of hm) hs
theorem G2(hi:JI X pg k (.Tuple [.Name v vp,.Name w wp] j tp) iter mI)
  (hb: ∀ cl C s₀ H₀ ex pn,(bQ X pg k->QG (dQ X [v,w] scope cl C s₀ H₀ ex pn) (.Tuple [.Name v vp,.Name w wp] j tp) (vf X.K 2 (kU (d6 m) (kU (d6 n) xl))))/\JF (dQ X [v,w] scope cl C s₀ H₀ ex pn) pg k ifs mt/\JE (dQ X [v,w] scope cl C s₀ H₀ ex pn) pg k e ma)
  (hm:Yk X.N.length m=true:=by rfl) (hn:Yk X.N.length n=true:=by rfl) (hkind:scope.kind= .function:=by rfl) (hlc:gy scope.names X.env.scope.names X.N [v,w]=true:=by rfl) (hs: ∀ x,SD iter X.env x=pure x:=by intro _;rfl) :
  JE X pg k (.ListComp e [⟨.Tuple [.Name v vp,.Name w wp] j tp,iter,ifs,0⟩] scope pos) (lD 2 mI (gT 2 (aT (gN m) (aT (gN n) eF))) mt ma):=sv [v,w] hkind hlc hi hb (AV (jA (GC.of hm) (jA (GC.of hn) vP))) hs
theorem Jp(hN:X.N.Nodup)(hi:JI X pg k (.Name v vp) iter mI)
  (hb: ∀ cl C s₀ H₀ ex pn,(bQ X pg k->QG (dQ X [v] scope cl C s₀ H₀ ex pn) (.Name v vp) (d6 m))/\JF (dQ X [v] scope cl C s₀ H₀ ex pn) pg k ifs mt/\JE (dQ X [v] scope cl C s₀ H₀ ex pn) pg k e ma)
  (hm:Yk X.N.length m=true:=by rfl) (hiy:X.N[i]?=fv y:=by rfl) (hy:Loc X.env.scope y:=by first | exact Zj rfl | exact X7 rfl) (hkind:scope.kind= .function:=by rfl) (hlc:gy scope.names X.env.scope.names X.N [v]=true:=by rfl)
  (hsw:UX (.ListComp e [⟨.Name v vp,iter,ifs,0⟩] scope pos) (fv (.Name y py)) spos.line X.env=pure true:=by rfl) (hs: ∀ x,SD iter X.env x=pure x:=by intro _;rfl)
  (hf:X.fn y=true\/X.env.scope.names.lookup y=fv .local:=by first | exact .inl rfl | exact .inr rfl | assumption) :
  JS X pg k (.Assign [.Name y py] (.ListComp e [⟨.Name v vp,iter,ifs,0⟩] scope pos) spos) (ar (lD 1 mI (gN m) mt ma) (gN i)):=rO [v] i hkind hlc hN hiy hy hi hb (GC.of hm) hsw hs hf
theorem G0(hN:X.N.Nodup)(hi:JI X pg k (.Tuple [.Name v vp,.Name w wp] j tp) iter mI)
  (hb: ∀ cl C s₀ H₀ ex pn,(bQ X pg k->QG (dQ X [v,w] scope cl C s₀ H₀ ex pn) (.Tuple [.Name v vp,.Name w wp] j tp) (vf X.K 2 (kU (d6 m) (kU (d6 n) xl))))/\JF (dQ X [v,w] scope cl C s₀ H₀ ex pn) pg k ifs mt/\JE (dQ X [v,w] scope cl C s₀ H₀ ex pn) pg k e ma)
  (hm:Yk X.N.length m=true:=by rfl) (hn:Yk X.N.length n=true:=by rfl) (hiy:X.N[i]?=fv y:=by rfl) (hy:Loc X.env.scope y:=by first | exact Zj rfl | exact X7 rfl) (hkind:scope.kind= .function:=by rfl) (hlc:gy scope.names X.env.scope.names X.N [v,w]=true:=by rfl)
  (hsw:UX (.ListComp e [⟨.Tuple [.Name v vp,.Name w wp] j tp,iter,ifs,0⟩] scope pos) (fv (.Name y py)) spos.line X.env=pure true:=by rfl) (hs: ∀ x,SD iter X.env x=pure x:=by intro _;rfl)
  (hf:X.fn y=true\/X.env.scope.names.lookup y=fv .local:=by first | exact .inl rfl | exact .inr rfl | assumption) :
  JS X pg k (.Assign [.Name y py] (.ListComp e [⟨.Tuple [.Name v vp,.Name w wp] j tp,iter,ifs,0⟩] scope pos) spos) (ar (lD 2 mI (gT 2 (aT (gN m) (aT (gN n) eF))) mt ma) (gN i)):=rO [v,w] i hkind hlc hN hiy hy hi hb (AV (jA (GC.of hm) (jA (GC.of hn) vP))) hsw hs hf
end
end P3
end
section
open PySem PySem.W PyProof.Rows
namespace L2
open PySem PySem.Spec PyProof.Rows
theorem qI: ∀{us ss},Wg us ss-> ∀ i hu(hs:i < ss.length),Yl a us[i]=(ss[i] == a)
 | _,_,.nil,i,hu,_=>absurd hu (Vx i)
 | _,_,.cons x t h,0,_,_=>rfl
 | _,_,.cons x t h,i+1,hu,hs=>qI h i (XE hu) (XE hs)
theorem zA{ss:List Str}(h:a∈ss):ss.idxOf a < ss.length:=List.idxOf_lt_length_iff.mpr h
end L2
namespace P3
open PySem PySem.Spec PyProof.Rows L2
section
variable{X:Cx}{pg:Tb}{k:Nat}
def oT:PV->List PV->PH->RV PV:=λx vs h=>match x,vs with
 | .ref n,[.int 0]=>(match h[n]? with
  | some (.lst (y::r))=> .ok y (h.set n (.lst r))
  | _=> .no)
 | _,_=> .no
theorem J6:bQ X pg k-> ∃ r,zB X "list.pop" r/\Lm X.K "list" r oT cu:=λA=>⟨_,Aq,fun ρ h H x x' s r e=>jE s r e,fun ρ h H x x' xs us Q v h' s rx rs q P=>by
 unfold oT at q;split at q
 . rename_i n;split at q
   . rename_i y r en;cases q;obtain⟨b,vs,rfl,ea,e1,e2⟩:=s.lst en rx;obtain⟨u,rfl,ru⟩:=aO rs;rw[rel] at ru;subst ru;obtain⟨v',t,rfl,r1,r2⟩:=aq.mp e2;have g:Gr ρ H ρ (upd H b (.lst t)):=Gr.write (.inl ⟨_,e1⟩);exact⟨b,v'::t,0,0,v',rfl,rfl,e1,by decide,by decide,by simp[Zf],rfl,P _ ρ _ g (s.write en ea rfl rfl ⟨_,aX,ai.gr g _ _ r2⟩) (rel.gr g _ _ r1)⟩
   . nomatch q
 . nomatch q⟩
end
section
variable{X:Cx}{pg:Tb}{k j n:Nat}{es:List Sy}{t:BX}{pos:Pos}{vars:List Str}{scope:WA}{cl:List (Str × RQ)}{C:RQ}{s0:RD}{H0:Hp}{ex:List RQ}{pn:List (RQ × Obj)}
theorem Fi(A:bQ X pg k)(h:Ja (dQ X vars scope cl C s0 H0 ex pn) es t)(hn:(S3 es (dQ X vars scope cl C s0 H0 ex pn).env).length=n:=by rfl)(hst:(S3 es (dQ X vars scope cl C s0 H0 ex pn).env).findIdx? (·.1)=Rv:=by rfl):QG (dQ X vars scope cl C s0 H0 ex pn) (.Tuple es j pos) (vf X.K n t):=Aa A.calm h hn hst
end
theorem Ar(hh:A.handled=Rv)(hne:l≠it) us :
  Draws prog w A it [it,l] us.size (λi v=>us[i]?=fv v) (λi h=>h.IsTupleIter it l i/\h.IsTuple l us) where
 live:=λ_ _ z=>by obtain⟨⟨o,e,_⟩,_⟩:=z;exact⟨o,e⟩
 frame:=λ_ _ _ z kp=>by
  obtain⟨⟨o,e,r⟩,⟨o2,e2,r2⟩⟩:=z;exact⟨⟨o,kp it (by simp) o e,r⟩,⟨o2,kp l (by simp) o2 e2,r2⟩⟩
 item:=λi s Q E hi z q=>fU z.1 z.2 (x:=us[i]) (by simp [hi]) λh' a b=>q _ h' s.toks (by simp [hi]) ⟨a,by obtain ⟨o2,e2,r2⟩:=z.2;exact ⟨o2,b.extBut _ _ hne e2,r2⟩⟩ b
 done:=λs Q E z q=>kJ hh z.1 z.2 (by simp) q
def Qv(K : Rx)(a : RQ) : It :=
  ⟨λi H => ∃ xs x, dz K H a xs /\ xs[i]? = fv x,
   λi H v H' => ∃ p x, H p = Rv /\ v = .ref p /\ H' = upd H p (.tup [.int (i), x]) /\ ∀ xs, dz K H a xs -> xs[i]? = fv x,
   λi H => ∃ xs, dz K H a xs /\ xs.length = i⟩
theorem xb{K}(hei:e≠it)(hea:e≠a)(hai:a≠it) :
  Turn P w K (.Tuple els j pos) (Qv K a) [e,it] e (λi h=>(∃ old,IsEnum h e it i old)∧h.IsTupleIter it a i) where
 mem:=by simp
 obj:=λi h z b hb=>by
  obtain⟨⟨old,e1⟩,⟨o4,e4,_,d4⟩⟩:=z;simp only[Sz,or_false,RW] at hb;rcases hb with rfl | rfl
  . exact⟨_,e1,λv q=>by cases q⟩
  . exact⟨_,e4,λv q=>by simp_all⟩
 keep:=λi h h' z kp=>by
  obtain⟨⟨old,e1⟩,⟨o4,e4,d4⟩⟩:=z;exact⟨⟨old,kp _ (by simp) _ e1⟩,⟨o4,kp _ (by simp) _ e4,d4⟩⟩
 item:=by
  intro X hP hw hK hc i pins s σ H E I hf z hg;subst hP hw hK;obtain⟨xs,x,s1,ex⟩:=hg;obtain⟨us,ru,pu,_⟩:=I.tuple s1;obtain⟨ux,eu,rx⟩:=ru.get ex;obtain⟨⟨old,e1⟩,hit⟩:=z;have hlt:i < us.toArray.size:=by simpa using(RC.mp eu).1
  refine wpAny_pyNext_enum_itemD (Ar (A:=X.A.in1) (show X.A.in1.handled=Rv from I.ok.hd hc) hai us.toArray) e1 ⟨hit,pu⟩ hlt hei (by simp[hei,hea]) λy h1 tk f1 f2 f3 f4 f5 f6=>⟨_,rfl,?_⟩
  have hy:y=ux:=by
   simp_all
  subst hy;refine wpAny_letOwnedTupleGo_enum (s:={ s with heap:=h1,toks:=tk+1}) f2 λh2 g1 g2=>?_;have ex1:=g2.extBut;have elt:=RI e1;have new:=ex1 _ _ (Ub elt) f4;have hn:=I.aW.fresh (RE _);have I2:Inv X pins σ (upd H s.heap.objs.size (.tup [.int (i),x])) { s with heap:=h2,toks:=tk+1}:=by
   refine pd (turned:=[e,it]) I (λb o nb q=>?_) (λb hb=>hf b hb) (RE _) ?_
   . simp only[RW,Sz,or_false,not_or] at nb;exact ex1 _ _ nb.1 (f6 b o nb.1 nb.2 q)
   . exact⟨by show 2<=RF;decide,[.int i tk,y],.cons ⟨tk,rfl⟩ (.cons rx .nil),_,new,rfl,_,rfl,rfl⟩
  refine⟨.ref s.heap.objs.size,upd H s.heap.objs.size (.tup [.int (i),x]),I2,rfl,⟨_,x,hn,rfl,rfl,λxs' q=>?_⟩,?_,λb hb=>?_⟩
  . rw[I.ia q s1];exact ex
  . obtain⟨⟨o4,e4,c4⟩,_⟩:=f3;exact⟨⟨_,by simpa using g1⟩,⟨o4,ex1 _ _ hei.symm e4,c4⟩⟩
  . have hb0:=(hf b hb).1;have: ∃ o,s.heap.get? b=fv o:=by
     obtain⟨o4,e4,_⟩:=hit;simp only[Sz,or_false,RW] at hb;rcases hb with rfl | rfl
     . exact⟨_,e1⟩
     . exact⟨_,e4⟩
    obtain⟨o,eo⟩:=this;rw[av (R1 (RI eo))];exact hb0
 done:=by
  intro X hP hw hK hc i pins s σ H E I hf z hg;subst hP hw hK;obtain⟨xs,s1,he⟩:=hg;obtain⟨us,ru,pu,_⟩:=I.tuple s1;obtain⟨⟨old,e1⟩,hit⟩:=z;have ei:i=us.toArray.size:=by have:=ru.length;simp;omega
  rw[ei] at hit;refine wpAny_pyNext_enum_endD (Ar (A:=X.A.in1) (show X.A.in1.handled=Rv from I.ok.hd hc) hai us.toArray) e1 ⟨hit,pu⟩ λh1 kp=>⟨rfl,A0 (turned:=[e,it]) (t':=s.toks) I (λb o nb q=>?_) λb hb=>hf b hb⟩
  simp only[RW,Sz,or_false,not_or] at nb;exact kp b o nb.2 q
 self:=λA i s Q E z h=>by
  obtain⟨⟨old,e1⟩,_⟩:=z;exact Y7 e1 h
abbrev Mc(h:S6)(a:RQ):S6:=Tv (Tv h (tI a)) { cls:= .type "enumerate",data:= .fields #[.none,.bool false,.ref h.objs.size,ZU 0,.none,.none]}
theorem pN a us:Zy (Vw.«enumerate.__new__» ⟨[.type "enumerate",.ref a],[]⟩) (λ_ R u=>u.heap.IsTuple a us/\R (.ok (.ret (.ref (u.heap.objs.size+1)))) { u with heap:=Mc u.heap a}) :=
 .of_wp λprog w A R u hu=>by
  obtain⟨hp,gg,dd,tk,os⟩:=u;obtain⟨ha,hr⟩:=hu;have sub:=sub_enumerate;have fa:=ha
  wp_walk using TV fa
  refine wpAny_stack_any λz=>?_;refine RG ?_;have fin1: ∀ v u,v=R0 (hp.objs.size+1)->u=(⟨Mc hp a,gg,dd,tk,os⟩:RD)->R (.ok (.ret v)) u:=λv u e1 e2=>by rw[e1,e2];exact hr
  split
  . rename_i c _ _ _ _ _;cases c == U6 "enumerate" <;>(wp_walk using TV fa;exact⟨_,rfl,fin1 _ _ (by simp[SK]) rfl⟩)
  . wp_walk using TV fa
    exact⟨_,rfl,fin1 _ _ (by simp[SK]) rfl⟩
section
variable{X:Cx}{pg:Tb}{k:Nat}{a:Sy}{ma:ME}{p pos:Pos}{els:List Sy}{j:Nat}{tpos:Pos}
theorem KZ h l:(∃ old,IsEnum (Mc h l) (h.objs.size+1) h.objs.size ((0:Nat)) old)/\(Mc h l).IsTupleIter h.objs.size l 0:=by
 have n1:(Tv h (tI l)).objs.size=h.objs.size+1:=SK ..;refine⟨⟨.none,?_⟩,⟨tI l,?_,rfl,rfl⟩⟩
 . rw[<- n1];exact RO _ rfl
 . refine Ry _ ?_;exact RO _ rfl
def K8(K:Rx)(ta:TA):TI:=fun σ H R=>ta σ H λvs H1=> ∃ a1 xs,vs=[.ref a1]/\dz K H1 a1 xs/\R (Qv K a1) H1
theorem Ee(hg:Gl X "enumerate")(hm:X.mg "enumerate" =Rv)(ha:PA X [a] ta)(hs:Ss [a] X.env=[(false,Tw a X.env)]) :
  PI X (.Tuple els j tpos) (.Call (.Name "enumerate" p) [a] [] pos) (K8 X.K ta):=by
 intro pins s σ H R I h;refine Call_ (gU I hg hm boot_enumerate (S5 (yu (ha pos pins s σ H _ I h) λus s1 vs H1 I1 r1 ⟨a1,xs,e,q1,q⟩=>?_) (by rw[hs];rfl) (by rfl)));subst e;cases r1 with
 | cons ra rr =>
  cases rr
  cases ra
  obtain⟨u1,_,p1,_⟩:=I1.tuple q1
  refine callType_new F.called_enumerate (by decide) (F.typeCall_enumerate_1 _) (F.newCall_enumerate_1 _) (λobj=>F.args_object_init_2 obj _) F.entry_enumerate_new (pN a1 u1.toArray) ⟨p1,?_⟩
  obtain⟨⟨old,Z⟩,W⟩:=KZ s1.heap a1
  have lt1:a1 < s1.heap.objs.size:=by obtain⟨_,e,_⟩:=p1;exact RI e
  refine⟨⟨_,Z,rfl⟩,Y7 Z ?_⟩
  have kp: ∀ c o,s1.heap.get? c=fv o->(Mc s1.heap a1).get? c=fv o:=λc o e=>Ry _ (Ry _ e)
  refine⟨s1.heap.objs.size+1,[s1.heap.objs.size+1,s1.heap.objs.size],_,_,H1,rfl,I1.kept (t':=s1.toks) kp,xb (Ub (VU _)) (Ub (Uw lt1)) (R1 lt1),⟨⟨old,Z⟩,W⟩,λc hc=>?_,q⟩
  have hle:s1.heap.objs.size<=c:=by
   grind
  exact I1.CQ hle (I1.aW.fresh hle)
def wy(a:ME):MI:=λc e h=>(a c e h).bind λx h1=>match x.seq? with
 | some xs=> .ok ⟨Rv,xs.zipIdx.map λq=> .tup [.int (q.2),q.1]⟩ h1
 | none=> .no
theorem DY(hg:Gl X "enumerate")(ha:JE X pg k a ma)(hs1:noStar a=true:=by rfl):JI X pg k (.Tuple els j tpos) (.Call (.Name "enumerate" p) [a] [] pos) (wy ma):=⟨λA=>by
 obtain⟨_,q1,s1⟩:=ha.h A;refine⟨_,⟨Ee hg (A.blt _ (by decide +kernel)) (qk q1 ur hs1).h (by rw[bp hs1];rfl)⟩,fun ρ h H e σ R it h' s r q P=>?_⟩;obtain⟨x,h1,e1,q⟩:=bind_eq.mp q;refine s1 ρ h H e σ _ x h1 s r e1 λx' ρ1 H1 g1 z1 r1=>?_;split at q
 . rename_i xs ex;cases q;obtain⟨a1,us,rfl,t1,d1⟩:=rel.seq ex r1;refine⟨a1,us,rfl,t1,P ρ1 H1 _ g1 z1 λi ρ3 h3 H3 g s3 _=>⟨λv ev=>?_,λei=>?_⟩⟩
   . rw[RP] at ev;cases ez:xs.zipIdx[i]? with
     | none=>simp_all
     | some pr =>
      rw[ez] at ev
      cases ev
      have zx:xs[i]?=fv pr.1/\pr.2=i:=by
       rw[List.getElem?_zipIdx] at ez;cases ey:xs[i]? with
       | none=>simp_all
       | some y=>rw[ey] at ez;cases ez;exact⟨rfl,by simp⟩
      obtain⟨u,f1,f2⟩:=(ai.gr g _ _ d1).get zx.1
      refine⟨⟨us,u,g.BU t1,f1⟩,?_⟩
      rintro v' H' ⟨p,u',hp,rfl,rfl,k1⟩
      have:=k1 us (g.BU t1)
      rw[f1] at this;cases this
      have gn:Gr ρ3 H3 ρ3 (upd H3 p (.tup [.int (i:Int),u])):=Gr.uJ hp
      refine⟨ρ3,gn,s3.tup hp,?_⟩
      exact⟨p,_,rfl,aX,aq.mpr ⟨_,_,rfl,by rw[rel,zx.2],ai.one (rel.gr gn _ _ f2)⟩⟩
   . refine⟨us,g.BU t1,?_⟩;have:i=xs.length:=by simpa using ei
     rw[<- d1.len];exact this.symm
 . cases q⟩
end
section
variable{c:CF}{e:aM}{h:PH}{a:ME}{xs:List PV}
noncomputable def Qw(x:PV)(h1:PH):RV qN:=match x.seq? with
 | some xs=> .ok ⟨Rv,xs.zipIdx.map λq=> .tup [.int (q.2),q.1]⟩ h1
 | none=> .no
theorem v8:wy a c e h=(a c e h).bind Qw:=(rfl)
theorem sI:Qw (.tup xs) h= .ok ⟨Rv,xs.zipIdx.map λq=> .tup [.int (q.2),q.1]⟩ h:=(rfl)
end
section
variable{X:Cx}{pg:Tb}{k:Nat}
theorem vn: ∀ n b vs,vs.length=n->(∀ j v,vs[j]?=fv v-> ∃ t,v=Vc ((b+j:Nat)) t)->Vals ((V6 b n).map λi:Nat=>V.int (i)) vs
 | 0,b,vs,hl,_=>by
  cases vs with
  | nil=>exact .nil
  | cons v r=>cases hl
 | n+1,b,vs,hl,h=>by
  cases vs with
  | nil=>cases hl
  | cons v r =>
   refine .cons ?_ (vn n (b+1) r (by simpa using hl) λj v e=>?_)
   . obtain⟨t,rfl⟩:=h 0 v rfl;exact⟨t,rfl⟩
   . obtain⟨t,rfl⟩:=h (j+1) v e;exact⟨t,by grind⟩
variable{a:Sy}{ta:TA}{mr:MA}{p p2 p3 pos:Pos}
def Rg(ta:TA):TE:=fun σ H Q=>ta σ H λvs H1=> ∃ n:Nat,vs=[.int n]/\n<=100000/\ ∀ l,H1 l=Rv->Q (.ref l) (upd H1 l (.lst ((RJ n).map λi:Nat=>V.int (i))))
theorem xv(hL:Gl X "list")(mL:X.mg "list" =Rv)(hR:Gl X "range")(mR:X.mg "range" =Rv)(hd:X.A.handled=Rv)(ha:PA X [a] ta)(hs:Ss [a] X.env=[(false,Tw a X.env)])(hs2:Ss [.Call (.Name "range" p2) [a] [] p3] X.env=[(false,Tw (.Call (.Name "range" p2) [a] [] p3) X.env)]) :
  PE X (.Call (.Name "list" p) [.Call (.Name "range" p2) [a] [] p3] [] pos) (Rg ta):=by
 intro pins s σ H Q I h;refine Call_ (gU I hL mL boot_list (S5 ?_ hs2 rfl));refine Vy ?_;refine Call_ (gU I hR mR boot_range (S5 (yu (ha p3 pins s σ H _ I h) λus s1 vs H1 I1 r1 q1=>?_) hs rfl));obtain⟨n,e,hn,q⟩:=q1;subst e;cases r1 with
 | cons r rr =>
  cases rr
  obtain⟨t,rfl⟩:=r
  refine call_range_1 (WE ?_)
  have rs:W7 0 (n) 1=(n):=by rw[rangeSize_one];split<;>omega
  refine call_list_range hd (aai ..) (small_one (by omega) (by omega) (by omega) (by omega)) rs (by omega) λh' tk acc c' kp e it=>?_
  have I2:=I1.kept (t':=s1.toks+1+1) λb o e=>Ry { cls:=U6 "range",data:=Data.fields #[Vc 0 s1.toks,Vc (n) t,Vc 1 (s1.toks+1)]} e
  refine⟨.ref _,_,I2.laid (t':=tk) kp (RE _) (show aN X.prog X.w _ h' _ (.lst ((RJ n).map λi:Nat=>V.int (i))) from⟨?_,acc.toList,c',?_,by rw[e]⟩),rfl,q _ (I2.aW.fresh (RE _))⟩
  . rw[RB,SH];exact R5 hn (by decide)
  . rw[U9];refine vn n 0 acc.toList (by exact it.1) λj v e=>?_;obtain⟨t,rfl⟩:=it.2 j v (by simp_all);exact⟨t,by simp_all⟩
theorem vJ{K}: ∀ l:List Nat,ai K ρ H (l.map λi:Nat=>PV.int (0+(i))) (l.map λi:Nat=>V.int (i))
 | []=>by rfl
 | i::l=>by exact aq.mpr ⟨_,_,rfl,by rw[rel,UP],vJ l⟩
def NM(mr:MA):ME:=λc e h=>(mr c e h).bind λvs h1=>match vs with
 | [.int j]=>if 0<=j/\j<=100000 then .ok (.ref h1.length) (h1++[.lst (au 0 j.toNat)]) else .no
 | _=> .no
theorem yb(hL:Gl X "list")(hR:Gl X "range")(ha:JA X pg k [a] mr)(hs:Ss [a] X.env=[(false,Tw a X.env)]:=by rfl):JE X pg k (.Call (.Name "list" p) [.Call (.Name "range" p2) [a] [] p3] [] pos) (NM mr):=⟨λA=>by
 obtain⟨_,q1,s1⟩:=ha.h A;refine⟨_,⟨xv hL (A.blt _ (by decide +kernel)) hR (A.blt _ (by decide +kernel)) A.room.hd q1.h hs rfl⟩,fun ρ h H e σ Q v h' s r q P=>?_⟩;obtain⟨vs,h1,e1,q⟩:=bind_eq.mp q;refine s1 ρ h H e σ _ vs h1 s r e1 λus ρ1 H1 g1 z1 r1=>?_;split at q
 . split at q
   . rename_i hj;cases q;obtain⟨u,rfl,r2⟩:=aO r1;subst r2;obtain⟨n,rfl⟩:=Xl hj.1;refine⟨n,rfl,by omega,λl hl=>?_⟩;exact cJ z1 (vJ (RJ n)) (P.gr g1) l hl
   . simp_all
 . nomatch q⟩
end
section
variable{c:CF}{e:aM}{h:PH}{r:MA}
def QN(vs:List PV)(h1:PH):RV PV:=match vs with
 | [.int j]=>if 0<=j/\j<=100000 then .ok (.ref h1.length) (h1++[.lst (au 0 j.toNat)]) else .no
 | _=> .no
theorem yS:NM r c e h=(r c e h).bind QN:=(rfl)
theorem ug(hj:0<=j/\j<=100000):QN [.int j] h= .ok (.ref h.length) (h++[.lst (au 0 j.toNat)]):=if_pos hj
end
end P3
end
section
open PySem PySem.W PyProof.Rows
namespace L2
open PySem PySem.Spec PyProof.Rows
open PySem.AutoSeq1 (wpAny_loadPart')
theorem Fj f (J:List Nat-> β ->RD->Prop) Q
  (step: ∀ i r b u,J (i::r) b u->RX M A (f i b) (λz u'=>match z with
   | .yield b'=>J r b' u'
   | .done b'=>Q b' u') E u) (stop: ∀ b u,J [] b u->Q b u) (rg:Std.Legacy.Range) (b) (h:J (V6 rg.start rg.size rg.step) b s):RX M A (forIn rg b f) Q E s:=by
 rw[Ye];exact wpAny_forIn_list f J Q step stop _ b h
theorem yg l aj n di sl x (e:RA->Bool) (he: ∀ y,y∈aj->MeetsSeq.EqGives y x (e y)) j hj (h1:e aj[j]=true) (h0: ∀(m:Nat) hm,m < j->e aj[m]=false) :
  Zy (Vw.«tuple.index» ⟨[.ref l,x],[]⟩) (λ_ R s=>s.heap.get? l=fv { cls:= .type "tuple",dict:=di,data:= .seq aj n,slots:=sl}/\R (.ok (.ret (.int (j) s.toks))) { s with toks:=s.toks+1}) :=
 .of_wp λprog w A R u hu=>by
  obtain⟨hp,gg,dd,tk,os⟩:=u;obtain⟨hl,hr⟩:=hu
  wp_walk using wpAny_loadPart' hl,Fj _ (λrest b u'=>b=(Rv,())/\u'=(⟨hp,gg,dd,tk,os⟩)/\ ∃ m,rest=V6 m (aj.size - m)/\m<=j) _
  case step =>
   rintro i r b u' ⟨rfl,rfl,m,em,mj⟩
   have hm:m < aj.size:=by omega
   rw[show aj.size - m=(aj.size - (m+1))+1 by omega,Xm] at em
   obtain⟨rfl,rfl⟩:=List.cons.inj em
   have ei:=TN hm
   rw[ei]
   refine Ru (he aj[i] (Array.getElem_mem hm) prog w _ _ _ _ ?_)
   by_cases c:i=j
   . subst c;rw[h1]
     wp_walk
     exact⟨_,rfl,hr⟩
   . rw[h0 i hm (by omega)]
     wp_walk
     exact⟨rfl,rfl,i+1,rfl,by omega⟩
  case stop =>
   rintro b u' ⟨_,_,m,em,mj⟩
   have:=congrArg List.length em
   rw[Uu,List.length_range'] at this
   omega
  case h=>exact⟨rfl,rfl,0,by simp_all,Si _⟩
section
variable{X:Cx}
def Fb:V->List V->Hp->VK->Prop:=λx vs H Q=> ∃(l:RQ)(ss:List Str)(a:Str),x= .ref l/\vs=[.str a]/\H l=fv (.lst (ss.map V.str))/\a∈ss/\Q (.int (ss.idxOf a)) H
theorem places{a:Str}{t:Tok}{aj:List RA}{ss:List Str}(sa:Wg aj ss)(ln:aj.length=ss.length)(ha:a∈ss) :
  ∃ hj:ss.idxOf a < aj.toArray.size,Yl a aj.toArray[ss.idxOf a]=true/\ ∀(m:Nat)(hm:m < aj.toArray.size),m < ss.idxOf a->Yl a aj.toArray[m]=false:=by
 have hj:=zA ha;refine⟨by rw[R6,ln];exact hj,?_,λm hm hlt=>?_⟩
 . show Yl a (aj[ss.idxOf a]'(by rw[ln];exact hj))=true;rw[qI sa _ _ hj,YJ hj];exact beq_self_eq_true a
 . have hm':m < ss.length:=by simp_all
   show Yl a (aj[m]'(by omega))=false;have nf:=List.not_of_lt_findIdx (p:=(· == a)) (xs:=ss) (i:=m) hlt
   rw[qI sa _ _ hm'];simpa using nf
theorem xj:NF X "list.index" Fb:=by
 intro pins s σ H x vs v us Q I rx rv h;obtain⟨l,ss,a,rfl,rfl,hH,ha,q⟩:=h;cases rx;obtain⟨u,rfl,t,rfl⟩:=rv.one;obtain⟨z,aj,n,r,hl,e⟩:=I.uv hH;have sa:=fZ r;have ln:aj.length=ss.length:=by simp_all
 obtain⟨hj,h1,h0⟩:=places (t:=t) sa ln ha;refine TR F.slot_list_index ⟨_,e,rfl⟩ F.entry_list_index (F.args_list_index_2 _ _)
  (MeetsSeq.list_index l aj.toArray n (.str a t) (Yl a) (λy hy=>eq_isStrOf a t sa y (by simp_all)) (ss.idxOf a) hj (by have:=zA ha;have:RF=16777216:=rfl;omega) h1 h0) ⟨e,?_⟩
 exact⟨.int (ss.idxOf a),H,I.tok _,⟨_,rfl⟩,q⟩
def B6(K:Rx):V->List V->Hp->VK->Prop:=λx vs H Q=> ∃(l:RQ)(ss:List Str)(a:Str),x= .ref l/\vs=[.str a]/\dz K H l (ss.map V.str)/\a∈ss/\Q (.int (ss.idxOf a)) H
theorem oZ:NF X "tuple.index" (B6 X.K):=by
 intro pins s σ H x vs v us Q I rx rv h;obtain⟨l,ss,a,rfl,rfl,hH,ha,q⟩:=h;cases rx;obtain⟨u,rfl,t,rfl⟩:=rv.one;obtain⟨aj,r,⟨o,e,ec,n,ed⟩,z⟩:=I.tuple hH;have sa:=fZ r;have ln:aj.length=ss.length:=by rw[<- r.length,RB]
 obtain⟨hj,h1,h0⟩:=places (t:=t) sa ln ha;obtain⟨oc,od,oa,os⟩:=o;cases ec;cases ed;refine TR F.slot_tuple_index ⟨_,e,rfl⟩ F.entry_tuple_index (F.args_tuple_index_2 _ _)
  (yg l aj.toArray n od os (.str a t) (Yl a) (λy hy=>eq_isStrOf a t sa y (by simp_all)) (ss.idxOf a) hj h1 h0) ⟨e,?_⟩
 exact⟨.int (ss.idxOf a),H,I.tok _,⟨_,rfl⟩,q⟩
noncomputable def Rf(r:V->List V->Hp->VK->Prop)(to:TE)(t:TA):TE:=fun σ H Q=>to σ H λx H1=>(∃ p xs,x= .ref p/\H1 p=fv (.tup xs))/\t σ H1 λxs H2=>r x xs H2 Q
variable{o e:Sy}{to:TE}{t:TA}{name:Str}{apos cpos:Pos}{id:String}{r:V->List V->Hp->VK->Prop}
theorem L4(pa:Wr "tuple")(slot:Slot "tuple" name id)(hty:Z0 (.builtin id)=pure (.type "method_descriptor"))(hm:zB X id r)(ho:PE X o to)(ha:PA X [e] t)
  (hbase:TX o name X.env (Tw o X.env)=Tw o X.env) (hline:(apos.endLine == cpos.line)=true) (hs:Ss [e] X.env=[(false,Tw e X.env)]):PE X (.Call (.Attribute o name apos) [e] [] cpos) (Rf r to t):=by
 intro pins s σ H Q I h;refine Xv hbase (by rw[hs];rfl) hline rfl (gL (ho pins s σ H _ I h) λv s1 x H1 I1 r1 ⟨⟨p,xs,ex,hp⟩,q1⟩=>?_);subst ex;cases r1;obtain⟨_,aj,_,ob,g1,g2,n,g3,g4⟩:=I1.aW p _ hp;refine⟨"tuple",id,pa,slot,hty,⟨ob,g1,g2⟩,λa e=>by cases e;exact⟨ob,g1,g4⟩,?_⟩;have hA:=ha cpos pins s1 σ H1 _ I1 q1;rw[hs] at hA ⊢;refine UM rfl (V2 ?_);exact yu hA λus s2 vs H2 I2 r2 q2=>hm pins s2 σ H2 (.ref p) vs (.ref p) us Q I2 rfl r2 q2
end
end L2
namespace P3
open PySem PySem.Spec PyProof.Rows L2
section
variable{X:Cx}{pg:Tb}{k:Nat}{d e:Sy}{md:ME}{mr:MA}{apos cpos:Pos}
def jT:PV->List PV->PH->RV PV:=λx vs h=>match x,vs with
 | .ref n,[.str a]=>(match h[n]? with
  | some (.lst xs)=>(match dH xs with
   | some ss=>if a∈ss then .ok (.int (ss.idxOf a)) h else .no
   | none=> .no)
  | _=> .no)
 | _,_=> .no
theorem zL:bQ X pg k-> ∃ r,zB X "list.index" r/\Lm X.K "list" r jT cu:=λA=>⟨_,xj,fun ρ h H x x' s r e=>jE s r e,fun ρ h H x x' xs us Q v h' s rx rs q P=>by
 unfold jT at q;split at q
 . rename_i n a;split at q
   . rename_i ys en;split at q
     . rename_i ss es;split at q
       . rename_i ha;cases q;obtain⟨b,vs,rfl,ea,e1,e2⟩:=s.lst en rx;obtain⟨u,rfl,r⟩:=aO rs;subst r;rw[d7 es,bK] at e2;subst e2;exact⟨b,ss,a,rfl,rfl,e1,ha,P _ ρ H (.refl _ _) s (by rw[rel])⟩
       . nomatch q
     . nomatch q
   . nomatch q
 . nomatch q⟩
def tU(x:PV)(vs:List PV)(h:PH):RV PV:=match x,vs with
 | .tup xs,[.str a]=>(match dH xs with
  | some ss=>if a∈ss then .ok (.int (ss.idxOf a)) h else .no
  | none=> .no)
 | _,_=> .no
def vd(x:PV)(vs:List PV)(h:PH):RV PV:=match x,vs with
 | .ktup xs,[.str a]=>(match dH xs with
  | some ss=>if a∈ss then .ok (.int (ss.idxOf a)) h else .no
  | none=> .no)
 | _,_=> .no
def ON(md:ME)(mr:MA):ME:=λc e h=>(md c e h).bind λx h1=>(mr c e h1).bind λvs h2=>tU x vs h2
theorem xq(ho:JE X pg k d md)(ha:JA X pg k [e] mr)(hbase:TX d "index" X.env (Tw d X.env)=Tw d X.env:=by rfl)(hline:(apos.endLine == cpos.line)=true:=by rfl)(hs:noStar e=true:=by rfl) :
  JE X pg k (.Call (.Attribute d "index" apos) [e] [] cpos) (ON md mr):=⟨λA=>by
 obtain⟨_,q0,s0⟩:=ho.h A;obtain⟨_,q1,s1⟩:=ha.h A;refine⟨_,⟨L4 WY WZ W0 oZ q0.h q1.h hbase hline (bp hs)⟩,fun ρ h H e σ Q v h' z r q P=>?_⟩;obtain⟨x,h1,e1,q⟩:=bind_eq.mp q;obtain⟨xs,h2,e2,q⟩:=bind_eq.mp q;unfold tU at q;split at q
 . rename_i ys a _;split at q
   . rename_i ss es;split at q
     . rename_i hm;cases q;refine s0 ρ h H e σ _ _ _ z r e1 λx' ρ1 H1 g1 z1 r1=>?_;have r1':=r1;obtain⟨p,vs,rfl,hp,_⟩:=r1';refine⟨⟨p,vs,rfl,hp⟩,?_⟩;refine s1 ρ1 h1 H1 e σ _ _ _ z1 (r.gr g1) e2 λus ρ2 H2 g2 z2 r2=>?_;have r3:=rel.gr g2 _ _ r1;obtain⟨p',vs',ep,hp',rv⟩:=r3;cases ep;obtain⟨u,rfl,ru⟩:=aO r2;subst ru;rw[d7 es,bK] at rv;subst rv;exact⟨p,ss,a,rfl,rfl,.of hp',hm,P.gr (g1.trans g2) _ ρ2 H2 (.refl _ _) z2 (by rw[rel])⟩
     . nomatch q
   . nomatch q
 . nomatch q⟩
def PM(v:PV)(mr:MA):ME:=λc e h=>(mr c e h).bind λvs h2=>vd v vs h2
theorem w4{p}(hc:pg.con x=fv v)(hg:Gl X x)(ha:JA X pg k [e] mr)(hd:(x == ("__debug__"))=false:=by decide)(hbase:TX (.Name x p) "index" X.env (Tw (.Name x p) X.env)=Tw (.Name x p) X.env:=by rfl)(hline:(apos.endLine == cpos.line)=true:=by rfl)(hs:noStar e=true:=by rfl) :
  JE X pg k (.Call (.Attribute (.Name x p) "index" apos) [e] [] cpos) (PM v mr):=⟨λA=>by
 obtain⟨u,v',e1,e2,cn,e3⟩:=A.con x v hc;obtain⟨_,q1,s1⟩:=ha.h A;refine⟨_,FO WY WZ W0 oZ (vI hg e1 e2 hd) q1 hbase hline hs,fun ρ h H e σ Q w h' z r q P=>?_⟩;obtain⟨xs,h2,e2',q⟩:=bind_eq.mp q;unfold vd at q;split at q
 . rename_i ys a _;split at q
   . rename_i ss es;split at q
     . rename_i hm;cases q;have r0:=e3 ρ H;obtain⟨pa,vs,rfl,_,_⟩:=r0;obtain⟨o,o1,o2,o3⟩:=cn pa rfl;refine⟨.inr (.inl ⟨rfl,o,o1,o2,o3⟩),?_⟩;refine s1 ρ h H e σ _ _ _ z r e2' λus ρ2 H2 g2 z2 r2=>?_;obtain⟨p',vs',ep,sq,rv⟩:=rel.seq (x:= .ktup ys) rfl (e3 ρ2 H2);cases ep;obtain⟨u',rfl,ru⟩:=aO r2;subst ru;rw[d7 es,bK] at rv;subst rv;exact⟨_,ss,a,rfl,rfl,sq,hm,P.gr g2 _ ρ2 H2 (.refl _ _) z2 (by rw[rel])⟩
     . nomatch q
   . nomatch q
 . nomatch q⟩
end
section
variable{c:CF}{e:aM}{h:PH}{d:ME}{r:MA}{x v:PV}{ss:List Str}{a:Str}{n:Nat}
theorem Lv:PM v r c e h=(r c e h).bind (vd v):=(rfl)
theorem KU(ha:a∈ss):vd (.ktup (ss.map PV.str)) [.str a] h= .ok (.int (ss.idxOf a)) h:=by
 unfold vd;simp only[cZ,if_pos ha]
def LX(r:MA) c e x h1:=(r c e h1).bind (tU x)
theorem F9:ON d r c e h=(d c e h).bind (LX r c e):=(rfl)
theorem AN:LX r c e x h=(r c e h).bind (tU x):=(rfl)
theorem Jf(ha:a∈ss):tU (.tup (ss.map PV.str)) [.str a] h= .ok (.int (ss.idxOf a)) h:=by
 unfold tU;simp only[cZ,if_pos ha]
theorem Cq(e1:h[n]?=fv (.lst (ss.map PV.str)))(ha:a∈ss):jT (.ref n) [.str a] h= .ok (.int (ss.idxOf a)) h:=by
 unfold jT;simp only[e1,cZ,if_pos ha]
end
section
variable{X:Cx}{pg:Tb}{k:Nat}
def w5(d:Uo):=d.showable=true/\d.hasDict=false/\d.depth<=64/\d.shown.length<=RF
instance (d:Uo):Decidable (w5 d):=by unfold w5;infer_instance
def uE:List PV->PH->RV PV:=λxs h=>match xs with
 | [.bl b]=> .ok (.str (if b=true then RZ "True" else RZ "False")) h
 | [.non]=> .ok (.str (RZ "None")) h
 | [.tup ys]=>(match dat 6 h (.tup ys) with
  | some d=>if w5 d then .ok (.str d.shown) h else .no
  | none=> .no)
 | [.ref n]=>(match dat 6 h (.ref n) with
  | some d=>if w5 d then .ok (.str d.shown) h else .no
  | none=> .no)
 | _=> .no
end
section
variable{P:Sv}{w:SQ}{K:Rx}{mg:Str->Option RA}{pg:Tb}
theorem aU.on{st}(a:At K mg (RZ f) st)(S:cE N ps (ak st))(hl:N.length=ps.length+n)
  (hb: ∀ kV doc pm an cdv ct us,us.length=ps.length->UR (S4 (RZ f) (RZ f) (bP st) (aQ st) (ak st) .none kV doc pm an cdv ct) ⟨us,[]⟩=pure (ps.zip us))
  (h:N.Nodup-> ∀ base fa cdv A outer s H E k,uT (iE pH P w K mg base N (RZ f) (ak st) fa cdv A outer s H E).mW pg k (aQ st) b):aU P w K mg pg f ⟨ps,n,b⟩ st N :=
 ⟨a,S,hl,hb,h S.nd⟩
end
def eI(i:Int):=eC (.int i)
def eS(x:Str):=eC (.str x)
def eX(i:Nat)(j:Int):=aw aL (aa i) (eI j)
def mQ a b:=aC (aw dE a b)
def a1 a:=ab a ao
def a2 a b:=ab a (a1 b)
def a3 a b d:=ab a (a2 b d)
section
variable{a b d:ME}{c:CF}{e:aM}{h:PH}{i:Nat}{j:Int}{s:Str}{x y z v:PV}
theorem F2:eI j c e h= .ok (.int j) h:=rfl
theorem Ni:eS s c e h= .ok (.str s) h:=rfl
def xk(o:Option (Option PV)) j h:=(Gn o h).bind λx h1=>aL x (.int j) h1
theorem Ng:eX i j c e h=xk (e[i]?) j h:=rfl
theorem LD:xk (fv (fv v)) j h=aL v (.int j) h:=rfl
def OU x y h:=(dE x y h).bind qP
def Q6(b:ME) c e x h:=(b c e h).bind (OU x)
theorem Oi:mQ a b c e h=(a c e h).bind (Q6 b c e):=by
 show((a c e h).bind _).bind qP=_;cases a c e h with
 | ok x h1 =>
  show((b c e h1).bind _).bind qP=(b c e h1).bind (OU x)
  cases b c e h1<;>rfl
 | _=>rfl
theorem JB:Q6 b c e x h=(b c e h).bind (OU x):=rfl
theorem KS:OU x y h=(dE x y h).bind qP:=rfl
noncomputable def Qt(x:PV)(h:PH):RV (List PV):= .ok [x] h
theorem Nx:a1 a c e h=(a c e h).bind Qt:=rfl
theorem JU:Qt x h= .ok [x] h:=rfl
noncomputable def OS(x y:PV)(h:PH):RV (List PV):= .ok [x,y] h
def Qu(b:ME) c e x h:=(b c e h).bind (OS x)
theorem FT:a2 a b c e h=(a c e h).bind (Qu b c e):=by
 show(a c e h).bind _=_;cases a c e h with
 | ok x h1 =>
  show((b c e h1).bind _).bind _=(b c e h1).bind (OS x)
  cases b c e h1<;>rfl
 | _=>rfl
theorem Kl:Qu b c e x h=(b c e h).bind (OS x):=rfl
theorem Gq:OS x y h= .ok [x,y] h:=rfl
noncomputable def O3(x y z:PV)(h:PH):RV (List PV):= .ok [x,y,z] h
def OP(d:ME) c e x y h:=(d c e h).bind (O3 x y)
def Ra(b d:ME) c e x h:=(b c e h).bind (OP d c e x)
theorem NJ:a3 a b d c e h=(a c e h).bind (Ra b d c e):=by
 show(a c e h).bind (Hz (a2 b d) c e)=_;cases a c e h with
 | ok x h1 =>
  show(a2 b d c e h1).bind _=(b c e h1).bind (OP d c e x)
  rw[FT]
  cases b c e h1 with
  | ok y h2 =>
   show((d c e h2).bind _).bind _=(d c e h2).bind (O3 x y)
   cases d c e h2<;>rfl
  | _=>rfl
 | _=>rfl
theorem Ip:Ra b d c e x h=(b c e h).bind (OP d c e x):=rfl
theorem HP:OP d c e x y h=(d c e h).bind (O3 x y):=rfl
theorem HJ:O3 x y z h= .ok [x,y,z] h:=rfl
end
section
variable{X:Cx}{pg:Tb}{k:Nat}{body:List W5}{h₀ :ExceptHandler}{hs:List ExceptHandler}{pos:Pos}{m:MS}
theorem HL(nx: ∀ v s,¬ X.xe v s)(h:tJ X body t):PS X (.Try body (h₀ ::hs) [] [] pos) t:=λpins s σ H D I hw =>
 wpAny_Try_except (Sq (h pins s σ H D I hw) (λf s1 q=>by
  cases f with
  | next=>exact Vv q
  | _=>exact q) λv s z=>(nx v s z).elim)
theorem G6(hb:uT X pg k body m):JS X pg k (.Try body (h₀ ::hs) [] [] pos) m:=⟨λA=>by obtain⟨t,q,s⟩:=hb.h A;exact⟨t,⟨HL A.mW q.h⟩,s⟩⟩
end
abbrev P7(h:S6)(z TI TO T:RQ)(b:Bool):Prop :=
 h.get? z=fv { cls:= .type "zip",dict:=Rv,data:= .fields #[.int (T:Int) 0,.bool b,.bool false,.ref TI,.ref TO],slots:= #[]}
section
variable{prog:Sv}{w:SQ}{A:Ti}{E:RA->RD->Prop}{s:RD}
structure MZ(h:S6)(z TI TO i1 i2 l1 l2:RQ)(k:Nat)(xs ys:Array RA):Prop where
 st:(∃ a b,IsZip h z TI TO .none/\WX h TO a b)\/ ∃ T b o,P7 h z TI TO T b/\h.get? T=fv o/\T≠z/\T≠i1/\T≠i2/\T≠TO
 aj:WX h TI (.ref i1) (.ref i2)
 one:h.IsListIter i1 l1 k
 two:h.IsListIter i2 l2 k
 l1:h.IsList l1 xs
 l2:h.IsList l2 ys
theorem MZ.ty{TI TO l1 l2}(Z:MZ s.heap z TI TO i1 i2 l1 l2 k xs ys):s.TypeIs (.ref z) "zip" :=by
 rcases Z.st with⟨a,b,e,_⟩ | ⟨T,b,o,e,_⟩
 . exact⟨_,e,rfl⟩
 . exact⟨_,e,rfl⟩
end
end P3
end
section
open PySem PySem.W PyProof.Rows
namespace L2
open PySem PySem.Spec PyProof.Rows
section
variable{X:Cx}
noncomputable def Rq:R2:=λx y H Q=> ∃ a b,x= .bl a/\y= .bl b/\Q (.bl (a == b)) H
noncomputable def IS:R2:=λx y H Q=> ∃ a b,x= .bl a/\y= .bl b/\Q (.bl (a !=b)) H
theorem Oc:bR X (R9 .Is) Rq:=by
 intro pins s σ H x y v u Q I rx ry h;obtain⟨a,b,rfl,rfl,q⟩:=h;cases rx;cases ry;exact is_bool ⟨.bl _,H,I,rfl,q⟩
theorem Bj:bR X (R9 .IsNot) IS:=by
 intro pins s σ H x y v u Q I rx ry h;obtain⟨a,b,rfl,rfl,q⟩:=h;cases rx;cases ry;exact isnot_bool ⟨.bl _,H,I,rfl,q⟩
def O8:V->List V->Hp->VK->Prop:=λx vs H Q=> ∃ l xs,x= .ref l/\vs=[]/\H l=fv (.lst xs)/\Q .non (upd H l (.lst xs.reverse))
theorem Hf:NF X "list.reverse" O8:=by
 intro pins s σ H x vs v us Q I rx rv h;obtain⟨l,xs,rfl,rfl,hH,q⟩:=h;cases rx;obtain rfl:=rv.zero;obtain⟨z,aj,n,r,hl,e⟩:=I.uv hH;refine TR F.slot_list_reverse ⟨_,e,rfl⟩ F.entry_list_reverse (F.args_list_reverse_1 _) (AutoListH.list_reverse_list_0 l aj.toArray n (by rw[R6];omega)) ⟨e,?_⟩;exact⟨.non,_,I.Gm (its':=aj.reverse) hH e (by simp) r.reverse (by rw[List.length_reverse];exact z),rfl,q⟩
end
end L2
namespace P3
open PySem PySem.Spec PyProof.Rows L2
section
variable{X:Cx}{pg:Tb}{k:Nat}
noncomputable def FL(x y:PV)(h:PH):RV PV:=match x,y with
 | .bl a,.bl b=> .ok (.bl (a == b)) h
 | _,_=> .no
noncomputable def qH(x y:PV)(h:PH):RV PV:=match x,y with
 | .bl a,.bl b=> .ok (.bl (a !=b)) h
 | _,_=> .no
theorem PD:bQ X pg k-> ∃ r,bR X (R9 .Is) r/\kb X.K r FL:=λ_=>⟨_,Oc,fun ρ h H x y x' y' Q v h' s rx ry q P=>by
 unfold FL at q;split at q
 . cases q;rw[rel] at rx ry;exact⟨_,_,rx,ry,P _ ρ H (.refl _ _) s (by rw[rel])⟩
 . cases q⟩
theorem D6:bQ X pg k-> ∃ r,bR X (R9 .IsNot) r/\kb X.K r qH:=λ_=>⟨_,Bj,fun ρ h H x y x' y' Q v h' s rx ry q P=>by
 unfold qH at q;split at q
 . cases q;rw[rel] at rx ry;exact⟨_,_,rx,ry,P _ ρ H (.refl _ _) s (by rw[rel])⟩
 . cases q⟩
theorem Pb{a b:Bool}{h:PH}:FL (.bl a) (.bl b) h= .ok (.bl (a == b)) h:=(rfl)
theorem ai.rev{K:Rx}{ρ :List RQ}{H:Hp}: ∀{xs:List PV}{vs:List V},ai K ρ H xs vs->ai K ρ H xs.reverse vs.reverse
 | [],vs,h=>by rw[ai] at h;subst h;simp[ai]
 | x::r,vs,h=>by
  obtain⟨v,t,rfl,r1,r2⟩:=aq.mp h;rw[U2,U2];exact ai.app (ai.rev r2) (aq.mpr ⟨_,_,rfl,r1,by rw[ai]⟩)
def xT(x:PV)(vs:List PV)(h:PH):RV PV:=match x,vs with
 | .ref n,[]=>(match h[n]? with
  | some (.lst xs)=> .ok .non (h.set n (.lst xs.reverse))
  | _=> .no)
 | _,_=> .no
theorem Oy:bQ X pg k-> ∃ r,zB X "list.reverse" r/\Lm X.K "list" r xT cu:=λA=>⟨_,Hf,fun ρ h H x x' s r e=>jE s r e,fun ρ h H x x' xs us Q v h' s rx rs q P=>by
 unfold xT at q;split at q
 . rename_i n;split at q
   . rename_i ys en;cases q;obtain⟨b,vs,rfl,ea,e1,e2⟩:=s.lst en rx;rw[ai] at rs;have g:Gr ρ H ρ (upd H b (.lst vs.reverse)):=Gr.write (.inl ⟨_,e1⟩);exact⟨b,vs,rfl,rs,e1,P _ ρ _ g (s.write en ea rfl rfl ⟨_,aX,ai.gr g _ _ e2.rev⟩) (by rw[rel])⟩
   . cases q
 . cases q⟩
theorem MH{n:Nat}{h:PH}{xs:List PV}(e:h[n]?=fv (.lst xs)):xT (.ref n) [] h= .ok .non (h.set n (.lst xs.reverse)):=by simp[xT,e]
variable{d:Sy}{md:ME}{apos cpos:Pos}
theorem Ml{name:Str}{id T:String}{f:PV->List PV->PH->RV PV}{ty:PV->PH->Bool}(pa:Wr T)(slot:Slot T name id)(hty:Z0 (.builtin id)=pure (.type "method_descriptor"))(hm:bQ X pg k-> ∃ r,zB X id r/\Lm X.K T r f ty)
  (ho:JE X pg k d md) (hbase:TX d name X.env (Tw d X.env)=Tw d X.env:=by rfl) (hline:(apos.endLine == cpos.line)=true:=by rfl) :
  JE X pg k (.Call (.Attribute d name apos) [] [] cpos) (eM f ty md ao):=⟨λA=>by
 obtain⟨_,q0,s0⟩:=ho.h A;obtain⟨_,q,s⟩:=hm A;refine⟨_,⟨Gw pa slot hty q q0.h hbase hline⟩,fun ρ h H e σ Q v h' z r q P=>?_⟩;obtain⟨x,h1,e1,q⟩:=bind_eq.mp q;refine s0 ρ h H e σ _ _ _ z r e1 λx' ρ1 H1 g1 z1 r1=>?_;split at q
 . rename_i ht;exact⟨s.1 ρ1 h1 H1 x x' z1 r1 ht,s.2 ρ1 h1 H1 x x' [] [] Q v h' z1 r1 (by rw[ai]) q (P.gr g1)⟩
 . cases q⟩
end
end P3
end
section
open PySem PySem.W PyProof.Rows
set_option maxHeartbeats 5000000
namespace K30
open PySem L2 P3 PyProof.Rows
noncomputable def top(i:Nat):Stmt:=PySem.Challenge.pw_leastrecord_k30_stuck_hands.main.body.getD i (.Pass ⟨0,0,0,0⟩)
noncomputable def dt:List (Key × PV):=[(.inr "let",(.ktup [(.str "pocket"),(.str "sum")])),(.inr "leap",(.ktup [(.str "target"),(.str "sum")])),(.inr "get",(.ktup [(.str "pocket"),(.str "box")])),(.inr "put",(.ktup [(.str "box"),(.str "sum")])),(.inr "take",(.ktup [(.str "lock")])),(.inr "free",(.ktup [(.str "lock")])),(.inr "send",(.ktup [(.str "lane"),(.str "sum")])),(.inr "fetch",(.ktup [(.str "pocket"),(.str "lane")])),(.inr "say",(.ktup [(.str "door"),(.str "sum")])),(.inr "clock",(.ktup [(.str "pocket")])),(.inr "lot",(.ktup [(.str "pocket"),(.str "chances")])),(.inr "hear",(.ktup [(.str "pocket"),(.str "door")]))]
noncomputable def cj:List (Key × PV):=[(.inr "box",(.int 2)),(.inr "lock",(.int 3)),(.inr "lane",(.int 4)),(.inr "door",(.int 5))]
noncomputable def d8:List (Key × PV):=[(.inr "get",(.str "box")),(.inr "put",(.str "box")),(.inr "take",(.str "lock")),(.inr "free",(.str "lock")),(.inr "send",(.str "lane")),(.inr "fetch",(.str "lane")),(.inr "say",(.str "door"))]
def mJ :=
  (aB (j8 (eB qm (ab (aa 0) (ab (eC (.ty "int")) ao))) (Cu (eB qm (ab (aa 0) (ab (eC (.ty "bool")) ao))))))
def fW:Df:=⟨["thing"],0,mJ⟩
def j4 :=
  (aB (j8 (ah "is_whole" (a1 (aa 0))) (pX OO OO (aa 1) (aa 0) (aa 2))))
def dS:Df:=⟨["thing", "least", "most"],0,j4⟩
def lY :=
  (aB (ah "is_between" (a3 (aa 0) (eI 0) (eI 999))))
def fS:Df:=⟨["thing"],0,lY⟩
def iL :=
  (aB (j8 (eB qm (ab (aa 0) (ab (eC (.ty "tuple")) ao))) (aw dE (eB b9 (a1 (aa 0))) (aa 1))))
def dj:Df:=⟨["thing", "many"],0,iL⟩
def jF :=
  (ag (ar (eX 0 0) (gN 2))
  (ag (ck (mQ (aa 2) (eS "num")) (aB (eX 0 1)) cL)
  (ag (ck (mQ (aa 2) (eS "of")) (aB (zH (eB wC (a1 (aa 1))) (eX 0 1) (eI 0))) cL)
  (ag (ar (ah "worth" (a2 (eX 0 1) (aa 1))) (gN 3))
  (ag (ck (mQ (aa 2) (eS "not")) (aB (yt (mQ (aa 3) (eI 0)) (eI 1) (eI 0))) cL)
  (aB (ah "joined_worth" (ab (aa 2) (ab (aa 3) (ab (ah "worth" (a2 (eX 0 2) (aa 1))) ao))))))))))
def gb:Df:=⟨["tree", "pockets"],2,jF⟩
def gB :=
  (ag (ck (mQ (aa 0) (eS "add")) (aB (aw hJ (aw bM (aa 1) (aa 2)) (eI 1000))) cL)
  (ag (ck (mQ (aa 0) (eS "sub")) (aB (aw hJ (aw Eg (aa 1) (aa 2)) (eI 1000))) cL)
  (ag (ck (mQ (aa 0) (eS "mul")) (aB (aw hJ (aw bE (aa 1) (aa 2)) (eI 1000))) cL)
  (ag (ck (mQ (aa 0) (eS "less")) (aB (yt (aC (aw Lh (aa 1) (aa 2))) (eI 1) (eI 0))) cL)
  (aB (yt (aC (aw dE (aa 1) (aa 2))) (eI 1) (eI 0)))))))
def cG:Df:=⟨["word", "one", "other"],0,gB⟩
def nJ :=
  (ag (ar (aw aL (aa 0) (PM (.ktup [(.str "box"),(.str "lock"),(.str "lane"),(.str "door"),(.str "hand")]) (a1 (aa 1)))) (gN 2))
  (ag (ck (yx (mQ (aa 1) (eS "box")) (mQ (aa 1) (eS "hand"))) (aB (lD 1 (qO (aa 2)) (gN 3) bf (eX 3 0))) cL)
  (aB (eB vz (a1 (aa 2))))))
def gc:Df:=⟨["program", "sort"],1,nJ⟩
def kL :=
  (ag (ar (ah "names_of" (a2 (aa 0) (aa 1))) (gN 3))
  (aB (yt (aC (aw qV (aa 2) (aa 3))) (eM jT cu (aa 3) (a1 (aa 2))) (eC .non))))
def fh:Df:=⟨["program", "sort", "name"],1,kL⟩
def oF :=
  (aB (aw aL (aw aL (eX 0 4) (aa 1)) (eI 1)))
def ig:Df:=⟨["program", "hand"],0,oF⟩
def j7 :=
  (aB (ah "rested" (ab (aa 0) (ab (aa 1) (ab (az (a3 (eI 0) (az ao) (az ao))) ao)))))
def dY:Df:=⟨["program", "hand"],0,j7⟩
def rP :=
  (ag (ar (ah "rows_of" (a2 (aa 0) (aa 1))) (gN 3))
  (ag (ar (aa 2) (gN 4))
  (ag (pK (fj (a1 (eI 200))) (gN 5) (ag (ck (aC (ah "is_rested" (a2 (aa 3) (aa 4)))) (aB (aa 4)) cL)
  (ar (ah "behind_own_row" (ab (aw aL (aa 3) (eX 4 0)) (a1 (aa 4)))) (gN 4))))
  (ag (ck (aC (ah "is_rested" (a2 (aa 3) (aa 4)))) (aB (aa 4)) cL)
  (aB (az (ab (eB b9 (a1 (aa 3))) (a2 (eX 4 1) (eX 4 2)))))))))
def j6:Df:=⟨["program", "hand", "seat"],3,rP⟩
def gG :=
  (aB (Ov (aw dE (eX 1 0) (eB b9 (a1 (aa 0)))) (Cu (ah "is_own_row" (ab (aw aL (aa 0) (eX 1 0)) (a1 (eX 1 2)))))))
def dk:Df:=⟨["rows", "seat"],0,gG⟩
def j3 :=
  (ag (ck (mQ (eX 0 0) (eS "take")) (aB (aw qV (eX 0 1) (aa 1))) cL)
  (ag (ck (mQ (eX 0 0) (eS "free")) (aB (aw gR (eX 0 1) (aa 1))) cL)
  (aB (Ov (aw dE (eX 0 0) (eS "let")) (aw dE (eX 0 0) (eS "leap"))))))
def dP:Df:=⟨["row", "held"],0,j3⟩
def bT :=
  (ag (ar (aw bM (eX 1 0) (eI 1)) (gN 2))
  (ag (ck (mQ (eX 0 0) (eS "let")) (aB (az (ab (aa 2) (ab (ah "laid" (ab (eX 1 1) (ab (eX 0 1) (ab (ah "worth" (a2 (eX 0 2) (eX 1 1))) ao)))) (a1 (eX 1 2)))))) cL)
  (ag (ck (n6 (mQ (eX 0 0) (eS "leap")) (aC (aw gq (ah "worth" (a2 (eX 0 2) (eX 1 1))) (eI 0)))) (aB (az (a3 (eX 0 1) (eX 1 1) (eX 1 2)))) cL)
  (aB (az (a3 (aa 2) (eX 1 1) (eX 1 2)))))))
def a9:Df:=⟨["row", "seat"],1,bT⟩
def uZ :=
  (ag (ar (lD 1 (qO (aa 0)) (gN 4) (aC (aw gq (eX 4 0) (aa 1))) (aa 4)) (gN 3))
  (ag (ck (aC (aw gq (aa 2) (eI 0))) (gM (eM dc cu (aa 3) (ab (az (a2 (aa 1) (aa 2))) ao))) cL)
  (aB (eB bz (ab (eB dy (a1 (aa 3))) ao)))))
def lJ:Df:=⟨["pockets", "name", "value"],1,uZ⟩
def jd :=
  (ag (ar (ah "rows_of" (a2 (aa 0) (aa 1))) (gN 3))
  (ag (ck (aC (aw dE (eX 2 0) (eB b9 (a1 (aa 3))))) (aB (eC .non)) cL)
  (ag (ar (aw aL (aa 3) (eX 2 0)) (gN 4))
  (ag (ar (eS "") (gN 5))
  (ag (ar (eC .non) (gN 6))
  (ag (pK (JD (pB dt (eX 4 0)) (BV (aa 4) (iI (eI 1)) iN)) (gT 2 (aT (gN 7) (aT (gN 8) eF))) (ck (mQ (aa 7) (eS "sum")) (ar (ah "worth" (a2 (aa 8) (eX 2 1))) (gN 6)) (ck (mQ (aa 7) (eS "chances")) (ar (aa 8) (gN 6)) (ck (aC (aw gq (aa 7) (eS "pocket"))) (ar (aa 8) (gN 5)) cL))))
  (aB (az (a3 (eX 4 0) (aa 5) (aa 6))))))))))
def d9:Df:=⟨["program", "hand", "seat"],6,jd⟩
def bX :=
  (ag (ar (aw aL (ah "rows_of" (a2 (aa 0) (aa 1))) (eX 2 0)) (gN 4))
  (ag (ar (eX 2 1) (gN 5))
  (ag (ar (eX 2 2) (gN 6))
  (ag (ck (aC (aw qV (eX 4 0) (eC (.ktup [(.str "get"),(.str "fetch"),(.str "clock"),(.str "lot"),(.str "hear")])))) (ar (ah "laid" (a3 (aa 5) (eX 4 1) (aa 3))) (gN 5)) (ck (mQ (eX 4 0) (eS "take")) (ar (eB bz (ab (eB dy (ab (aw bM (aa 6) (az (a1 (eX 4 1)))) ao)) ao)) (gN 6)) (ck (mQ (eX 4 0) (eS "free")) (ar (eB bz (ab (lD 1 (qO (aa 6)) (gN 7) (aC (aw gq (aa 7) (eX 4 1))) (aa 7)) ao)) (gN 6)) cL)))
  (aB (ah "rested" (ab (aa 0) (ab (aa 1) (ab (az (ab (aw bM (eX 2 0) (eI 1)) (a2 (aa 5) (aa 6)))) ao)))))))))
def bw:Df:=⟨["program", "hand", "seat", "value"],3,bX⟩
def iY :=
  (aB (j8 (ah "is_value" (a1 (aa 1))) (Ov (aw gq (eX 0 0) (eS "lot")) (aw Lh (aa 1) (eX 0 2)))))
def eO:Df:=⟨["touch", "value"],0,iY⟩
def iJ :=
  (ag (ar (ah "hands_of" (a1 (aa 0))) (gN 1))
  (aB (az (ab (eB bz (ab (lD 1 (qO (aa 1)) (gN 2) bf (eI 0)) ao)) (ab (eB bz (ab (lD 1 (qO (aa 1)) (gN 2) bf (ah "first_seat" (a2 (aa 0) (aa 2)))) ao)) (ab (eB bz (ab (lD 1 (qO (eX 0 0)) (gN 2) bf (az (a2 (eX 2 1) (eC .non)))) ao)) (ab (eB bz (ab (lD 1 (qO (eX 0 1)) (gN 2) bf (az (a2 (eC .non) (eC .non)))) ao)) (ab (eB bz (ab (lD 1 (qO (eX 0 2)) (gN 2) bf (az (a3 (eI 0) (eI 0) (az ao)))) ao)) (ab (eB bz (ab (lD 1 (qO (eX 0 3)) (gN 2) bf (eI 0)) ao)) ao)))))))))
def dh:Df:=⟨["program"],1,iJ⟩
def jh :=
  (aB (NM (ab (eB b9 (a1 (eX 0 4))) ao)))
def eL:Df:=⟨["program"],0,jh⟩
def m7 :=
  (aB (aw aL (aw aL (aa 1) (pB cj (aa 2))) (ah "number_of" (a3 (aa 0) (aa 2) (aa 3)))))
def fQ:Df:=⟨["program", "stand", "sort", "name"],0,m7⟩
def cU :=
  (ag (ar (ah "touch_of" (ab (aa 0) (ab (aa 2) (ab (aw aL (eX 1 1) (aa 2)) ao)))) (gN 3))
  (ag (ck (aC (qQ (dq false) (aa 3))) (aB (eS "end")) cL)
  (ag (ck (mQ (eX 3 0) (eS "take")) (ag (ar (aw aL (ah "state_of" (ab (aa 0) (a3 (aa 1) (eS "lock") (eX 3 1)))) (eI 0)) (gN 4))
  (aB (yt (aC (qQ (dq false) (aa 4))) (eC .non) (az (a3 (eS "lock") (eX 3 1) (aa 4)))))) cL)
  (ag (ck (n6 (mQ (eX 3 0) (eS "fetch")) (aC (aw dE (aw aL (ah "state_of" (ab (aa 0) (a3 (aa 1) (eS "lane") (eX 3 1)))) (eI 2)) (az ao)))) (aB (az (a2 (eS "letter") (eX 3 1)))) cL)
  (aB (eC .non))))))
def bS:Df:=⟨["program", "stand", "hand"],2,cU⟩
def vw:MS :=
  (aB (eB bz (ab (lD 1 (qO (ah "hands_of" (a1 (aa 0)))) (gN 2) bf (ah "wait_of" (a3 (aa 0) (aa 1) (aa 2)))) ao)))
def lG:Df:=⟨["program", "stand"],0,vw⟩
def sR:MS :=
  (aB (lD 2 (wy (ah "waits" (a2 (aa 0) (aa 1)))) (gT 2 (aT (gN 2) (aT (gN 3) eF))) (aC (qQ (dq false) (aa 3))) (aa 2)))
def jU:Df:=⟨["program", "stand"],0,sR⟩
def iZ:MS :=
  (ag (ar (ah "waits" (a2 (aa 0) (aa 1))) (gN 2))
  (aB (j8 (aw gR (eC .non) (aa 2)) (eB DP (ab (lD 1 (qO (aa 2)) (gN 3) bf (aw gq (aa 3) (eS "end"))) ao)))))
def eG:Df:=⟨["program", "stand"],1,iZ⟩
def tM :=
  (ag (ar (ah "due_touch" (ab (aa 0) (a3 (aa 1) (aa 2) (aa 3)))) (gN 4))
  (ag (ar (eX 4 0) (gN 5))
  (ag (ar (eX 4 1) (gN 6))
  (ag (ck (aC (aw qV (aa 5) (eC (.ktup [(.str "clock"),(.str "lot"),(.str "hear")])))) (aB (az (ab (ah "with_hand_on" (ab (aa 0) (a3 (aa 1) (aa 2) (aa 3)))) (ab (az (ab (aa 5) (a3 (aa 6) (aa 3) (eC .non)))) ao)))) cL)
  (ag (ar (pB d8 (aa 5)) (gN 7))
  (ag (ar (ah "meeting" (ab (aa 4) (ab (az (ab (aa 2) (ab (aw aL (eX 1 0) (aa 2)) ao))) (ab (ah "state_of" (ab (aa 0) (a3 (aa 1) (aa 7) (aa 6)))) ao)))) (gN 8))
  (ag (ar (ah "with_state" (ab (aa 0) (ab (aa 1) (a3 (aa 7) (aa 6) (eX 8 2))))) (gN 9))
  (aB (az (ab (ah "with_hand_on" (ab (aa 0) (a3 (aa 9) (aa 2) (eX 8 0)))) (ab (az (ab (aa 5) (a3 (aa 6) (eX 8 0) (eX 8 1)))) ao)))))))))))
def nB:Df:=⟨["program", "stand", "hand", "gift"],6,tM⟩
def kZ :=
  (ag (ck (qG (aC (ah "is_between" (ab (aa 2) (ab (eI 0) (ab (aw Eg (eB b9 (a1 (eX 0 4))) (eI 1)) ao)))))) gH cL)
  (ag (ar (ah "wait_of" (a3 (aa 0) (aa 1) (aa 2))) (gN 4))
  (ag (ck (mQ (aa 4) (eS "end")) gH cL)
  (ag (ck (aC (qQ (dq true) (aa 4))) gH cL)
  (ag (ar (ah "touch_of" (ab (aa 0) (ab (aa 2) (ab (aw aL (eX 1 1) (aa 2)) ao)))) (gN 5))
  (ag (ck (qG (aC (ah "takes_gift" (a2 (aa 5) (aa 3))))) gH cL)
  (aB (aa 5))))))))
def fg:Df:=⟨["program", "stand", "hand", "gift"],2,kZ⟩
def fR :=
  (aB (yt (aC (aw qV (eX 0 0) (eC (.ktup [(.str "clock"),(.str "lot"),(.str "hear")])))) (ah "may_come" (a2 (aa 0) (aa 1))) (qQ (dq false) (aa 1))))
def cD:Df:=⟨["touch", "gift"],0,fR⟩
def cv :=
  (ag (ar (eX 0 0) (gN 3))
  (ag (ar (eX 0 2) (gN 4))
  (ag (ck (mQ (aa 3) (eS "get")) (aB (az (a3 (eX 2 0) (eX 2 1) (aa 2)))) cL)
  (ag (ck (mQ (aa 3) (eS "put")) (aB (az (ab (aa 4) (ab (eX 2 1) (ab (az (a2 (aa 4) (aa 1))) ao))))) cL)
  (ag (ck (mQ (aa 3) (eS "take")) (aB (az (ab (eC .non) (ab (eX 2 1) (ab (az (a2 (eX 1 0) (eX 2 1))) ao))))) cL)
  (ag (ck (mQ (aa 3) (eS "free")) (aB (az (ab (eC .non) (ab (eC .non) (ab (az (a2 (eC .non) (aa 1))) ao))))) cL)
  (ag (ck (mQ (aa 3) (eS "send")) (aB (az (ab (aa 4) (ab (eX 2 0) (ab (az (ab (aw bM (eX 2 0) (eI 1)) (ab (eX 2 1) (ab (aw bM (eX 2 2) (az (a1 (aa 4)))) ao)))) ao))))) cL)
  (ag (ck (mQ (aa 3) (eS "fetch")) (aB (az (ab (aw aL (eX 2 2) (eI 0)) (ab (eX 2 1) (ab (az (ab (eX 2 0) (ab (aw bM (eX 2 1) (eI 1)) (ab (BV (eX 2 2) (iI (eI 1)) iN) ao)))) ao))))) cL)
  (aB (az (ab (aa 4) (ab (aa 2) (ab (aw bM (aa 2) (eI 1)) ao)))))))))))))
def bL:Df:=⟨["touch", "event", "state"],2,cv⟩
def gD :=
  (ag (ar (ah "seat_behind" (ab (aa 0) (ab (aa 2) (ab (aw aL (eX 1 1) (aa 2)) (a1 (aa 3)))))) (gN 4))
  (ag (ar (ah "replaced" (ab (aa 1) (ab (eI 0) (ab (ah "replaced" (ab (eX 1 0) (ab (aa 2) (ab (aw bM (aw aL (eX 1 0) (aa 2)) (eI 1)) ao)))) ao)))) (gN 5))
  (aB (ah "replaced" (ab (aa 5) (ab (eI 1) (ab (ah "replaced" (a3 (eX 1 1) (aa 2) (aa 4))) ao)))))))
def cA:Df:=⟨["program", "stand", "hand", "value"],2,gD⟩
def jw :=
  (ag (ar (pB cj (aa 2)) (gN 5))
  (aB (ah "replaced" (ab (aa 1) (ab (aa 5) (ab (ah "replaced" (ab (aw aL (aa 1) (aa 5)) (ab (ah "number_of" (a3 (aa 0) (aa 2) (aa 3))) (a1 (aa 4))))) ao))))))
def dR:Df:=⟨["program", "stand", "sort", "name", "state"],1,jw⟩
def mT :=
  (aB (aw bM (aw bM (BV (aa 0) iN (iI (aa 1))) (az (a1 (aa 2)))) (BV (aa 0) (iI (aw bM (aa 1) (eI 1))) iN)))
def gh:Df:=⟨["parts", "place", "part"],0,mT⟩
def rH :=
  (ag (ck (yx (qG (aC (eB qm (ab (aa 2) (ab (eC (.ty "tuple")) ao))))) (aC (aw KY (eB b9 (a1 (aa 2))) (eI 60)))) gH cL)
  (ag (ar (aa 1) (gN 3))
  (ag (ar (cY ao) (gN 4))
  (ag (pK (wy (aa 2)) (gT 2 (aT (gN 5) (aT (gN 6) eF))) (ag (ck (qG (aC (ah "is_tuple_of" (a2 (aa 6) (eI 2))))) gH cL)
  (ag (ar (ah "stepped" (ab (aa 0) (a3 (aa 3) (aa 5) (aa 6)))) (gN 7))
  (ag (ar (eX 7 0) (gN 3))
  (gM (eM dc cu (aa 4) (ab (az (a2 (eX 6 0) (eX 7 1))) ao)))))))
  (aB (az (ab (aa 3) (ab (eB bz (a1 (aa 4))) ao))))))))
def jB:Df:=⟨["program", "stand", "run"],5,rH⟩
def oU :=
  (aB (ah "gone" (ab (aa 0) (a3 (aa 1) (eX 3 0) (eX 3 1)))))
def iD:Df:=⟨["program", "stand", "place", "step"],1,oU⟩
def jn :=
  (ag (ar (aw bE (eI 7919) (aa 1)) (gN 2))
  (ag (ck (aC (aw KY (eB b9 (a1 (aa 0))) (eI 0))) (ar (aw bM (aw aL (aa 0) (aw hJ (aa 1) (eB b9 (a1 (aa 0))))) (aw bE (eI 1009) (aw l5 (aa 1) (eB b9 (a1 (aa 0)))))) (gN 2)) cL)
  (aB (cY (ab (aw bE (aa 2) (eB CT (ab (aw Pt (aa 2) (aw Cb (eI 10) (eI 18))) ao))) (a2 (aa 2) (eI 0)))))))
def eE:Df:=⟨["_law_script", "_law_k"],1,jn⟩
def gW :=
  (ag (EO A1 (aa 0) (eI 2) (aw bM (eX 0 2) (eI 1)))
  (ag (ck (aC (aw KY (eX 0 0) (eI 0))) (ag (ar (aw hJ (eX 0 0) (aa 1)) (gN 2))
  (ag (EO A1 (aa 0) (eI 0) (aw l5 (eX 0 0) (aa 1)))
  (aB (aa 2)))) cL)
  (ag (ar (aw hJ (aw bE (aw bM (aw hJ (eX 0 1) (eI 2147483647)) (aw bE (eI 31) (eX 0 2))) (eI 48271)) (eI 2147483629)) (gN 3))
  (ag (ar (aw hJ (aw bE (aw bM (aw l5 (aa 3) (eI 11)) (aw bE (eI 17) (eX 0 2))) (eI 69621)) (eI 2147483587)) (gN 3))
  (aB (aw hJ (aw l5 (aa 3) (eI 7)) (aa 1)))))))
def dw:Df:=⟨["_law_box_here", "_law_many"],2,gW⟩
def jN:MS :=
  (ag (ar (cY ao) (gN 3))
  (ag (pK (fj (a1 (aa 1))) (gN 4) (ag (ar (cY (ab (aw aL (aa 0) (aa 4)) (ab (aw aL (aa 0) (aw hJ (aw bM (aa 4) (eI 1)) (aa 1))) ao))) (gN 5))
  (ag (ck (aC (aw dE (aa 4) (aa 2))) (gM (eM xT cu (aa 5) ao)) cL)
  (ag (ar (az (ab (az (a2 (eS "take") (eX 5 0))) (ab (az (a2 (eS "take") (eX 5 1))) (ab (az (a2 (eS "free") (eX 5 0))) (ab (az (a2 (eS "free") (eX 5 1))) ao))))) (gN 6))
  (gM (eM dc cu (aa 3) (ab (az (ab (aw bM (eS "hand") (aw aL (eS "abcd") (aa 4))) (a1 (aa 6)))) ao)))))))
  (aB (az (ab (az ao) (ab (eB bz (ab (BV (aa 0) iN (iI (aa 1))) ao)) (ab (az ao) (ab (az ao) (ab (eB bz (a1 (aa 3))) ao)))))))))
def dU:Df:=⟨["_law_names", "_law_many", "_law_turned"],4,jN⟩
def jS:MS :=
  (ag (ar (cY ao) (gN 3))
  (ag (pK (fj (a1 (aa 1))) (gN 4) (ag (ar (az (ab (az (ab (eS "fetch") (ab (eS "p") (ab (aw aL (aa 0) (aa 4)) ao)))) (ab (az (ab (eS "send") (ab (aw aL (aa 0) (aw hJ (aw bM (aa 4) (eI 1)) (aa 1))) (ab (az (a2 (eS "num") (aa 4))) ao)))) ao))) (gN 5))
  (ag (ck (aC (aw dE (aa 4) (aa 2))) (ar (az (a2 (eX 5 1) (eX 5 0))) (gN 5)) cL)
  (gM (eM dc cu (aa 3) (ab (az (ab (aw bM (eS "hand") (aw aL (eS "abcd") (aa 4))) (a1 (aa 5)))) ao))))))
  (aB (az (ab (az ao) (ab (az ao) (ab (eB bz (ab (BV (aa 0) iN (iI (aa 1))) ao)) (ab (az ao) (ab (eB bz (a1 (aa 3))) ao)))))))))
def dN:Df:=⟨["_law_names", "_law_many", "_law_first"],3,jS⟩
def mV:MS :=
  (ag (ar (ah "first_stand" (a1 (aa 0))) (gN 3))
  (ag (ar (az ao) (gN 4))
  (ag (ar (ah "can_go" (a2 (aa 0) (aa 3))) (gN 5))
  (ag (tQ (n6 (aC (aw gq (aa 5) (cY ao))) (aC (aw Lh (eB b9 (a1 (aa 4))) (eI 16)))) (ag (ar (aw aL (aa 5) (ah "_law_take" (ab (aa 1) (ab (eB b9 (a1 (aa 5))) ao)))) (gN 6))
  (ag (ck (aC (aw gq (aa 2) (cY ao))) (ar (eM oT cu (aa 2) (a1 (eI 0))) (gN 6)) cL)
  (ag (ar (aw bM (aa 4) (az (ab (az (a2 (aa 6) (eC .non))) ao))) (gN 4))
  (ag (ar (aw aL (ah "walked" (ab (aa 0) (ab (ah "first_stand" (a1 (aa 0))) (a1 (aa 4))))) (eI 0)) (gN 3))
  (ar (ah "can_go" (a2 (aa 0) (aa 3))) (gN 5)))))))
  (aB (az (a2 (aa 4) (aa 3))))))))
def fT:Df:=⟨["_law_program", "_law_box_here", "_law_picks"],4,mV⟩
def cq:MS :=
  (ag (ar (lD 1 (fj (a1 (aa 1))) (gN 10) bf (eB b9 (ab (lD 1 (qO (aa 2)) (gN 11) (aC (aw dE (eX 11 0) (aa 10))) (aa 11)) ao))) (gN 4))
  (ag (ar (ah "waits" (a2 (aa 0) (aa 3))) (gN 5))
  (ag (ck (aC (aw dE (aa 4) (aw bE (cY (a1 (eI 4))) (aa 1)))) (aB (j8 (aw dE (aa 5) (aw bE (az (a1 (eS "end"))) (aa 1))) (aw FL (ah "is_stuck" (a2 (aa 0) (aa 3))) (eC (.bl false))))) cL)
  (ag (ck (aC (aw qH (ah "is_stuck" (a2 (aa 0) (aa 3))) (eC (.bl true)))) (aB (eC (.bl false))) cL)
  (ag (pK (fj (a1 (aa 1))) (gN 6) (ag (ar (aw aL (aw aL (aw aL (aw aL (eX 0 4) (aa 6)) (eI 1)) (eB Be (ab (aw aL (aa 4) (aa 6)) (a1 (eI 3))))) (eI 1)) (gN 7))
  (ag (ar (aw aL (aw aL (eX 3 3) (ON (eX 0 1) (a1 (aa 7)))) (eI 0)) (gN 8))
  (ag (ar (yt (aC (aw dE (aw aL (aa 4) (aa 6)) (eI 4))) (eS "end") (az (a3 (eS "lock") (aa 7) (aa 8)))) (gN 9))
  (ck (yx (aC (aw gq (aw aL (aa 5) (aa 6)) (aa 9))) (n6 (aC (aw gq (aw aL (aa 4) (aa 6)) (eI 4))) (yx (aC (aw KY (aw aL (aa 4) (aa 6)) (eI 1))) (yx (aC (qQ (dq false) (aa 8))) (aC (aw dE (aa 8) (aa 6))))))) (aB (eC (.bl false))) cL)))))
  (aB (eC (.bl true))))))))
def ba:Df:=⟨["_law_program", "_law_many", "_law_run_here", "_law_stand"],6,cq⟩
def cb:MS :=
  (ag (ar (ah "waits" (a2 (aa 0) (aa 3))) (gN 5))
  (ag (ck (aC (qQ (dq true) (aa 4))) (aB (j8 (aw dE (aa 5) (aw bE (az (a1 (eS "end"))) (aa 1))) (j8 (aw dE (eB b9 (a1 (aa 2))) (aw bE (eI 2) (aa 1))) (aw FL (ah "is_stuck" (a2 (aa 0) (aa 3))) (eC (.bl false)))))) cL)
  (ag (ar (eB bz (ab (lD 1 (fj (a1 (aa 1))) (gN 7) bf (az (ab (eS "letter") (ab (aw aL (eX 0 2) (aa 7)) ao)))) ao)) (gN 6))
  (aB (j8 (aw dE (aa 2) (az ao)) (j8 (aw dE (aa 5) (aa 6)) (aw FL (ah "is_stuck" (a2 (aa 0) (aa 3))) (eC (.bl true)))))))))
def bb:Df:=⟨["_law_program", "_law_many", "_law_run_here", "_law_stand", "_law_first"],2,cb⟩
def zS:MS :=
  (ag (ar (ah "_law_box" (a2 (aa 0) (eI 0))) (gN 1))
  (ag (ar (aw bM (eI 2) (ah "_law_take" (a2 (aa 1) (eI 3)))) (gN 2))
  (ag (ar (cY (ab (eS "a") (a3 (eS "ab") (eS "abc") (eS "locks")))) (gN 3))
  (ag (ar (ah "_law_take" (a2 (aa 1) (eI 4))) (gN 4))
  (ag (ar (aw bM (BV (aa 3) (iI (aa 4)) iN) (BV (aa 3) iN (iI (aa 4)))) (gN 3))
  (ag (ar (aw aL (cY (ab (eC .non) (ab (ah "_law_take" (a2 (aa 1) (aa 2))) ao))) (ah "_law_take" (a2 (aa 1) (eI 2)))) (gN 5))
  (ag (ar (ah "_law_locks" (a3 (aa 3) (aa 2) (aa 5))) (gN 6))
  (ag (pK (qO (cY (ab (cY ao) (ab (yt (aC (qQ (dq false) (aa 5))) (NM (a1 (aa 2))) (cY ao)) ao)))) (gN 7) (ag (ar (ah "_law_run" (a3 (aa 6) (aa 1) (aa 7))) (gT 2 (aT (gN 8) (aT (gN 9) eF))))
  (ag (ck (yx (aC (aw gq (ah "can_go" (a2 (aa 6) (aa 9))) (cY ao))) (qG (aC (ah "_law_locks_right" (ab (aa 6) (a3 (aa 2) (aa 8) (aa 9))))))) (aB (eC (.bl false))) cL)
  (ck (n6 (aC (qQ (dq true) (aa 5))) (aC (aw gq (eB b9 (a1 (aa 8))) (aw bE (eI 4) (aa 2))))) (aB (eC (.bl false))) cL))))
  (ag (ar (ah "_law_lanes" (a3 (aa 3) (aa 2) (aa 5))) (gN 10))
  (ag (ar (ah "_law_run" (a3 (aa 10) (aa 1) (cY ao))) (gT 2 (aT (gN 8) (aT (gN 9) eF))))
  (aB (j8 (aw dE (ah "can_go" (a2 (aa 10) (aa 9))) (cY ao)) (ah "_law_lanes_right" (ab (aa 10) (ab (aa 2) (a3 (aa 8) (aa 9) (aa 5)))))))))))))))))
def yG:Df:=⟨["_law_script"],10,zS⟩
structure bW(pg:Tb):Prop where
 uo:pg.fns "is_whole" =fv fW
 pI:pg.fns "is_between" =fv dS
 t9:pg.fns "is_value" =fv fS
 nO:pg.fns "is_tuple_of" =fv dj
 lu:pg.fns "worth" =fv gb
 mE:pg.fns "joined_worth" =fv cG
 tW:pg.fns "names_of" =fv gc
 sG:pg.fns "number_of" =fv fh
 xo:pg.fns "rows_of" =fv ig
 qi:pg.fns "first_seat" =fv dY
 zI:pg.fns "rested" =fv j6
 rC:pg.fns "is_rested" =fv dk
 qr:pg.fns "is_own_row" =fv dP
 kh:pg.fns "behind_own_row" =fv a9
 Ir:pg.fns "laid" =fv lJ
 uG:pg.fns "touch_of" =fv d9
 nM:pg.fns "seat_behind" =fv bw
 ua:pg.fns "may_come" =fv eO
 oz:pg.fns "first_stand" =fv dh
 ng:pg.fns "hands_of" =fv eL
 ud:pg.fns "state_of" =fv fQ
 xu:pg.fns "wait_of" =fv bS
 EU:pg.fns "waits" =fv lG
 Av:pg.fns "can_go" =fv jU
 ub:pg.fns "is_stuck" =fv eG
 Bd:pg.fns "gone" =fv nB
 rn:pg.fns "due_touch" =fv fg
 qp:pg.fns "takes_gift" =fv cD
 cT:pg.fns "meeting" =fv bL
 m8:pg.fns "with_hand_on" =fv cA
 pP:pg.fns "with_state" =fv dR
 uB:pg.fns "replaced" =fv gh
 Ak:pg.fns "walked" =fv jB
 xY:pg.fns "stepped" =fv iD
 nH:pg.fns "_law_box" =fv eE
 kN:pg.fns "_law_take" =fv dw
 qq:pg.fns "_law_locks" =fv dU
 qz:pg.fns "_law_lanes" =fv dN
 uS:pg.fns "_law_run" =fv fT
 jc:pg.fns "_law_locks_right" =fv ba
 i6:pg.fns "_law_lanes_right" =fv bb
 F5:pg.fns "law" =fv yG
 OL:pg.con "SORTS" =fv (.ktup [(.str "box"),(.str "lock"),(.str "lane"),(.str "door"),(.str "hand")])
 Mw:pg.con "WORTHS" =fv (.int 1000)
 yw:pg.con "MOST_OWN_ROWS" =fv (.int 200)
 Fv:pg.con "POCKETING" =fv (.ktup [(.str "get"),(.str "fetch"),(.str "clock"),(.str "lot"),(.str "hear")])
 LI:pg.con "COUNTS" =fv (.int 0)
 OF:pg.con "SEATS" =fv (.int 1)
 Lp:pg.con "GIFTED" =fv (.ktup [(.str "clock"),(.str "lot"),(.str "hear")])
 El:pg.con "MOST_STEPS" =fv (.int 60)
 dt:pg.vU "ROW_PARTS" =fv dt
 cj:pg.vU "PLACE_OF" =fv cj
 d8:pg.vU "MET_SORT" =fv d8
def fnT:List (String × Df):=[("is_whole",fW),("is_between",dS),("is_value",fS),("is_tuple_of",dj),("worth",gb),("joined_worth",cG),("names_of",gc),("number_of",fh),("rows_of",ig),("first_seat",dY),("rested",j6),("is_rested",dk),("is_own_row",dP),("behind_own_row",a9),("laid",lJ),("touch_of",d9),("seat_behind",bw),("may_come",eO),("first_stand",dh),("hands_of",eL),("state_of",fQ),("wait_of",bS),("waits",lG),("can_go",jU),("is_stuck",eG),("gone",nB),("due_touch",fg),("takes_gift",cD),("meeting",bL),("with_hand_on",cA),("with_state",dR),("replaced",gh),("walked",jB),("stepped",iD),("_law_box",eE),("_law_take",dw),("_law_locks",dU),("_law_lanes",dN),("_law_run",fT),("_law_locks_right",ba),("_law_lanes_right",bb),("law",yG)]
noncomputable def conT:List (Str × PV):=[("SORTS",(.ktup [(.str "box"),(.str "lock"),(.str "lane"),(.str "door"),(.str "hand")])),("WORTHS",(.int 1000)),("MOST_OWN_ROWS",(.int 200)),("POCKETING",(.ktup [(.str "get"),(.str "fetch"),(.str "clock"),(.str "lot"),(.str "hear")])),("COUNTS",(.int 0)),("SEATS",(.int 1)),("GIFTED",(.ktup [(.str "clock"),(.str "lot"),(.str "hear")])),("MOST_STEPS",(.int 60))]
def dcT:List (Str × List (Key × PV)):=[("ROW_PARTS",dt),("PLACE_OF",cj),("MET_SORT",d8)]
def tb:Tb:=⟨λf=>(fnT.find? λp=>p.1 == f).map (·.2),λx=>(conT.find? λp=>decide (p.1=x)).map (·.2),λx=>(dcT.find? λp=>decide (p.1=x)).map (·.2)⟩
theorem aI{l:List (String × Df)}(nd:(l.map (·.1)).Nodup)(i:Nat)(e:l[i]?=fv (f,d)):(l.find? λp=>p.1 == f).map (·.2)=fv d:=by
 induction l generalizing i d with
 | nil=>cases e
 | cons x l ih =>
  rw[RL,Us] at nd
  cases i with
  | zero =>
   simp_all
  | succ i =>
   rw[S8] at e
   have m:=RN e
   have ne: ¬ (x.1 == f)=true:=λz=>nd.1 (by rw[beq_iff_eq.mp z];exact Se.mpr ⟨_,m,rfl⟩)
   rw[List.find?_cons_of_neg (p:=λp:String × Df=>p.1 == f) ne]
   exact ih nd.2 i e
theorem aH:(fnT.map (·.1)).Nodup:=by decide +kernel
theorem has:bW tb:=⟨aI aH 0 rfl,aI aH 1 rfl,aI aH 2 rfl,aI aH 3 rfl,aI aH 4 rfl,aI aH 5 rfl,aI aH 6 rfl,aI aH 7 rfl,aI aH 8 rfl,aI aH 9 rfl,aI aH 10 rfl,aI aH 11 rfl,aI aH 12 rfl,aI aH 13 rfl,aI aH 14 rfl,aI aH 15 rfl,aI aH 16 rfl,aI aH 17 rfl,aI aH 18 rfl,aI aH 19 rfl,aI aH 20 rfl,aI aH 21 rfl,aI aH 22 rfl,aI aH 23 rfl,aI aH 24 rfl,aI aH 25 rfl,aI aH 26 rfl,aI aH 27 rfl,aI aH 28 rfl,aI aH 29 rfl,aI aH 30 rfl,aI aH 31 rfl,aI aH 32 rfl,aI aH 33 rfl,aI aH 34 rfl,aI aH 35 rfl,aI aH 36 rfl,aI aH 37 rfl,aI aH 38 rfl,aI aH 39 rfl,aI aH 40 rfl,aI aH 41 rfl,rfl,rfl,rfl,rfl,rfl,rfl,rfl,rfl,rfl,rfl,rfl⟩
local macro_rules
 | `(tactic| array_get_dec)=> do
  let tm (x:String):Lean.MacroM Lean.Term:=match x with
   | "?"=>`(?_)
   | "_"=>`(_)
   | "A"=>`(by assumption)
   | "R"=>`(rfl)
   | "F"=>`(λ_ _=>rfl)
   | "K"=>`(by decide +kernel)
   | "D"=>`(by decide)
   | "Q"=>`(⟨rfl,rfl,rfl,rfl⟩)
   | "L"=>`(λ_ _ _ _ _ _=>⟨λ_=>?_,?_,?_⟩)
   | "O"=>`(by first | exact Zj rfl | exact X7 rfl)
   | "Z"=>`(by intro z;cases z)
   | "w"=>`(Bc _)
   | x=>pure (Lean.mkIdent x.toName)
  let al (a:String):Lean.MacroM (Lean.TSyntax `tactic):=do
   match a.splitOn " " with
   | ["p",q,n]=>`(tactic| refine $(Lean.mkIdent q.toName) ($(Lean.mkIdent n.toName) ?_ ?_))
   | [n]=>`(tactic| refine $(Lean.mkIdent n.toName))
   | n::r=>do
     let ts ← r.toArray.mapM tm
     `(tactic| refine $(Lean.mkIdent n.toName) $ts*)
   | []=>Lean.Macro.throwUnsupported
  let fs (x:List (Lean.TSyntax `tactic)):Lean.MacroM (Lean.TSyntax `tactic):=do
   let e ← `(tactic| fail)
   x.foldrM (λa b=>`(tactic| first | $a:tactic | $b:tactic)) e
  let gr (g:String):Lean.MacroM (Lean.TSyntax `tactic):=do
   match g.splitOn ":" with
   | [h,b]=>do
     let y ← fs (← (b.splitOn "|").mapM al)
     match h.splitOn " " with
     | [n,k]=>do
       let hs ← (Array.range k.toNat!).mapM λ_=>`(_)
       `(tactic| (show $(Lean.mkIdent n.toName) $hs*;$y:tactic))
     | _=>Lean.Macro.throwUnsupported
   | _=>Lean.Macro.throwUnsupported
  let a ← ("JE 5:Ku _|Jj|GB|Il|L6|Ot Pe ? ? F|CH A R ?|Nh ? ? ?|yb R R ?|w4 A R ?|xq ? ?|Ig ?|Gh ?|yH ? ? ? w|yH ? ? ? R|G7 ?|zr ? ? ? ? ?|KJ ?|JR ? ?|Ls ? ?|IB ?|AA ? ? ?|CD A R ? F|zP ? ? ?|EZ ? ? ? Q|GD ? L|G2 ? L|Hn A R|zM Lq R K PySem.boot_len ?|zM L8 R K boot_isinstance ?|zM N0 R K boot_min ?|zM Mv R K boot_any ?|zM yj R K boot_sorted ?|DQ MR R K boot_int ?|DQ EE R K boot_tuple ?|DQ K4 R K boot_list ?|DQ Ij R K boot_dict ?|tD R K boot_int|tD R K boot_bool|tD R K boot_list|tD R K boot_tuple|tD R K boot_dict|Im PySem.F.plainAttrs_list PySem.F.slot_list_append PySem.F.type_list_append Bn ? ?|Im PySem.F.plainAttrs_list PySem.F.slot_list_pop PySem.F.type_list_pop J6 ? ?|Im PySem.F.plainAttrs_list PySem.F.slot_list_index PySem.F.type_list_index zL ? ?|Ml PySem.F.plainAttrs_list PySem.F.slot_list_reverse PySem.F.type_list_reverse Oy ?#JA 5:Kk|Ci ? ?#uT 5:DG|B8 ?|yO ? ?#JS 5:Jp A ? L|G0 A ? L|Gy A R O ?|N3 ? ? ?|K7 ?|DM ?|Jw LJ ? ? ?|G4 ? ?|KQ ? ? ? PassesOwn.never|Aj ? ? PassesOwn.never|G6 ?|AJ#JT 5:zJ ? ? ? w|zJ ? ? ? R|HU ?|Ef ?|p JW.pt AQ|p JW.pt FD|JL ?|IA ?#JW 5:AQ ? ?|FD ? ?|CY ?|Ld ?#JO 5:D2|Dx ?#JG 5:DZ A R O|GO ?#Lr 5:D1|A5 ? ?#JI 6:ym R ?|Kt R ? ?|DY R ?|Jy ?#JF 5:Hc|Gb ?#QG 3:vA A R O|Fi A ?#Ja 3:wF|qR ? ?".splitOn "#").mapM gr
  let b ← ("LU|Ie|Ol|J4|Oq|M5|Pq|PB|Pn|O6|PK|P1|P5|Dq|PD|D6".splitOn "|").mapM al
  let t ← fs (a++b)
  `(tactic| repeat' first | $t:tactic | fail)
local macro_rules
 | `(tactic| clean_wf)=> `(tactic| (refine aU.on (by assumption) ⟨rfl,rfl,rfl,by decide +kernel,rfl,by decide +kernel,by decide +kernel⟩ rfl (λ_ _ _ _ _ _=>by first | exact QQ λ_=>rfl | exact QZ λ_ _=>rfl | exact Q1 λ_ _ _=>rfl | exact Qn λ_ _ _ _=>rfl | exact Ro λ_ _ _ _ _=>rfl) λ_ _ _ _ _ _ _ _ _ _=>?_;obtain⟨⟩:= ‹bW _›; array_get_dec))
section
variable {P:Sv} {w:SQ} {K:Rx} {mg:Str->Option RA} {pg:Tb}
theorem tP(T:bW pg)(a:At K mg "is_whole" (top 1)):aU P w K mg pg "is_whole" fW (top 1) ["thing"]:=by clean_wf
theorem p7(T:bW pg)(a:At K mg "is_between" (top 2)):aU P w K mg pg "is_between" dS (top 2) ["thing", "least", "most"]:=by clean_wf
theorem va(T:bW pg)(a:At K mg "is_value" (top 3)):aU P w K mg pg "is_value" fS (top 3) ["thing"]:=by clean_wf
theorem nQ(T:bW pg)(a:At K mg "is_tuple_of" (top 4)):aU P w K mg pg "is_tuple_of" dj (top 4) ["thing", "many"]:=by clean_wf
theorem Dw(T:bW pg)(a:At K mg "worth" (top 9)):aU P w K mg pg "worth" gb (top 9) ["tree", "pockets", "word", "one"]:=by clean_wf
theorem mZ(T:bW pg)(a:At K mg "joined_worth" (top 10)):aU P w K mg pg "joined_worth" cG (top 10) ["word", "one", "other"]:=by clean_wf
theorem uf(T:bW pg)(a:At K mg "names_of" (top 12)):aU P w K mg pg "names_of" gc (top 12) ["program", "sort", "ones"]:=by
 have z0:(nR ["program", "sort", "ones"] ["one"]).Nodup:=by decide +kernel
 clean_wf
theorem sA(T:bW pg)(a:At K mg "number_of" (top 13)):aU P w K mg pg "number_of" fh (top 13) ["program", "sort", "name", "names"]:=by clean_wf
theorem ya(T:bW pg)(a:At K mg "rows_of" (top 14)):aU P w K mg pg "rows_of" ig (top 14) ["program", "hand"]:=by clean_wf
theorem pE(T:bW pg)(a:At K mg "first_seat" (top 18)):aU P w K mg pg "first_seat" dY (top 18) ["program", "hand"]:=by clean_wf
theorem A6(T:bW pg)(a:At K mg "rested" (top 19)):aU P w K mg pg "rested" j6 (top 19) ["program", "hand", "seat", "rows", "here", "turn"]:=by clean_wf
theorem rp(T:bW pg)(a:At K mg "is_rested" (top 20)):aU P w K mg pg "is_rested" dk (top 20) ["rows", "seat"]:=by clean_wf
theorem qF(T:bW pg)(a:At K mg "is_own_row" (top 21)):aU P w K mg pg "is_own_row" dP (top 21) ["row", "held"]:=by clean_wf
theorem kr(T:bW pg)(a:At K mg "behind_own_row" (top 22)):aU P w K mg pg "behind_own_row" a9 (top 22) ["row", "seat", "onward"]:=by clean_wf
theorem IG(T:bW pg)(a:At K mg "laid" (top 23)):aU P w K mg pg "laid" lJ (top 23) ["pockets", "name", "value", "others"]:=by
 have z0:(nR ["pockets", "name", "value", "others"] ["pocket"]).Nodup:=by decide +kernel
 clean_wf
theorem uX(T:bW pg)(a:At K mg "touch_of" (top 24)):aU P w K mg pg "touch_of" d9 (top 24) ["program", "hand", "seat", "rows", "row", "thing", "value", "part", "entry"]:=by clean_wf
theorem oq(T:bW pg)(a:At K mg "seat_behind" (top 25)):aU P w K mg pg "seat_behind" bw (top 25) ["program", "hand", "seat", "value", "row", "pockets", "held"]:=by
 have z0:(nR ["program", "hand", "seat", "value", "row", "pockets", "held"] ["lock"]).Nodup:=by decide +kernel
 clean_wf
theorem uF(T:bW pg)(a:At K mg "may_come" (top 26)):aU P w K mg pg "may_come" eO (top 26) ["touch", "value"]:=by clean_wf
theorem ox(T:bW pg)(a:At K mg "first_stand" (top 31)):aU P w K mg pg "first_stand" dh (top 31) ["program", "hands"]:=by
 have z0:(nR ["program", "hands"] ["hand"]).Nodup:=by decide +kernel
 have z1:(nR ["program", "hands"] ["box"]).Nodup:=by decide +kernel
 have z2:(nR ["program", "hands"] ["lock"]).Nodup:=by decide +kernel
 have z3:(nR ["program", "hands"] ["lane"]).Nodup:=by decide +kernel
 have z4:(nR ["program", "hands"] ["door"]).Nodup:=by decide +kernel
 clean_wf
theorem vi(T:bW pg)(a:At K mg "hands_of" (top 32)):aU P w K mg pg "hands_of" eL (top 32) ["program"]:=by clean_wf
theorem uV(T:bW pg)(a:At K mg "state_of" (top 33)):aU P w K mg pg "state_of" fQ (top 33) ["program", "stand", "sort", "name"]:=by clean_wf
theorem yn(T:bW pg)(a:At K mg "wait_of" (top 34)):aU P w K mg pg "wait_of" bS (top 34) ["program", "stand", "hand", "touch", "holder"]:=by clean_wf
theorem EK(T:bW pg)(a:At K mg "waits" (top 35)):aU P w K mg pg "waits" lG (top 35) ["program", "stand"]:=by
 have z0:(nR ["program", "stand"] ["hand"]).Nodup:=by decide +kernel
 clean_wf
theorem y0(T:bW pg)(a:At K mg "can_go" (top 36)):aU P w K mg pg "can_go" jU (top 36) ["program", "stand"]:=by
 have z0:(nR ["program", "stand"] ["hand", "wait"]).Nodup:=by decide +kernel
 clean_wf
theorem tN(T:bW pg)(a:At K mg "is_stuck" (top 37)):aU P w K mg pg "is_stuck" eG (top 37) ["program", "stand", "told"]:=by
 have z0:(nR ["program", "stand", "told"] ["wait"]).Nodup:=by decide +kernel
 clean_wf
theorem IP(T:bW pg)(a:At K mg "gone" (top 45)):aU P w K mg pg "gone" nB (top 45) ["program", "stand", "hand", "gift", "touch", "kind", "thing", "sort", "met", "behind"]:=by clean_wf
theorem rF(T:bW pg)(a:At K mg "due_touch" (top 46)):aU P w K mg pg "due_touch" fg (top 46) ["program", "stand", "hand", "gift", "wait", "touch"]:=by clean_wf
theorem pT(T:bW pg)(a:At K mg "takes_gift" (top 47)):aU P w K mg pg "takes_gift" cD (top 47) ["touch", "gift"]:=by clean_wf
theorem xR(T:bW pg)(a:At K mg "meeting" (top 48)):aU P w K mg pg "meeting" bL (top 48) ["touch", "event", "state", "kind", "value"]:=by clean_wf
theorem mU(T:bW pg)(a:At K mg "with_hand_on" (top 49)):aU P w K mg pg "with_hand_on" cA (top 49) ["program", "stand", "hand", "value", "seat", "counted"]:=by clean_wf
theorem qA(T:bW pg)(a:At K mg "with_state" (top 50)):aU P w K mg pg "with_state" dR (top 50) ["program", "stand", "sort", "name", "state", "place"]:=by clean_wf
theorem uW(T:bW pg)(a:At K mg "replaced" (top 51)):aU P w K mg pg "replaced" gh (top 51) ["parts", "place", "part"]:=by clean_wf
theorem Ad(T:bW pg)(a:At K mg "walked" (top 54)):aU P w K mg pg "walked" jB (top 54) ["program", "stand", "run", "here", "touches", "place", "step", "told"]:=by clean_wf
theorem xg(T:bW pg)(a:At K mg "stepped" (top 55)):aU P w K mg pg "stepped" iD (top 55) ["program", "stand", "place", "step", "refusal"]:=by clean_wf
theorem tR(T:bW pg)(a:At K mg "_law_box" (top 57)):aU P w K mg pg "_law_box" eE (top 57) ["_law_script", "_law_k", "_law_cell"]:=by clean_wf
theorem sC(T:bW pg)(a:At K mg "_law_take" (top 58)):aU P w K mg pg "_law_take" dw (top 58) ["_law_box_here", "_law_many", "_law_found", "_law_mixed"]:=by clean_wf
theorem qa(T:bW pg)(a:At K mg "_law_locks" (top 59)):aU P w K mg pg "_law_locks" dU (top 59) ["_law_names", "_law_many", "_law_turned", "_law_hands", "_law_k", "_law_pair", "_law_rows"]:=by clean_wf
theorem qE(T:bW pg)(a:At K mg "_law_lanes" (top 60)):aU P w K mg pg "_law_lanes" dN (top 60) ["_law_names", "_law_many", "_law_first", "_law_hands", "_law_k", "_law_rows"]:=by clean_wf
theorem u6(T:bW pg)(a:At K mg "_law_run" (top 61)):aU P w K mg pg "_law_run" fT (top 61) ["_law_program", "_law_box_here", "_law_picks", "_law_stand", "_law_run_here", "_law_can", "_law_hand"]:=by clean_wf
theorem je(T:bW pg)(a:At K mg "_law_locks_right" (top 62)):aU P w K mg pg "_law_locks_right" ba (top 62) ["_law_program", "_law_many", "_law_run_here", "_law_stand", "_law_made", "_law_told", "_law_hand", "_law_name", "_law_holder", "_law_due"]:=by
 have z0:(nR ["_law_program", "_law_many", "_law_run_here", "_law_stand", "_law_made", "_law_told", "_law_hand", "_law_name", "_law_holder", "_law_due"] ["_law_hand"]).Nodup:=by decide +kernel
 have z1:(nR (nR ["_law_program", "_law_many", "_law_run_here", "_law_stand", "_law_made", "_law_told", "_law_hand", "_law_name", "_law_holder", "_law_due"] ["_law_hand"]) ["_law_one"]).Nodup:=by decide +kernel
 clean_wf
theorem jl(T:bW pg)(a:At K mg "_law_lanes_right" (top 63)):aU P w K mg pg "_law_lanes_right" bb (top 63) ["_law_program", "_law_many", "_law_run_here", "_law_stand", "_law_first", "_law_told", "_law_due"]:=by
 have z0:(nR ["_law_program", "_law_many", "_law_run_here", "_law_stand", "_law_first", "_law_told", "_law_due"] ["_law_hand"]).Nodup:=by decide +kernel
 clean_wf
theorem FH(T:bW pg)(a:At K mg "law" (top 64)):aU P w K mg pg "law" yG (top 64) ["_law_script", "_law_box_here", "_law_many", "_law_names", "_law_turn", "_law_one", "_law_program", "_law_picks", "_law_run_here", "_law_stand", "_law_lanes_here"]:=by clean_wf
end
end K30
end
section
open PySem L2 P3
local macro_rules
 | `(tactic| simp? [$ls,*])=> `(tactic| simp? (disch:=omega) only [$ls,*])
 | `(tactic| simp? (disch:= $t) only [$ls,*])=> do
  let xs ← ("↓F2 ↓Ni ↓Ng LD ↓Oi JB KS ↓Nx JU ↓FT Kl Gq ↓NJ Ip HP HJ ↓M6 KA ↓NK ↓IE Cz ↓Qf IC ↓Hg Ec C7 C9 ↓N4 Ji Hm G5 ↓GP C8 ↓Nm Ho HF HA Gk ↓Jn ↓Dc BH Bk yM zD ↓J0 C4 Cn Dd D8 ↓Fg zR ↓Ff ↓DD ↓Af w9 xE ↓Hi Eu ↓IF EX tL ↓DJ ↓Py ↓PL ↓NT IT Ih C6 CP Cf ↓zX wm EB Dk EH ↓NG ↓Co zY ↓Ge E1 ↓Lf C5 Dt EL E4 ↓JC B1 DU Jt L0 Kd KH Ik JX Oh Iy JH ↓Kj ES DR DC Jd ↓A4 wK AD ↓Ke Kf IK Le Ko IV ↓Ha CJ ↓K5 CM AU yJ ↓Mz JM KC Nq Hr Dr Dm Fd DW GQ gv Ao tS E8 kW List.getElem?_cons_zero List.getElem?_cons_succ List.set_cons_zero List.set_cons_succ List.map_cons List.map_nil List.cons_append List.nil_append List.replicate_succ List.replicate_zero List.length_cons List.length_nil Es Dl lF wj Ac B2 DB KG IM HI Jb Cr vX EN CI BA wQ D3 EJ Fm Io Ba DX MF E2 wu M3 PY len_T HN M8 ↓Kr E6 AI Ck Ea zw Om Ks Eb HV Gx aS D9 oA Eh Ab BQ uz ↓LA Hs Je ↓L5 ↓Na Hl Nk Ph LP List.append_assoc List.length_append Qd Du in_K ↓Md HS NQ MQ Np J5 Gs pW decide_true decide_false Bool.not_true Bool.not_false if_true if_false reduceIte ite_self Bool.false_eq_true String.reduceEq String.reduceNe reduceCtorEq Int.reduceEq Int.reduceNe Int.reduceLT Int.reduceLE Int.reduceSub Int.reduceAdd Int.reduceMul Int.reduceToNat Int.reduceNeg".splitOn " ").toArray.mapM λw=>if w.startsWith "↓" then `(Lean.Parser.Tactic.simpLemma| ↓$(Lean.mkIdent (w.drop 1).toName):term) else `(Lean.Parser.Tactic.simpLemma| $(Lean.mkIdent w.toName):term)
  let ys : Lean.TSyntaxArray [`Lean.Parser.Tactic.simpStar,`Lean.Parser.Tactic.simpErase,`Lean.Parser.Tactic.simpLemma] := ls.getElems ++ xs.map (λx=>⟨x.raw⟩)
  `(tactic| simp (disch:= $t) only [$ys,*])
section
set_option maxHeartbeats 1000000
namespace K30
inductive Bo where | add | sub | mul | less | same
 deriving DecidableEq
noncomputable def Bo.w:Bo->Str
 | .add=> "add" | .sub=> "sub" | .mul=> "mul" | .less=> "less" | .same=> "same"
noncomputable def Bo.f:Bo->Int->Int->Int
 | .add,a,b=>(a+b) % 1000
 | .sub,a,b=>(a - b) % 1000
 | .mul,a,b=>a*b % 1000
 | .less,a,b=>if a < b then 1 else 0
 | .same,a,b=>if a=b then 1 else 0
inductive Sm where
 | num (n:Int) | of (x:Str) | un (a:Sm) | bin (o:Bo) (a b:Sm)
def qo:Sm->PV
 | .num n=> .tup [.str "num",.int n]
 | .of x=> .tup [.str "of",.str x]
 | .un a=> .tup [.str "not",qo a]
 | .bin o a b=> .tup [.str o.w,qo a,qo b]
def Sm.dp:Sm->Nat
 | .num _=>1 | .of _=>1 | .un a=>a.dp+1 | .bin _ a b=>max a.dp b.dp+1
def Sm.ok:Sm->Prop
 | .num n=>0<=n/\n<=999 | .of _=>True | .un a=>a.ok | .bin _ a b=>a.ok/\b.ok
def Sm.val(f:Str->Int):Sm->Int
 | .num n=>n
 | .of x=>f x
 | .un a=>if a.val f=0 then 1 else 0
 | .bin o a b=>o.f (a.val f) (b.val f)
theorem Sm.pS(hf : ∀ x, 0 <= f x /\ f x <= 999) : ∀ e : Sm, e.ok -> 0 <= e.val f /\ e.val f <= 999
  | .num n, h => h
  | .of x, _ => hf x
  | .un a, _ => by unfold Sm.val; split <;> omega
  | .bin o a b, _ => by
    unfold Sm.val Bo.f;cases o <;> simp only <;> first
      | (split <;> omega)
      | exact ⟨UW _ (by decide), by omega⟩
      | exact ⟨UW _ (by decide), by omega⟩
      | exact ⟨UW _ (by decide), by omega⟩
theorem jZ: ∀ e ,(qo e).flat=true
 | .num n=>rfl
 | .of x=>rfl
 | .un a=>by simp[qo,PV.flat,PV.bq,jZ a]
 | .bin o a b=>by simp[qo,PV.flat,PV.bq,jZ a,jZ b]
abbrev Pk:=List (Str × Int)
def sL(ps:Pk):PV:= .tup (ps.map gP)
noncomputable def fP:Pk->Str->Int
 | [],_=>0
 | q::r,x=>if q.1=x then q.2 else fP r x
structure LN(ps:Pk):Prop where
 Pm:(ps.map (·.1)).Pairwise iB
 mem: ∀ q∈ps,1<=q.2/\q.2<=999
 len:ps.length<=20
theorem LN.nd{ps:Pk}(h:LN ps):(ps.map (·.1)).Nodup:=h.Pm.imp λ{a b} z e=>by subst e;exact gf _ z
theorem sU: ∀{ps},(∀ q∈ps,1<=q.2/\q.2<=999)-> ∀ x,0<=fP ps x/\fP ps x<=999
 | [],_,x=>by simp[fP]
 | q::r,h,x=>by
  unfold fP;split
  . have:=h q RU;omega
  . exact sU (λz hz=>h z (RS _ hz)) x
theorem jq: ∀(ps:Pk),PV.bq (ps.map gP)=true
 | []=>rfl
 | q::r=>by simp[PV.bq,gP,PV.flat,jq r]
noncomputable def FN(ps:Pk):List (Key × PV):=ps.map λq=>(.inr q.1,.int q.2)
theorem qU: ∀ ps,jf (ps.map gP)=fv (FN ps)
 | []=>rfl
 | q::r=>by simp[jf,gP,pairP?,iG,qU r,FN]
theorem zC: ∀ ps x,(dm (FN ps) (.inr x)).getD (.int 0)= .int (fP ps x)
 | [],x=>rfl
 | q::r,x=>by
  unfold fP FN;rw[RL];by_cases e:q.1=x
  . rw[if_pos e,e,wu];rfl
  . rw[if_neg e,BI (by simpa using e)];exact zC r x
theorem Cy: ∀{kvs k v},k ∉ kvs.map (λkv:Key × PV=>kv.1)->p6 kvs k v=kvs++[(k,v)]:=by
 intro kvs k v h;unfold p6;rw[if_neg];simp only[Xn,decide_eq_true_eq,not_exists,not_and];exact λx hx e=>h (Se.mpr ⟨x,hx,e⟩)
theorem sx: ∀ more acc,((acc++more).map (λkv:Key × PV=>kv.1)).Nodup->fm acc more=acc++more
 | [],acc,_=>by simp[fm]
 | p::r,acc,h=>by
  have h2:p.1 ∉ acc.map (λkv:Key × PV=>kv.1):=by
   rw[TM,WL] at h;intro m;exact h.2.2 p.1 m p.1 (by simp) rfl
  show fm (p6 acc p.1 p.2) r=_;rw [Cy h2,sx r _ (by simpa using h)];simp
theorem zN(nd : (ps.map (·.1)).Nodup) : fm [] (FN ps) = FN ps := by
  rw [sx _ _ ?_]; · rfl
  have e : ([] ++ FN ps).map (λkv : Key × PV => kv.1) = (ps.map (·.1)).map (UJ (α := Int)) := by unfold FN; rw [SY, Tc, Tc]; rfl
  rw [e];exact List.Pairwise.map _ (λa b z e => z (Sum.inr.inj e)) nd
section
variable {pg:Tb} (T:bW pg)
include T
theorem NA k (o:Bo) a b h (ha:0<=a/\a<=999):run pg (k+1) "joined_worth" [.str o.w,.int a,.int b] h= .ok (.int (o.f a b)) h:=by
 rw[run_eq T.mE rfl];cases o<;>simp? [cG,gB,Bo.w,Bo.f]
 all_goals split<;>rfl
theorem gK h (nd:(ps.map (·.1)).Nodup) (hm: ∀ q∈ps,1<=q.2/\q.2<=999) (hl:ps.length<=1000): ∀ e k,e.ok->e.dp<=k->run pg (k+1) "worth" [qo e,sL ps] h= .ok (.int (e.val (fP ps))) h
 | .num n,k,ho,hk=>by
  rw[run_eq T.lu rfl];simp? [gb,jF,qo,Sm.val]
 | .of x,k,ho,hk=>by
  rw[run_eq T.lu rfl];have hz:(ps.map gP).length < 16777216:=by rw[RB];omega
  simp? [gb,jF,qo,sL,Sm.val,qU,zN nd,zC];exact aK rfl
 | .un a,k,ho,hk=>by
  obtain⟨k,rfl⟩: ∃ j,k=j+1:=⟨k - 1,by unfold Sm.dp at hk;omega⟩
  have ih:=gK h nd hm hl a k ho (by unfold Sm.dp at hk;omega);rw[run_eq T.lu rfl];simp? [gb,jF,qo,Sm.val,ih];split<;>rfl
 | .bin o a b,k,ho,hk=>by
  obtain⟨k,rfl⟩: ∃ j,k=j+1:=⟨k - 1,by unfold Sm.dp at hk;omega⟩
  have ih1:=gK h nd hm hl a k ho.1 (by unfold Sm.dp at hk;omega);have ih2:=gK h nd hm hl b k ho.2 (by unfold Sm.dp at hk;omega);have ij:=NA T k o (a.val (fP ps)) (b.val (fP ps)) h (Sm.pS (sU hm) a ho.1);rw[run_eq T.lu rfl];cases o<;>(simp only[Bo.w] at ij;simp? [gb,jF,qo,Sm.val,ih1,ih2,ij,Bo.w])
end
theorem l6{os:Pk}(e:h[n]?=fv (.lst (os.map gP)))(hl:os.length < 64)(nd:(os.map (·.1)).Nodup):dy [.ref n] h= .ok (.ref h.length) (h++[.lst ((mN os).map gP)]):=by
 have hi:itemsOf h (.ref n)=fv (os.map gP):=by simp[itemsOf,bU,e]
 show jC [.ref n] h=_;unfold jC;simp only[hi];cases os with
 | nil=>simp[dH,cR,mN]
 | cons q r =>
  have e1:dH ((q::r).map gP)=Rv:=rfl
  rw[e1]
  simp only[qX]
  rw[if_pos ⟨hl,nd⟩]
def lay(ps:Pk)(x:Str)(v:Int):Pk:=mN (ps.filter (λq=> !decide (q.1=x))++if v=0 then[] else[(x,v)])
theorem i7(ps:Pk):(mN ps).Perm ps:=Vn ps _
theorem xQ{ps:Pk}(nd:(ps.map (·.1)).Nodup):((mN ps).map (·.1)).Pairwise iB:=by
 have h1:=UI (λa b c=>fH a.1 b.1 c.1) (λa b=>by simpa using hX a.1 b.1) ps;have h2:=((i7 ps).map _).nodup_iff.mpr nd;rw[VM];rw[List.nodup_iff_pairwise_ne,VM] at h2;refine h1.imp₂ (λa b z1 z2=>?_) h2;rcases kg z2 with z | z
 . exact z
 . unfold nK at z1;simp[z] at z1
theorem Jm(nd:(ps.map (·.1)).Nodup): ∀ q∈ps,fP ps q.1=q.2:=by
 induction ps with
 | nil=>simp_all
 | cons p r ih =>
  intro q m
  rw[RL] at nd;rw[Us] at nd
  unfold fP
  rcases RW.mp m with e | m
  . simp_all
  . rw[if_neg (λz=>nd.1 (by rw[z];exact Se.mpr ⟨q,m,rfl⟩))];exact ih nd.2 q m
theorem K3(h:x ∉ ps.map (·.1)):fP ps x=0:=by
 induction ps with
 | nil=>rfl
 | cons p r ih =>
  rw[RL,RW,not_or] at h
  unfold fP
  rw[if_neg (λz=>h.1 z.symm)]
  exact ih h.2
theorem Ae{ps:Pk}(nd:(ps.map (·.1)).Nodup) x (v:Int):((ps.filter (λq=> !decide (q.1=x))++if v=0 then[] else[(x,v)]).map (·.1)).Nodup:=by
 rw[TM];refine WL.mpr ⟨(List.Sublist.map _ Wc).nodup nd,?_,λa ha b hb e=>?_⟩
 . split<;>simp
 . simp_all
structure qD(L:List Str)(ps:Pk):Prop where
 Pm:(ps.map (·.1)).Pairwise iB
 mem: ∀ q∈ps,q.1∈L/\1<=q.2/\q.2<=999
theorem qD.nd(h:qD L ps):(ps.map (·.1)).Nodup:=h.Pm.imp λ{a b} z e=>by subst e;exact gf _ z
theorem qD.len(h:qD L ps):ps.length<=L.length:=by
 have:=VX h.nd (l₂ :=L) (λx hx=>by obtain⟨q,hq,rfl⟩:=Se.mp hx;exact(h.mem q hq).1);simpa using this
theorem qD.nil:qD L []:=⟨.nil,λq m=>by cases m⟩
theorem vc(h:qD L ps)(hx:x∈L)(h0:0<=v)(h9:v<=999):qD L (lay ps x v):=by
 refine⟨xQ (Ae h.nd x v),λq m=>?_⟩;rcases Uq.mp ((i7 _).mem_iff.mp m) with m | m
 . exact h.mem q (TL.mp m).1
 . split at m
   . cases m
   . rw[Sr.mp m];exact⟨hx,show 1<=v by omega,h9⟩
theorem kj x: ∀ ps:Pk,(ps.filterMap λq=>if q.1=x then Rv else fv (gP q))=(ps.filter (λq=> !decide (q.1=x))).map gP
 | []=>rfl
 | q::r=>by
  by_cases z:q.1=x
  . rw[UC (by simp[z]),SO (by simp[z]),kj x r]
  . rw[UD (by rw[if_neg z]),Sw (by simp[z]),RL,kj x r]
section
variable{pg:Tb}(T:bW pg)
include T
theorem vV k h (nd:(ps.map (·.1)).Nodup) x v (hl:(lay ps x v).length<=20) (hp:ps.length<=1000):run pg (k+1) "laid" [sL ps,.str x,.int v] h= .ok (sL (lay ps x v)) h:=by
 rw[run_eq T.Ir rfl];have e1:ip ⟨Rv,ps.map gP⟩ (aR 1 (gN 4) (aC (aw gq (eX 4 0) (aa 1))) (aa 4) (run pg k) [fv (.tup (ps.map gP)),fv (.str x),fv (.int v),Rv]) (ps.map gP) [] h= .ok ([]++ps.filterMap λq=>if q.1=x then Rv else fv (gP q)) h:=by
  refine c8 rfl ps [] (λq m=>?_) (by simp;omega);simp? [gP];by_cases z:q.1=x<;>simp[z]
 rw[kj] at e1;have hl':(ps.filter (λq=> !decide (q.1=x))++if v=0 then[] else[(x,v)]).length<=20:=by rw[<- (i7 _).length_eq];exact hl
 have nd':=Ae nd x v;have hz:((ps.filter (λq=> !decide (q.1=x))).map gP).length < 16777216:=by
  grind
 by_cases hv:v=0
 . subst hv;rw[if_pos rfl,Tq] at hl' nd';have s1:=l6 (h:=h++[.lst ((ps.filter (λq=> !decide (q.1=x))).map gP)]) (n:=h.length) aS (Ws hl' (by decide)) nd';simp? [lJ,uZ,sL,e1,s1];rw[aK (v:= .tup _) (jq _),lay,if_pos rfl,Tq]
 . rw[if_neg hv] at hl' nd';have s1:=l6 (h:=h++[.lst ((ps.filter (λq=> !decide (q.1=x))++[(x,v)]).map gP)]) (n:=h.length) aS (Ws hl' (by decide)) nd';rw[TM] at s1;simp? [lJ,uZ,sL,e1,hv];rw[show aak gP [(x,v)]=[PV.tup [PV.str x,PV.int v]] from rfl] at s1;simp? [s1,SX];rw[aK (v:= .tup _) (jq _),lay,if_neg hv]
end
inductive Rw where
 | let_ (x:Str) (e:Sm) | leap (k:Int) (e:Sm) | take (l:Str) | free (l:Str) | get (x b:Str) | put (b:Str) (e:Sm)
 | send (l:Str) (e:Sm) | fetch (x l:Str) | say (d:Str) (e:Sm) | clock (x:Str) | lot (x:Str) (n:Int) | hear (x d:Str)
noncomputable def Rw.w:Rw->Str
 | .let_ _ _=> "let" | .leap _ _=> "leap" | .take _=> "take" | .free _=> "free" | .get _ _=> "get" | .put _ _=> "put"
 | .send _ _=> "send" | .fetch _ _=> "fetch" | .say _ _=> "say" | .clock _=> "clock" | .lot _ _=> "lot" | .hear _ _=> "hear"
def Rw.ps:Rw->List PV
 | .let_ x e=>[.str x,qo e] | .leap k e=>[.int k,qo e] | .take l=>[.str l] | .free l=>[.str l] | .get x b=>[.str x,.str b] | .put b e=>[.str b,qo e]
 | .send l e=>[.str l,qo e] | .fetch x l=>[.str x,.str l] | .say d e=>[.str d,qo e] | .clock x=>[.str x] | .lot x n=>[.str x,.int n] | .hear x d=>[.str x,.str d]
def ka(r:Rw):PV:= .tup (.str r.w::r.ps)
def eT(rs:List Rw):PV:= .tup (rs.map ka)
structure fq where
 row:Nat
 ps:Pk
 held:List Str
noncomputable def iO(hs:List Str):PV:= .tup (hs.map PV.str)
def ay(s:fq):PV:= .tup [.int s.row,sL s.ps,iO s.held]
noncomputable def own(held:List Str):Rw->Bool
 | .take l=>decide (l∈held)
 | .free l=> !decide (l∈held)
 | .let_ _ _=>true
 | .leap _ _=>true
 | _=>false
def nL(e:Sm):=e.ok/\e.dp<=7
def jg(L:List Str)(n:Nat):Rw->Prop
 | .let_ x e=>x∈L/\nL e
 | .leap k e=>0<=k/\k<=n/\nL e
 | .put _ e=>nL e
 | .send _ e=>nL e
 | .say _ e=>nL e
 | .get x _=>x∈L
 | .fetch x _=>x∈L
 | .clock x=>x∈L
 | .lot x m=>x∈L/\2<=m/\m<=1000
 | .hear x _=>x∈L
 | _=>True
def behind(s:fq):Rw->fq
 | .let_ x e=>⟨s.row+1,lay s.ps x (e.val (fP s.ps)),s.held⟩
 | .leap k e=>if e.val (fP s.ps)=0 then⟨s.row+1,s.ps,s.held⟩ else⟨k.toNat,s.ps,s.held⟩
 | _=>⟨s.row+1,s.ps,s.held⟩
structure cV(L:List Str)(rs:List Rw)(s:fq):Prop where
 pk:qD L s.ps
 le:s.row<=rs.length
theorem pb: ∀ hs:List Str,PV.bq (hs.map PV.str)=true
 | []=>rfl
 | x::r=>by rw[RL,PV.bq,pb r];rfl
theorem jm s:(ay s).flat=true:=by
 simp[ay,PV.flat,PV.bq,sL,jq,iO,pb]
theorem BB r:(ka r).flat=true:=by
 cases r<;>simp[ka,Rw.ps,PV.flat,PV.bq,jZ]
theorem oS: ∀ rs:List Rw,PV.bq (rs.map ka)=true
 | []=>rfl
 | x::r=>by rw[RL,PV.bq,oS r,BB];rfl
def aV(rs:List Rw)(s:fq):Bool:=match rs[s.row]? with
 | none=>true
 | some r=> !own s.held r
def bC rs 
 | 0,s=>if aV rs s then s else⟨rs.length,s.ps,s.held⟩
 | n+1,s=>if aV rs s then s else match rs[s.row]? with
  | none=>s
  | some r=>bC rs n (behind s r)
theorem kD(h:cV L rs s)(hr:jg L rs.length r)(e:rs[s.row]?=fv r):cV L rs (behind s r):=by
 have hlt:=(RC.mp e).1;cases r with
 | let_ x e0 =>
  have hv:=Sm.pS (sU λq m=>(h.pk.mem q m).2) e0 hr.2.1
  exact⟨vc h.pk hr.1 hv.1 hv.2,hlt⟩
 | leap j e0 =>
  show cV L rs (if e0.val (fP s.ps)=0 then⟨s.row+1,s.ps,s.held⟩ else⟨j.toNat,s.ps,s.held⟩)
  split
  . exact ⟨h.pk,hlt⟩
  . exact ⟨h.pk,by have:=hr.2.1;show VF _<=rs.length;omega⟩
 | _=>exact ⟨h.pk,hlt⟩
theorem mG(hr : ∀ r ∈ rs, jg L rs.length r) : ∀ n s, cV L rs s -> cV L rs (bC rs n s)
  | 0, s, h => by unfold bC; split; · exact h
                  . exact ⟨h.pk, Nat.le_refl _⟩
  | n + 1, s, h => by
    unfold bC; split
    . exact h
    . split
      . exact h
      . rename_i r e; exact mG hr n _ (kD h (hr r (RN e)) e)
theorem jG{rs:List Rw}{s:fq}(e:rs[s.row]?=fv r):fN (rs.map ka) (s.row)=fv (ka r):=P3.iC rfl (by simp_all)
section
variable{pg:Tb}(T:bW pg)
include T
theorem IW k h r held:run pg (k+1) "is_own_row" [ka r,iO held] h= .ok (.bl (own held r)) h:=by
 rw[run_eq T.qr rfl];cases r<;>simp? [dP,j3,ka,Rw.w,Rw.ps,iO,own]
theorem xG k h (hL:L.length<=20) (hs:cV L rs s) (hr:jg L rs.length r) (hrow:rs[s.row]?=fv r):run pg (k+9) "behind_own_row" [ka r,ay s] h= .ok (ay (behind s r)) h:=by
 have nd:=hs.pk.nd;have hm:=λq m=>(hs.pk.mem q m).2;have hl:=hs.pk.len;have w: ∀ e:Sm,nL e->run pg (k+8) "worth" [qo e,sL s.ps] h= .ok (.int (e.val (fP s.ps))) h:=λe he=>gK T h nd hm (by omega) e (k+7) he.1 (by have:=he.2;omega);rw[run_eq T.kh rfl];cases r with
 | let_ x e =>
  have hb:=(kD hs hr hrow).pk.len
  have l1:=vV T (k+7) h nd x (e.val (fP s.ps)) (R5 hb hL) (by omega)
  simp? [a9,bT,ka,Rw.w,Rw.ps,ay,behind,w e hr.2,l1]
  rfl
 | leap j e =>
  simp? [a9,bT,ka,Rw.w,Rw.ps,ay,behind,w e hr.2.2]
  by_cases z:e.val (fP s.ps)=0
  . simp_all
  . have:((j.toNat))=j:=by have:=hr.1;omega
    simp only[z,if_false,this]
 | _ =>
  simp? [a9,bT,ka,Rw.w,Rw.ps,ay,behind]
  rfl
theorem jM k h (hs:s.row<=rs.length):run pg (k+2) "is_rested" [eT rs,ay s] h= .ok (.bl (aV rs s)) h:=by
 rw[run_eq T.rC rfl];cases e:rs[s.row]? with
 | none =>
  have:s.row=rs.length:=by grind
  have r1:aV rs s=true:=by unfold aV;rw[e]
  simp? [dk,gG,eT,ay,r1,this,RB]
 | some r =>
  have hlt:=(RC.mp e).1
  have ne: ¬ (s.row)=(rs.length:Int):=by omega
  have ix:=lI (h:=h) (jG e)
  have o1:=IW T k h r s.held
  simp? [dk,gG,eT,ay,aV,e,ne,ix,o1,RB]
def kq(p:PV) j (rs:List Rw):= ∃ a b c d hs nm,p= .tup [a,b,c,d,.tup hs]/\fN hs j=fv (.tup [nm,eT rs])
theorem ji k h (hp:kq p j rs):run pg (k+1) "rows_of" [p,.int j] h= .ok (eT rs) h:=by
 obtain⟨a,b,c,d,hs,nm,rfl,e⟩:=hp;rw[run_eq T.xo rfl];simp? [ig,oF,lI e]
theorem fF k h (hL:L.length<=20) (hp:kq p j rs) (hr: ∀ r∈rs,jg L rs.length r) (hs:cV L rs s):run pg (k+10) "rested" [p,.int j,ay s] h= .ok (ay (bC rs 200 s)) h:=by
 have rest: ∀ xs xs0 s0 s tv,cV L rs s ->
   ((bg ⟨Rv,xs0⟩ (bB (gN 5) (ag (ck (aC (ah "is_rested" (a2 (aa 3) (aa 4)))) (aB (aa 4)) cL) (ar (ah "behind_own_row" (ab (aw aL (aa 3) (eX 4 0)) (a1 (aa 4)))) (gN 4))) (run pg (k+9))) xs
    [fv p,fv (.int j),fv (ay s0),fv (eT rs),fv (ay s),tv] h).bind
    (xS (ag (ck (aC (ah "is_rested" (a2 (aa 3) (aa 4)))) (aB (aa 4)) cL) (aB (az (ab (eB b9 (a1 (aa 3))) (a2 (eX 4 1) (eX 4 2)))))) (run pg (k+9))))= .ok (.rt (ay (bC rs xs.length s))) h:=by
  intro xs xs0 s0
  induction xs with
  | nil =>
   intro s tv hs
   have q:=jM T (k+7) h hs.le
   simp? [iU,bC,q]
   cases aV rs s<;>simp? [ay,eT,RB]
  | cons x xs ih =>
   intro s tv hs
   have q:=jM T (k+7) h hs.le
   rw[gZ]
   simp? [bC,q]
   cases e:rs[s.row]? with
   | none =>
    have r1:aV rs s=true:=by unfold aV;rw[e]
    simp? [r1,Dv]
   | some r =>
    cases r1:aV rs s with
    | true=>rfl
    | false =>
     have hm:=hr r (RN e)
     have ix:=lI (h:=h) (jG e)
     have be:=xG T k h hL hs hm e
     have i0:aL (ay s) (.int 0) h= .ok (.int s.row) h:=rfl
     have ix':aL (eT rs) (.int s.row) h= .ok (ka r) h:=ix
     simp? [r1,i0,ix',be,c9,ih _ _ (kD hs hm e)]
 rw[run_eq T.zI rfl];have ro:=ji T (k+8) h hp;simp? [j6,rP,ro];have hh:=rest (au 0 200) (au 0 200) s s Rv hs;have len:(au 0 200).length=200:=rfl;rw[len] at hh;exact(congrArg (fin h) hh).trans (by rw[tS,kW])
end
section
variable{pg:Tb}(T:bW pg)
include T
theorem nU k h (hL:L.length<=20) (hp:kq p j rs) (hr: ∀ r∈rs,jg L rs.length r):run pg (k+11) "first_seat" [p,.int j] h= .ok (ay (bC rs 200 ⟨0,[],[]⟩)) h:=by
 have:=fF T k h hL hp hr (s:=⟨0,[],[]⟩) ⟨.nil,Si _⟩;rw[run_eq T.qi rfl];have e:PV.tup [.int 0,.tup [],.tup []]=ay ⟨0,[],[]⟩:=rfl;simp? [dY,j7,e,this]
end
noncomputable def Rw.fw:Rw->Option Str
 | .get x _=>fv x | .fetch x _=>fv x | .clock x=>fv x | .lot x _=>fv x | .hear x _=>fv x
 | _=>Rv
noncomputable def Rw.sum:Rw->Option Sm
 | .let_ _ e=>fv e | .leap _ e=>fv e | .put _ e=>fv e | .send _ e=>fv e | .say _ e=>fv e
 | _=>Rv
theorem jg.sum(h:jg L n r)(q:r.sum=fv e):nL e:=by
 cases r<;>cases q
 . exact h.2
 . exact h.2.2
 . exact h
 . exact h
 . exact h
noncomputable def PV.num:PV->Int
 | .int i=>i
 | _=>0
def after(s:fq)(v:PV):Rw->fq
 | .get x _=>⟨s.row+1,lay s.ps x (PV.num v),s.held⟩
 | .fetch x _=>⟨s.row+1,lay s.ps x (PV.num v),s.held⟩
 | .clock x=>⟨s.row+1,lay s.ps x (PV.num v),s.held⟩
 | .lot x _=>⟨s.row+1,lay s.ps x (PV.num v),s.held⟩
 | .hear x _=>⟨s.row+1,lay s.ps x (PV.num v),s.held⟩
 | .take l=>⟨s.row+1,s.ps,cR (s.held++[l])⟩
 | .free l=>⟨s.row+1,s.ps,s.held.filter λz=> !decide (z=l)⟩
 | _=>⟨s.row+1,s.ps,s.held⟩
def bo(s:fq):Rw->PV
 | .let_ _ e=> .tup [.str "let",.str "",.int (e.val (fP s.ps))]
 | .leap k e=> .tup [.str "leap",.int k,.int (e.val (fP s.ps))]
 | .take l=> .tup [.str "take",.str l,.non]
 | .free l=> .tup [.str "free",.str l,.non]
 | .get _ b=> .tup [.str "get",.str b,.non]
 | .put b e=> .tup [.str "put",.str b,.int (e.val (fP s.ps))]
 | .send l e=> .tup [.str "send",.str l,.int (e.val (fP s.ps))]
 | .fetch _ l=> .tup [.str "fetch",.str l,.non]
 | .say d e=> .tup [.str "say",.str d,.int (e.val (fP s.ps))]
 | .clock _=> .tup [.str "clock",.str "",.non]
 | .lot _ n=> .tup [.str "lot",.str "",.int n]
 | .hear _ d=> .tup [.str "hear",.str d,.non]
def lZ(rs:List Rw)(s:fq):PV:=match rs[s.row]? with
 | none=> .non
 | some r=>bo s r
theorem cZ: ∀ ss ,dH (ss.map PV.str)=fv ss
 | []=>rfl
 | x::r=>by rw[RL,dH,cZ r];rfl
theorem vb(hl:ss.length < 64):dy [.tup (ss.map PV.str)] h= .ok (.ref h.length) (h++[.lst ((cR ss).map PV.str)]):=by
 simp only[dy,cZ,if_pos hl]
theorem rZ:fD (x::xs) (fv 1) Rv=xs:=by rw[P3.jX (by decide)];rfl
def Rw.parts:Rw->List PV
 | .let_ _ _=>[.str "pocket",.str "sum"] | .leap _ _=>[.str "target",.str "sum"] | .get _ _=>[.str "pocket",.str "box"] | .put _ _=>[.str "box",.str "sum"]
 | .take _=>[.str "lock"] | .free _=>[.str "lock"] | .send _ _=>[.str "lane",.str "sum"] | .fetch _ _=>[.str "pocket",.str "lane"] | .say _ _=>[.str "door",.str "sum"]
 | .clock _=>[.str "pocket"] | .lot _ _=>[.str "pocket",.str "chances"] | .hear _ _=>[.str "pocket",.str "door"]
theorem Ey(r:Rw):dm dt (.inr r.w)=fv (.ktup r.parts):=by cases r<;>(simp only[Rw.w,Rw.parts];decide +kernel)
theorem gS l: ∀ ss:List Str,(ss.filterMap λz=>if z=l then Rv else fv (PV.str z))=(ss.filter (λz=> !decide (z=l))).map PV.str
 | []=>rfl
 | q::r=>by
  by_cases z:q=l
  . rw[UC (by simp[z]),SO (by simp[z]),gS l r]
  . rw[UD (by rw[if_neg z]),Sw (by simp[z]),RL,gS l r]
def toG:=(gT 2 (aT (gN 7) (aT (gN 8) eF)))
def xZ:=(ck (mQ (aa 7) (eS "sum")) (ar (ah "worth" (a2 (aa 8) (eX 2 1))) (gN 6)) (ck (mQ (aa 7) (eS "chances")) (ar (aa 8) (gN 6)) (ck (aC (aw gq (aa 7) (eS "pocket"))) (ar (aa 8) (gN 5)) cL)))
section
variable{c:CF}{h:PH}{a0 a1 b0 b1 a3 a4 a5 a6 a7 a8 x:Option PV}{y s1 w:PV}
theorem lH(q: ∀ g,aL s1 (.int 1) g= .ok b g)(z:c "worth" [y,b] h= .ok w h):bB toG xZ c (.tup [.str "sum",y]) [a0,a1,fv s1,a3,a4,a5,a6,a7,a8] h= .ok (.nx [a0,a1,fv s1,a3,a4,a5,fv w,fv (.str "sum"),fv y]) h:=by
 simp? [toG,xZ,q,z]
theorem LF:bB toG xZ c (.tup [.str "chances",y]) [a0,a1,b0,a3,a4,a5,a6,a7,a8] h= .ok (.nx [a0,a1,b0,a3,a4,a5,fv y,fv (.str "chances"),fv y]) h:=by
 rfl
theorem vD:bB toG xZ c (.tup [.str "pocket",y]) [a0,a1,b0,a3,a4,a5,a6,a7,a8] h= .ok (.nx [a0,a1,b0,a3,a4,a5,a6,fv (.str "pocket"),fv y]) h:=by
 rfl
theorem nr{p:Str}(q: ¬ p= "sum" /\ ¬ p= "chances" /\ ¬ p= "pocket"):bB toG xZ c (.tup [.str p,y]) [a0,a1,b0,a3,a4,a5,a6,a7,a8] h= .ok (.nx [a0,a1,b0,a3,a4,fv y,a6,fv (.str p),fv y]) h:=by
 simp? [toG,xZ,q.1,q.2.1,q.2.2]
end
theorem CK{c:CF}{h:PH}(s:fq)(r:Rw)(w: ∀ e:Sm,r.sum=fv e->c "worth" [qo e,sL s.ps] h= .ok (.int (e.val (fP s.ps))) h)(xs:List PV)(a0 a1 a3 a4:Option PV) :
  ∃(t v:PV)(u7 u8:Option PV),bo s r= .tup [.str r.w,t,v]/\bg ⟨Rv,xs⟩ (bB toG xZ c) ((r.parts.zip r.ps).map λp=> .tup [p.1,p.2]) [a0,a1,fv (ay s),a3,a4,fv (.str ""),fv .non,Rv,Rv] h= .ok (.nx [a0,a1,fv (ay s),a3,a4,fv t,fv v,u7,u8]) h:=by
 have i1: ∀ g,aL (ay s) (.int 1) g= .ok (sL s.ps) g:=λg=>rfl;have lp1: ∀{x:PV}{e e1:aM},bB toG xZ c x e h= .ok (.nx e1) h->bg ⟨Rv,xs⟩ (bB toG xZ c) [x] e h= .ok (.nx e1) h:=λq=>by rw[gZ,q,gv,c9,iU]
 have lp2: ∀{x y:PV}{e e1 e2:aM},bB toG xZ c x e h= .ok (.nx e1) h->bB toG xZ c y e1 h= .ok (.nx e2) h->bg ⟨Rv,xs⟩ (bB toG xZ c) [x,y] e h= .ok (.nx e2) h:=λq q2=>by rw[gZ,q,gv,c9,gZ,q2,gv,c9,iU]
 cases r with
 | let_ x e=>exact⟨_,_,_,_,rfl,lp2 vD (lH i1 (w e rfl))⟩
 | leap x e=>exact⟨_,_,_,_,rfl,lp2 (nr (by decide +kernel)) (lH i1 (w e rfl))⟩
 | put x e=>exact⟨_,_,_,_,rfl,lp2 (nr (by decide +kernel)) (lH i1 (w e rfl))⟩
 | send x e=>exact⟨_,_,_,_,rfl,lp2 (nr (by decide +kernel)) (lH i1 (w e rfl))⟩
 | say x e=>exact⟨_,_,_,_,rfl,lp2 (nr (by decide +kernel)) (lH i1 (w e rfl))⟩
 | take x=>exact⟨_,_,_,_,rfl,lp1 (nr (by decide +kernel))⟩
 | free x=>exact⟨_,_,_,_,rfl,lp1 (nr (by decide +kernel))⟩
 | clock x=>exact⟨_,_,_,_,rfl,lp1 vD⟩
 | lot x n=>exact⟨_,_,_,_,rfl,lp2 vD LF⟩
 | _=>exact⟨_,_,_,_,rfl,lp2 vD (nr (by decide +kernel))⟩
theorem rw_0 r g:aL (ka r) (.int 0) g= .ok (.str r.w) g:=BA
theorem rw_pk(h:r.fw=fv x) g:aL (ka r) (.int 1) g= .ok (.str x) g:=by cases r<;>cases h<;>exact wQ
theorem jg.pk(h:jg L n r)(q:r.fw=fv x):x∈L:=by
 cases r<;>cases q<;>first | exact h | exact h.1
theorem nI(h:r.fw=fv x):after s v r=⟨s.row+1,lay s.ps x (PV.num v),s.held⟩:=by cases r<;>cases h<;>rfl
theorem ND{r:Rw}(h:r.fw=fv x):r.w∈(["get", "fetch", "clock", "lot", "hear"]:List Str)∧ ¬ r.w= "take" /\ ¬ r.w= "free" :=by cases r<;>cases h<;>(simp only [Rw.w];decide +kernel)
theorem rw_cls(r:Rw):(∃ x,r.fw=fv x)∨(∃ l,r= .take l)∨(∃ l,r= .free l)∨((¬ r.w∈(["get", "fetch", "clock", "lot", "hear"]:List Str)∧ ¬ r.w= "take" /\ ¬ r.w= "free")∧ ∀ s v,after s v r=⟨s.row+1,s.ps,s.held⟩):=by
 cases r with
 | take l=>exact .inr (.inl ⟨l,rfl⟩)
 | free l=>exact .inr (.inr (.inl ⟨l,rfl⟩))
 | get x _=>exact .inl ⟨x,rfl⟩
 | fetch x _=>exact .inl ⟨x,rfl⟩
 | clock x=>exact .inl ⟨x,rfl⟩
 | lot x _=>exact .inl ⟨x,rfl⟩
 | hear x _=>exact .inl ⟨x,rfl⟩
 | _=>exact .inr (.inr (.inr ⟨by simp only[Rw.w];decide +kernel,λ_ _=>rfl⟩))
section
variable{pg:Tb}(T:bW pg)
include T
theorem kP k h (hL:L.length<=20) (hp:kq p j rs) (hr: ∀ r∈rs,jg L rs.length r) (hs:cV L rs s):run pg (k+10) "touch_of" [p,.int j,ay s] h= .ok (lZ rs s) h:=by
 have nd:=hs.pk.nd;have hm:=λq m=>(hs.pk.mem q m).2;have hl:=hs.pk.len;have w: ∀ e:Sm,nL e->run pg (k+9) "worth" [qo e,sL s.ps] h= .ok (.int (e.val (fP s.ps))) h:=λe he=>gK T h nd hm (by omega) e (k+8) he.1 (by have:=he.2;omega);have ro:=ji T (k+8) h hp;have ro':run pg (k+9) "rows_of" [p,.int j] h= .ok (.tup (rs.map ka)) h:=ro;rw[run_eq T.uG rfl];cases e:rs[s.row]? with
 | none =>
  have:s.row=rs.length:=by have:=Vi.mp e;have:=hs.le;omega
  have t1:lZ rs s= .non:=by unfold lZ;rw[e]
  simp? [d9,jd,ay,t1,this,ro',RB]
 | some r =>
  have hlt:=(RC.mp e).1
  have ne: ¬ (s.row)=(rs.length:Int):=by omega
  have ix:=lI (h:=h) (jG e)
  have hrr:=hr r (RN e)
  have t1:lZ rs s=bo s r:=by unfold lZ;rw[e]
  rw[t1]
  have w':=λe q=>w e (hrr.sum q)
  obtain⟨t,v,u7,u8,et,lp⟩:=CK (h:=h) s r w' ((r.parts.zip r.ps).map λp=> .tup [p.1,p.2]) (fv p) (fv (.int j)) (fv (.tup (rs.map ka))) (fv (ka r))
  have r_0:=λg=>rw_0 r g
  have i0: ∀ g,aL (ay s) (.int 0) g= .ok (.int s.row) g:=λg=>rfl
  have sl: ∀ g,EF (ka r) (fv 1) Rv g= .ok (.tup r.ps) g:=λg=>by unfold ka;rw[Nk,rZ]
  have at_r:=ix
  rw[et]
  unfold toG xZ at lp
  simp? [d9,jd,i0,ro',ne,at_r,r_0,sl,Ey,lp,RB]
theorem lP k h (hL:L.length<=20) (hp:kq p j rs) (hr: ∀ r∈rs,jg L rs.length r) (hs:cV L rs s) (hh:s.held.length<=60) (e:rs[s.row]?=fv r) (hv: ∀ x,r.fw=fv x-> ∃ i ,v= .int i/\0<=i/\i<=999):run pg (k+11) "seat_behind" [p,.int j,ay s,v] h= .ok (ay (bC rs 200 (after s v r))) h:=by
 have ro:=ji T (k+9) h hp;have ro':run pg (k+10) "rows_of" [p,.int j] h= .ok (.tup (rs.map ka)) h:=ro;have hlt:=(RC.mp e).1;have ix:=lI (h:=h) (jG e);have hrr:=hr r (RN e);have ink: ∀ a:Str,qV (.str a) (.ktup [(.str "get"),(.str "fetch"),(.str "clock"),(.str "lot"),(.str "hear")]) h= .ok (.bl (decide (a∈(["get", "fetch", "clock", "lot", "hear"]:List Str)))) h:=λa=>in_K (ss:=["get", "fetch", "clock", "lot", "hear"]);rw [run_eq T.nM rfl];have r0:run pg (k+10) "rested" [p,.int j,.tup [.int ((s.row:Int)+1),sL s.ps,iO s.held]] h= .ok (ay (bC rs 200 ⟨s.row+1,s.ps,s.held⟩)) h:=fF T k h hL hp hr (s:=⟨s.row+1,s.ps,s.held⟩) ⟨hs.pk,hlt⟩;have r_0:=λg=>rw_0 r g;have at_r:=ix;rcases rw_cls r with⟨x,hx⟩ | ⟨l,rfl⟩ | ⟨l,rfl⟩ | ⟨⟨n5,nt,nf⟩,af⟩
 . obtain⟨i,rfl,h0,h9⟩:=hv x hx;have li:=vc hs.pk (hrr.pk hx) h0 h9;have l1:=vV T (k+9) h hs.pk.nd x i (R5 li.len hL) (by have:=hs.pk.len;omega);have r1:run pg (k+10) "rested" [p,.int j,.tup [.int ((s.row:Int)+1),sL (lay s.ps x i),iO s.held]] h=_:=fF T k h hL hp hr (s:=⟨s.row+1,lay s.ps x i,s.held⟩) ⟨li,hlt⟩;have n5:=(ND hx).1;have x1:=λg=>rw_pk hx g;rw[nI hx];simp? [bw,bX,ay,ro',at_r,r_0,x1,ink,n5,l1,r1,PV.num]
 . have r1:=fF T k (h++[.lst ((cR (s.held++[l])).map PV.str)]) hL hp hr (s:=⟨s.row+1,s.ps,cR (s.held++[l])⟩) ⟨hs.pk,hlt⟩;have r1':run pg (k+10) "rested" [p,.int j,.tup [.int ((s.row:Int)+1),sL s.ps,.tup ((cR (s.held++[l])).map PV.str)]] (h++[.lst ((cR (s.held++[l])).map PV.str)])=_:=r1;have s1:=vb (h:=h) (ss:=s.held++[l]) (by simp;omega);rw[TM] at s1;have hl2:(s.held.map PV.str).length+1<=16777216:=by simp;omega
   have s1':dy [.tup (s.held.map PV.str++[.str l])] h= .ok (.ref h.length) (h++[.lst ((cR (s.held++[l])).map PV.str)]):=s1;simp? [bw,bX,ay,iO,ro',ix,ka,Rw.w,Rw.ps,ink,RW,Sz,or_false,or_true,true_or,false_or,after,RB,s1',r1'];exact aK (jm _)
 . have e1: ∀ e ,e=[fv p,fv (.int j),fv (ay s),fv v,fv (ka (.free l)),fv (sL s.ps),fv (iO s.held)]->ip ⟨Rv,s.held.map PV.str⟩ (aR 1 (gN 7) (aC (aw gq (aa 7) (eX 4 1))) (aa 7) (run pg (k+10)) e) (s.held.map PV.str) [] h= .ok ((s.held.filter (λz=> !decide (z=l))).map PV.str) h:=by
    rintro _ rfl;rw[<- gS];refine(c8 rfl s.held [] (λq m=>?_) (by simp;omega)).trans (by rfl);simp? [ka,Rw.w,Rw.ps];by_cases z:q=l<;>simp[z]
   have e1':=e1 _ rfl;have r1:=fF T k (h++[.lst ((s.held.filter (λz=> !decide (z=l))).map PV.str)]) hL hp hr (s:=⟨s.row+1,s.ps,s.held.filter (λz=> !decide (z=l))⟩) ⟨hs.pk,hlt⟩;have r1':run pg (k+10) "rested" [p,.int j,.tup [.int ((s.row:Int)+1),sL s.ps,.tup ((s.held.filter (λz=> !decide (z=l))).map PV.str)]] (h++[.lst ((s.held.filter (λz=> !decide (z=l))).map PV.str)])=_:=r1;simp only[ka,ay,iO,Rw.w,Rw.ps] at e1';simp? [bw,bX,ay,iO,ro',ix,ka,Rw.w,Rw.ps,ink,RW,Sz,or_false,or_true,true_or,false_or,after,RB,e1',r1'];exact aK (jm _)
 . rw[af];simp? [bw,bX,ay,ro',at_r,r_0,ink,n5,nt,nf,r0]
end
structure O4(L:List Str)(D:Pk):Prop where
 nd:(D.map (·.1)).Nodup
 mem: ∀ q∈D,q.1∈L/\0<=q.2/\q.2<=999
theorem O4.yr(h:O4 L D): ∀ x,0<=fP D x/\fP D x<=999:=λx=>by
 by_cases hx:x∈D.map (·.1)
 . obtain⟨q,m,rfl⟩:=Se.mp hx;rw[Jm h.nd q m];exact(h.mem q m).2
 . rw[K3 hx];decide
theorem vH{t:aM->PH->RV Bool}{b:aM->PH->RV Fl}{f:Nat}{e:aM}{h h1:PH}(ht:t e h= .ok false h1):dA t b (f+1) e h= .ok (.nx e) h1:=by
 rw[dA,ht];rfl
theorem MM{t:aM->PH->RV Bool}{b:aM->PH->RV Fl}{f:Nat}{e e1:aM}{h h1 h2:PH}(ht:t e h= .ok true h1)(hb:b e h1= .ok (.nx e1) h2):dA t b (f+1) e h=dA t b f e1 h2:=by
 rw[dA,ht,j2,if_pos rfl,hb,j2]
theorem O4.len(h:O4 L D):D.length<=L.length:=by
 have:=VX h.nd (l₂ :=L) (λx hx=>by obtain⟨q,hq,rfl⟩:=Se.mp hx;exact(h.mem q hq).1);simpa using this
theorem sE s r:(behind s r).held=s.held:=by
 cases r with
 | leap j e0=>show(if e0.val (fP s.ps)=0 then(⟨s.row+1,s.ps,s.held⟩:fq) else⟨j.toNat,s.ps,s.held⟩).held=s.held;split<;>rfl
 | _=>rfl
theorem gp{a b:MS}{c:CF}{e e1:aM}{h h1:PH}(q:a c e h= .ok (.nx e1) h1):ag a b c e h=b c e1 h1:=by rw[zX,q,gv,wm]
theorem Od:tQ t b c e h=dA (t c) (b c) 100000 e h:=(rfl)
theorem eK ss:(cR ss).Perm ss:=Vn ss _
theorem yf(nd:ss.Nodup):(cR ss).Pairwise iB:=by
 have h1:=UI fH (λa b=>by simpa using hX a b) ss;have h2:=(eK ss).nodup_iff.mpr nd;refine h1.imp₂ (λa b z1 z2=>?_) h2;rcases kg z2 with z | z
 . exact z
 . unfold nK at z1;simp[z] at z1
theorem c7: ∀ n s,(bC rs n s).held=s.held
 | 0,s=>by unfold bC;split<;>rfl
 | n+1,s=>by
  unfold bC;split
  . rfl
  . split
    . rfl
    . rw[c7 n,sE]
noncomputable def gz(ns:List Int):PO:= .jD (ns.map PV.int)
noncomputable def dO(q:Int × Int × Int):PO:= .lst [.int q.1,.int q.2.1,.int q.2.2]
theorem JK:(dO q).iK n=true:=rfl
section
variable{h:PH}{n:Nat}{x y z v:PV}{fr:PO}{q q':Int × Int × Int}{g g':PH}
theorem Qr:H9 n (.int 0) v h (fv (.lst [x,y,z]))= .ok () (h.set n (.lst [v,y,z])):=rfl
theorem Ga:H9 n (.int 2) v h (fv (.lst [x,y,z]))= .ok () (h.set n (.lst [x,y,v])):=rfl
theorem Bp:P3.settle (fr::dO q::g) v (fr::dO q'::g)= .ok v (fr::dO q'::g):=rY (h:=fr::dO q::g) (i:=1) (o:=dO q) (o':=dO q')
end
theorem BO{xs:List PV}{c:Int}(c0:0<=c)(c1:c < xs.length): ∃ x∈xs,fN xs c=fv x:=by
 obtain⟨n,rfl⟩:=Xl c0;exact⟨xs[n]'(by omega),Ve _,P3.iC rfl (RH (by omega))⟩
section
variable{pg:Tb}(T:bW pg)
include T
theorem rG j fr q m (m0:0 < m) (m9:m<=1000000): ∃(v:Int)(q':Int × Int × Int),0<=v/\v < m/\ ∀ g,run pg (j+1) "_law_take" [.ref 1,.int m] (fr::dO q::g)= .ok (.int v) (fr::dO q'::g):=by
 obtain⟨a,b,c⟩:=q;have b0: ∀{q q':Int × Int × Int}{g:PH}{v:PV},P3.settle (fr::dO q::g) v (fr::dO q'::g)= .ok v (fr::dO q'::g):=Bp;simp only[dO] at b0 ⊢;by_cases z:0 < a
 . refine⟨a % m,(a / m,b,c+1),UW _ (by omega),YL _ m0,λg=>?_⟩;rw[run_eq T.kN rfl];simp? (disch:=first | omega | exact mm) only[dw,gW,Ga,IY,MK,z];exact b0 (q:=(a,b,c)) (q':=(a / m,b,c+1))
 . let x:=(b % 2147483647+31*(c+1))*48271 % 2147483629
   let y:=(x / 11+17*(c+1))*69621 % 2147483587
   refine⟨y / 7 % m,(a,b,c+1),UW _ (by omega),YL _ m0,λg=>?_⟩;rw[run_eq T.kN rfl];have m1: ∀(i:Int) h,bE (.int i) (.int 48271) h= .ok (.int (i*48271)) h:=λi h=>jx (by omega);have m2: ∀(i:Int) h,bE (.int i) (.int 69621) h= .ok (.int (i*69621)) h:=λi h=>jx (by omega);simp? [dw,gW,Ga,IY,Of,MK,z,m1,m2];exact b0 (q:=(a,b,c)) (q':=(a,b,c+1))
theorem Gj j ns (hn:ns.length<=63): ∃ q,run pg (j+1) "_law_box" [.ref 0,.int 0] [gz ns]= .ok (.ref 1) [gz ns,dO q]:=by
 have ln:b9 [.ref 0] [gz ns]= .ok (.int ns.length) [gz ns]:=by rw[LY (xs:=ns.map PV.int) rfl,RB]
 have t18:(10:Int) ^ VF 18=1000000000000000000:=by rfl
 have mB: ∀(i:Int)(p:Bool) h,bE (.int i) (.int (if p=true then 1 else 0)) h= .ok (.int (i*if p=true then 1 else 0)) h:=λi p h=>jx (by split<;>omega);by_cases z:0 < (ns.length:Int)
 . obtain⟨x,xm,ex⟩:=BO (xs:=ns.map PV.int) (c:=0 % (ns.length)) (UW _ (by omega)) (by simp_all);obtain⟨i,_,rfl⟩:=Se.mp xm;have ix:aL (.ref 0) (.int (0 % (ns.length))) [gz ns]= .ok (.int i) [gz ns]:=by rw[Ba];show O2 _ _ (fv (.jD _))=_;rw[MF,ex];rfl
   refine⟨((i+1009*(0 / (ns.length)))*(if decide (1000000000000000000<=i+1009*(0 / (ns.length)))=true then 1 else 0),i+1009*(0 / (ns.length)),0),?_⟩;rw[run_eq T.nH rfl];simp? [eE,jn,ln,z,ix,mB];exact bG rfl
 . refine⟨(0,0,0),?_⟩;rw[run_eq T.nH rfl];simp? [eE,jn,ln,z,mB];exact bG rfl
end
noncomputable def rS(x:Str):=decide (x.cps.size<=20)&&x.cps.toList.all λc=>decide (c < 16 ^ 8)
mutual
def vm:PV->Bool
 | .non=>true
 | .int i=>decide (0<=i/\i<=1000000)
 | .str x=>rS x
 | .tup xs=>jV xs
 | _=>false
def jV:List PV->Bool
 | []=>true
 | x::r=>vm x&&jV r
end
mutual
def F4:PV->Nat
 | .str x=>x.cps.size
 | .tup xs=>F7 xs
 | _=>0
def F7:List PV->Nat
 | []=>0
 | x::r=>F4 x+1+F7 r
end
mutual
def DN:PV->Nat
 | .tup xs=>rE xs+1
 | _=>0
def rE:List PV->Nat
 | []=>0
 | x::r=>max (DN x) (rE r)
end
theorem rq(h0:0<=i)(h9:i<=1000000):(Ww i).shown.length<=13:=PyData.shown_int_le (by omega)
theorem xA{i:Int}(h0:0<=i)(h9:i<=1000000):i.natAbs.log2 < 1920:=by
 by_cases z:i.natAbs=0
 . rw[z];decide
 . rw[Nat.log2_lt z];exact RM (show i.natAbs < 2 ^ 20 by omega) (Nat.pow_le_pow_right (by decide) (by decide))
mutual
theorem vm.d: ∀(v:PV),vm v=true-> ∃ d:Uo,(∀ sub,fG sub v=fv d)/\d.showable=true/\d.hasDict=false/\d.depth=DN v/\d.bulk=F4 v/\VC 13 d=true
 | .non,_=>⟨.none,λ_=>rfl,rfl,rfl,rfl,rfl,rfl⟩
 | .int i,h=>by
  rw[vm,decide_eq_true_eq] at h;exact⟨.int i,λ_=>rfl,by rw[ZJ,decide_eq_true_eq];exact xA h.1 h.2,rfl,rfl,rfl,by rw[VC,decide_eq_true_eq];exact rq h.1 h.2⟩
 | .str x,h=>by
  rw[vm,rS,RT] at h;exact⟨.str x,λ_=>rfl,rfl,rfl,rfl,rfl,by rw[VC];exact h.2⟩
 | .tup xs,h=>by
  rw[vm] at h;obtain⟨ds,e,h1,h2,h3,h4,h5⟩:=jV.d xs h;exact⟨.tuple ds,λsub=>by rw[fG,e];rfl,by rw[ZJ];exact h1,by rw[PyData.hasDict];exact h2,by rw[UQ,h3,DN],by rw[ZC,h4,F4],by rw[VC];exact h5⟩
theorem jV.d: ∀(xs:List PV),jV xs=true-> ∃ ds:List Uo,(∀ sub,bh sub xs=fv ds)/\Wx ds=true/\WM ds=false/\SN ds=rE xs/\Yf ds=F7 xs/\VR 13 ds=true
 | [],_=>⟨[],λ_=>rfl,rfl,rfl,rfl,rfl,rfl⟩
 | x::r,h=>by
  rw[jV,RT] at h;obtain⟨d,e,h1,h2,h3,h4,h5⟩:=vm.d x h.1;obtain⟨ds,e',i1,i2,i3,i4,i5⟩:=jV.d r h.2;exact ⟨d::ds,λsub=>by rw [bh,e,e'],by rw [Wx,h1,i1];rfl,by rw [WM,h2,i2];rfl,by rw [SN,h3,i3,rE],by rw [Yf,h4,i4,F7],by rw [VR,h5,i5];rfl⟩
end
theorem Di{ys : List PV}{ds : List Uo}(h1 : Wx ds = true)(h2 : WM ds = false)(h3 : SN ds <= 60)(h4 : Yf ds <= 1000000)(h5 : VR 13 ds = true) : w5 (.tuple ds) /\ w5 (.list ds) :=
  ⟨⟨by exact h1, by exact h2, by rw [UQ]; omega, XF (B := 13) (by decide) (by decide) (by exact h5) (by rw [ZC]; omega)⟩,
   ⟨by exact h1, by exact h2, by rw [UQ]; omega, XF (B := 13) (by decide) (by decide) (by exact h5) (by rw [ZC]; omega)⟩⟩
theorem CS(h:jV ys=true)(hd:rE ys<=60)(hb:F7 ys<=1000000): ∃ x ,∀ g,uE [.tup ys] g= .ok (.str x) g:=by
 obtain ⟨ds,e,h1,h2,h3,h4,h5⟩:=jV.d ys h;refine ⟨(Wi ds).shown,λg=>?_⟩;have e2:dat 6 g (.tup ys)=fv (.tuple ds):=by unfold dat;rw[fG,e];rfl
 unfold uE;simp only[e2];exact if_pos (Di (ys:=ys) h1 h2 (by omega) (by omega) h5).1
theorem Hk(h:rS x=true):x.cps.size<=20:=by rw[rS,RT,decide_eq_true_eq] at h;exact h.1
theorem jO(e:h[n]?=fv (.lst xs)):qN.j5 ⟨fv n,xs⟩ h=true:=by
 unfold qN.j5;simp only[e,true_or,decide_true]
def Nb(s:List Str):Prop:=s.length<=20/\ ∀ x∈s,rS x=true/\VO x=true
noncomputable def Rw.th:Rw->Option (Nat × Str)
 | .get _ b=>fv (0,b) | .put b _=>fv (0,b) | .take l=>fv (1,l) | .free l=>fv (1,l)
 | .send l _=>fv (2,l) | .fetch _ l=>fv (2,l) | .say d _=>fv (3,d)
 | _=>Rv
def Rw.nm:Rw->Option (Nat × Str)
 | .hear _ d=>fv (3,d)
 | r=>r.th
theorem MV{r:Rw}(h:r.th=fv z):r.nm=fv z:=by cases r<;>first | exact h | cases h
noncomputable def QU(s0 s1 s2 s3:List Str) 
 | 0=>s0 | 1=>s1 | 2=>s2 | _=>s3
def LC(s0 s1 s2 s3:List Str)(r:Rw):= ∀ k t,r.nm=fv (k,t)->t∈QU s0 s1 s2 s3 k
def bA(h:Str × List Rw):PV:= .tup [.str h.1,eT h.2]
def BL(s0 s1 s2 s3:List Str)(h:Str × List Rw):=h.2.length<=10/\ ∃ L ,L.length<=6/\(∀ x∈L,rS x=true)/\ ∀ r∈h.2,jg L h.2.length r/\LC s0 s1 s2 s3 r
theorem xw h:(bA h).flat=true:=by simp[bA,PV.flat,PV.bq,eT,oS]
theorem PX{h:PH}{n:Nat}{ss:List Str}(e:h[n]?=fv (.lst (ss.map PV.str)))(a:Str):qV (.str a) (.ref n) h= .ok (.bl (decide (a∈ss))) h:=by
 have:isIn (.str a) (.ref n) h=fv (decide (a∈ss)):=by
  unfold isIn;simp only[itemsOf,bU,e,all_strs,cP,U0,if_true,gE]
 unfold qV;rw[this]
structure Pg where
 bs:List (Str × Int)
 s1:List Str
 s2:List Str
 s3:List Str
 hs:List (Str × List Rw)
def Pg.v(P:Pg):PV:= .tup [.tup (P.bs.map gP),.tup (P.s1.map PV.str),.tup (P.s2.map PV.str),.tup (P.s3.map PV.str),.tup (P.hs.map bA)]
def Pg.nm(P:Pg):=QU (P.bs.map (·.1)) P.s1 P.s2 P.s3
structure Pg.Ok(P:Pg):Prop where
 bx:P.bs.length<=20/\ ∀ z∈P.bs,rS z.1=true/\0<=z.2/\z.2<=999
 nm:Nb P.s1/\Nb P.s2/\Nb P.s3
 many:1<=P.hs.length/\P.hs.length<=4
 hd: ∀ h∈P.hs,BL (P.bs.map (·.1)) P.s1 P.s2 P.s3 h
theorem Pg.hand(P:Pg){i:Nat}(e:P.hs[i]?=fv x):kq P.v (i) x.2:=⟨_,_,_,_,_,_,rfl,P3.iC rfl (by rw[RP,e];rfl)⟩
def Bz(x:Str × List Rw)(L:List Str):=L.length<=6/\(∀ y∈L,rS y=true)/\ ∀ r∈x.2,jg L x.2.length r
noncomputable def QJ(x:Str × List Rw):=Classical.epsilon (Bz x)
theorem gC(h:BL s0 s1 s2 s3 x):Bz x (QJ x):=by
 obtain⟨_,L,l1,l2,l3⟩:=h;exact Classical.epsilon_spec (p:=Bz x) ⟨L,l1,l2,λr m=>(l3 r m).1⟩
structure Wd where
 fY:List Int
 cC:List fq
 k7:List (Int × PV)
 eY:List (Option Int × PV)
 cy:List (Int × Int × List Int)
 px:List Int
noncomputable def n8(b:Int × PV):PV:= .tup [.int b.1,b.2]
noncomputable def FZ:Option Int->PV
 | none=> .non
 | some i=> .int i
def jo(l:Option Int × PV):PV:= .tup [FZ l.1,l.2]
def kX(n:Int × Int × List Int):PV:= .tup [.int n.1,.int n.2.1,.tup (n.2.2.map PV.int)]
def aE(S:Wd):PV:= .tup [.tup (S.fY.map PV.int),.tup (S.cC.map ay),.tup (S.k7.map n8),.tup (S.eY.map jo),.tup (S.cy.map kX),.tup (S.px.map PV.int)]
def t6(N:Nat)(v:PV):=v= .non\/ ∃ a b ,v= .tup [.int a,.int b]/\0<=a/\a < 4/\0<=b/\b<=N
structure Lo(P:Pg)(N:Nat)(x:Str × List Rw)(s:fq):Prop where
 so:cV (QJ x) x.2 s
 nd:s.held.Nodup
 le:s.held.length<=N
 re:aV x.2 s=true
 nm: ∀ l∈s.held,l∈P.s1
 sr:s.held.Pairwise iB
structure dB(P:Pg)(N:Nat)(S:Wd):Prop where
 lc:S.fY.length=P.hs.length
 ls:S.cC.length=P.hs.length
 l0:S.k7.length=P.bs.length
 l1:S.eY.length=P.s1.length
 l2:S.cy.length=P.s2.length
 l3:S.px.length=P.s3.length
 ct: ∀ c∈S.fY,0<=c/\c<=N
 bx: ∀ b∈S.k7,(0<=b.1/\b.1<=999)/\t6 N b.2
 lk: ∀ l∈S.eY,(∀ i,l.1=fv i->0<=i/\i < 4)/\t6 N l.2
 ln: ∀ n∈S.cy,(0<=n.1/\n.1<=N)/\(0<=n.2.1/\n.2.1<=N)/\n.2.2.length<=N/\ ∀ v∈n.2.2,0<=v/\v<=999
 dr: ∀ d∈S.px,0<=d/\d<=N
 se: ∀(j:Nat)(x:Str × List Rw)(s:fq),P.hs[j]?=fv x->S.cC[j]?=fv s->Lo P N x s
def dG(P:Pg)(S:Wd):Option Rw->PV
 | none=> .str "end"
 | some (.take l)=>match S.eY[(P.nm 1).idxOf l]? with
  | some (fv i,_)=> .tup [.str "lock",.str l,.int i]
  | _=> .non
 | some (.fetch _ l)=>match S.cy[(P.nm 2).idxOf l]? with
  | some (_,_,[])=> .tup [.str "letter",.str l]
  | _=> .non
 | some _=> .non
noncomputable def rowAt(P:Pg)(S:Wd)(j:Nat):Option Rw:=match P.hs[j]?,S.cC[j]? with
 | some x,fv s=>x.2[s.row]?
 | _,_=>Rv
def aD P S (j:Nat):=dG P S (rowAt P S j)
theorem fJ(e1:P.hs[j]?=fv x)(e2:S.cC[j]?=fv s):rowAt P S j=x.2[s.row]?:=by unfold rowAt;rw[e1,e2]
theorem bD{P:Pg}(ok:P.Ok){j:Nat}(e:P.hs[j]?=fv x)(m:r∈x.2)(q:r.th=fv (k,t)):t∈P.nm k:=by
 obtain⟨_,L,_,_,l3⟩:=ok.hd x (RN e);exact(l3 r m).2 k t (MV q)
theorem LL{P:Pg}(ok:P.Ok){j:Nat}(e:P.hs[j]?=fv x)(m:r∈x.2)(q:r.nm=fv (k,t)):t∈P.nm k:=by
 obtain⟨_,L,_,_,l3⟩:=ok.hd x (RN e);exact(l3 r m).2 k t q
theorem bc{α :Type}{l:List α}{ns:List Str}(hl:l.length=ns.length)(m:t∈ns): ∃ z,l[ns.idxOf t]?=fv z/\z∈l:=by
 have h:ns.idxOf t < l.length:=by rw[hl];exact U5 m
 exact⟨l[ns.idxOf t],RH h,Ve h⟩
theorem bY{α :Type}{f: α ->PV}{l:List α}{n:Nat}{z}(e:l[n]?=fv z):fN (l.map f) (n)=fv (f z):=P3.iC rfl (by simp_all)
theorem ju(W:dB P N S)(h:j < P.hs.length): ∃ x s c,P.hs[j]?=fv x/\S.cC[j]?=fv s/\S.fY[j]?=fv c/\Lo P N x s:=by
 have h1:j < S.cC.length:=by rw[W.ls];exact h
 have h2:j < S.fY.length:=by rw[W.lc];exact h
 exact⟨P.hs[j],S.cC[j],S.fY[j],RH h,RH h1,RH h2,W.se j _ _ (RH h) (RH h1)⟩
theorem fV: ∀ n s,aV rs (bC rs n s)=true
 | 0,s=>by
  unfold bC;split
  . assumption
  . unfold aV;rw[List.getElem?_eq_none (RE _)]
 | n+1,s=>by
  unfold bC;split
  . assumption
  . split
    . rename_i e;unfold aV;rw[e]
    . exact fV n _
theorem OW{α :Type}{l:List α}{g f: α ->PV}{st:PV->PH->RV (Option PV)}{H:PH}(hl:l.length<=1000)(he: ∀ x∈l,st (g x) H= .ok (fv (f x)) H):ip ⟨Rv,l.map g⟩ st (l.map g) [] H= .ok (l.map f) H :=
 (c8 rfl l [] (f:=λx=>fv (f x)) (g:=g) he (by simp;omega)).trans (by simp_all)
noncomputable def rJ:Nat->Str
 | 0=> "box" | 1=> "lock" | 2=> "lane" | _=> "door"
def yA(S:Wd) 
 | 0=>S.k7.map n8 | 1=>S.eY.map jo | 2=>S.cy.map kX | _=>S.px.map PV.int
section
variable{pg:Tb}(T:bW pg)
include T
theorem Ay k h (P:Pg) (ok:P.Ok) i:run pg (k+1) "names_of" [P.v,.str (rJ i)] h= .ok (.ref h.length) (h++[.lst ((P.nm i).map PV.str)]):=by
 have b20:=ok.bx.1;rw [run_eq T.tW rfl];have ik: ∀(a:Str)(n:Nat),a∈(["box", "lock", "lane", "door", "hand"]:List Str)->(["box", "lock", "lane", "door", "hand"]:List Str).idxOf a=n->vd (.ktup [(.str "box"),(.str "lock"),(.str "lane"),(.str "door"),(.str "hand")]) [.str a] h= .ok (.int (n:Nat)) h:=λa n m e=>by rw [<- e];exact KU (ss:=["box", "lock", "lane", "door", "hand"]) m
 match i with
 | 0 =>
  have q:vd (.ktup [(.str "box"),(.str "lock"),(.str "lane"),(.str "door"),(.str "hand")]) [.str "box"] h= .ok (.int 0) h:=ik "box" 0 (by decide +kernel) (by rfl)
  have lc: ∀ E ,E=[fv P.v,fv (.str "box"),fv (.tup (P.bs.map gP))]->ip ⟨Rv,P.bs.map gP⟩ (aR 1 (gN 3) bf (eX 3 0) (run pg k) E) (P.bs.map gP) [] h= .ok ((P.bs.map (·.1)).map PV.str) h:=by
   rintro _ rfl;rw[Tc];refine OW (l:=P.bs) (f:=PV.str ∘ λz:Str × Int=>z.1) (by omega) λx _=>?_;rfl
  have lc':=lc _ rfl
  unfold Pg.v at lc'
  simp? [gc,nJ,Pg.v,rJ,Lv,q,lc']
  exact bG rfl
 | 1 =>
  have q:=ik "lock" 1 (by decide +kernel) (by rfl)
  have q':=q
  exact bG rfl
 | 2 =>
  have q:=ik "lane" 2 (by decide +kernel) (by rfl)
  have q':=q
  exact bG rfl
 | (n+3) =>
  have q:=ik "door" 3 (by decide +kernel) (by rfl)
  have q':=q
  exact bG rfl
theorem o7 k h {P:Pg} (ok:P.Ok) (m:t∈P.nm i):run pg (k+2) "number_of" [P.v,.str (rJ i),.str t] h= .ok (.int ((P.nm i).idxOf t)) h:=by
 have n1:=Ay T k h P ok i;have e:(h++[PO.lst ((P.nm i).map PV.str)])[h.length]?=fv (.lst ((P.nm i).map PV.str)):=aS;have i1:=PX e t;have i2:=Cq e m;rw[run_eq T.sG rfl];simp? [fh,kL,n1,i1,m,i2];exact aK rfl
theorem lU k h {P:Pg} (ok:P.Ok) S (i4:i < 4) (m:t∈P.nm i) (e:(yA S i)[(P.nm i).idxOf t]?=fv z):run pg (k+3) "state_of" [P.v,aE S,.str (rJ i),.str t] h= .ok z h:=by
 have n1:=o7 T k h ok m;have a1:=P3.iC rfl e;have ix: ∀ g,aL (.tup (yA S i)) (.int (((P.nm i).idxOf t:Nat):Int)) g= .ok z g:=λg=>lI a1;have pl:dm cj (.inr (rJ i))=fv (.int ((2+i:Nat))):=by
  match i,i4 with
  | 0,_=>decide +kernel
  | 1,_=>decide +kernel
  | 2,_=>decide +kernel
  | 3,_=>decide +kernel
 have st: ∀ g,aL (aE S) (.int ((2+i:Nat):Int)) g= .ok (.tup (yA S i)) g:=λg=>by
  match i,i4 with
  | 0,_=>exact D3
  | 1,_=>exact EJ
  | 2,_=>exact Fm
  | 3,_=>exact Io
 rw[run_eq T.ud rfl];simp? [fQ,m7,pl,st,n1,ix]
end
theorem lay_ints: ∀ ls:List Int,SF (ls.map Ww)=true
 | []=>rfl
 | i::r=>by rw[RL,SF,lay_ints r];rfl
theorem eN: ∀ ls:List Int,bh f (ls.map PV.int)=fv (ls.map Ww)
 | []=>rfl
 | x::r=>by rw[RL,bh,eN r];rfl
theorem vL:dE (.tup (ls.map PV.int)) (.tup []) h= .ok (.bl (decide (ls=[]))) h:=by
 have d1:dat 6 h (.tup (ls.map PV.int))=fv (.tuple (ls.map Ww)):=by unfold dat;rw[fG,eN];rfl
 have d2:dat 6 h (.tup [])=fv (.tuple []):=rfl;have sc:gY (.tup (ls.map PV.int)) (.tup [])=false:=rfl;have c1:(Wi (ls.map Ww)).canLay0=true:=by rw[Va,lay_ints]
 have c2:(Wi []).canLay0=true:=rfl;have c3:min (Wi (ls.map Ww)).depth (Wi []).depth<=64:=R5 (W9 _ _) (by decide);have al:alike (.tup (ls.map PV.int)) (.tup []) h=fv (decide (ls=[])):=by
  unfold alike;rw[sc,d1,d2];simp only[TU,if_false,c1,c3,if_true];cases ls<;>rfl
 unfold dE;rw[al]
theorem AG s r: ∃ t v,bo s r= .tup [.str r.w,t,v]:=by cases r<;>exact⟨_,_,rfl⟩
theorem rV(r:Rw):(∃ l,r= .take l)\/(∃ x l,r= .fetch x l)\/(¬ r.w= "take" /\ ¬ r.w= "fetch" /\ ∀ P S,dG P S (fv r)= .non):=by
 cases r with
 | take l=>exact .inl ⟨l,rfl⟩
 | fetch x l=>exact .inr (.inl ⟨x,l,rfl⟩)
 | _=>exact .inr (.inr ⟨by simp only[Rw.w];decide +kernel,by simp only[Rw.w];decide +kernel,λ_ _=>rfl⟩)
section
variable{pg:Tb}(T:bW pg)
include T
theorem mO k h (ok:P.Ok) (W:dB P N S) (hj:j < P.hs.length):run pg (k+11) "wait_of" [P.v,aE S,.int j] h= .ok (aD P S j) h:=by
 obtain⟨x,s,c,ex,es,ec,so⟩:=ju W hj;obtain⟨l1,l2,l3⟩:=gC (ok.hd x (RN ex));have to:=kP T k h (by omega) (P.hand ex) l3 so.so;have i1: ∀ g,aL (aE S) (.int 1) g= .ok (.tup (S.cC.map ay)) g:=λg=>wQ;have i2: ∀ g,aL (.tup (S.cC.map ay)) (.int j) g= .ok (ay s) g:=λg=>lI (bY es);rw[run_eq T.xu rfl];unfold aD;rw[fJ ex es];unfold lZ at to;cases e:x.2[s.row]? with
 | none =>
  rw[e] at to
  simp? [bS,cU,i1,i2,to,dG]
 | some r =>
  rw[e] at to
  have mr:=RN e
  rcases rV r with⟨l,rfl⟩ | ⟨y,l,rfl⟩ | ⟨n1,n2,n3⟩
  . have m:=bD ok ex mr (k:=1) (t:=l) rfl;obtain⟨z,ez,mz⟩:=bc (l:=S.eY) (ns:=P.nm 1) W.l1 m;have so:=lU T (k+7) h ok S (i:=1) (by decide) m (z:=jo z) (by show(S.eY.map jo)[_]?=_;rw[RP,ez];rfl);have so':run pg (k+10) "state_of" [P.v,aE S,.str "lock",.str l] h= .ok (jo z) h:=so;obtain⟨zh,zm⟩:=z;simp only[dG,ez];cases zh with
    | none=>simp? [bS,cU,i1,i2,to,bo,so',jo,FZ]
    | some i=>simp? [bS,cU,i1,i2,to,bo,so',jo,FZ]
  . have m:=bD ok ex mr (k:=2) (t:=l) rfl;obtain⟨z,ez,mz⟩:=bc (l:=S.cy) (ns:=P.nm 2) W.l2 m;have so:=lU T (k+7) h ok S (i:=2) (by decide) m (z:=kX z) (by show(S.cy.map kX)[_]?=_;rw[RP,ez];rfl);have so':run pg (k+10) "state_of" [P.v,aE S,.str "lane",.str l] h= .ok (kX z) h:=so;obtain⟨a,b,ls⟩:=z;simp only[dG,ez];cases ls with
    | nil =>
     have q:=vL (ls:=[]) (h:=h)
     rw[SX] at q
     simp? [bS,cU,i1,i2,to,bo,so',kX,q]
    | cons i r =>
     have q:=vL (ls:=i::r) (h:=h)
     have ne:decide (i::r=[])=false:=rfl
     rw[ne,RL] at q
     simp? [bS,cU,i1,i2,to,bo,so',kX,q]
  . obtain⟨t,v,et⟩:=AG s r;have to':run pg (k+10) "touch_of" [P.v,.int j,ay s] h= .ok (bo s r) h:=to;rw[et] at to';rw[n3];simp? [bS,cU,i1,i2,to',n1,n2]
end
def gx(P:Pg)(S:Wd):List PV:=(RJ P.hs.length).map (aD P S)
def bV P S:=(RJ P.hs.length).filter λj=>decide (aD P S j= .non)
def fu(ws:List PV):Bool:= !decide (PV.non∈ws)&&ws.any λv=> !decide (v= .str "end")
def jz(v:PV):Prop:=v= .non\/v= .str "end" \/(∃(l:Str)(i:Int),v= .tup [.str "lock",.str l,.int i]/\rS l=true/\VO l=true/\0<=i/\i < 4)\/(∃ l:Str,v= .tup [.str "letter",.str l]/\rS l=true/\VO l=true)
theorem vt{P:Pg}(ok:P.Ok){N:Nat}{S:Wd}(W:dB P N S){j:Nat}(hj:j < P.hs.length):jz (aD P S j):=by
 obtain⟨x,s,c,ex,es,ec,so⟩:=ju W hj;unfold aD;rw[fJ ex es];cases e:x.2[s.row]? with
 | none=>exact .inr (.inl rfl)
 | some r =>
  have mr:=RN e
  rcases rV r with⟨l,rfl⟩ | ⟨y,l,rfl⟩ | ⟨n1,n2,n3⟩
  . have m:=bD ok ex mr (k:=1) (t:=l) rfl;obtain⟨z,ez,mz⟩:=bc (l:=S.eY) (ns:=P.nm 1) W.l1 m;have hn:=ok.nm.1.2 l m;obtain⟨zh,zm⟩:=z;simp only[dG,ez];cases zh with
    | none=>exact .inl rfl
    | some i =>
     have:=(W.lk _ mz).1 i rfl
     exact .inr (.inr (.inl ⟨l,i,rfl,hn.1,hn.2,this.1,this.2⟩))
  . have m:=bD ok ex mr (k:=2) (t:=l) rfl;obtain⟨z,ez,mz⟩:=bc (l:=S.cy) (ns:=P.nm 2) W.l2 m;have hn:=ok.nm.2.1.2 l m;obtain⟨a,b,ls⟩:=z;simp only[dG,ez];cases ls with
    | nil=>exact .inr (.inr (.inr ⟨l,rfl,hn.1,hn.2⟩))
    | cons i r=>exact .inl rfl
  . rw[n3];exact .inl rfl
theorem jz.flat{v:PV}(h:jz v):v.flat=true:=by
 rcases h with rfl | rfl | ⟨l,i,rfl,_⟩ | ⟨l,rfl,_⟩<;>rfl
theorem vC{P:Pg}(ok:P.Ok){N:Nat}{S:Wd}(W:dB P N S): ∀ v∈gx P S,jz v:=λv m=>by
 obtain⟨j,mj,rfl⟩:=Se.mp m;exact vt ok W (Sf.mp mj)
theorem vE: ∀{ws:List PV},(∀ v∈ws,jz v)->PV.bq ws=true
 | [],_=>rfl
 | v::r,h=>by rw[PV.bq,(h v RU).flat,vE λz m=>h z (RS _ m)];rfl
theorem jz.d{v:PV}(h:jz v): ∃ d:Uo,(∀ sub,fG sub v=fv d)/\d.canLay0=true/\d.depth<=1/\TK d .none=decide (v= .non)/\TK d (.str "end")=decide (v= .str "end"):=by
 rcases h with rfl | rfl | ⟨l,i,rfl,_,h2,_⟩ | ⟨l,rfl,_,h2⟩
 . exact⟨.none,λ_=>rfl,rfl,Si _,rfl,rfl⟩
 . exact⟨.str "end",λ_=>rfl,by decide +kernel,Si _,rfl,by decide +kernel⟩
 . refine⟨.tuple [.str "lock",.str l,.int i],λ_=>rfl,?_,by simp[UQ,SN],?_,?_⟩
   . have:VO "lock" =true:=by decide +kernel
     simp only[Va,SF,h2,this,U0]
   . simp[TK]
   . simp[TK]
 . refine⟨.tuple [.str "letter",.str l],λ_=>rfl,?_,by simp[UQ,SN],?_,?_⟩
   . have:VO "letter" =true:=by decide +kernel
     simp only[Va,SF,h2,this,U0]
   . simp[TK]
   . simp[TK]
theorem y6(v x:PV)(r:List PV):(decide (v=x)||decide (x∈r))=decide (x∈v::r):=by
 by_cases a:v=x
 . subst a;simp
 . have a': ¬ x=v:=λe=>a e.symm;simp only[a,decide_false,Bool.false_or,RW,a',false_or]
theorem KP: ∀{ws:List PV},(∀ v∈ws,jz v)-> ∃ ds:List Uo,(∀ sub,bh sub ws=fv ds)/\SF ds=true/\SN ds<=1/\(ds.any λz=>TK z .none)=decide (PV.non∈ws)
 | [],_=>⟨[],λ_=>rfl,rfl,Si _,rfl⟩
 | v::r,h=>by
  obtain⟨d,d1,d2,d3,d4,_⟩:=(h v RU).d;obtain⟨ds,e1,e2,e3,e4⟩:=KP λz m=>h z (RS _ m);refine⟨d::ds,λsub=>by rw[bh,d1,e1],by rw[SF,d2,e2];rfl,by rw[SN];omega,?_⟩;rw[Tz,d4,e4,y6]
theorem Fw: ∀{ws:List PV},(ws.all cP)=true->(ws.any λz=>Ds z .non)=decide (PV.non∈ws)
 | [],_=>rfl
 | v::r,h=>by
  rw[UZ,RT] at h;have:Ds v .non=decide (v= .non):=by
   cases v<;>first | rfl | simp[Ds]
  rw[Tz,Fw h.2,this,y6]
theorem EW{ws:List PV}(h: ∀ v∈ws,jz v)(g:PH):gR .non (.tup ws) g= .ok (.bl (!decide (PV.non∈ws))) g:=by
 obtain⟨ds,e1,e2,e3,e4⟩:=KP h;have al:isIn .non (.tup ws) g=fv (decide (PV.non∈ws)):=by
  unfold isIn;simp only[itemsOf];by_cases z:(ws.all cP)=true
  . rw[if_pos (by rw[z];rfl),Fw z]
  . rw[if_neg (by simpa [cP] using z)];have d0:dat 6 g .non=fv .none:=rfl;have c:SF ds=true/\aal.canLay0=true/\min (SN ds) aal.depth<=60:=⟨e2,rfl,by omega⟩
    simp only[d0,e1,e4];exact if_pos c
 unfold gR;rw[al]
theorem JV{v:PV}(h:jz v)(g:PH):gq v (.str "end") g= .ok (.bl (!decide (v= .str "end"))) g:=by
 obtain⟨d,d1,d2,d3,_,d5⟩:=h.d;have al:alike v (.str "end") g=fv (decide (v= .str "end")):=by
  have dv:dat 6 g v=fv d:=by unfold dat;exact d1 _
  have de:dat 6 g (.str "end")=fv (.str "end"):=rfl;have c:d.canLay0=true/\(PyData.str "end").canLay0=true/\min d.depth (PyData.str "end").depth<=64:=⟨d2,by decide +kernel,by omega⟩
  rcases h with rfl | rfl | ⟨l,i,rfl,_⟩ | ⟨l,rfl,_⟩
  . rfl
  . rfl
  . unfold alike;rw[show gY (.tup [.str "lock",.str l,.int i]) (.str "end")=false from rfl,dv,de];simp only[TU,if_false];rw[if_pos c,d5]
  . unfold alike;rw[show gY (.tup [.str "letter",.str l]) (.str "end")=false from rfl,dv,de];simp only[TU,if_false];rw[if_pos c,d5]
 have nd:fi g v=false:=by rcases h with rfl | rfl | ⟨l,i,rfl,_⟩ | ⟨l,rfl,_⟩<;>rfl
 unfold gq;rw[al,nd];rfl
theorem wU(m:Nat)(w:Nat->PV):((RJ m).map w).zipIdx=(RJ m).map λj=>(w j,j):=by
 refine Zq (by simp) λi h1 h2=>?_;simp
theorem iq{α β :Type} p (f: α -> β): ∀ l:List α,(l.filterMap λj=>if p j=true then fv (f j) else Rv)=(l.filter p).map f
 | []=>rfl
 | x::r=>by
  by_cases z:p x=true
  . rw[UD (by rw[if_pos z]),Sw z,RL,iq p f r]
  . rw[UC (by rw[if_neg z]),SO z,iq p f r]
noncomputable def dF(j:Nat):PV:= .int (j)
theorem FA:dq false x h= .ok (.bl (decide (x= .non))) h:=rfl
section
variable{pg:Tb}(T:bW pg)
include T
theorem sD(k:Nat)(h:PH)(P:Pg)(ok:P.Ok):run pg (k+1) "hands_of" [P.v] h= .ok (.ref h.length) (h++[.lst (au 0 P.hs.length)]):=by
 have:=ok.many;rw[run_eq T.ng rfl];have tn:VF ((P.hs.length:Nat):Int)=P.hs.length:=Sj _;simp? [eL,jh,Pg.v,yS,ug,RB,tn];exact bG rfl
theorem jH(k:Nat)(h:PH){P:Pg}(ok:P.Ok){N:Nat}{S:Wd}(W:dB P N S):run pg (k+12) "waits" [P.v,aE S] h= .ok (.tup (gx P S)) h:=by
 have hm:=ok.many;have ho:=sD T (k+10) h P ok
 let H:PH:=h++[.lst (au 0 P.hs.length)]
 have lc:ip ⟨fv h.length,au 0 P.hs.length⟩ (aR 1 (gN 2) bf (ah "wait_of" (a3 (aa 0) (aa 1) (aa 2))) (run pg (k+11)) [fv P.v,fv (aE S)]) (au 0 P.hs.length) [] H= .ok (gx P S) H:=by
  refine(c8 (jO aS) (RJ P.hs.length) [] (f:=λi=>fv (aD P S i)) (g:=λi:Nat=>PV.int (0+(i:Int))) (λi m=>?_) (by simp;omega)).trans (by rw[SY,XG];rfl);have iz:(0:Int)+(i:Int)=(i:Int):=UP _;have w:=mO T k H ok W (Sf.mp m);show aR _ _ _ _ _ _ _ H= .ok _ H
  clear_value H
  simp? [iz,w]
 have lc':ip ⟨fv h.length,au 0 P.hs.length⟩ (aR 1 (gN 2) bf (ah "wait_of" (a3 (aa 0) (aa 1) (aa 2))) (run pg (k+11)) [fv P.v,fv (aE S)]) (au 0 P.hs.length) [] (h++[.lst (au 0 P.hs.length)])= .ok (gx P S) (h++[.lst (au 0 P.hs.length)]):=lc;rw[run_eq T.EU rfl];simp? [lG,vw,ho,lc'];exact aK (v:= .tup _) (vE (vC ok W))
theorem iu(k:Nat)(h:PH){P:Pg}(ok:P.Ok){N:Nat}{S:Wd}(W:dB P N S):run pg (k+13) "can_go" [P.v,aE S] h= .ok (.ref h.length) (h++[.lst ((bV P S).map dF)]):=by
 have hm:=ok.many;have wa:=jH T k h ok W;have lc:ip ⟨Rv,(gx P S).zipIdx.map λq=> .tup [.int (q.2:Int),q.1]⟩ (aR 2 (gT 2 (aT (gN 2) (aT (gN 3) eF))) (aC (qQ (dq false) (aa 3))) (aa 2) (run pg (k+12)) [fv P.v,fv (aE S)]) ((gx P S).zipIdx.map λq=> .tup [.int (q.2:Int),q.1]) [] h= .ok ((bV P S).map dF) h:=by
  unfold gx;rw[wU,Tc];refine(c8 rfl (RJ P.hs.length) [] (f:=λj=>if decide (aD P S j= .non)=true then fv (dF j) else Rv) (g:=(λq:PV × Nat=>PV.tup [.int (q.2:Int),q.1]) ∘ λj=>(aD P S j,j)) (λi m=>?_) (by simp;omega)).trans (by rw[SY,iq];rfl);show aR _ _ _ _ _ _ (.tup [.int (i:Int),aD P S i]) h=_;by_cases z:aD P S i= .non
  . simp? [z,FA,dF]
  . simp? [z,FA,dF]
 rw[run_eq T.Av rfl];simp? [jU,sR,v8,wa,sI,lc];exact bG rfl
theorem rM(k:Nat)(h:PH){P:Pg}(ok:P.Ok){N:Nat}{S:Wd}(W:dB P N S):run pg (k+13) "is_stuck" [P.v,aE S] h= .ok (.bl (fu (gx P S))) h:=by
 have hm:=ok.many;have wa:=jH T k h ok W;have wo:=vC ok W;have hl:(gx P S).length<=4:=by unfold gx;rw[RB,SH];omega
 have lc:ip ⟨Rv,gx P S⟩ (aR 1 (gN 3) bf (aw gq (aa 3) (eS "end")) (run pg (k+12)) [fv P.v,fv (aE S),fv (.tup (gx P S))]) (gx P S) [] h= .ok (((gx P S).map λv=> !decide (v= .str "end")).map PV.bl) h:=by
  have:=OW (l:=gx P S) (g:=id) (f:=λv=>PV.bl (!decide (v= .str "end"))) (st:=aR 1 (gN 3) bf (aw gq (aa 3) (eS "end")) (run pg (k+12)) [fv P.v,fv (aE S),fv (.tup (gx P S))]) (H:=h) (by omega) (λv m=>by
   have q:=JV (wo v m) h;simp? [id,q])
  rw[List.map_id] at this;rw[this,Tc];rfl
 have ni:=λg=>EW wo g;have an:=L7 (h:=h++[.lst (((gx P S).map λv=> !decide (v= .str "end")).map PV.bl)]) (n:=h.length) (bs:=(gx P S).map λv=> !decide (v= .str "end")) aS;rw[run_eq T.ub rfl];unfold fu;by_cases z:PV.non∈gx P S
 . simp? [eG,iZ,wa,ni,z,Z3]
 . simp? [eG,iZ,wa,ni,z,lc,an,Bool.true_and];rw[aK rfl,List.any_map];rfl
end
noncomputable def sH(j:Nat)(c:Int):PV:= .tup [.int (j),.int c]
def Rw.tg:Rw->Str
 | .hear _ d=>d
 | r=>match r.th with
  | some (_,t)=>t
  | none=> ""
def met(P:Pg)(S:Wd)(j:Nat)(c:Int)(s:fq)(g:PV):Rw->Wd × PV × PV
 | .get _ b=>(S,.int ((S.k7[(P.nm 0).idxOf b]?).getD (0,.non)).1,((S.k7[(P.nm 0).idxOf b]?).getD (0,.non)).2)
 | .put b e=>({ S with k7:=S.k7.set ((P.nm 0).idxOf b) (e.val (fP s.ps),sH j c)},.int (e.val (fP s.ps)),((S.k7[(P.nm 0).idxOf b]?).getD (0,.non)).2)
 | .take l=>({ S with eY:=S.eY.set ((P.nm 1).idxOf l) (fv (j),((S.eY[(P.nm 1).idxOf l]?).getD (Rv,.non)).2)},.non,((S.eY[(P.nm 1).idxOf l]?).getD (Rv,.non)).2)
 | .free l=>({ S with eY:=S.eY.set ((P.nm 1).idxOf l) (Rv,sH j c)},.non,.non)
 | .send l e=>({ S with cy:=S.cy.set ((P.nm 2).idxOf l) (((S.cy[(P.nm 2).idxOf l]?).getD (0,0,[])).1+1,((S.cy[(P.nm 2).idxOf l]?).getD (0,0,[])).2.1,((S.cy[(P.nm 2).idxOf l]?).getD (0,0,[])).2.2++[e.val (fP s.ps)])},.int (e.val (fP s.ps)),.int ((S.cy[(P.nm 2).idxOf l]?).getD (0,0,[])).1)
 | .fetch _ l=>({ S with cy:=S.cy.set ((P.nm 2).idxOf l) (((S.cy[(P.nm 2).idxOf l]?).getD (0,0,[])).1,((S.cy[(P.nm 2).idxOf l]?).getD (0,0,[])).2.1+1,((S.cy[(P.nm 2).idxOf l]?).getD (0,0,[])).2.2.tail)},.int (((S.cy[(P.nm 2).idxOf l]?).getD (0,0,[])).2.2.headD 0),.int ((S.cy[(P.nm 2).idxOf l]?).getD (0,0,[])).2.1)
 | .say d e=>({ S with px:=S.px.set ((P.nm 3).idxOf d) ((S.px[(P.nm 3).idxOf d]?).getD 0+1)},.int (e.val (fP s.ps)),.int ((S.px[(P.nm 3).idxOf d]?).getD 0))
 | _=>(S,g,.non)
noncomputable def jy(S:Wd)(j:Nat)(c:Int)(t:fq):={ S with fY:=S.fY.set j (c+1),cC:=S.cC.set j t}
def oD(r:Rw)(v m:PV):PV:= .tup [.str r.w,.str r.tg,v,m]
def dI P S (j:Nat) (c:Int) (rs:List Rw) (s:fq) g r:=jy (met P S j c s g r).1 j c (bC rs 200 (after s (met P S j c s g r).2.1 r))
noncomputable def fA:Rw->Bool
 | .clock _=>true | .lot _ _=>true | .hear _ _=>true
 | _=>false
def eJ r (g:PV):=(fA r=true-> ∃ i ,g= .int i∧0<=i∧i<=999∧ ∀ x n,r= .lot x n->i < n)∧(fA r=false->g= .non)
theorem cz{α :Type}(f: α ->PV)(l:List α) n z:(l.map f).set n (f z)=(l.set n z).map f:=List.map_set.symm
theorem lR(h:r.th=fv (i,t)):dm d8 (.inr r.w)=fv (.str (rJ i))∧ ¬ r.w∈(["clock", "lot", "hear"]:List Str)∧i < 4∧fA r=false∧r.tg=t:=by
 cases r<;>cases h<;>exact ⟨by rfl,by simp only [Rw.w];decide +kernel,by decide,rfl,rfl⟩
theorem lB(h:fA r=true):r.w∈(["clock", "lot", "hear"]:List Str)∧r.th=Rv∧ ∀ P S j c s g,met P S j c s g r=(S,g,.non):=by
 cases r<;>first | exact ⟨by simp only [Rw.w];decide +kernel,rfl,λ_ _ _ _ _ _=>rfl⟩ | cases h
theorem mF s (h:fA r=true): ∃ tv,bo s r= .tup [.str r.w,.str r.tg,tv]∧((∃ x n,r= .lot x n∧tv= .int n)∨ ¬ r.w= "lot"):=by
 cases r<;>first | exact ⟨_,rfl,.inl ⟨_,_,rfl,rfl⟩⟩ | exact ⟨_,rfl,.inr (by simp only [Rw.w];decide +kernel)⟩ | cases h
theorem qY s (h:r.th=fv (i,t)): ∃ tv,bo s r= .tup [.str r.w,.str t,tv]:=by
 cases r<;>cases h<;>exact⟨_,rfl⟩
theorem mX(h:aV rs s=true)(e:rs[s.row]?=fv r):own s.held r=false/\((∃ i t,r.th=fv (i,t))\/fA r=true):=by
 unfold aV at h;rw[e] at h;have ho:own s.held r=false:=by simpa using h
 refine⟨ho,?_⟩;cases r<;>first | exact .inr rfl | exact .inl ⟨_,_,rfl⟩ | cases ho
section
variable{pg:Tb}(T:bW pg)
include T
theorem cw k h xs (n:Nat) v (hn:n < xs.length) (hx:xs.length<=1000):run pg (k+1) "replaced" [.tup xs,.int (n),v] h= .ok (.tup (xs.set n v)) h:=by
 have c1:fD xs Rv (fv (n))=xs.take n:=by rw[P3.qe (by omega)];rfl
 have c2:fD xs (fv ((n)+1)) Rv=xs.drop (n+1):=by rw[P3.jX (by omega)];congr 1
 have a1: ∀ g,bM (.tup (xs.take n)) (.tup [v]) g= .ok (.tup (xs.take n++[v])) g:=λg=>lF (by grind);have a2: ∀ g,bM (.tup (xs.take n++[v])) (.tup (xs.drop (n+1))) g= .ok (.tup (xs.take n++[v]++xs.drop (n+1))) g:=λg=>lF (by grind);have es:xs.set n v=xs.take n++[v]++xs.drop (n+1):=by rw[List.set_eq_take_append_cons_drop,if_pos hn];simp
 rw[es,run_eq T.uB rfl];simp? [gh,mT,c1,c2,a1,↓a2]
theorem ny k h (h0:a<=i) (h9:i<=b):run pg (k+2) "is_between" [.int i,.int a,.int b] h= .ok (.bl true) h:=by
 have w:run pg (k+1) "is_whole" [.int i] h= .ok (.bl true) h:=by
  rw[run_eq T.uo rfl];simp? [fW,mJ,Ju,KO]
 rw [run_eq T.pI rfl];simp? [dS,j4,w,h0,h9]
theorem E5 k h s (hg:eJ r g) (hc:(∃ i t,r.th=fv (i,t))∨fA r=true):run pg (k+5) "takes_gift" [bo s r,g] h= .ok (.bl true) h:=by
 have ink: ∀ a:Str,qV (.str a) (.ktup [(.str "clock"),(.str "lot"),(.str "hear")]) h= .ok (.bl (decide (a∈(["clock", "lot", "hear"]:List Str)))) h:=λa=>in_K (ss:=["clock", "lot", "hear"]);rw [run_eq T.qp rfl];rcases hc with ⟨i,t,ht⟩ | hq
 . obtain ⟨_,n2,_,n4,_⟩:=lR ht;obtain⟨tv,et⟩:=qY s ht;have eg:=hg.2 n4;subst eg;rw[et];simp? [cD,fR,ink,n2]
 . obtain⟨m1,_⟩:=lB hq;obtain⟨i,rfl,i0,i9,il⟩:=hg.1 hq;obtain⟨tv,et,cl⟩:=mF s hq;have iv:run pg (k+3) "is_value" [.int i] h= .ok (.bl true) h:=by
    have:=ny T k h i0 i9;rw[run_eq T.t9 rfl];simp? [fS,lY,this]
   have mc:run pg (k+4) "may_come" [bo s r,.int i] h= .ok (.bl true) h:=by
    rw[run_eq T.ua rfl];rcases cl with⟨x,n,rfl,rfl⟩ | cl
    . have lt:=il x n rfl;rw[et];simp? [eO,iY,iv,Rw.w,lt]
    . rw[et];simp? [eO,iY,iv,cl]
   rw[et] at mc ⊢;simp? [cD,fR,ink,m1,mc]
theorem yD k h (ok:P.Ok) (W:dB P N S) (ex:P.hs[j]?=fv x) (es:S.cC[j]?=fv s) (er:x.2[s.row]?=fv r) (hw:aD P S j= .non) (hg:eJ r g):run pg (k+12) "due_touch" [P.v,aE S,.int j,g] h= .ok (bo s r) h:=by
 have hj:=(RC.mp ex).1;have so:=W.se j x s ex es;obtain⟨l1,l2,l3⟩:=gC (ok.hd x (RN ex));have to:=kP T (k+1) h (by omega) (P.hand ex) l3 so.so;unfold lZ at to;rw[er] at to;have to':=to;have i1: ∀ g,aL (aE S) (.int 1) g= .ok (.tup (S.cC.map ay)) g:=λg=>wQ;have i2: ∀ g,aL (.tup (S.cC.map ay)) (.int j) g= .ok (ay s) g:=λg=>lI (bY es);have i4: ∀ g,aL P.v (.int 4) g= .ok (.tup (P.hs.map bA)) g:=λg=>Fm;have w:=mO T k h ok W hj;rw[hw] at w;have bt:=ny T (k+9) h (i:=(j)) (a:=0) (b:=(P.hs.length) - 1) (by omega) (by omega);have tg:=E5 T (k+6) h s hg (mX so.re er).2;have en:dE .non (.str "end") h= .ok (.bl false) h:=rfl;rw[run_eq T.rn rfl];simp? [fg,kZ,i4,RB,bt,w,en,i1,i2,to',tg]
theorem mq k h (ok:P.Ok) (W:dB P N S) (N9:N<=60) {j:Nat} (ex:P.hs[j]?=fv x) (es:S.cC[j]?=fv s) (ec:S.fY[j]?=fv c) (er:x.2[s.row]?=fv r) (h1:S1.fY=S.fY) (h2:S1.cC=S.cC) (hv: ∀ x,r.fw=fv x-> ∃ i ,v= .int i/\0<=i/\i<=999):run pg (k+12) "with_hand_on" [P.v,aE S1,.int j,v] h= .ok (aE (jy S1 j c (bC x.2 200 (after s v r)))) h:=by
 have so:=W.se j x s ex es;have hm:=ok.many;obtain⟨l1,l2,l3⟩:=gC (ok.hd x (RN ex))
 let t:=bC x.2 200 (after s v r)
 have sb:run pg (k+11) "seat_behind" [P.v,.int j,ay s,v] h= .ok (ay t) h:=lP T k h (by omega) (P.hand ex) l3 so.so (R5 so.le N9) er hv;have lj:=(RC.mp ex).1;have i0: ∀ g,aL (aE S1) (.int 0) g= .ok (.tup (S.fY.map PV.int)) g:=λg=>by rw[<- h1];exact BA
 have i1: ∀ g,aL (aE S1) (.int 1) g= .ok (.tup (S.cC.map ay)) g:=λg=>by rw[<- h2];exact wQ
 have i2: ∀ g,aL (.tup (S.cC.map ay)) (.int j) g= .ok (ay s) g:=λg=>lI (bY es);have i3: ∀ g,aL (.tup (S.fY.map PV.int)) (.int j) g= .ok (.int c) g:=λg=>lI (bY ec);have lc:=W.lc;have ls:=W.ls;have r1:=cw T (k+10) h (S.fY.map PV.int) j (.int (c+1)) (by simp_all) (by rw[RB];omega);rw[cz PV.int] at r1;have r2:=cw T (k+10) h (S.cC.map ay) j (ay t) (by simp_all) (by rw[RB];omega);rw[cz ay] at r2
 let B:List PV:=[.tup (S1.k7.map n8),.tup (S1.eY.map jo),.tup (S1.cy.map kX),.tup (S1.px.map PV.int)]
 have e1:aE S1= .tup (.tup (S.fY.map PV.int):: .tup (S.cC.map ay)::B):=by rw[<- h1,<- h2];rfl
 have r3:=cw T (k+10) h (.tup (S.fY.map PV.int):: .tup (S.cC.map ay)::B) 0 (.tup ((S.fY.set j (c+1)).map PV.int)) (by simp[B]) (by simp[B]);rw[<- e1] at r3;have r3':run pg (k+11) "replaced" [aE S1,.int 0,.tup ((S.fY.set j (c+1)).map PV.int)] h= .ok (.tup (.tup ((S.fY.set j (c+1)).map PV.int):: .tup (S.cC.map ay)::B)) h:=r3;have r4:=cw T (k+10) h (.tup ((S.fY.set j (c+1)).map PV.int):: .tup (S.cC.map ay)::B) 1 (.tup ((S.cC.set j t).map ay)) (by simp[B]) (by simp[B]);have r4':run pg (k+11) "replaced" [.tup (.tup ((S.fY.set j (c+1)).map PV.int):: .tup (S.cC.map ay)::B),.int 1,.tup ((S.cC.set j t).map ay)] h= .ok (aE (jy S1 j c t)) h:=by
  refine(show _=RV.ok (PV.tup (.tup ((S.fY.set j (c+1)).map PV.int):: .tup ((S.cC.set j t).map ay)::B)) h from r4).trans ?_;unfold jy aE;rw[h1,h2]
 show _=RV.ok (aE (jy S1 j c t)) h;rw[run_eq T.m8 rfl];simp? [cA,gD,i0,i1,i2,i3,sb,r1,r2,r3',r4']
end
def Kc(S:Wd)(i n:Nat)(z:PV):PV:= .tup ([.tup (S.fY.map PV.int),.tup (S.cC.map ay),.tup (S.k7.map n8),.tup (S.eY.map jo),.tup (S.cy.map kX),.tup (S.px.map PV.int)].set (2+i) (.tup ((yA S i).set n z)))
theorem yV{α :Type}{l:List α}{z}(e:l[n]?=fv z):l.set n z=l:=by
 obtain⟨h,rfl⟩:=RC.mp e;exact List.set_getElem_self h
theorem Ah(W:dB P N S)(i4:i < 4):(yA S i).length=(P.nm i).length:=by
 match i,i4 with
 | 0,_=>show(S.k7.map n8).length=(P.bs.map (·.1)).length;rw[RB,RB];exact W.l0
 | 1,_=>show(S.eY.map jo).length=P.s1.length;rw[RB];exact W.l1
 | 2,_=>show(S.cy.map kX).length=P.s2.length;rw[RB];exact W.l2
 | 3,_=>show(S.px.map PV.int).length=P.s3.length;rw[RB];exact W.l3
theorem Hq{P:Pg}(ok:P.Ok)(i4:i < 4):(P.nm i).length<=20:=by
 match i,i4 with
 | 0,_=>show(P.bs.map (·.1)).length<=20;rw[RB];exact ok.bx.1
 | 1,_=>exact ok.nm.1.1
 | 2,_=>exact ok.nm.2.1.1
 | 3,_=>exact ok.nm.2.2.1
section
variable{pg:Tb}(T:bW pg)
include T
theorem nW k h (ok:P.Ok) (W:dB P N S) (i4:i < 4) (m:t∈P.nm i) z:run pg (k+3) "with_state" [P.v,aE S,.str (rJ i),.str t,z] h= .ok (Kc S i ((P.nm i).idxOf t) z) h:=by
 have n1:=o7 T k h ok m;have hn:(P.nm i).idxOf t < (yA S i).length:=by rw[Ah W i4];exact U5 m
 have hx:=Hq ok i4;rw[<- Ah W i4] at hx;have pl:dm cj (.inr (rJ i))=fv (.int ((2+i:Nat))):=by
  match i,i4 with
  | 0,_=>decide +kernel
  | 1,_=>decide +kernel
  | 2,_=>decide +kernel
  | 3,_=>decide +kernel
 have st: ∀ g,aL (aE S) (.int ((2+i:Nat):Int)) g= .ok (.tup (yA S i)) g:=λg=>by
  match i,i4 with
  | 0,_=>exact D3
  | 1,_=>exact EJ
  | 2,_=>exact Fm
  | 3,_=>exact Io
 have r1:=cw T (k+1) h (yA S i) ((P.nm i).idxOf t) z hn (by omega);have r2:=cw T (k+1) h [.tup (S.fY.map PV.int),.tup (S.cC.map ay),.tup (S.k7.map n8),.tup (S.eY.map jo),.tup (S.cy.map kX),.tup (S.px.map PV.int)] (2+i) (.tup ((yA S i).set ((P.nm i).idxOf t) z)) (by simp only[R3,Uu];omega) (by simp_all);have r2':run pg (k+2) "replaced" [aE S,.int ((2+i:Nat):Int),.tup ((yA S i).set ((P.nm i).idxOf t) z)] h= .ok (Kc S i ((P.nm i).idxOf t) z) h:=r2;rw [run_eq T.pP rfl];simp? [dR,jw,pl,st,n1,r1,r2']
theorem eQ k h (ok : P.Ok) (W : dB P N S) (N9 : N <= 60) (ex : P.hs[j]? = some x) (es : S.cC[j]? = some s) (ec : S.fY[j]? = some c) (er : x.2[s.row]? = some r) (hw : aD P S j = .non)
      (ht : r.th = some (i, t)) (ez : (yA S i)[(P.nm i).idxOf t]? = some z) (me : run pg (k + 12) "meeting" [bo s r, sH j c, z] h = .ok (.tup [v, m, z']) h) (h0 : Kc S i ((P.nm i).idxOf t) z' = aE S1) (h1 : S1.fY = S.fY) (h2 : S1.cC = S.cC) (hv : ∀ x, r.fw = some x -> ∃ i , v = .int i /\ 0 <= i /\ i <= 999) :
    run pg (k + 13) "gone" [P.v, aE S, .int j, .non] h = .ok (.tup [aE (jy S1 j c (bC x.2 200 (after s v r))), oD r v m]) h := by
  obtain ⟨q1, q2, q3, q4, q5⟩ := lR ht;have tm := bD ok ex (RN er) ht;obtain ⟨tv, et⟩ := qY s ht;have du := yD T k h ok W ex es er hw (g := .non) ⟨λe => (by simp_all), λ_ => rfl⟩;have so := lU T (k + 9) h ok S q3 tm ez;have ws := nW T (k + 9) h ok W q3 tm z';rw [h0] at ws;have ho := mq T k h ok W N9 ex es ec er h1 h2 hv;have i0 : ∀ g, aL (aE S) (.int 0) g = .ok (.tup (S.fY.map PV.int)) g := λg => BA;have i3 : ∀ g, aL (.tup (S.fY.map PV.int)) (.int j) g = .ok (.int c) g := λg => lI (bY ec);have ink : ∀ a : Str, qV (.str a) (.ktup [(.str "clock"), (.str "lot"), (.str "hear")]) h = .ok (.bl (decide (a ∈ (["clock", "lot", "hear"] : List Str)))) h := λa => in_K (ss := ["clock", "lot", "hear"]);unfold sH at me;unfold oD;rw [et] at du me;rw [q5, run_eq T.Bd rfl];simp? (disch := omega) only [nB, tM, du, ink, q2, q1, i0, i3, so, me, ws, ho]
theorem wY k h (ok:P.Ok) (W:dB P N S) (N9:N<=60) (ex:P.hs[j]?=fv x) (es:S.cC[j]?=fv s) (ec:S.fY[j]?=fv c) (er:x.2[s.row]?=fv r) (hw:aD P S j= .non) (hq:fA r=true) (hg:eJ r g) :
  run pg (k+13) "gone" [P.v,aE S,.int j,g] h= .ok (.tup [aE (jy S j c (bC x.2 200 (after s g r))),oD r g .non]) h:=by
 obtain ⟨q1,q2,q3⟩:=lB hq;obtain⟨tv,et,_⟩:=mF s hq;have du:=yD T k h ok W ex es er hw hg;obtain ⟨i,rfl,i0,i9,_⟩:=hg.1 hq;have ho:=mq T k h ok W N9 ex es ec er (S1:=S) rfl rfl (v:= .int i) (λ_ _=>⟨i,rfl,i0,i9⟩);have ink: ∀ a:Str,qV (.str a) (.ktup [(.str "clock"),(.str "lot"),(.str "hear")]) h= .ok (.bl (decide (a∈(["clock", "lot", "hear"]:List Str)))) h:=λa=>in_K (ss:=["clock", "lot", "hear"]);unfold oD;rw [et] at du;rw [run_eq T.Bd rfl];simp? [nB,tM,du,ink,q1,ho]
theorem C1 k h (ok:P.Ok) (W:dB P N S) (N9:N<=60) (ex:P.hs[j]?=fv x) (es:S.cC[j]?=fv s) (ec:S.fY[j]?=fv c) (er:x.2[s.row]?=fv r) (hw:aD P S j= .non) (hg:eJ r g) :
  run pg (k+13) "gone" [P.v,aE S,.int j,g] h= .ok (.tup [aE (dI P S j c x.2 s g r),oD r (met P S j c s g r).2.1 (met P S j c s g r).2.2]) h:=by
 have so:=W.se j x s ex es;have mr:=RN er;rcases(mX so.re er).2 with⟨i,t,ht⟩ | hq
 . obtain⟨q1,q2,q3,q4,q5⟩:=lR ht;have eg:=hg.2 q4;subst eg;have tm:=bD ok ex mr ht;cases r with
   | get y b =>
    obtain⟨z,ez,mz⟩:=bc (l:=S.k7) (ns:=P.nm 0) (by rw[W.l0];exact(RB ..).symm) (bD ok ex mr (k:=0) (t:=b) rfl)
    have hz:=W.bx z mz
    have:=eQ T k h ok W N9 ex es ec er hw (r:= .get y b) (i:=0) (t:=b) rfl (z:=n8 z) (v:= .int z.1) (m:=z.2) (z':=n8 z) (S1:=S) (by show(S.k7.map n8)[_]?=_;rw[RP,ez];rfl) (by
     rw[run_eq T.cT rfl];simp? [bL,cv,bo,n8,sH]) (by
     show PV.tup [_,_,.tup ((S.k7.map n8).set _ (n8 z)),_,_,_]=_;rw[cz n8,yV ez];rfl) rfl rfl (λ_ _=>⟨z.1,rfl,hz.1.1,hz.1.2⟩)
    simp only[dI,met,ez,Sk]
    exact this
   | put b e =>
    obtain⟨z,ez,mz⟩:=bc (l:=S.k7) (ns:=P.nm 0) (by rw[W.l0];exact(RB ..).symm) (bD ok ex mr (k:=0) (t:=b) rfl)
    have:=eQ T k h ok W N9 ex es ec er hw (r:= .put b e) (i:=0) (t:=b) rfl (z:=n8 z) (v:= .int (e.val (fP s.ps))) (m:=z.2) (z':=n8 (e.val (fP s.ps),sH j c)) (S1:={ S with k7:=S.k7.set ((P.nm 0).idxOf b) (e.val (fP s.ps),sH j c)}) (by show(S.k7.map n8)[_]?=_;rw[RP,ez];rfl) (by
     rw[run_eq T.cT rfl];simp? [bL,cv,bo,n8,sH]) (by
     show PV.tup [_,_,.tup ((S.k7.map n8).set _ (n8 _)),_,_,_]=_;rw[cz n8];rfl) rfl rfl (λ_ q=>by cases q)
    simp only[dI,met,ez,Sk]
    exact this
   | take l =>
    obtain⟨z,ez,mz⟩:=bc (l:=S.eY) (ns:=P.nm 1) W.l1 (bD ok ex mr (k:=1) (t:=l) rfl)
    have:=eQ T k h ok W N9 ex es ec er hw (r:= .take l) (i:=1) (t:=l) rfl (z:=jo z) (v:= .non) (m:=z.2) (z':=jo (fv (j),z.2)) (S1:={ S with eY:=S.eY.set ((P.nm 1).idxOf l) (fv (j),z.2)}) (by show(S.eY.map jo)[_]?=_;rw[RP,ez];rfl) (by
     rw[run_eq T.cT rfl];simp? [bL,cv,bo,jo,FZ,sH]) (by
     show PV.tup [_,_,_,.tup ((S.eY.map jo).set _ (jo _)),_,_]=_;rw[cz jo];rfl) rfl rfl (λ_ q=>by cases q)
    simp only[dI,met,ez,Sk]
    exact this
   | free l =>
    obtain⟨z,ez,mz⟩:=bc (l:=S.eY) (ns:=P.nm 1) W.l1 (bD ok ex mr (k:=1) (t:=l) rfl)
    have:=eQ T k h ok W N9 ex es ec er hw (r:= .free l) (i:=1) (t:=l) rfl (z:=jo z) (v:= .non) (m:= .non) (z':=jo (Rv,sH j c)) (S1:={ S with eY:=S.eY.set ((P.nm 1).idxOf l) (Rv,sH j c)}) (by show(S.eY.map jo)[_]?=_;rw[RP,ez];rfl) (by
     rw[run_eq T.cT rfl];simp? [bL,cv,bo,jo,FZ,sH]) (by
     show PV.tup [_,_,_,.tup ((S.eY.map jo).set _ (jo _)),_,_]=_;rw[cz jo];rfl) rfl rfl (λ_ q=>by cases q)
    simp only[dI,met]
    exact this
   | send l e =>
    obtain⟨z,ez,mz⟩:=bc (l:=S.cy) (ns:=P.nm 2) W.l2 (bD ok ex mr (k:=2) (t:=l) rfl)
    have hz:=(W.ln z mz).2.2.1
    have ad: ∀ g,bM (.tup (z.2.2.map PV.int)) (.tup [.int (e.val (fP s.ps))]) g= .ok (.tup ((z.2.2++[e.val (fP s.ps)]).map PV.int)) g:=λg=>by
     rw[lF (by simp only[RB,R3,Uu];omega),TM];rfl
    have:=eQ T k h ok W N9 ex es ec er hw (r:= .send l e) (i:=2) (t:=l) rfl (z:=kX z) (v:= .int (e.val (fP s.ps))) (m:= .int z.1) (z':=kX (z.1+1,z.2.1,z.2.2++[e.val (fP s.ps)])) (S1:={ S with cy:=S.cy.set ((P.nm 2).idxOf l) (z.1+1,z.2.1,z.2.2++[e.val (fP s.ps)])}) (by show(S.cy.map kX)[_]?=_;rw[RP,ez];rfl) (by
     rw[run_eq T.cT rfl];simp? [bL,cv,bo,kX,sH,↓ad]) (by
     show PV.tup [_,_,_,_,.tup ((S.cy.map kX).set _ (kX _)),_]=_;rw[cz kX];rfl) rfl rfl (λ_ q=>by cases q)
    simp only[dI,met,ez,Sk]
    exact this
   | fetch y l =>
    obtain⟨z,ez,mz⟩:=bc (l:=S.cy) (ns:=P.nm 2) W.l2 (bD ok ex mr (k:=2) (t:=l) rfl)
    have hz:=(W.ln z mz).2.2.2
    obtain⟨za,zb,zl⟩:=z
    obtain⟨i,ls,rfl⟩: ∃ i ls,zl=i::ls:=by
     cases zl with
     | cons i ls=>exact⟨i,ls,rfl⟩
     | nil =>
      unfold aD at hw
      rw[fJ ex es,er] at hw
      simp only[dG,ez] at hw
      nomatch hw
    have hi:=hz i RU
    have:=eQ T k h ok W N9 ex es ec er hw (r:= .fetch y l) (i:=2) (t:=l) rfl (z:=kX (za,zb,i::ls)) (v:= .int i) (m:= .int zb) (z':=kX (za,zb+1,ls)) (S1:={ S with cy:=S.cy.set ((P.nm 2).idxOf l) (za,zb+1,ls)}) (by show(S.cy.map kX)[_]?=_;rw[RP,ez];rfl) (by
     rw[run_eq T.cT rfl];simp? [bL,cv,bo,kX,sH,rZ]) (by
     show PV.tup [_,_,_,_,.tup ((S.cy.map kX).set _ (kX _)),_]=_;rw[cz kX];rfl) rfl rfl (λ_ _=>⟨i,rfl,hi.1,hi.2⟩)
    simp only[dI,met,ez,Sk,List.tail_cons,ZK]
    exact this
   | say d e =>
    obtain⟨z,ez,mz⟩:=bc (l:=S.px) (ns:=P.nm 3) W.l3 (bD ok ex mr (k:=3) (t:=d) rfl)
    have:=eQ T k h ok W N9 ex es ec er hw (r:= .say d e) (i:=3) (t:=d) rfl (z:= .int z) (v:= .int (e.val (fP s.ps))) (m:= .int z) (z':= .int (z+1)) (S1:={ S with px:=S.px.set ((P.nm 3).idxOf d) (z+1)}) (by show(S.px.map PV.int)[_]?=_;rw[RP,ez];rfl) (by
     rw[run_eq T.cT rfl];simp? [bL,cv,bo,sH]) (by
     show PV.tup [_,_,_,_,_,.tup ((S.px.map PV.int).set _ (.int _))]=_;rw[cz PV.int];rfl) rfl rfl (λ_ q=>by cases q)
    simp only[dI,met,ez,Sk]
    exact this
   | _=>cases ht
 . obtain⟨_,_,q3⟩:=lB hq;rw[dI,q3];exact wY T k h ok W N9 ex es ec er hw hq hg
end
theorem ph s v r:(after s v r).row=s.row+1:=by cases r<;>rfl
theorem AH(hs:cV L rs s)(e:rs[s.row]?=fv r)(hr:jg L rs.length r)(hv: ∀ x,r.fw=fv x-> ∃ i ,v= .int i/\0<=i/\i<=999):cV L rs (after s v r):=by
 have hlt:=(RC.mp e).1;rcases rw_cls r with⟨x,hx⟩ | ⟨l,rfl⟩ | ⟨l,rfl⟩ | ⟨_,af⟩
 . obtain⟨i,rfl,h0,h9⟩:=hv x hx;rw[nI hx];exact⟨vc hs.pk (hr.pk hx) h0 h9,hlt⟩
 . exact⟨hs.pk,hlt⟩
 . exact⟨hs.pk,hlt⟩
 . rw[af];exact⟨hs.pk,hlt⟩
theorem uc(ex:P.hs[j]?=fv x)(es:S.cC[j]?=fv s)(er:x.2[s.row]?=fv (.fetch y l))(hw:aD P S j= .non)(ez:S.cy[(P.nm 2).idxOf l]?=fv z): ∃ a b i ls,z=(a,b,i::ls):=by
 obtain⟨za,zb,zl⟩:=z;cases zl with
 | cons i ls=>exact⟨za,zb,i,ls,rfl⟩
 | nil =>
  unfold aD at hw
  rw[fJ ex es,er] at hw
  simp only[dG,ez] at hw
  nomatch hw
theorem E9(W:dB P N S):S.k7.length=(P.nm 0).length:=by rw[W.l0];exact(RB ..).symm
theorem Jl(ok:P.Ok)(W:dB P N S)(ex:P.hs[j]?=fv x)(es:S.cC[j]?=fv s)(er:x.2[s.row]?=fv r)(hw:aD P S j= .non)(hg:eJ r g): ∀ y,r.fw=fv y-> ∃ i ,(met P S j c s g r).2.1= .int i/\0<=i/\i<=999:=by
 have mr:=RN er;have gi:fA r=true-> ∃ i:Int,(met P S j c s g r).2.1= .int i/\0<=i/\i<=999:=λhq=>by
  obtain⟨i,rfl,h0,h9,_⟩:=hg.1 hq;rw[(lB hq).2.2];exact⟨i,rfl,h0,h9⟩
 intro y hy;cases r with
 | get y' b =>
  obtain⟨z,ez,mz⟩:=bc (E9 W) (bD ok ex mr (k:=0) (t:=b) rfl)
  exact⟨z.1,by simp only[met,ez,Sk],(W.bx z mz).1⟩
 | fetch y' l =>
  obtain⟨z,ez,mz⟩:=bc (l:=S.cy) (ns:=P.nm 2) W.l2 (bD ok ex mr (k:=2) (t:=l) rfl)
  obtain⟨a,b,i,ls,rfl⟩:=uc ex es er hw ez
  exact⟨i,by simp only[met,ez,Sk,ZK],(W.ln _ mz).2.2.2 i RU⟩
 | clock _=>exact gi rfl
 | lot _ _=>exact gi rfl
 | hear _ _=>exact gi rfl
 | _=>cases hy
theorem t6.up(h:t6 N v):t6 (N+1) v:=by
 rcases h with h | ⟨a,b,h,h1,h2,h3,h4⟩
 . exact .inl h
 . exact .inr ⟨a,b,h,h1,h2,h3,by omega⟩
theorem Lo.up(h:Lo P N x s):Lo P (N+1) x s:=⟨h.so,h.nd,by have:=h.le;omega,h.re,h.nm,h.sr⟩
theorem dB.up(W:dB P N S):dB P (N+1) S where
 lc:=W.lc
 ls:=W.ls
 l0:=W.l0
 l1:=W.l1
 l2:=W.l2
 l3:=W.l3
 ct c m:=by have:=W.ct c m;omega
 bx b m:=⟨(W.bx b m).1,(W.bx b m).2.up⟩
 lk l m:=⟨(W.lk l m).1,(W.lk l m).2.up⟩
 ln n m:=by have:=W.ln n m;exact⟨by omega,by omega,by omega,this.2.2.2⟩
 dr d m:=by have:=W.dr d m;omega
 se j x s e1 e2:=(W.se j x s e1 e2).up
theorem K9(ok:P.Ok)(W:dB P N S)(ex:P.hs[j]?=fv x)(es:S.cC[j]?=fv s)(ec:S.fY[j]?=fv c)(er:x.2[s.row]?=fv r)(hw:aD P S j= .non)(hg:eJ r g):dB P (N+1) (met P S j c s g r).1:=by
 have mr:=RN er;have U:=W.up;have lj:=(RC.mp ex).1;have hm:=ok.many;have hc:=W.ct c (RN ec);have so:=W.se j x s ex es;obtain⟨l1,l2,l3⟩:=gC (ok.hd x (RN ex));have hr:=l3 r mr;have yr: ∀ e:Sm,nL e->0<=e.val (fP s.ps)/\e.val (fP s.ps)<=999:=λe he=>Sm.pS (sU λq m=>(so.so.pk.mem q m).2) e he.1;have mk:t6 (N+1) (sH j c):= .inr ⟨j,c,rfl,by omega,by omega,by omega,by omega⟩;cases r with
 | get y b=>exact U
 | put b e=>exact{ U with
   l0:=by rw[<- U.l0];exact Su
   bx:=λq m=>by
    rcases SV m with m | rfl
    . exact U.bx q m
    . exact⟨yr e hr,mk⟩}
 | take l =>
  obtain⟨z,ez,mz⟩:=bc (l:=S.eY) (ns:=P.nm 1) W.l1 (bD ok ex mr (k:=1) (t:=l) rfl)
  simp only[met,ez,Sk]
  exact{ U with
   l1:=by rw[<- U.l1];exact Su
   lk:=λq m=>by
    rcases SV m with m | rfl
    . exact U.lk q m
    . exact⟨λi e=>by cases e;omega,(U.lk z mz).2⟩}
 | free l=>exact{ U with
   l1:=by rw[<- U.l1];exact Su
   lk:=λq m=>by
    rcases SV m with m | rfl
    . exact U.lk q m
    . exact⟨λi e=>(by cases e),mk⟩}
 | send l e =>
  obtain⟨z,ez,mz⟩:=bc (l:=S.cy) (ns:=P.nm 2) W.l2 (bD ok ex mr (k:=2) (t:=l) rfl)
  have hz:=W.ln z mz
  simp only[met,ez,Sk]
  exact{ U with
   l2:=by rw[<- U.l2];exact Su
   ln:=λq m=>by
    rcases SV m with m | rfl
    . exact U.ln q m
    . refine⟨by show 0<=z.1+1/\z.1+1<=((N+1));omega,by show 0<=z.2.1/\z.2.1<=((N+1));omega,by simp_all,λv mv=>?_⟩;rcases Uq.mp mv with mv | mv
      . exact hz.2.2.2 v mv
      . rw[Sr.mp mv];exact yr e hr}
 | fetch y l =>
  obtain⟨z,ez,mz⟩:=bc (l:=S.cy) (ns:=P.nm 2) W.l2 (bD ok ex mr (k:=2) (t:=l) rfl)
  have hz:=W.ln z mz
  simp only[met,ez,Sk]
  exact{ U with
   l2:=by rw[<- U.l2];exact Su
   ln:=λq m=>by
    rcases SV m with m | rfl
    . exact U.ln q m
    . refine⟨by show 0<=z.1/\z.1<=((N+1));omega,by show 0<=z.2.1+1/\z.2.1+1<=((N+1));omega,by rw[Zr];omega,λv mv=>hz.2.2.2 v (List.mem_of_mem_tail mv)⟩}
 | say d e =>
  obtain⟨z,ez,mz⟩:=bc (l:=S.px) (ns:=P.nm 3) W.l3 (bD ok ex mr (k:=3) (t:=d) rfl)
  have hz:=W.dr z mz
  simp only[met,ez,Sk]
  exact{ U with
   l3:=by rw[<- U.l3];exact Su
   dr:=λq m=>by
    rcases SV m with m | rfl
    . exact U.dr q m
    . omega}
 | _=>exact U
theorem ER(ok:P.Ok)(W:dB P N S)(ex:P.hs[j]?=fv x)(es:S.cC[j]?=fv s)(ec:S.fY[j]?=fv c)(er:x.2[s.row]?=fv r)(hw:aD P S j= .non)(hg:eJ r g):dB P (N+1) (dI P S j c x.2 s g r):=by
 have mr:=RN er;have M:=K9 ok W ex es ec er hw hg;have mc:(met P S j c s g r).1.fY=S.fY/\(met P S j c s g r).1.cC=S.cC:=by cases r<;>exact⟨rfl,rfl⟩
 have so:=W.se j x s ex es;have hc:=W.ct c (RN ec);obtain⟨l1,l2,l3⟩:=gC (ok.hd x (RN ex));have hv:=Jl ok W (c:=c) ex es er hw hg;have ow:=(mX so.re er).1;have ls:=(RC.mp es).1;have hh:(after s (met P S j c s g r).2.1 r).held.Nodup/\(after s (met P S j c s g r).2.1 r).held.length<=N+1/\(∀ l∈(after s (met P S j c s g r).2.1 r).held,l∈P.s1)/\(after s (met P S j c s g r).2.1 r).held.Pairwise iB:=by
  have le:=so.le;rcases rw_cls r with⟨y,hy⟩ | ⟨l,rfl⟩ | ⟨l,rfl⟩ | ⟨_,af⟩
  . rw[nI hy];exact⟨so.nd,by show s.held.length<=_;omega,so.nm,so.sr⟩
  . have nl:l ∉ s.held:=by simpa [own] using ow
    have ndl:(s.held++[l]).Nodup:=WL.mpr ⟨so.nd,by simp,λa ha b hb e=>nl (by rw[<- Sr.mp hb,<- e];exact ha)⟩;refine⟨?_,?_,λy hy=>?_,yf ndl⟩
    . show(cR (s.held++[l])).Nodup;rw[(eK _).nodup_iff];exact ndl
    . show(cR (s.held++[l])).length<=_;rw[(eK _).length_eq];simp;omega
    . have hy':y∈cR (s.held++[l]):=hy;rw[(eK _).mem_iff,Uq] at hy';rcases hy' with hy' | hy'
      . exact so.nm y hy'
      . rw[Sr.mp hy'];exact bD ok ex mr (k:=1) (t:=l) rfl
  . refine⟨so.nd.sublist Wc,?_,λy hy=>so.nm y (TL.mp hy).1,so.sr.sublist Wc⟩;exact R5 (XY _ _) (by omega)
  . rw[af];exact⟨so.nd,by show s.held.length<=_;omega,so.nm,so.sr⟩
 exact{ M with
  lc:=by rw[<- M.lc];exact Su
  ls:=by rw[<- M.ls];exact Su
  ct:=λq m=>by
   rcases SV m with m | rfl
   . exact M.ct q m
   . omega
  se:=λi y t ey et=>by
   have et':(S.cC.set j (bC x.2 200 (after s (met P S j c s g r).2.1 r)))[i]?=fv t:=by rw[<- mc.2];exact et
   by_cases z:j=i
   . subst z;rw[TB ls] at et';rw[ex] at ey;cases et';cases ey;exact⟨mG l3 200 _ (AH so.so er (l3 r mr) hv),by rw[c7];exact hh.1,by rw[c7];exact hh.2.1,fV 200 _,by rw[c7];exact hh.2.2.1,by rw[c7];exact hh.2.2.2⟩
   . rw[TZ z] at et';exact(W.se i y t ey et').up}
theorem wt{α :Type}{f}: ∀{l:List α},(∀ x∈l,vm (f x)=true)->jV (l.map f)=true
 | [],_=>rfl
 | x::r,h=>by rw[RL,jV,h x RU,wt λz m=>h z (RS _ m)];rfl
theorem wx{α :Type}{f}: ∀{l:List α},(∀ x∈l,F4 (f x)<=c)->F7 (l.map f)<=(c+1)*l.length
 | [],_=>Si _
 | x::r,h=>by
  have h1:=h x RU;have h2:=wx (l:=r) λz m=>h z (RS _ m);rw[RL,F7,R3,XH];omega
theorem vv{α :Type}{f}: ∀{l:List α},(∀ x∈l,DN (f x)<=c)->rE (l.map f)<=c
 | [],_=>Si _
 | x::r,h=>by
  have h1:=h x RU;have h2:=vv (l:=r) λz m=>h z (RS _ m);rw[RL,rE];omega
structure Sh(b d:Nat)(v:PV):Prop where
 ok:vm v=true
 bk:F4 v<=b
 dp:DN v<=d
theorem ee{α :Type}{f}{l:List α} n (hl:l.length<=n) (h: ∀ x∈l,Sh b d (f x)):Sh ((b+1)*n) (d+1) (.tup (l.map f)) :=
 ⟨by exact wt λx m=>(h x m).ok,by exact R5 (wx λx m=>(h x m).bk) (Nat.mul_le_mul_left _ hl),by rw[DN];have:=vv λx m=>(h x m).dp;omega⟩
theorem p4(h:rS x=true):Sh 20 0 (.str x):=⟨h,Hk h,RE _⟩
theorem bu(h0:0<=i)(h1:i<=1000000):Sh 0 0 (.int i):=⟨by rw[vm,decide_eq_true_eq];exact⟨h0,h1⟩,RE _,RE _⟩
theorem iV:Sh 0 0 .non:=⟨rfl,RE _,RE _⟩
theorem nZ d:Sh 0 (d+1) (.tup []):=⟨rfl,RE _,Xa (Si _)⟩
theorem cM d (h:Sh b e v) (t:Sh c (d+1) (.tup vs)) (he:e<=d:=by decide):Sh (b+1+c) (d+1) (.tup (v::vs)):=by
 have t1:=t.ok;have t2:=t.bk;have t3:=t.dp;have h2:=h.bk;have h3:=h.dp;rw[vm] at t1;rw[F4] at t2;rw[DN] at t3;exact⟨by rw[vm,jV,h.ok,t1];rfl,by rw[F4,F7];omega,by rw[DN,rE];omega⟩
theorem Sh.up{e}(h:Sh b d v)(hb:b<=c:=by decide)(hd:d<=e:=by decide):Sh c e v:=⟨h.ok,R5 h.bk hb,R5 h.dp hd⟩
theorem Sh.show(h:Sh b d (.tup xs))(hb:b<=1000000:=by decide)(hd:d<=61:=by decide): ∃ x ,∀ g,uE [.tup xs] g= .ok (.str x) g:=by
 have h1:=h.ok;have h2:=h.bk;have h3:=h.dp;rw[F4] at h2;rw[DN] at h3;exact CS h1 (by omega) (by omega)
theorem FQ{P:Pg}(ok:P.Ok){k:Nat}{t:Str}(m:t∈P.nm k):rS t=true:=by
 match k,m with
 | 0,m =>
  obtain⟨z,mz,rfl⟩:=Se.mp (show t∈P.bs.map (·.1) from m)
  exact(ok.bx.2 z mz).1
 | 1,m=>exact(ok.nm.1.2 t m).1
 | 2,m=>exact(ok.nm.2.1.2 t m).1
 | _+3,m=>exact(ok.nm.2.2.2 t m).1
theorem rT(N9:N<=100)(h:t6 N v):Sh 2 1 v:=by
 rcases h with rfl | ⟨a,b,rfl,h1,h2,h3,h4⟩
 . exact iV.up
 . exact cM 0 (bu h1 (by omega)) (cM 0 (bu h3 (by omega)) (nZ 0))
theorem As(ok:P.Ok)(N9:N<=100)(W:dB P N S):Sh 100000 5 (aE S):=by
 have hm:=ok.many;have a0:Sh ((0+1)*4) 1 (.tup (S.fY.map PV.int)):=ee 4 (by rw[W.lc];omega) λc m=>by have:=W.ct c m;exact bu (by omega) (by omega)
 have a1:Sh ((2500+1)*4) 4 (.tup (S.cC.map ay)):=ee 4 (by rw[W.ls];omega) λs m=>by
  obtain⟨j,hj,ej⟩:=List.getElem_of_mem m;have es:S.cC[j]?=fv s:=by rw[<- ej];exact RH hj
  have hj':j < P.hs.length:=by rw[<- W.ls];exact hj
  have so:=W.se j _ s (RH hj') es;obtain⟨l1,l2,l3⟩:=gC (ok.hd _ (Ve hj'));have hd:=(ok.hd _ (Ve hj')).1;have pl:=so.so.pk.len;have le:=so.so.le;have p1:Sh ((22+1)*6) 2 (.tup (s.ps.map gP)):=ee 6 (by omega) λz mz=>by
   have:=so.so.pk.mem z mz;exact cM 0 (p4 (l2 _ this.1)) (cM 0 (bu (by omega) (by omega)) (nZ 0))
  have p2:=ee 100 (by have:=so.le;omega) λz mz=>p4 (FQ ok (k:=1) (so.nm z mz));exact(cM 2 (bu (by omega) (by omega)) (cM 2 p1 (cM 2 p2 (nZ 2)))).up
 have a2:Sh ((4+1)*20) 3 (.tup (S.k7.map n8)):=ee 20 (by rw[W.l0];exact ok.bx.1) λz m=>by
  have:=W.bx z m;exact cM 1 (bu (by omega) (by omega)) (cM 1 (rT N9 this.2) (nZ 1))
 have a3:Sh ((4+1)*20) 3 (.tup (S.eY.map jo)):=ee 20 (by rw[W.l1];exact ok.nm.1.1) λz m=>by
  have:=W.lk z m;refine cM 1 (b:=0) (e:=0) ?_ (cM 1 (rT N9 this.2) (nZ 1));cases e:z.1 with
  | none=>exact iV
  | some i=>have:=this.1 i e;exact bu this.1 (by omega)
 have a4:Sh ((103+1)*20) 3 (.tup (S.cy.map kX)):=ee 20 (by rw[W.l2];exact ok.nm.2.1.1) λz m=>by
  have:=W.ln z m;have q:Sh ((0+1)*100) 1 (.tup (z.2.2.map PV.int)):=ee 100 (by omega) λv mv=>by have:=this.2.2.2 v mv;exact bu this.1 (by omega)
  exact cM 1 (bu (by omega) (by omega)) (cM 1 (bu (by omega) (by omega)) (cM 1 q (nZ 1)))
 have a5:Sh ((0+1)*20) 1 (.tup (S.px.map PV.int)):=ee 20 (by rw[W.l3];exact ok.nm.2.2.1) λz m=>by have:=W.dr z m;exact bu (by omega) (by omega)
 exact(cM 4 a0 (cM 4 a1 (cM 4 a2 (cM 4 a3 (cM 4 a4 (cM 4 a5 (nZ 4))))))).up
theorem GV(ok:P.Ok)(N9:N<=100)(W:dB P N S)(ex:P.hs[j]?=fv x)(es:S.cC[j]?=fv s)(er:x.2[s.row]?=fv r)(hg:eJ r g):Sh 0 0 g/\Sh 0 0 (met P S j c s g r).2.1/\Sh 2 1 (met P S j c s g r).2.2:=by
 have mr:=RN er;have so:=W.se j x s ex es;obtain⟨l1,l2,l3⟩:=gC (ok.hd x (RN ex));have hr:=l3 r mr;have yr: ∀ e:Sm,nL e->Sh 0 0 (.int (e.val (fP s.ps))):=λe he=>by
  have:=Sm.pS (sU λq m=>(so.so.pk.mem q m).2) e he.1;exact bu this.1 (by omega)
 have gs:Sh 0 0 g:=by
  cases e:fA r with
  | true=>obtain⟨i,rfl,h0,h9,_⟩:=hg.1 e;exact bu h0 (by omega)
  | false=>rw[hg.2 e];exact iV
 refine⟨gs,?_⟩;cases r with
 | get y b =>
  obtain⟨z,ez,mz⟩:=bc (l:=S.k7) (ns:=P.nm 0) (by rw[W.l0];exact(RB ..).symm) (bD ok ex mr (k:=0) (t:=b) rfl)
  have:=W.bx z mz
  simp only[met,ez,Sk]
  exact⟨bu this.1.1 (by omega),rT N9 this.2⟩
 | put b e =>
  obtain⟨z,ez,mz⟩:=bc (l:=S.k7) (ns:=P.nm 0) (by rw[W.l0];exact(RB ..).symm) (bD ok ex mr (k:=0) (t:=b) rfl)
  simp only[met,ez]
  exact⟨yr e hr,rT N9 (W.bx z mz).2⟩
 | take l =>
  obtain⟨z,ez,mz⟩:=bc (l:=S.eY) (ns:=P.nm 1) W.l1 (bD ok ex mr (k:=1) (t:=l) rfl)
  simp only[met,ez]
  exact⟨iV,rT N9 (W.lk z mz).2⟩
 | free l=>exact⟨iV,iV.up⟩
 | send l e =>
  obtain⟨z,ez,mz⟩:=bc (l:=S.cy) (ns:=P.nm 2) W.l2 (bD ok ex mr (k:=2) (t:=l) rfl)
  have:=W.ln z mz
  simp only[met,ez]
  exact⟨yr e hr,(bu this.1.1 (by omega)).up⟩
 | fetch y l =>
  obtain⟨z,ez,mz⟩:=bc (l:=S.cy) (ns:=P.nm 2) W.l2 (bD ok ex mr (k:=2) (t:=l) rfl)
  have:=W.ln z mz
  simp only[met,ez,Sk]
  refine⟨?_,(bu this.2.1.1 (by omega)).up⟩
  cases q:z.2.2 with
  | nil=>exact bu (by decide) (by decide)
  | cons i ls=>have:=this.2.2.2 i (by rw[q];exact RU);exact bu this.1 (by show i<=_;omega)
 | say d e =>
  obtain⟨z,ez,mz⟩:=bc (l:=S.px) (ns:=P.nm 3) W.l3 (bD ok ex mr (k:=3) (t:=d) rfl)
  have:=W.dr z mz
  simp only[met,ez]
  exact⟨yr e hr,(bu this.1 (by omega)).up⟩
 | _=>exact⟨gs,iV.up⟩
theorem MY{P:Pg}(ok:P.Ok){j:Nat}(ex:P.hs[j]?=fv x)(m:r∈x.2):rS r.w=true/\rS r.tg=true:=by
 have e0:rS "" =true:=by rfl
 have nn: ∀ k t,r.nm=fv (k,t)->rS t=true:=λk t q=>FQ ok (LL ok ex m q);cases r<;>first | exact⟨by rfl,nn _ _ rfl⟩ | exact⟨by rfl,e0⟩
structure BS(P:Pg)(S:Wd)(j:Nat)(g l:PV)(S1:Wd):Prop where
 at_: ∃ x s c r,P.hs[j]?=fv x/\S.cC[j]?=fv s/\S.fY[j]?=fv c/\x.2[s.row]?=fv r/\aD P S j= .non/\eJ r g/\S1=dI P S j c x.2 s g r/\l=oD r (met P S j c s g r).2.1 (met P S j c s g r).2.2
inductive Wk(P:Pg):Wd->List (Nat × PV × PV)->Wd->Prop
 | nil (S:Wd):Wk P S [] S
 | cons {S S1 S2:Wd} {j:Nat} {g l:PV} {r:List (Nat × PV × PV)} (h:BS P S j g l S1) (t:Wk P S1 r S2):Wk P S ((j,g,l)::r) S2
theorem Wk.app(h:Wk P S a S1)(t:Wk P S1 b S2):Wk P S (a++b) S2:=by
 induction h with
 | nil=>exact t
 | cons h _ ih=>exact .cons h (ih t)
theorem Wk.split: ∀{a b S S2},Wk P S (a++b) S2-> ∃ S1,Wk P S a S1/\Wk P S1 b S2
 | [],b,S,S2,h=>⟨S,.nil S,h⟩
 | z::a,b,S,S2,h=>by
  cases h with
  | cons h t=>obtain⟨S1,h1,h2⟩:=Wk.split t;exact⟨S1,.cons h h1,h2⟩
def dZ(z:Nat × PV × PV):PV:= .tup [dF z.1,z.2.1]
def GY(z:Nat × PV × PV):PV:= .tup [dF z.1,z.2.2]
theorem BS.ok(ok:P.Ok)(W:dB P N S)(h:BS P S j g l S1):dB P (N+1) S1:=by
 obtain⟨x,s,c,r,ex,es,ec,er,hw,hg,rfl,rfl⟩:=h.at_;exact ER ok W ex es ec er hw hg
theorem Wk.ok(ok:P.Ok)(h:Wk P S a S2): ∀{N},dB P N S->dB P (N+a.length) S2:=by
 induction h with
 | nil=>exact λW=>W
 | cons h _ ih=>intro N W;have:=ih (h.ok ok W);rw[R3,Nat.add_comm _ 1,<- Nat.add_assoc];exact this
theorem BS.sh(ok:P.Ok)(N9:N<=100)(W:dB P N S)(h:BS P S j g l S1):j < P.hs.length/\Sh 0 0 g/\Sh 60 2 l:=by
 obtain⟨x,s,c,r,ex,es,ec,er,hw,hg,rfl,rfl⟩:=h.at_;obtain⟨m1,m2,m3⟩:=GV (c:=c) ok N9 W ex es er hg;obtain⟨t1,t2⟩:=MY ok ex (RN er);exact⟨(RC.mp ex).1,m1,(cM 1 (p4 t1) (cM 1 (p4 t2) (cM 1 m2 (cM 1 m3 (nZ 1))))).up⟩
theorem Wk.sh(ok:P.Ok)(h:Wk P S a S2): ∀{N},N+a.length<=100->dB P N S-> ∀ z∈a,z.1 < P.hs.length/\Sh 0 0 z.2.1/\Sh 60 2 z.2.2:=by
 induction h with
 | nil=>simp_all
 | cons h _ ih =>
  intro N hN W z m
  rw[R3] at hN
  rcases RW.mp m with rfl | m
  . exact h.sh ok (by omega) W
  . exact ih (by omega) (h.ok ok W) z m
theorem Fp{P:Pg}(ok:P.Ok){a:List (Nat × PV × PV)}(hl:a.length<=100)(h: ∀ z∈a,z.1 < P.hs.length/\Sh 0 0 z.2.1/\Sh 60 2 z.2.2):Sh 300 2 (.tup (a.map dZ))/\Sh 6300 4 (.tup (a.map GY)):=by
 have hm:=ok.many;refine⟨(ee (b:=2) (d:=1) 100 hl λz m=>?_).up,(ee (b:=62) (d:=3) 100 hl λz m=>?_).up⟩
 . obtain⟨h1,h2,h3⟩:=h z m;exact cM 0 (bu (by omega) (by omega)) (cM 0 h2 (nZ 0))
 . obtain⟨h1,h2,h3⟩:=h z m;exact cM 2 (bu (by omega) (by omega)) (cM 2 h3 (nZ 2))
mutual
theorem gF: ∀ v:PV,vm v=true->v.flat=true
 | .tup xs,h=>by rw[vm] at h;rw[PV.flat];exact oX xs h
 | .non,_=>rfl
 | .int _,_=>rfl
 | .str _,_=>rfl
theorem oX: ∀ xs:List PV,jV xs=true->PV.bq xs=true
 | [],_=>rfl
 | x::r,h=>by
  rw[jV,RT] at h;rw[PV.bq,gF x h.1,oX r h.2];rfl
end
theorem zt:qm [.tup xs,.ty "tuple"] h= .ok (.bl true) h:=rfl
def OH:=(gT 2 (aT (gN 5) (aT (gN 6) eF)))
def OZ:=(ag (ck (qG (aC (ah "is_tuple_of" (a2 (aa 6) (eI 2))))) gH cL)
  (ag (ar (ah "stepped" (ab (aa 0) (a3 (aa 3) (aa 5) (aa 6)))) (gN 7))
  (ag (ar (eX 7 0) (gN 3))
  (gM (eM dc cu (aa 4) (ab (az (a2 (eX 6 0) (eX 7 1))) ao))))))
section
variable{pg:Tb}(T:bW pg)
include T
theorem mK k h xs n:run pg (k+1) "is_tuple_of" [.tup xs,.int n] h= .ok (.bl (decide ((xs.length)=n))) h:=by
 rw[run_eq T.nO rfl];simp? [dj,iL,zt]
theorem u0 k h (ok:P.Ok) (W:dB P N S) (N9:N<=60) (st:BS P S j g l S1) p:run pg (k+14) "stepped" [P.v,aE S,p,dZ (j,g,l)] h= .ok (.tup [aE S1,l]) h:=by
 obtain⟨x,s,c,r,ex,es,ec,er,hw,hg,rfl,rfl⟩:=st.at_;have ge:=C1 T k h ok W N9 ex es ec er hw hg;rw[run_eq T.xY rfl];simp? [iD,oU,dZ,dF,ge]
theorem yo k (h:PH) (ok:P.Ok) xs0 e1 e2 (w:Wk P S a S2): ∀{N},dB P N S->N+a.length<=60-> ∀ ts i e5 e6 e7,ts.length+a.length<=1000 ->
  ∃ f5 f6 f7 ,bg ⟨Rv,xs0⟩ (bB OH OZ (run pg (k+14))) (((a.map dZ).zipIdx i).map λq=>PV.tup [.int (q.2),q.1]) [fv P.v,e1,e2,fv (aE S),fv (.ref h.length),e5,e6,e7] (h++[.lst ts])= .ok (.nx [fv P.v,e1,e2,fv (aE S2),fv (.ref h.length),f5,f6,f7]) (h++[.lst (ts++a.map GY)]):=by
 induction w with
 | nil S=>intro N _ _ ts i e5 e6 e7 _;exact⟨e5,e6,e7,by rw[SX,SX,Tq];exact iU⟩
 | @cons S S1 S2 j g l r st t ih =>
  intro N W hN ts i e5 e6 e7 hl
  rw[R3] at hN hl
  have se:=u0 T k (h++[.lst ts]) ok W (by omega) st (.int (i))
  have it:run pg (k+14) "is_tuple_of" [.tup [dF j,g],.int 2] (h++[.lst ts])= .ok (.bl true) (h++[.lst ts]):=mK T (k+13) (h++[.lst ts]) [dF j,g] 2
  have hz:ts.length < 16777216:=by omega
  obtain⟨f5,f6,f7,i1⟩:=ih (st.ok ok W) (by omega) (ts++[GY (j,g,l)]) (i+1) (fv (.int i)) (fv (dZ (j,g,l))) (fv (.tup [aE S1,l])) (by grind)
  refine⟨f5,f6,f7,?_⟩
  have stp:bB OH OZ (run pg (k+14)) (.tup [.int (i),dZ (j,g,l)]) [fv P.v,e1,e2,fv (aE S),fv (.ref h.length),e5,e6,e7] (h++[.lst ts])= .ok (.nx [fv P.v,e1,e2,fv (aE S1),fv (.ref h.length),fv (.int i),fv (dZ (j,g,l)),fv (.tup [aE S1,l])]) (h++[.lst (ts++[GY (j,g,l)])]):=by
   unfold dZ GY at *;simp? [OH,OZ,it,se,Eb hz]
  rw[RL,List.zipIdx_cons,RL,gZ,stp,gv,c9,i1,RL,SR]
  rfl
theorem wW k h (ok:P.Ok) (W:dB P N S) (hN:N+a.length<=60) (w:Wk P S a S2):run pg (k+15) "walked" [P.v,aE S,.tup (a.map dZ)] h= .ok (.tup [aE S2,.tup (a.map GY)]) h:=by
 obtain⟨f5,f6,f7,lp⟩:=yo T k h ok (((a.map dZ).zipIdx 0).map λq=>PV.tup [.int (q.2),q.1]) (fv (aE S)) (fv (.tup (a.map dZ))) w W hN [] 0 Rv Rv Rv (by simp;omega);have z: ¬ (60) < ((a.map dZ).length:Int):=by grind
 have sh:=w.sh ok (N:=N) (by omega) W;have fl:PV.flat (.tup [aE S2,.tup (a.map GY)])=true:=by
  have f1:=gF _ (As ok (by omega) (w.ok ok W)).ok;have f2:=gF _ (Fp ok (by omega) sh).2.ok;rw[PV.flat,PV.bq,PV.bq,f1,f2];rfl
 unfold OH OZ at lp;rw[run_eq T.Ak rfl];simp? [jB,rH,zt,z,v8,sI,lp];exact aK fl
end
def iP(x:Str × List Rw):=bC x.2 200 ⟨0,[],[]⟩
def Lk(bs:List (Str × Int))(s1 s2 s3:List Str)(hs:List (Str × List Rw)):PV:= .tup [.tup (hs.map λ_=>PV.int 0),.tup (hs.map λx=>ay (iP x)),.tup (bs.map λb=>PV.tup [.int b.2,.non]),.tup (s1.map λ_=>PV.tup [.non,.non]),.tup (s2.map λ_=>PV.tup [.int 0,.int 0,.tup []]),.tup (s3.map λ_=>PV.int 0)]
theorem oM{α :Type}(hs:List α) f (d:PV):(RJ hs.length).filterMap (λi=>fv ((hs[i]?.map f).getD d))=hs.map f:=by
 rw[XG];refine Zq (by simp) λi h1 h2=>?_;simp at h1 h2 ⊢;rw[RH (by omega)];rfl
theorem bJ{α :Type} f (hf: ∀ x,(f x).flat=true): ∀ l:List α,PV.bq (l.map f)=true
 | []=>rfl
 | x::r=>by rw[RL,PV.bq,hf,bJ f hf r];rfl
theorem AZ bs s1 s2 s3 hs:(Lk bs s1 s2 s3 hs).flat=true:=by
 unfold Lk;simp only[PV.flat,PV.bq,aab,RT];exact⟨bJ _ (λ_=>rfl) _,bJ _ (λx=>jm _) _,bJ _ (λ_=>rfl) _,bJ _ (λ_=>rfl) _,bJ _ (λ_=>rfl) _,bJ _ (λ_=>rfl) _⟩
def bj(P:Pg):Wd:=⟨P.hs.map λ_=>0,P.hs.map iP,P.bs.map λz=>(z.2,.non),P.s1.map λ_=>(Rv,.non),P.s2.map λ_=>(0,0,[]),P.s3.map λ_=>0⟩
theorem xt P:aE (bj P)=Lk P.bs P.s1 P.s2 P.s3 P.hs:=by
 unfold aE bj Lk;simp only[Tc];rfl
theorem cI(ok:P.Ok):dB P 0 (bj P) where
 lc:=RB ..
 ls:=RB ..
 l0:=RB ..
 l1:=RB ..
 l2:=RB ..
 l3:=RB ..
 ct c m:=by obtain⟨_,_,rfl⟩:=Se.mp m;decide
 bx b m:=by obtain⟨z,mz,rfl⟩:=Se.mp m;exact⟨(ok.bx.2 z mz).2,.inl rfl⟩
 lk l m:=by obtain⟨_,_,rfl⟩:=Se.mp m;exact⟨λi e=>(by cases e),.inl rfl⟩
 ln n m:=by obtain⟨_,_,rfl⟩:=Se.mp m;exact⟨by decide,by decide,by decide,λv mv=>(by cases mv)⟩
 dr d m:=by obtain⟨_,_,rfl⟩:=Se.mp m;decide
 se j x s e1 e2:=by
  have e2':(P.hs.map iP)[j]?=fv s:=e2;rw[RP,e1] at e2';cases e2';obtain⟨l1,l2,l3⟩:=gC (ok.hd x (RN e1));have h0:(iP x).held=[]:=c7 200 ⟨0,[],[]⟩;exact⟨mG l3 200 _ ⟨.nil,Si _⟩,by simp_all,by rw[h0];exact RE _,fV 200 _,by simp_all,by simp_all⟩
section
variable{pg:Tb}(T:bW pg)
include T
theorem hV k h {P} (ok:P.Ok):run pg (k+12) "first_stand" [P.v] h= .ok (aE (bj P)) h:=by
 rw[xt];obtain⟨bs,s1,s2,s3,hs⟩:=P;obtain⟨p,pa⟩: ∃ p,p=Pg.v ⟨bs,s1,s2,s3,hs⟩:=⟨_,rfl⟩
 rw[<- pa];show _=RV.ok (Lk bs s1 s2 s3 hs) h;have hm:1<=hs.length/\hs.length<=4:=ok.many;have ho:run pg (k+11) "hands_of" [p] h= .ok (.ref h.length) (h++[.lst (au 0 hs.length)]):=by
  rw[run_eq T.ng rfl,pa];unfold Pg.v;have tn:VF ((hs.length:Nat):Int)=hs.length:=Sj _;simp? [eL,jh,yS,ug,RB,tn];exact bG rfl
 have lc: ∀(H:PH)(e:ME)(f:Nat->PV),H[h.length]?=fv (.lst (au 0 hs.length))->(∀ i < hs.length,e (run pg (k+11)) [fv p,fv (.ref h.length),fv (.int (0+(i:Int)))] H= .ok (f i) H)->ip ⟨fv h.length,au 0 hs.length⟩ (aR 1 (gN 2) bf e (run pg (k+11)) [fv p,fv (.ref h.length)]) (au 0 hs.length) [] H= .ok ((RJ hs.length).filterMap λi=>fv (f i)) H:=λH e f hH he=>by
  refine(c8 (jO hH) (RJ hs.length) [] (f:=λi=>fv (f i)) (g:=λi:Nat=>PV.int (0+(i))) (λi m=>?_) (by simp;omega)).trans (by rfl);have:=he i (Sf.mp m);simp? [this]
 have lt: ∀{α :Type}(l:List α)(g f: α ->PV)(e:ME)(H:PH),l.length<=1000->(∀ x∈l,e (run pg (k+11)) [fv p,fv (.ref h.length),fv (g x)] H= .ok (f x) H)->ip ⟨Rv,l.map g⟩ (aR 1 (gN 2) bf e (run pg (k+11)) [fv p,fv (.ref h.length)]) (l.map g) [] H= .ok (l.map f) H:=λl g f e H hl he=>by
  refine(c8 rfl l [] (f:=λx=>fv (f x)) (g:=g) (λx m=>?_) (by simp;omega)).trans (by simp_all);have:=he x m;simp? [this]
 let A:=hs.map λ_=>PV.int 0
 let B:=hs.map λx=>ay (iP x)
 have n0: ∀ Y:PH,(h++ .lst (au 0 hs.length)::Y)[h.length]?=fv (.lst (au 0 hs.length)):=λY=>aS;have c1: ∀ Y:PH,ip ⟨fv h.length,au 0 hs.length⟩ (aR 1 (gN 2) bf (eI 0) (run pg (k+11)) [fv p,fv (.ref h.length)]) (au 0 hs.length) [] (h++ .lst (au 0 hs.length)::Y)= .ok A (h++ .lst (au 0 hs.length)::Y):=λY=>by
  rw[lc _ (eI 0) (λi=>((hs[i]?.map λ_=>PV.int 0).getD (.int 0))) (n0 Y) (λi hi=>by rw[F2,RH hi];rfl),oM]
 have c2: ∀ Y:PH,ip ⟨fv h.length,au 0 hs.length⟩ (aR 1 (gN 2) bf (ah "first_seat" (a2 (aa 0) (aa 2))) (run pg (k+11)) [fv p,fv (.ref h.length)]) (au 0 hs.length) [] (h++ .lst (au 0 hs.length)::Y)= .ok B (h++ .lst (au 0 hs.length)::Y):=λY=>by
  rw[lc _ (ah "first_seat" (a2 (aa 0) (aa 2))) (λi=>((hs[i]?.map λx=>ay (iP x)).getD .non)) (n0 Y) (λi hi=>?_),oM];have e:=RH hi;obtain⟨_,L,l1,_,l3⟩:=ok.hd _ (Ve hi);have fs:run pg (k+11) "first_seat" [p,.int i] (h++ .lst (au 0 hs.length)::Y)=_:=nU T k _ (L:=L) (by omega) (by rw[pa];exact Pg.hand _ e) (λr m=>(l3 r m).1);rw[e];have iz:(0:Int)+(i:Int)=(i:Int):=UP _;simp? [iz,fs];rfl
 have b20:bs.length<=20:=ok.bx.1;have n1:s1.length<=20:=ok.nm.1.1;have n2:s2.length<=20:=ok.nm.2.1.1;have n3:s3.length<=20:=ok.nm.2.2.1;have c3: ∀ H:PH,ip ⟨Rv,bs.map gP⟩ (aR 1 (gN 2) bf (az (a2 (eX 2 1) (eC .non))) (run pg (k+11)) [fv p,fv (.ref h.length)]) (bs.map gP) [] H= .ok (bs.map λb=>PV.tup [.int b.2,.non]) H:=λH=>lt bs gP _ _ H (by omega) λx _=>by rfl
 have c4: ∀ H:PH,ip ⟨Rv,s1.map PV.str⟩ (aR 1 (gN 2) bf (az (a2 (eC .non) (eC .non))) (run pg (k+11)) [fv p,fv (.ref h.length)]) (s1.map PV.str) [] H= .ok (s1.map λ_=>PV.tup [.non,.non]) H:=λH=>lt s1 PV.str _ _ H (by omega) λx _=>by rfl
 have c5: ∀ H:PH,ip ⟨Rv,s2.map PV.str⟩ (aR 1 (gN 2) bf (az (a3 (eI 0) (eI 0) (az ao))) (run pg (k+11)) [fv p,fv (.ref h.length)]) (s2.map PV.str) [] H= .ok (s2.map λ_=>PV.tup [.int 0,.int 0,.tup []]) H:=λH=>lt s2 PV.str _ _ H (by omega) λx _=>by rfl
 have c6: ∀ H:PH,ip ⟨Rv,s3.map PV.str⟩ (aR 1 (gN 2) bf (eI 0) (run pg (k+11)) [fv p,fv (.ref h.length)]) (s3.map PV.str) [] H= .ok (s3.map λ_=>PV.int 0) H:=λH=>lt s3 PV.str _ _ H (by omega) λx _=>rfl;have i0: ∀ H,aL p (.int 0) H= .ok (.tup (bs.map gP)) H:=λH=>by rw[pa];exact BA
 have i1: ∀ H,aL p (.int 1) H= .ok (.tup (s1.map PV.str)) H:=λH=>by rw[pa];exact wQ
 have i2: ∀ H,aL p (.int 2) H= .ok (.tup (s2.map PV.str)) H:=λH=>by rw[pa];exact D3
 have i3: ∀ H,aL p (.int 3) H= .ok (.tup (s3.map PV.str)) H:=λH=>by rw[pa];exact EJ
 rw[run_eq T.oz rfl];simp? [dh,iJ,ho,c1,c2,c3,c4,c5,c6,i0,i1,i2,i3];exact aK (v:=Lk bs s1 s2 s3 hs) (AZ ..)
end
theorem oI(e1:h[n]?=fv (.lst xs))(e2:h[m]?=fv (.lst []))(d: ∀ sub,bh sub xs=fv ds)(c:SF ds=true):alike (.ref n) (.ref m) h=fv (decide (xs=[])):=by
 have d1:dat 6 h (.ref n)=fv (.list ds):=by unfold dat;simp only[fG,e1,d,Ut]
 have d2:dat 6 h (.ref m)=fv (.list []):=by unfold dat;simp only[fG,e2,bh,Ut]
 have c1:(Vb ds).canLay0=true/\(Vb []).canLay0=true/\min (Vb ds).depth (Vb []).depth<=64:=⟨by exact c,rfl,R5 (W9 _ _) (by decide)⟩
 unfold alike;rw[show gY (.ref n) (.ref m)=false from rfl,d1,d2];simp only[TU,if_false];rw[if_pos c1];cases xs with
 | nil =>
  have:=d λ_=>Rv
  cases this
  rfl
 | cons x r =>
  have q:=d λ_=>Rv
  cases ds with
  | nil =>
   rw[bh] at q
   split at q
   . cases q
   . cases q
  | cons a b=>rfl
theorem Ca(e1:h[n]?=fv (.lst xs))(e2:h[m]?=fv (.lst []))(d: ∀ sub,bh sub xs=fv ds)(c:SF ds=true):gq (.ref n) (.ref m) h= .ok (.bl (!decide (xs=[]))) h:=by
 have nd:fi h (.ref n)=false:=by simp only[fi,e1]
 unfold gq;rw[oI e1 e2 d c,nd];rfl
theorem Bt(l:List Nat):l.map dF=(l.map λj:Nat=>(j:Int)).map PV.int:=by rw[Tc];rfl
theorem Fz(l:List Nat): ∃ ds ,(∀ sub,bh sub (l.map dF)=fv ds)/\SF ds=true:=by
 rw[Bt];exact⟨_,λsub=>eN _,lay_ints _⟩
structure Ring(ns:List Str)(m:Nat):Prop where
 lo:2<=m
 hi:m<=4
 ln:ns.length=4
 nd:ns.Nodup
 nm: ∀ x∈ns,rS x=true∧VO x=true
noncomputable def nA(ns:List Str)(l:Nat):Str:=ns.getD l ""
noncomputable def hn(k:Nat):Str:=(["handa", "handb", "handc", "handd"]:List Str).getD k ""
noncomputable def sT(m:Nat)(t:Option Nat)(k:Nat):Nat:=if t=fv k then (k+1) % m else k
noncomputable def u9(m:Nat)(t:Option Nat)(k:Nat):Nat:=if t=fv k then k else (k+1) % m
def aP(ns:List Str)(m:Nat)(t:Option Nat)(k:Nat):List Rw:=[.take (nA ns (sT m t k)),.take (nA ns (u9 m t k)),.free (nA ns (sT m t k)),.free (nA ns (u9 m t k))]
def br(ns:List Str)(m:Nat)(t:Option Nat):Pg:=⟨[],ns.take m,[],[],(RJ m).map λk=>(hn k,aP ns m t k)⟩
theorem gj{m k:Nat}(lo:2<=m)(hi:m<=4)(hk:k < m):(k+1) % m < m/\(k+1) % m≠k:=by
 have:m=2\/m=3\/m=4:=by omega
 rcases this with rfl | rfl | rfl<;>omega
theorem sO{ns:List Str}{m:Nat}(R:Ring ns m)(t:Option Nat){k:Nat}(hk:k < m):sT m t k < m/\u9 m t k < m/\sT m t k≠u9 m t k:=by
 have h:=gj R.lo R.hi hk;unfold sT u9;split
 . exact⟨h.1,hk,h.2⟩
 . exact⟨hk,h.1,λe=>h.2 e.symm⟩
theorem oP{ns:List Str}{m:Nat}(R:Ring ns m){l:Nat}(h:l < m):ns[l]?=fv (nA ns l):=by
 have:l < ns.length:=by have:=R.ln;have:=R.hi;omega
 unfold nA;rw[R8,RH this];rfl
theorem AY{ns:List Str}{m:Nat}(R:Ring ns m){l l':Nat}(h:l < m)(h':l' < m)(e:nA ns l=nA ns l'):l=l':=by
 have a:=oP R h;have b:=oP R h';rw[<- e,<- a] at b;exact(U4 (i:=l) (by have:=R.ln;have:=R.hi;omega) R.nd).mp b.symm
theorem oH{ns:List Str}{m:Nat}(R:Ring ns m){l:Nat}(h:l < m):(ns.take m).idxOf (nA ns l)=l:=by
 have hl:(ns.take m).length=m:=by rw[Tt];have:=R.ln;have:=R.hi;omega
 have a:(ns.take m)[l]?=fv (nA ns l):=by rw[VB,if_pos h];exact oP R h
 have m1:nA ns l∈ns.take m:=RN a;have h2:=U5 m1;have b:(ns.take m)[(ns.take m).idxOf (nA ns l)]?=fv (nA ns l):=by rw[RH h2];exact congrArg fv (YJ h2)
 rw[<- a] at b;exact(U4 h2 (R.nd.sublist (YR _ _))).mp b
theorem sM{ns:List Str}{m:Nat}(R:Ring ns m){l:Nat}(h:l < m):nA ns l∈ns.take m:=by
 refine RN (i:=l) ?_;rw[VB,if_pos h];exact oP R h
theorem FX{ns:List Str}{m:Nat}{t:Option Nat}{k:Nat}(hk:k < m):(br ns m t).hs[k]?=fv (hn k,aP ns m t k):=by
 show((RJ m).map _)[k]?=_;rw[RP,Ua hk];rfl
theorem wM{ns:List Str}{m:Nat}(R:Ring ns m):Nb (ns.take m):=⟨by rw[Tt];have:=R.hi;omega,λx h=>R.nm x (List.mem_of_mem_take h)⟩
theorem qw:Nb []:=⟨Si _,λ_ h=>nomatch h⟩
theorem p5{ns:List Str}{m:Nat}(R:Ring ns m)(t:Option Nat):(br ns m t).Ok where
 bx:=⟨Si _,λ_ h=>nomatch h⟩
 nm:=⟨wM R,qw,qw⟩
 many:=by
  show 1<=((RJ m).map _).length/\((RJ m).map _).length<=4;rw[RB,SH];exact⟨R5 (by decide) R.lo,R.hi⟩
 hd h mh:=by
  obtain⟨k,mk,rfl⟩:=Se.mp mh;have hk:=sO R t (Sf.mp mk);have n1:=sM R hk.1;have n2:=sM R hk.2.1;refine⟨by show 4<=10;decide,[],Si _,(λ_ h=>nomatch h),λr mr=>?_⟩;simp only[aP,RW,Sz,or_false] at mr;rcases mr with rfl | rfl | rfl | rfl<;>exact⟨trivial,λi u e=>by cases e;assumption⟩
def qM(m:Nat)(t:Option Nat)(k:Nat):Nat->List Nat
 | 1=>[sT m t k]
 | 2=>[sT m t k,u9 m t k]
 | 3=>[u9 m t k]
 | _=>[]
noncomputable def aA(p:List Nat)(k:Nat):Nat:=p.getD k 0
structure LR(ns:List Str)(m:Nat)(t:Option Nat)(p:List Nat)(S:Wd):Prop where
 len:p.length=m
 le: ∀ k,aA p k<=4
 row: ∀ k s,S.cC[k]?=fv s->s.row=aA p k/\ ∀ y,y∈s.held↔ ∃ l∈qM m t k (aA p k),y=nA ns l
 lk: ∀ l z,S.eY[l]?=fv z-> ∀ i:Int,z.1=fv i↔ ∃ k,k < m/\i=(k:Int)/\l∈qM m t k (aA p k)
theorem df{p:List Nat}{k x:Nat}(h:k < p.length)(j:Nat):aA (p.set k x) j=if j=k then x else aA p j:=by
 unfold aA;rw[R8,R8,T6];by_cases e:k=j
 . subst e;simp[h]
 . have e': ¬ j=k:=λz=>e z.symm;simp[e,e']
theorem Bf{s:fq}{v:PV}{l y:Str}:y∈(after s v (.take l)).held↔y∈s.held\/y=l:=by
 show y∈cR (s.held++[l])↔_;rw[(eK _).mem_iff,Uq,Sr]
theorem AK{s:fq}{v:PV}{l y:Str}:y∈(after s v (.free l)).held↔y∈s.held/\y≠l:=by
 show y∈s.held.filter _↔_;rw[TL];simp
theorem jW{rs:List Rw}{s:fq}(h:aV rs s=true)(n:Nat):bC rs n s=s:=by
 cases n<;>(unfold bC;rw[if_pos h])
def eW(m:Nat)(t:Option Nat)(k:Nat):Nat->Nat
 | 0=>sT m t k
 | 1=>u9 m t k
 | 2=>sT m t k
 | _=>u9 m t k
theorem qy{ns:List Str}{m:Nat}{t:Option Nat}{k x:Nat}(hx:x < 4):(aP ns m t k)[x]?=fv (if x < 2 then .take (nA ns (eW m t k x)) else .free (nA ns (eW m t k x))):=by
 have:x=0\/x=1\/x=2\/x=3:=by omega
 rcases this with rfl | rfl | rfl | rfl<;>rfl
theorem jb{ns:List Str}{m:Nat}(R:Ring ns m)(t:Option Nat){k:Nat}(hk:k < m)(x:Nat):eW m t k x < m:=by
 have h:=sO R t hk;unfold eW;split<;>first | exact h.1 | exact h.2.1
theorem zV{ns:List Str}{m:Nat}(R:Ring ns m)(t:Option Nat){k:Nat}(hk:k < m){x l:Nat}(hl:l∈qM m t k x):l < m:=by
 have h:=sO R t hk;unfold qM at hl;split at hl<;>simp only[RW,Sz,or_false] at hl
 . subst hl;exact h.1
 . rcases hl with rfl | rfl
   . exact h.1
   . exact h.2.1
 . subst hl;exact h.2.1
theorem dX{m:Nat}{t:Option Nat}{k x l:Nat}(hx:x < 4)(ne:sT m t k≠u9 m t k):l∈qM m t k (x+1)↔if x < 2 then l∈qM m t k x\/l=eW m t k x else l∈qM m t k x/\l≠eW m t k x:=by
 have:x=0\/x=1\/x=2\/x=3:=by omega
 rcases this with rfl | rfl | rfl | rfl<;>simp[qM,eW]
 . constructor
   . rintro rfl;exact⟨.inr rfl,λe=>ne e.symm⟩
   . rintro ⟨rfl | h,q⟩
     . exact absurd rfl q
     . exact h
theorem m6{m:Nat}{t:Option Nat}{k x:Nat}(hx:x < 4)(ne:sT m t k≠u9 m t k):if x < 2 then eW m t k x ∉ qM m t k x else eW m t k x∈qM m t k x:=by
 have:x=0\/x=1\/x=2\/x=3:=by omega
 rcases this with rfl | rfl | rfl | rfl<;>simp[qM,eW];exact λe=>ne e.symm
section
variable{ns:List Str}{m:Nat}{t:Option Nat}{p:List Nat}{S:Wd}{N:Nat}
theorem vF(R:Ring ns m)(W:dB (br ns m t) N S){k:Nat}(hk:k < m): ∃ s c,S.cC[k]?=fv s/\S.fY[k]?=fv c/\(br ns m t).hs[k]?=fv (hn k,aP ns m t k):=by
 have hl:(br ns m t).hs.length=m:=by show((RJ m).map _).length=m;rw[RB,SH]
 obtain⟨x,s,c,e1,e2,e3,_⟩:=ju W (hl ▸ hk);exact⟨s,c,e2,e3,FX hk⟩
theorem pV(R:Ring ns m)(W:dB (br ns m t) N S){l:Nat}(hl:l < m): ∃ z,S.eY[l]?=fv z:=by
 have e:S.eY.length=m:=by rw[W.l1];show(ns.take m).length=m;rw[Tt];have:=R.ln;have:=R.hi;omega
 exact⟨S.eY[l],RH (by omega)⟩
theorem lC(R:Ring ns m)(L:LR ns m t p S)(W:dB (br ns m t) N S){k:Nat}(hk:k < m) :
  (aA p k=4/\aD (br ns m t) S k= .str "end")\/(aA p k < 4/\2<=aA p k/\aD (br ns m t) S k= .non) \/
  (aA p k < 2/\ ∃ z,S.eY[eW m t k (aA p k)]?=fv z/\((z.1=Rv/\aD (br ns m t) S k= .non)\/ ∃ i:Int,z.1=fv i/\aD (br ns m t) S k= .tup [.str "lock",.str (nA ns (eW m t k (aA p k))),.int i])):=by
 obtain⟨s,c,es,ec,eh⟩:=vF R W hk;have hr:=(L.row k s es).1;have h4:=L.le k;have ew:aD (br ns m t) S k=dG (br ns m t) S ((aP ns m t k)[aA p k]?):=by
  unfold aD;rw[fJ eh es,hr]
 by_cases h:aA p k=4
 . refine .inl ⟨h,?_⟩;rw[ew,h];rfl
 . have hx:aA p k < 4:=by omega
   rw[qy hx] at ew;by_cases h2:aA p k < 2
   . rw[if_pos h2] at ew;obtain⟨z,ez⟩:=pV R W (jb R t hk (aA p k));refine .inr (.inr ⟨h2,z,ez,?_⟩);have ix:((br ns m t).nm 1).idxOf (nA ns (eW m t k (aA p k)))=eW m t k (aA p k):=oH R (jb R t hk _);rw[ew];simp only[dG,ix,ez];obtain⟨a,b⟩:=z;cases a with
     | none=>exact .inl ⟨rfl,rfl⟩
     | some i=>exact .inr ⟨i,rfl,rfl⟩
   . rw[if_neg h2] at ew;exact .inr (.inl ⟨hx,by omega,ew⟩)
theorem LR.step(R:Ring ns m)(L:LR ns m t p S)(W:dB (br ns m t) N S){k:Nat}(hk:k < m)(hw:aD (br ns m t) S k= .non) :
  aA p k < 4/\ ∃ l S1,BS (br ns m t) S k .non l S1/\LR ns m t (p.set k (aA p k+1)) S1:=by
 have hx:aA p k < 4:=by
  rcases lC R L W hk with⟨_,e⟩ | ⟨h,_⟩ | ⟨h,_⟩
  . rw[e] at hw;cases hw
  . exact h
  . omega
 obtain⟨s,c,es,ec,eh⟩:=vF R W hk;obtain⟨hr,hh⟩:=L.row k s es;have fl:=sO R t hk;have ol:=jb R t hk (aA p k);have ix:((br ns m t).nm 1).idxOf (nA ns (eW m t k (aA p k)))=eW m t k (aA p k):=oH R ol;obtain⟨z,ez⟩:=pV R W ol;have er:=qy (ns:=ns) (m:=m) (t:=t) (k:=k) hx;have hn:=dX (t:=t) (l:=eW m t k (aA p k)) hx fl.2.2;have hz:=L.lk _ z ez;obtain⟨r,hr1⟩: ∃ r,(if aA p k < 2 then Rw.take (nA ns (eW m t k (aA p k))) else .free (nA ns (eW m t k (aA p k))))=r:=⟨_,rfl⟩
 rw[hr1] at er;have gi:eJ r .non:=by
  rw[<- hr1];split<;>exact⟨(λh=>nomatch h),λ_=>rfl⟩
 refine⟨hx,_,_,⟨_,s,c,r,eh,es,ec,by rw[hr];exact er,hw,gi,rfl,rfl⟩,?_⟩;have hm: ∀ y,y∈(after s (met (br ns m t) S k c s .non r).2.1 r).held↔ ∃ l∈qM m t k (aA p k+1),y=nA ns l:=by
  intro y;by_cases h2:aA p k < 2
  . rw[if_pos h2] at hr1;subst hr1;rw[Bf,hh y];constructor
    . rintro (⟨l,hl,rfl⟩ | rfl)
      . exact⟨l,(dX hx fl.2.2).mpr (by rw[if_pos h2];exact .inl hl),rfl⟩
      . exact⟨_,(dX hx fl.2.2).mpr (by rw[if_pos h2];exact .inr rfl),rfl⟩
    . rintro ⟨l,hl,rfl⟩;have:=(dX hx fl.2.2).mp hl;rw[if_pos h2] at this;rcases this with q | rfl
      . exact .inl ⟨l,q,rfl⟩
      . exact .inr rfl
  . rw[if_neg h2] at hr1;subst hr1;rw[AK,hh y];constructor
    . rintro ⟨⟨l,hl,rfl⟩,ne⟩;exact⟨l,(dX hx fl.2.2).mpr (by rw[if_neg h2];exact⟨hl,λe=>ne (by rw[e])⟩),rfl⟩
    . rintro ⟨l,hl,rfl⟩;have:=(dX hx fl.2.2).mp hl;rw[if_neg h2] at this;exact⟨⟨l,this.1,rfl⟩,λe=>this.2 (AY R (zV R t hk this.1) ol e)⟩
 have hrow:(after s (met (br ns m t) S k c s .non r).2.1 r).row=aA p k+1:=by rw[ph,hr]
 have hre:aV (aP ns m t k) (after s (met (br ns m t) S k c s .non r).2.1 r)=true:=by
  unfold aV;rw[hrow];by_cases h3:aA p k+1 < 4
  . rw[qy h3];have no:=m6 (t:=t) h3 fl.2.2;by_cases h2:aA p k+1 < 2
    . rw[if_pos h2] at no ⊢;show(!decide _)=true;rw[Th,decide_eq_false_iff_not,hm];rintro ⟨l,hl,e⟩;exact no (AY R (jb R t hk _) (zV R t hk hl) e ▸ hl)
    . rw[if_neg h2] at no ⊢;show(!(!decide _))=true;rw[Bool.not_not,decide_eq_true_iff,hm];exact⟨_,no,rfl⟩
  . have:aA p k+1=4:=by omega
    rw[this];rfl
 have kl:k < p.length:=by rw[L.len];exact hk
 refine⟨by rw[Su];exact L.len,λj=>?_,λj s' e=>?_,λl z' e i=>?_⟩
 . rw[df kl];split
   . omega
   . exact L.le j
 . unfold dI jy at e;rw[jW hre] at e;simp only[T6] at e;rw[df kl];have mc:(met (br ns m t) S k c s .non r).1.cC=S.cC:=by rw[<- hr1];split<;>rfl
   rw[mc] at e;by_cases ej:k=j
   . subst ej;have kk:k < S.cC.length:=(RC.mp es).1;simp only[if_true,kk] at e;cases e;rw[if_pos rfl];exact⟨hrow,hm⟩
   . rw[if_neg ej] at e;rw[if_neg (λq=>ej q.symm)];exact L.row j s' e
 . have ml:(dI (br ns m t) S k c (aP ns m t k) s .non r).eY=S.eY.set (eW m t k (aA p k)) (if aA p k < 2 then(fv (k:Int),((S.eY[eW m t k (aA p k)]?).getD (Rv,.non)).2) else(Rv,sH k c)):=by
    rw[<- hr1];by_cases h2:aA p k < 2
    . rw[if_pos h2,if_pos h2];show S.eY.set _ _=_;rw[ix]
    . rw[if_neg h2,if_neg h2];show S.eY.set _ _=_;rw[ix]
   rw[ml,T6] at e;have lz:eW m t k (aA p k) < S.eY.length:=(RC.mp ez).1;have oth: ∀ k',k'≠k->aA (p.set k (aA p k+1)) k'=aA p k':=λk' q=>by rw[df kl,if_neg q]
   have own':aA (p.set k (aA p k+1)) k=aA p k+1:=by rw[df kl,if_pos rfl]
   by_cases el:eW m t k (aA p k)=l
   . subst el;rw[if_pos rfl,if_pos lz] at e;cases e;by_cases h2:aA p k < 2
     . rw[if_pos h2];have zn:z.1=Rv:=by
        rcases lC R L W hk with⟨_,q⟩ | ⟨_,q,_⟩ | ⟨_,z2,q1,q2⟩
        . rw[q] at hw;cases hw
        . omega
        . rw[ez] at q1;cases q1;rcases q2 with q | ⟨i,_,q⟩
          . exact q.1
          . rw[q] at hw;cases hw
       constructor
       . intro q;cases q;exact⟨k,hk,rfl,by rw[own',dX hx fl.2.2,if_pos h2];exact .inr rfl⟩
       . rintro ⟨k',hk',rfl,q⟩;by_cases ek:k'=k
         . rw[ek]
         . rw[oth k' ek] at q;have:=(hz k').mpr ⟨k',hk',rfl,q⟩;rw[zn] at this;cases this
     . rw[if_neg h2];constructor
       . intro q;cases q
       . rintro ⟨k',hk',rfl,q⟩;by_cases ek:k'=k
         . subst ek;rw[own',dX hx fl.2.2,if_neg h2] at q;exact absurd rfl q.2
         . rw[oth k' ek] at q;have no:=m6 (t:=t) hx fl.2.2;rw[if_neg h2] at no;have a:=(hz k').mpr ⟨k',hk',rfl,q⟩;have b:=(hz k).mpr ⟨k,hk,rfl,no⟩;rw[a] at b;exact absurd (Int.ofNat.inj (Sx b)) ek
   . rw[if_neg el] at e;rw[L.lk l z' e i];have el': ¬ l=eW m t k (aA p k):=λq=>el q.symm;have same: ∀ k',l∈qM m t k' (aA (p.set k (aA p k+1)) k')↔l∈qM m t k' (aA p k'):=by
      intro k';by_cases ek:k'=k
      . subst ek;rw[own',dX hx fl.2.2];split<;>simp[el']
      . rw[oth k' ek]
     simp only[same]
end
structure Lj(P:Pg)(I:List Nat->Wd->Prop)(m n:Nat):Prop where
 ok:P.Ok
 hs:P.hs.length=m
 lo:1<=m
 m4:m<=4
 n4:n<=4
 first:I (Rz m 0) (bj P)
 step: ∀{p S N k},dB P N S->I p S->k < m->aD P S k= .non->aA p k < n/\ ∃ l S1,BS P S k .non l S1/\I (p.set k (aA p k+1)) S1
 len: ∀{p S},I p S->p.length=m
 le: ∀{p S},I p S-> ∀ k,aA p k<=n
def BZ(P:Pg)(I:List Nat->Wd->Prop)(m:Nat):List Nat->List Nat->Prop
 | [],_=>True
 | c::r,p=>c < m/\(∀{S N},dB P N S->I p S->aD P S c= .non)/\BZ P I m r (p.set c (aA p c+1))
noncomputable def ll(a:List (Nat × PV × PV))(k:Nat):Nat:=(a.filter λz=>decide (z.1=k)).length
theorem sum_set: ∀{p:List Nat}{k:Nat},k < p.length->(p.set k (aA p k+1)).sum=p.sum+1
 | [],k,h=>by simp at h
 | x::r,0,_=>by simp[aA];omega
 | x::r,k+1,h=>by
  have:=sum_set (p:=r) (k:=k) (by simpa using h);have e:aA (x::r) (k+1)=aA r k:=rfl;rw[e,VA,V0,this,V0];omega
theorem uD{n:Nat}: ∀{p:List Nat},(∀ k,aA p k<=n)->p.sum<=n*p.length
 | [],_=>by simp
 | x::r,h=>by
  have:=uD (p:=r) λk=>h (k+1);have h0:x<=n:=h 0;rw[V0,R3,XH];omega
theorem AE{n:Nat}: ∀{p:List Nat}{k:Nat},(∀ k,aA p k<=n)->k < p.length->aA p k < n->p.sum < n*p.length
 | [],k,_,h,_=>by simp at h
 | x::r,0,h,_,q=>by
  have:=uD (p:=r) λk=>h (k+1);have q':x < n:=q;rw[V0,R3,XH];omega
 | x::r,k+1,h,hk,q=>by
  have:=AE (p:=r) (k:=k) (λk=>h (k+1)) (by simpa using hk) q;have h0:x<=n:=h 0;rw[V0,R3,XH];omega
theorem EI(a:List (Nat × PV × PV))(c:Nat)(g l:PV)(k:Nat):ll (a++[(c,g,l)]) k=ll a k+if k=c then 1 else 0:=by
 unfold ll;rw[List.filter_append,Sd];by_cases e:k=c
 . subst e;simp
 . have e': ¬ c=k:=λz=>e z.symm;simp[e,e']
def Ln:MT:=(n6 (aC (aw gq (aa 5) (cY ao))) (aC (aw Lh (eB b9 (a1 (aa 4))) (eI 16))))
def Ly:MS:=(ck (aC (aw gq (aa 2) (cY ao))) (ar (eM oT cu (aa 2) (a1 (eI 0))) (gN 6)) cL)
def OI:MS:=(ag (ar (aw aL (aa 5) (ah "_law_take" (ab (aa 1) (ab (eB b9 (a1 (aa 5))) ao)))) (gN 6))
  (ag Ly
  (ag (ar (aw bM (aa 4) (az (ab (az (a2 (aa 6) (eC .non))) ao))) (gN 4))
  (ag (ar (aw aL (ah "walked" (ab (aa 0) (ab (ah "first_stand" (a1 (aa 0))) (a1 (aa 4))))) (eI 0)) (gN 3))
  (ar (ah "can_go" (a2 (aa 0) (aa 3))) (gN 5))))))
def cK(fr:PO)(q:Int × Int × Int)(G:PH)(i:Nat)(pk:List Nat)(J:PH):PH:=fr::dO q::(G.set i (.lst (pk.map dF))++J)
theorem pF{fr:PO}{q:Int × Int × Int}{G:PH}{i:Nat}{pk:List Nat}{J:PH}(hi:i < G.length):(cK fr q G i pk J)[i+2]?=fv (.lst (pk.map dF)):=by
 unfold cK;rw[S8,S8,So (by rw[Su];exact hi),T6,if_pos rfl,if_pos hi]
theorem dM{fr:PO}{q:Int × Int × Int}{G:PH}{i:Nat}{pk:List Nat}{J J':PH}:cK fr q G i pk J++J'=cK fr q G i pk (J++J'):=by
 unfold cK;simp
theorem CB{fr:PO}{q:Int × Int × Int}{G:PH}{i:Nat}{pk pk':List Nat}{J:PH}(hi:i < G.length):(cK fr q G i pk J).set (i+2) (.lst (pk'.map dF))=cK fr q G i pk' J:=by
 unfold cK;rw[VA,VA,Yg _ _ (by rw[Su];exact hi),List.set_set]
theorem wH(n:Nat): ∀ pk:List Nat,PO.iK n (.lst (pk.map dF))=true
 | []=>rfl
 | c::r=>by
  have:=wH n r;rw[PO.iK] at this ⊢;rw[RL,PV.jj,this];rfl
theorem DT{fr:PO}{q q':Int × Int × Int}{G:PH}{i:Nat}{pk pk':List Nat}{J:PH}{v:PV}(hv:v.flat=true)(e:G[i]?=fv (.lst (pk.map dF))):P3.settle (fr::dO q::G) v (cK fr q' G i pk' J)= .ok v (cK fr q' G i pk' []):=by
 have hi:i < G.length:=(RC.mp e).1;have z:cK fr q' G i pk' J=(((fr::dO q::G)++J).set 1 (dO q')).set (i+2) (.lst (pk'.map dF)):=by
  unfold cK;simp[Yg,hi]
 have o1:=i8 (n:=(fr::dO q::G).length) (o':=dO q') JK (fr::dO q::G) _ 1 (dO q) (iX _ _ J) rfl rfl;have o2:=i8 (n:=(fr::dO q::G).length) (wH _ pk') (fr::dO q::G) _ (i+2) (.lst (pk.map dF)) o1 (by rw[S8,S8];exact e) rfl;unfold P3.settle;rw[z,hv,o2,<- z];have:(cK fr q' G i pk' J).take (fr::dO q::G).length=cK fr q' G i pk' []:=by
  unfold cK;simp
 rw[this];rfl
theorem o8{fr:PO}{q:Int × Int × Int}{G:PH}{i:Nat}{pk:List Nat}{J:PH}(j:Nat):(cK fr q G i pk J)[G.length+j+2]?=J[j]?:=by
 unfold cK;rw[S8,S8,Sa (by rw[Su];omega),Su];congr 1;omega
theorem vk{fr:PO}{q:Int × Int × Int}{G:PH}{i:Nat}{pk:List Nat}{J:PH}:(cK fr q G i pk J).length=G.length+J.length+2:=by
 unfold cK;simp
theorem Ed{h:PH}{n m:Nat}{l:List Nat}(e1:h[n]?=fv (.lst (l.map dF)))(e2:h[m]?=fv (.lst [])):gq (.ref n) (.ref m) h= .ok (.bl (!decide (l=[]))) h:=by
 obtain⟨ds,d1,d2⟩:=Fz l;rw[Ca e1 e2 d1 d2];cases l<;>rfl
section
variable{pg:Tb}(T:bW pg)
include T
theorem Ap(k:Nat){P:Pg}{I:List Nat->Wd->Prop}{m n:Nat}(M:Lj P I m n){fr:PO}{q:Int × Int × Int}{G:PH}{i:Nat}(hi:i < G.length){pk:List Nat}{J:PH}{a:List (Nat × PV × PV)}{S:Wd}{p:List Nat}{j:Nat}
  (w:Wk P (bj P) a S) (hI:I p S) (la:a.length < 16) (hj:J[j]?=fv (.lst ((bV P S).map dF))) (ne:bV P S≠[]) (pks:BZ P I m pk p) (e6:Option PV) :
  ∃(c:Nat)(l:PV)(S1:Wd)(q':Int × Int × Int)(pk':List Nat)(J':PH)(j':Nat),c < m/\BS P S c .non l S1/\aA p c < n/\I (p.set c (aA p c+1)) S1/\BZ P I m pk' (p.set c (aA p c+1))/\J'[j']?=fv (.lst ((bV P S1).map dF)) /\
   OI (run pg (k+20)) [fv P.v,fv (.ref 1),fv (.ref (i+2)),fv (aE S),fv (.tup (a.map dZ)),fv (.ref (G.length+j+2)),e6] (cK fr q G i pk J) =
    .ok (.nx [fv P.v,fv (.ref 1),fv (.ref (i+2)),fv (aE S1),fv (.tup ((a++[(c,PV.non,l)]).map dZ)),fv (.ref (G.length+j'+2)),fv (dF c)]) (cK fr q' G i pk' J'):=by
 have W:=w.ok M.ok (cI M.ok);rw[Nat.zero_add] at W;have cl:0 < (bV P S).length:=Yr.mpr ne;have cl4:(bV P S).length<=4:=by
  have h1:(bV P S).length<=(RJ P.hs.length).length:=XY ..;rw[SH] at h1;have:=M.hs;have:=M.m4;omega
 obtain⟨v,q',v0,v1,tk⟩:=rG T (k+19) fr q ((bV P S).length:Int) (by omega) (by omega);obtain⟨x,xm,ex⟩:=BO (xs:=(bV P S).map dF) v0 (by rw[RB];exact v1);obtain⟨c0,cm,rfl⟩:=Se.mp xm;have c0w:c0 < m/\aD P S c0= .non:=by
  have:=TL.mp cm;exact⟨by rw[<- M.hs];exact Sf.mp this.1,of_decide_eq_true this.2⟩
 have ln:b9 [.ref (G.length+j+2)] (cK fr q G i pk J)= .ok (.int ((bV P S).length:Int)) (cK fr q G i pk J):=by rw[BQ,o8,hj,uz,RB]
 have tk':run pg (k+20) "_law_take" [.ref 1,.int ((bV P S).length:Int)] (cK fr q G i pk J)= .ok (.int v) (cK fr q' G i pk J):=tk _;have ix:aL (.ref (G.length+j+2)) (.int v) (cK fr q' G i pk J)= .ok (dF c0) (cK fr q' G i pk J):=by rw[Ba,o8,hj,DX,ex];rfl
 have nk:=Ed (h:=cK fr q' G i pk J++[.lst []]) (n:=i+2) (m:=(cK fr q' G i pk J).length) (l:=pk) ((bF (cB (pF hi))).trans (pF hi)) aS;obtain⟨c,pk',hc,hw,hp,go⟩: ∃(c:Nat)(pk':List Nat),c < m/\aD P S c= .non/\BZ P I m pk' (p.set c (aA p c+1)) /\
   Ly (run pg (k+20)) [fv P.v,fv (.ref 1),fv (.ref (i+2)),fv (aE S),fv (.tup (a.map dZ)),fv (.ref (G.length+j+2)),fv (dF c0)] (cK fr q' G i pk J) =
    .ok (.nx [fv P.v,fv (.ref 1),fv (.ref (i+2)),fv (aE S),fv (.tup (a.map dZ)),fv (.ref (G.length+j+2)),fv (dF c)]) (cK fr q' G i pk' (J++[.lst []])):=by
  cases pk with
  | nil =>
   refine⟨c0,[],c0w.1,c0w.2,trivial,?_⟩
   simp only[decide_true,W2] at nk
   rw[<- dM]
   simp? [Ly,nk]
  | cons c r =>
   obtain⟨h1,h2,h3⟩:=pks
   refine⟨c,r,h1,h2 W hI,h3,?_⟩
   have d0:decide (c::r=[])=false:=rfl
   rw[d0,Yb] at nk
   have il:(cK fr q' G i (c::r) J++[.lst []])[i+2]?=fv (.lst ((c::r).map dF)):=by rw[dM,pF hi]
   have pp:oT (.ref (i+2)) [.int 0] (cK fr q' G i (c::r) J++[.lst []])= .ok (dF c) (cK fr q' G i r (J++[.lst []])):=by
    simp only[oT,dM,pF hi,RL,CB hi]
   simp? [Ly,nk,il,pp]
 obtain⟨hx,l,S1,st,hI1⟩:=M.step W hI hc hw;refine⟨c,l,S1,q',pk',J++[PO.lst []]++[PO.lst ((bV P S1).map dF)],(J++[PO.lst []]).length,hc,st,hx,hI1,hp,aS,?_⟩;have w1:Wk P (bj P) (a++[(c,.non,l)]) S1:=w.app (.cons st (.nil _));have W1:=w1.ok M.ok (cI M.ok);have wk:=wW T (k+5) (cK fr q' G i pk' (J++[.lst []])) M.ok (cI M.ok) (by rw[Sd];simp;omega) w1;have fs:=hV T (k+8) (cK fr q' G i pk' (J++[.lst []])) M.ok;have cg:=iu T (k+7) (cK fr q' G i pk' (J++[.lst []])) M.ok W1;have z:(a.map dZ).length+1<=16777216:=by rw[RB];omega
 have ea:(a++[(c,PV.non,l)]).map dZ=a.map dZ++[.tup [dF c,.non]]:=by rw[TM];rfl
 rw[ea] at wk ⊢;unfold OI;simp? [ln,tk',ix,go,wk,fs,cg];rw[vk,dM];simp
omit T in
theorem yP{P:Pg}{I:List Nat->Wd->Prop}{m n:Nat}(M:Lj P I m n){p:List Nat}{S:Wd}{N:Nat}(W:dB P N S)(hI:I p S)(h:16<=p.sum):bV P S=[]:=by
 refine List.eq_nil_iff_forall_not_mem.mpr λc mc=>?_;have mf:=TL.mp mc;have hc:c < m:=by rw[<- M.hs];exact Sf.mp mf.1
 have hx:=(M.step W hI hc (of_decide_eq_true mf.2)).1;have s1:=AE (M.le hI) (by rw[M.len hI];exact hc) hx;rw[M.len hI] at s1;have s2:n*m<=4*4:=Nat.mul_le_mul M.n4 M.m4;omega
theorem Bu(k:Nat){P:Pg}{I:List Nat->Wd->Prop}{m n:Nat}(M:Lj P I m n){fr:PO}{G:PH}{i:Nat}(hi:i < G.length): ∀(d f:Nat)(q:Int × Int × Int)(pk:List Nat)(J:PH)(a:List (Nat × PV × PV))(S:Wd)(p:List Nat)(j:Nat)(e6:Option PV),
  a.length+d=16->d < f->Wk P (bj P) a S->I p S->J[j]?=fv (.lst ((bV P S).map dF))->BZ P I m pk p->p.sum=a.length->(∀ x,ll a x=aA p x) ->
  ∃(a':List (Nat × PV × PV))(S':Wd)(p':List Nat)(q':Int × Int × Int)(pk':List Nat)(J':PH)(j':Nat)(f6:Option PV),Wk P (bj P) a' S'/\I p' S'/\bV P S'=[]/\p'.sum=a'.length/\(∀ x,ll a' x=aA p' x)/\a'.length<=16 /\
   dA (Ln (run pg (k+20))) (OI (run pg (k+20))) f [fv P.v,fv (.ref 1),fv (.ref (i+2)),fv (aE S),fv (.tup (a.map dZ)),fv (.ref (G.length+j+2)),e6] (cK fr q G i pk J) =
    .ok (.nx [fv P.v,fv (.ref 1),fv (.ref (i+2)),fv (aE S'),fv (.tup (a'.map dZ)),fv (.ref (G.length+j'+2)),f6]) (cK fr q' G i pk' J'):=by
 intro d
 induction d with
 | zero =>
  intro f q pk J a S p j e6 ha hf w hI hj pks hs hc
  obtain⟨f,rfl⟩: ∃ z,f=z+1:=⟨f - 1,by omega⟩
  have W:=w.ok M.ok (cI M.ok)
  have c0:=yP M W hI (by omega)
  have nk:=Ed (h:=cK fr q G i pk J++[.lst []]) (n:=G.length+j+2) (m:=(cK fr q G i pk J).length) (l:=bV P S) ((bF (cB ((o8 j).trans hj))).trans ((o8 j).trans hj)) aS
  rw[c0] at nk
  simp only[decide_true,W2] at nk
  refine⟨a,S,p,q,pk,J++[.lst []],j,e6,w,hI,c0,hs,hc,by omega,?_⟩
  rw[<- dM]
  refine vH ?_
  simp? [Ln,nk]
 | succ d ih =>
  intro f q pk J a S p j e6 ha hf w hI hj pks hs hc
  obtain⟨f,rfl⟩: ∃ z,f=z+1:=⟨f - 1,by omega⟩
  have nk:=Ed (h:=cK fr q G i pk J++[.lst []]) (n:=G.length+j+2) (m:=(cK fr q G i pk J).length) (l:=bV P S) ((bF (cB ((o8 j).trans hj))).trans ((o8 j).trans hj)) aS
  by_cases c0:bV P S=[]
  . rw[c0] at nk;simp only[decide_true,W2] at nk;refine⟨a,S,p,q,pk,J++[.lst []],j,e6,w,hI,c0,hs,hc,by omega,?_⟩;rw[<- dM];refine vH ?_;simp? [Ln,nk]
  . rw[decide_eq_false c0,Yb] at nk;have lt:((a.map dZ).length:Int) < 16:=by rw[RB];omega
    have tt:Ln (run pg (k+20)) [fv P.v,fv (.ref 1),fv (.ref (i+2)),fv (aE S),fv (.tup (a.map dZ)),fv (.ref (G.length+j+2)),e6] (cK fr q G i pk J)= .ok true (cK fr q G i pk (J++[.lst []])):=by
     rw[<- dM];simp? [Ln,nk,lt]
    obtain⟨c,l,S1,q1,pk1,J1,j1,hcm,st,hx,hI1,pk1s,hj1,bd⟩:=Ap T k M (q:=q) hi (pk:=pk) (J:=J++[.lst []]) w hI (by omega) ((bF (cB hj)).trans hj) c0 pks e6;have kl:c < p.length:=by rw[M.len hI];exact hcm
    obtain⟨a',S',p',q',pk',J',j',f6,h1,h2,h3,h4,h5,h6,h7⟩:=ih f q1 pk1 J1 (a++[(c,.non,l)]) S1 _ j1 (fv (dF c)) (by rw[Sd];simp;omega) (by omega) (w.app (.cons st (.nil _))) hI1 hj1 pk1s (by rw[sum_set kl,hs,Sd];rfl) (λx=>by
     rw[EI,hc,df kl];split
     . rename_i e;rw[e]
     . rfl)
    exact⟨a',S',p',q',pk',J',j',f6,h1,h2,h3,h4,h5,h6,by rw[MM tt bd];exact h7⟩
theorem nu(k:Nat){P:Pg}{I:List Nat->Wd->Prop}{m n:Nat}(M:Lj P I m n){fr:PO}{G:PH}{i:Nat}{pk:List Nat}(hk:G[i]?=fv (.lst (pk.map dF)))(pks:BZ P I m pk (Rz m 0))(q:Int × Int × Int) :
  ∃(a:List (Nat × PV × PV))(S:Wd)(p:List Nat)(q':Int × Int × Int)(pk':List Nat),Wk P (bj P) a S/\I p S/\bV P S=[]/\p.sum=a.length/\(∀ x,ll a x=aA p x)/\a.length<=16 /\
   run pg (k+21) "_law_run" [P.v,.ref 1,.ref (i+2)] (fr::dO q::G)= .ok (.tup [.tup (a.map dZ),aE S]) (cK fr q' G i pk' []):=by
 have hi:i < G.length:=(RC.mp hk).1;have z0:fr::dO q::G=cK fr q G i pk []:=by
  unfold cK;rw[yV hk,Tq]
 have fs:=hV T (k+8) (cK fr q G i pk []) M.ok;have cg:=iu T (k+7) (cK fr q G i pk []) M.ok (cI M.ok);obtain⟨a,S,p,q',pk',J,j,f6,h1,h2,h3,h4,h5,h6,h7⟩:=Bu T k M (fr:=fr) hi 16 100000 q pk [.lst ((bV P (bj P)).map dF)] [] (bj P) (Rz m 0) 0 Rv rfl (by decide) (.nil _) M.first rfl pks (by simp) (λx=>by
  unfold aA ll;rw[R8,S7];split<;>rfl)
 refine⟨a,S,p,q',pk',h1,h2,h3,h4,h5,h6,?_⟩;have W:=h1.ok M.ok (cI M.ok);have fl:PV.flat (.tup [.tup (a.map dZ),aE S])=true:=by
  have f1:=gF _ (As M.ok (by omega) W).ok;have f2:=gF _ (Fp M.ok (by omega) (h1.sh M.ok (N:=0) (by omega) (cI M.ok))).1.ok;rw[PV.flat,PV.bq,PV.bq,PV.bq,f1,f2];rfl
 rw[run_eq T.uS rfl,z0];rw[vk] at cg;have e1:(cK fr q G i pk [])++[.lst ((bV P (bj P)).map dF)]=cK fr q G i pk [.lst ((bV P (bj P)).map dF)]:=dM;rw[e1] at cg;unfold Ln OI Ly at h7;rw[SX] at h7;simp? [fT,mV,fs,cg,Od,h7];rw[<- z0];exact DT fl hk
end
theorem cF(m k:Nat):aA (Rz m 0) k=0:=by
 unfold aA;rw[R8,S7];split<;>rfl
theorem Am{ns:List Str}{m:Nat}(R:Ring ns m)(t:Option Nat):LR ns m t (Rz m 0) (bj (br ns m t)) where
 len:=Uk
 le k:=by rw[cF];decide
 row k s e:=by
  have e':((RJ m).map λk=>(hn k,aP ns m t k)).map iP=(bj (br ns m t)).cC:=rfl;rw[<- e',Tc,RP] at e;obtain⟨j,_,rfl⟩:=Uc.mp e;have z:(iP ∘ λk=>(hn k,aP ns m t k)) j=⟨0,[],[]⟩:=jW (rs:=aP ns m t j) (s:=⟨0,[],[]⟩) rfl 200;rw[z,cF];exact⟨rfl,λy=>⟨λh=>(nomatch h),λ⟨l,h,_⟩=>(nomatch h)⟩⟩
 lk l z e i:=by
  have e':(ns.take m).map (λ_=>((Rv:Option Int),PV.non))=(bj (br ns m t)).eY:=rfl;rw[<- e',RP] at e;obtain⟨_,_,rfl⟩:=Uc.mp e;refine⟨λh=>(nomatch h),λ⟨k,_,_,h⟩=>?_⟩;rw[cF] at h;nomatch h
theorem si{ns:List Str}{m:Nat}{t:Option Nat}:(br ns m t).hs.length=m:=by
 show((RJ m).map _).length=m;rw[RB,SH]
theorem GW{ns:List Str}{m:Nat}(R:Ring ns m)(t:Option Nat):Lj (br ns m t) (LR ns m t) m 4 :=
 ⟨p5 R t,si,R5 (by decide) R.lo,R.hi,RE _,Am R t,λW L hk hw=>L.step R W hk hw,λL=>L.len,λL=>L.le⟩
theorem tw{ns:List Str}{m:Nat}(R:Ring ns m): ∀(d i:Nat)(p:List Nat),i+d=m->p.length=m->(∀ k,k < m->aA p k=if k < i then 1 else 0)->BZ (br ns m Rv) (LR ns m Rv) m (V6 i d) p
 | 0,_,_,_,_,_=>trivial
 | d+1,i,p,hd,hl,hp=>by
  have hi:i < m:=by omega
  refine⟨hi,λ{S N} W L=>?_,tw R d (i+1) _ (by omega) (by rw[Su];exact hl) λk hk=>?_⟩
  . have h0:aA p i=0:=by rw[hp i hi,if_neg (Sn _)]
    rcases lC R L W hi with⟨q,_⟩ | ⟨_,q,_⟩ | ⟨_,z,ez,q | ⟨j,ej,_⟩⟩
    . omega
    . omega
    . exact q.2
    . obtain⟨k,hk,_,hm⟩:=(L.lk _ z ez j).mp ej;rw[h0,hp k hk] at hm;have o:eW m Rv i 0=i:=rfl;have f:sT m Rv k=k:=rfl;rw[o] at hm;split at hm
      . rw[qM,Sr,f] at hm;omega
      . nomatch hm
  . rw[df (by omega),hp i hi,if_neg (Sn _)];by_cases e:k=i
    . subst e;rw[if_pos rfl,if_pos (by omega)]
    . rw[if_neg e,hp k hk];by_cases z:k < i
      . rw[if_pos z,if_pos (by omega)]
      . rw[if_neg z,if_neg (by omega)]
theorem AR{m:Nat}(lo:2<=m)(hi:m<=4){t:Nat}(ht:t < m){p:List Nat}(hl:p.length=m)(hs: ∀ k,k < m->aA p k=4\/(aA p k < 2/\ ∃ k',k' < m/\eW m (fv t) k (aA p k)∈qM m (fv t) k' (aA p k'))): ∀ k,k < m->aA p k=4:=by
 have key: ∀ k,k < m->aA p k < 2-> ∃ k',k' < m/\aA p k'=1/\eW m (fv t) k (aA p k)=sT m (fv t) k':=λk hk h2=>by
  rcases hs k hk with h | ⟨_,k',hk',h⟩
  . omega
  . refine⟨k',hk',?_⟩;rcases hs k' hk' with q | ⟨q,_⟩
    . rw[q] at h;nomatch h
    . have:aA p k'=0\/aA p k'=1:=by omega
      rcases this with e | e
      . rw[e] at h;nomatch h
      . rw[e,qM,Sr] at h;exact⟨e,h⟩
 have none1: ∀ k,k < m->aA p k≠1:=by
  intro k hk e;have m3:m=2\/m=3\/m=4:=by omega
  have st: ∀ k,k < m->aA p k=1-> ∃ k',k' < m/\aA p k'=1/\u9 m (fv t) k=sT m (fv t) k':=λk hk e=>by
   obtain⟨k',a,b,c⟩:=key k hk (by omega);rw[e] at c;exact⟨k',a,b,c⟩
  have nx: ∀ k,k < m->aA p k=1-> ∃ k',k' < m/\aA p k'=1/\k≠t/\k'≠t/\k'=(k+1) % m:=λk hk e=>by
   obtain⟨k',a,b,c⟩:=st k hk e;refine⟨k',a,b,?_⟩;unfold u9 sT at c;have tm:=gj lo hi ht;have km:=gj lo hi hk;have k'm:=gj lo hi a;simp only[U3] at c;rcases m3 with rfl | rfl | rfl<;>split at c<;>split at c<;>omega
  have f: ∀ j,∃ k',k' < m/\aA p k'=1/\k'≠t/\k'=(k+j) % m:=λj=>by
   induction j with
   | zero =>
    obtain⟨_,_,_,h,_⟩:=nx k hk e
    exact⟨k,hk,e,h,(Nat.mod_eq_of_lt hk).symm⟩
   | succ j ih =>
    obtain⟨k1,a,b,_,d⟩:=ih
    obtain⟨k2,a2,b2,_,c2,d2⟩:=nx k1 a b
    refine⟨k2,a2,b2,c2,?_⟩
    rw[d2,d]
    rcases m3 with rfl | rfl | rfl<;>omega
  obtain⟨k',_,_,h,q⟩:=f (t+m - k);refine h ?_;rw[q];rcases m3 with rfl | rfl | rfl<;>omega
 intro k hk;rcases hs k hk with h | ⟨h,_⟩
 . exact h
 . obtain⟨k',a,b,_⟩:=key k hk h;exact absurd b (none1 k' a)
theorem nG{v:PV}{h:PH}{d:Uo}(hd:dat 6 h v=fv d)(c:d.canLay0=true)(dp:d.depth<=64):alike v v h=fv true:=by
 unfold alike;split
 . simp
 . rw[hd];simp only;rw[if_pos ⟨c,c,R5 (Nat.min_le_left _ _) dp⟩,PySem.SeqAt.eqv_refl _ c]
theorem eq_self{v:PV}{h:PH}{d:Uo}(hd:dat 6 h v=fv d)(c:d.canLay0=true)(dp:d.depth<=64):dE v v h= .ok (.bl true) h:=by
 unfold dE;rw[nG hd c dp]
theorem ne_self{v:PV}{h:PH}{d:Uo}(hd:dat 6 h v=fv d)(c:d.canLay0=true)(dp:d.depth<=64)(nd:fi h v=false):gq v v h= .ok (.bl false) h:=by
 unfold gq;rw[nG hd c dp,nd];rfl
theorem jz.ne{v:PV}(w:jz v)(h:PH):gq v v h= .ok (.bl false) h:=by
 obtain⟨d,h1,h2,h3,_⟩:=w.d;refine ne_self (d:=d) (by unfold dat;exact h1 _) h2 (by omega) ?_;rcases w with rfl | rfl | ⟨_,_,rfl,_⟩ | ⟨_,rfl,_⟩<;>rfl
theorem FE{ws:List PV}(w: ∀ v∈ws,jz v)(h:PH):dE (.tup ws) (.tup ws) h= .ok (.bl true) h:=by
 obtain⟨ds,h1,h2,h3,_⟩:=KP w;refine eq_self (d:= .tuple ds) (by unfold dat;simp only[fG,h1,Ut]) (by rw[Va];exact h2) (by rw[UQ];omega)
theorem rR: ∀ xs ys:List Int,aac (xs.map .int) (ys.map .int)=decide (xs=ys)
 | [],[]=>rfl
 | [],_::_=>rfl
 | _::_,[]=>rfl
 | x::xs,y::ys=>by
  rw[RL,RL,aac,rR xs ys,TK];by_cases e:x=y<;>by_cases e':xs=ys<;>simp[e,e']
theorem BJ{h:PH}{n m:Nat}{xs ys:List Int}(e1:h[n]?=fv (.lst (xs.map PV.int)))(e2:h[m]?=fv (.lst (ys.map PV.int))):dE (.ref n) (.ref m) h= .ok (.bl (decide (xs=ys))) h:=by
 have d1:dat 6 h (.ref n)=fv (.list (xs.map .int)):=by unfold dat;simp only[fG,e1,eN,Ut]
 have d2:dat 6 h (.ref m)=fv (.list (ys.map .int)):=by unfold dat;simp only[fG,e2,eN,Ut]
 have dp: ∀ l:List Int,SN (l.map .int)=0:=λl=>by
  induction l with
  | nil=>rfl
  | cons a r ih=>rw[RL,SN,ih];rfl
 have c1:(Vb (xs.map .int)).canLay0=true/\(Vb (ys.map .int)).canLay0=true/\min (Vb (xs.map .int)).depth (Vb (ys.map .int)).depth<=64:=⟨by rw[Va];exact lay_ints _,by rw[Va];exact lay_ints _,by rw[UQ,UQ,dp,dp];decide⟩
 unfold dE alike;rw[show gY (.ref n) (.ref m)=false from rfl,d1,d2];simp only[TU,if_false];rw[if_pos c1,TK,rR]
theorem QD{α :Type}{g f: α ->PV}{st:PV->PH->RV (Option PV)}{h:PH}{xs0:List PV}: ∀(l:List α),(∀ x∈l,∀ J,∃ J',st (g x) (h++J)= .ok (fv (f x)) (h++J'))-> ∀(ys:List PV)(J:PH),l.length+ys.length<=1000-> ∃ J',P3.ip ⟨Rv,xs0⟩ st (l.map g) ys (h++J)= .ok (ys++l.map f) (h++J')
 | [],_,ys,J,_=>⟨J,by rw[SX,P3.ip,if_pos (show qN.j5 ⟨Rv,xs0⟩ (h++J)=true from rfl),SX,Tq]⟩
 | x::r,hs,ys,J,hl=>by
  rw[R3] at hl;have hl':ys.length < RF:=by show ys.length < 16777216;omega
  obtain⟨J1,e1⟩:=hs x RU J;obtain⟨J2,e2⟩:=QD r (λy m=>hs y (RS _ m)) (ys++[f x]) J1 (by rw[Sd];simp;omega);refine⟨J2,?_⟩;rw[RL,P3.ip,if_pos ⟨show qN.j5 ⟨Rv,xs0⟩ (h++J)=true from rfl,hl'⟩,e1,j2];simp only;rw[e2,RL,SR];rfl
def Mi:ME:=(eB b9 (ab (lD 1 (qO (aa 2)) (gN 11) (aC (aw dE (eX 11 0) (aa 10))) (aa 11)) ao))
theorem yI(c:CF)(H:PH)(a:List (Nat × PV × PV))(la:a.length<=16)(x:Nat)(e0 e1 e3 e4 e5 e6 e7 e8 e9:Option PV) :
  aR 1 (gN 10) bf Mi c [e0,e1,fv (.tup (a.map dZ)),e3,e4,e5,e6,e7,e8,e9] (.int (0+(x:Int))) H= .ok (fv (.int (ll a x:Int))) (H++[.lst ((a.filter λz=>decide (z.1=x)).map dZ)]):=by
 have lc:ip ⟨Rv,a.map dZ⟩ (aR 1 (gN 11) (aC (aw dE (eX 11 0) (aa 10))) (aa 11) c [e0,e1,fv (.tup (a.map dZ)),e3,e4,e5,e6,e7,e8,e9,fv (.int (0+(x:Int)))]) (a.map dZ) [] H= .ok ((a.filter λz=>decide (z.1=x)).map dZ) H:=by
  refine(c8 (h:=H) (show qN.j5 ⟨Rv,a.map dZ⟩ H=true from rfl) a [] (f:=λz=>if decide (z.1=x)=true then fv (dZ z) else Rv) (g:=dZ) (λz _=>?_) (by simp;omega)).trans (by rw[SY,iq]);have e:((z.1:Int)=0+(x:Int))↔z.1=x:=by omega
  unfold dZ dF;by_cases q:z.1=x
  . have e':(z.1:Int)=0+(x:Int):=e.mpr q;simp? [e',q];rw[if_pos (by omega)]
  . have e': ¬ (z.1:Int)=0+(x:Int):=λw=>q (e.mp w);simp? [e',q]
 have ln:b9 [.ref H.length] (H++[.lst ((a.filter λz=>decide (z.1=x)).map dZ)])= .ok (.int (ll a x:Int)) (H++[.lst ((a.filter λz=>decide (z.1=x)).map dZ)]):=by
  rw[BQ,aS,uz,RB];rfl
 unfold Mi;simp? [lc,ln]
theorem LM{xs:List PV}{i:Int}{v:PV}(e:fN xs i=fv v)(h:PH):aL (.tup xs) (.int i) h= .ok v h:=by
 show(match fN xs i with | some v=>RV.ok v h | none=> .no)=_;rw[e]
def OY:MT:=(yx (aC (aw gq (aw aL (aa 5) (aa 6)) (aa 9))) (n6 (aC (aw gq (aw aL (aa 4) (aa 6)) (eI 4))) (yx (aC (aw KY (aw aL (aa 4) (aa 6)) (eI 1))) (yx (aC (qQ (dq false) (aa 8))) (aC (aw dE (aa 8) (aa 6)))))))
def Lg:MS:=(ag (ar (aw aL (aw aL (aw aL (aw aL (eX 0 4) (aa 6)) (eI 1)) (eB Be (ab (aw aL (aa 4) (aa 6)) (a1 (eI 3))))) (eI 1)) (gN 7))
  (ag (ar (aw aL (aw aL (eX 3 3) (ON (eX 0 1) (a1 (aa 7)))) (eI 0)) (gN 8))
  (ag (ar (yt (aC (aw dE (aw aL (aa 4) (aa 6)) (eI 4))) (eS "end") (az (a3 (eS "lock") (aa 7) (aa 8)))) (gN 9))
  (ck OY (aB (eC (.bl false))) cL))))
section
variable{ns:List Str}{m:Nat}{t:Option Nat}{p:List Nat}{S:Wd}{N:Nat}
theorem pR(R:Ring ns m)(c0:bV (br ns m t) S=[]){k:Nat}(hk:k < m):aD (br ns m t) S k≠ .non:=λe=>by
 have:k∈bV (br ns m t) S:=TL.mpr ⟨Sf.mpr (by rw[si];exact hk),decide_eq_true e⟩;rw[c0] at this;nomatch this
theorem pZ(R:Ring ns m)(L:LR ns m t p S)(W:dB (br ns m t) N S)(c0:bV (br ns m t) S=[]){k:Nat}(hk:k < m) :
  (aA p k=4/\aD (br ns m t) S k= .str "end")\/(aA p k < 2/\ ∃(k':Nat)(z:PV),k' < m/\k'≠k/\S.eY[eW m t k (aA p k)]?=fv (fv (k':Int),z)/\eW m t k (aA p k)∈qM m t k' (aA p k')/\aD (br ns m t) S k= .tup [.str "lock",.str (nA ns (eW m t k (aA p k))),.int (k':Int)]):=by
 rcases lC R L W hk with h | ⟨_,_,e⟩ | ⟨h2,z,ez,⟨_,e⟩ | ⟨i,ei,e⟩⟩
 . exact .inl h
 . exact absurd e (pR R c0 hk)
 . exact absurd e (pR R c0 hk)
 . obtain⟨k',hk',rfl,hm⟩:=(L.lk _ z ez i).mp ei;refine .inr ⟨h2,k',z.2,hk',λq=>?_,by rw[ez,<- ei],hm,e⟩;subst q;have no:=m6 (m:=m) (t:=t) (k:=k') (x:=aA p k') (by omega) (sO R t hk).2.2;rw[if_pos h2] at no;exact no hm
theorem xO(R:Ring ns m)(L:LR ns m t p S)(W:dB (br ns m t) N S)(c0:bV (br ns m t) S=[]){k:Nat}(hk:k < m)(c:CF){Z:PH}{M:Nat}(eM:Z[M]?=fv (.lst (((RJ m).map λx=>(aA p x:Int)).map PV.int)))(e1 e2 e6 e7 e8 e9:Option PV) :
  ∃ f7 f8 f9:Option PV,bB (gN 6) Lg c (.int (0+(k:Int))) [fv (br ns m t).v,e1,e2,fv (aE S),fv (.ref M),fv (.tup (gx (br ns m t) S)),e6,e7,e8,e9] Z =
   .ok (.nx [fv (br ns m t).v,e1,e2,fv (aE S),fv (.ref M),fv (.tup (gx (br ns m t) S)),fv (.int (k:Int)),f7,f8,f9]) Z:=by
 have ae:=pZ R L W c0 hk;obtain⟨x,hx,x4⟩: ∃ x,(if (3:Int) < (aA p k:Int) then 3 else(aA p k:Int))=((x:Nat):Int)/\x < 4/\(aA p k < 4->x=aA p k):=by
  have:=L.le k;by_cases q:(3:Int) < (aA p k:Int)
  . exact⟨3,by rw[if_pos q];rfl,by decide,λ_=>by omega⟩
  . exact⟨aA p k,by rw[if_neg q],by omega,λ_=>rfl⟩
 obtain⟨z,ez⟩:=pV R W (jb R t hk x);have i4:aL (br ns m t).v (.int 4) Z= .ok (.tup ((br ns m t).hs.map bA)) Z:=rfl;have i1:aL (br ns m t).v (.int 1) Z= .ok (.tup ((ns.take m).map PV.str)) Z:=rfl;have ih:aL (.tup ((br ns m t).hs.map bA)) (.int (k:Int)) Z= .ok (bA (hn k,aP ns m t k)) Z:=LM (bY (FX hk)) Z;have ir:aL (bA (hn k,aP ns m t k)) (.int 1) Z= .ok (eT (aP ns m t k)) Z:=rfl;have im:aL (.ref M) (.int (k:Int)) Z= .ok (.int (aA p k:Int)) Z:=by
  have e:(((RJ m).map λx=>(aA p x:Int)))[k]?=fv (aA p k:Int):=by rw[RP,Ua hk];rfl
  rw[Ba,eM,DX,bY e];rfl
 have ix:aL (eT (aP ns m t k)) (.int (x:Int)) Z= .ok (ka (if x < 2 then .take (nA ns (eW m t k x)) else .free (nA ns (eW m t k x)))) Z:=LM (bY (qy x4.1)) Z;have in_:aL (ka (if x < 2 then .take (nA ns (eW m t k x)) else .free (nA ns (eW m t k x)))) (.int 1) Z= .ok (.str (nA ns (eW m t k x))) Z:=by split<;>rfl
 have i3:aL (aE S) (.int 3) Z= .ok (.tup (S.eY.map jo)) Z:=rfl;have it:tU (.tup ((ns.take m).map PV.str)) [.str (nA ns (eW m t k x))] Z= .ok (.int (eW m t k x:Int)) Z:=by
  rw[Jf (sM R (jb R t hk x)),oH R (jb R t hk x)]
 have il:aL (.tup (S.eY.map jo)) (.int (eW m t k x:Int)) Z= .ok (jo z) Z:=LM (bY ez) Z;have i0:aL (jo z) (.int 0) Z= .ok (FZ z.1) Z:=rfl;have iw:aL (.tup (gx (br ns m t) S)) (.int (k:Int)) Z= .ok (aD (br ns m t) S k) Z:=by
  unfold gx;refine LM (bY (f:=aD (br ns m t) S) (n:=k) ?_) Z;rw[Ua (by rw[si];exact hk)]
 have mn:Be [.int (aA p k:Int),.int 3] Z= .ok (.int (x:Int)) Z:=by rw[<- hx];rfl
 have wk:jz (aD (br ns m t) S k):=vt (p5 R t) W (by rw[si];exact hk);have nn:=wk.ne Z;have z0:(0:Int)+(k:Int)=k:=UP _;rcases ae with⟨h4,ew⟩ | ⟨h2,k',zz,hk',ne,el,_,ew⟩
 . have e4:(aA p k:Int)=4:=by omega
   rw[ew] at nn;rw[e4] at im mn;refine⟨fv (.str (nA ns (eW m t k x))),fv (FZ z.1),fv (.str "end"),?_⟩;unfold Lg OY;simp? [z0,i4,i1,ih,ir,im,mn,ix,in_,i3,F9,AN,it,il,i0,iw,ew,nn]
 . have xe:x=aA p k:=x4.2 (by omega);have e4: ¬ (aA p k:Int)=4:=by omega
   have g1: ¬ (1:Int) < (aA p k:Int):=by omega
   have ek: ¬ (k':Int)=(k:Int):=by omega
   rw[<- xe] at el ew;rw[el] at ez;cases ez;rw[ew] at nn;refine⟨fv (.str (nA ns (eW m t k x))),fv (.int (k':Int)),fv (.tup [.str "lock",.str (nA ns (eW m t k x)),.int (k':Int)]),?_⟩;unfold Lg OY;simp? [z0,i4,i1,ih,ir,im,mn,ix,in_,i3,F9,AN,it,il,i0,iw,ew,nn,e4,g1,ek,FZ]
end
theorem l8{ns:List Str}{m:Nat}{t:Option Nat}{p:List Nat}{S:Wd}{N:Nat}(R:Ring ns m)(L:LR ns m t p S)(W:dB (br ns m t) N S)(c0:bV (br ns m t) S=[])(c:CF){Z:PH}{M:Nat}(eM:Z[M]?=fv (.lst (((RJ m).map λx=>(aA p x:Int)).map PV.int)))(e1 e2:Option PV)(xs0:List PV): ∀(l:List Nat),(∀ k∈l,k < m)-> ∀ e6 e7 e8 e9:Option PV,
  ∃ f6 f7 f8 f9:Option PV,bg ⟨Rv,xs0⟩ (bB (gN 6) Lg c) (l.map λk:Nat=>PV.int (0+(k:Int))) [fv (br ns m t).v,e1,e2,fv (aE S),fv (.ref M),fv (.tup (gx (br ns m t) S)),e6,e7,e8,e9] Z =
   .ok (.nx [fv (br ns m t).v,e1,e2,fv (aE S),fv (.ref M),fv (.tup (gx (br ns m t) S)),f6,f7,f8,f9]) Z
 | [],_,e6,e7,e8,e9=>⟨e6,e7,e8,e9,iU⟩
 | k::r,hl,e6,e7,e8,e9=>by
  obtain⟨f7,f8,f9,h1⟩:=xO R L W c0 (hl k RU) c eM e1 e2 e6 e7 e8 e9;obtain⟨g6,g7,g8,g9,h2⟩:=l8 R L W c0 c eM e1 e2 xs0 r (λx mx=>hl x (RS _ mx)) (fv (.int (k:Int))) f7 f8 f9;exact⟨g6,g7,g8,g9,by rw[RL,gZ,h1,gv,c9,h2]⟩
theorem wI(m:Nat)(hm:m<=4)(h:PH):bE (.tup [.str "end"]) (.int (m:Int)) h= .ok (.tup (Rz m (.str "end"))) h:=by
 have:m=0\/m=1\/m=2\/m=3\/m=4:=by omega
 rcases this with rfl | rfl | rfl | rfl | rfl<;>rfl
theorem MJ{h:PH}{n:Nat}(e:h[n]?=fv (.lst [.int 4]))(m:Nat)(hm:m<=4):bE (.ref n) (.int (m:Int)) h= .ok (.ref h.length) (h++[.lst ((Rz m (4:Int)).map PV.int)]):=by
 unfold bE;simp only[e];have:m=0\/m=1\/m=2\/m=3\/m=4:=by omega
 rcases this with rfl | rfl | rfl | rfl | rfl<;>rfl
section
variable{pg:Tb}(T:bW pg)
include T
theorem nF(k:Nat)(h:PH){ns:List Str}{m:Nat}(R:Ring ns m)(t:Option Nat){p:List Nat}{S:Wd}{a:List (Nat × PV × PV)}(w:Wk (br ns m t) (bj (br ns m t)) a S)(L:LR ns m t p S)(c0:bV (br ns m t) S=[])(hc: ∀ x,ll a x=aA p x)(la:a.length<=16) :
  run pg (k+20) "_law_locks_right" [(br ns m t).v,.int (m:Int),.tup (a.map dZ),aE S] h= .ok (.bl true) h:=by
 have ok:=p5 R t;have W:=w.ok ok (cI ok);have m4:=R.hi;obtain⟨J,lc⟩:=QD (h:=h) (xs0:=au 0 m) (g:=λx:Nat=>PV.int (0+(x:Int))) (f:=λx:Nat=>PV.int (ll a x:Int)) (st:=aR 1 (gN 10) bf Mi (run pg (k+19)) [fv (br ns m t).v,fv (.int (m:Int)),fv (.tup (a.map dZ)),fv (aE S),Rv,Rv,Rv,Rv,Rv,Rv]) (RJ m) (λx _ J=>⟨_,by rw[yI _ _ a la x,SR]⟩) [] [] (by simp;omega);rw[Tq,SY] at lc;have em:(RJ m).map (λx:Nat=>PV.int (ll a x:Int))=((RJ m).map λx=>(aA p x:Int)).map PV.int:=by
  rw[Tc];exact Vm λx _=>by rw[hc];rfl
 rw[em] at lc;have lc':P3.ip ⟨Rv,au 0 m⟩ (aR 1 (gN 10) bf Mi (run pg (k+19)) [fv (br ns m t).v,fv (.int (m:Int)),fv (.tup (a.map dZ)),fv (aE S),Rv,Rv,Rv,Rv,Rv,Rv]) (au 0 m) [] h= .ok (((RJ m).map λx=>(aA p x:Int)).map PV.int) (h++J):=lc;obtain⟨Z,hZ⟩: ∃ Z,Z=h++J++[.lst (((RJ m).map λx=>(aA p x:Int)).map PV.int)]:=⟨_,rfl⟩
 have eZ:Z[(h++J).length]?=fv (.lst (((RJ m).map λx=>(aA p x:Int)).map PV.int)):=by rw[hZ];exact aS
 have wa:=jH T (k+7) Z ok W;have mu:=MJ (h:=Z++[.lst [.int 4]]) (n:=Z.length) aS m m4;have eq:=BJ (h:=Z++[.lst [.int 4]]++[.lst ((Rz m (4:Int)).map PV.int)]) (n:=(h++J).length) (m:=(Z++[PO.lst [.int 4]]).length) (xs:=(RJ m).map λx=>(aA p x:Int)) (ys:=Rz m 4)
  ((bF (cB ((bF (cB eZ)).trans eZ))).trans ((bF (cB eZ)).trans eZ)) aS
 have me:=λg=>wI m m4 g;have st:=λg=>rM T (k+6) g ok W;have tn:VF ((m:Nat):Int)=m:=Sj _;rw[run_eq T.jc rfl];unfold Mi at lc';have hl:(br ns m t).hs.length=m:=si;have wo:=vC ok W;by_cases hA:(RJ m).map (λx=>(aA p x:Int))=Rz m 4
 . have al: ∀ x,x < m->aD (br ns m t) S x= .str "end" :=λx hx=>by
    have e:((RJ m).map λx=>(aA p x:Int))[x]?=fv (aA p x:Int):=by rw[RP,Ua hx];rfl
    rw[hA,S7,if_pos hx] at e;cases e':aA p x with
    | _ =>
    rcases pZ R L W c0 hx with h | ⟨h,_⟩
    . exact h.2
    . have:=Sx e;omega
   have we:gx (br ns m t) S=Rz m (.str "end"):=by
    unfold gx;rw[hl,Ul];refine⟨by rw[RB,SH],λv mv=>?_⟩;obtain⟨x,mx,rfl⟩:=Se.mp mv;exact al x (Sf.mp mx)
   have sb:fu (gx (br ns m t) S)=false:=by
    unfold fu;rw[we,XZ];refine .inr (WD.mpr λv mv=>?_);rw[W3 mv];simp
   have we2:=λg=>FE wo g;rw[we] at we2;rw[decide_eq_true hA] at eq;rw[sb] at st;rw[we] at wa;subst hZ;simp only[SR,Ui,SY,Sd,R3,Uu] at wa mu eq;simp? [ba,cq,tn,lc',wa,mu,eq,me,we2,st,Pb];exact aK rfl
 . have ex: ∃ x,x < m/\aA p x≠4:=by
    refine Vk λq=>hA ?_;rw[Ul];refine⟨by rw[RB,SH],λv mv=>?_⟩;obtain⟨x,mx,rfl⟩:=Se.mp mv;have:aA p x=4:=Vk λr=>q ⟨x,Sf.mp mx,r⟩;omega
   have sb:fu (gx (br ns m t) S)=true:=by
    obtain⟨x,hx,nx⟩:=ex;unfold fu;rw[RT,Th,decide_eq_false_iff_not];constructor
    . intro mv;obtain⟨y,my,ey⟩:=Se.mp mv;rw[hl] at my;exact pR R c0 (Sf.mp my) ey
    . refine Xn.mpr ⟨aD (br ns m t) S x,Se.mpr ⟨x,Sf.mpr (by rw[hl];exact hx),rfl⟩,?_⟩;rcases pZ R L W c0 hx with q | ⟨_,_,_,_,_,_,_,ew⟩
      . exact absurd q.1 nx
      . rw[ew];simp
   rw[decide_eq_false hA] at eq;rw[sb] at st;obtain⟨f6,f7,f8,f9,lp⟩:=l8 R L W c0 (run pg (k+19)) (Z:=Z++[.lst [.int 4]]++[.lst ((Rz m (4:Int)).map PV.int)]) ((bF (cB ((bF (cB eZ)).trans eZ))).trans ((bF (cB eZ)).trans eZ)) (fv (.int (m:Int))) (fv (.tup (a.map dZ))) (au 0 m) (RJ m) (λx mx=>Sf.mp mx) Rv Rv Rv Rv;have lp': ∀ y,bg ⟨Rv,au 0 m⟩ (bB (gN 6) Lg (run pg (k+19))) (au 0 m) [fv (br ns m t).v,fv (.int (m:Int)),fv (.tup (a.map dZ)),fv (aE S),fv (.ref (h++J).length),fv (.tup (gx (br ns m t) S)),Rv,Rv,Rv,Rv] (Z++[.lst [.int 4]]++[.lst ((Rz m (4:Int)).map PV.int)])=y->y= .ok (.nx [fv (br ns m t).v,fv (.int (m:Int)),fv (.tup (a.map dZ)),fv (aE S),fv (.ref (h++J).length),fv (.tup (gx (br ns m t) S)),f6,f7,f8,f9]) (Z++[.lst [.int 4]]++[.lst ((Rz m (4:Int)).map PV.int)]):=λy e=>e.symm.trans lp;have lp2:=lp' _ rfl;have ib: ∀ g,qH (.bl true) (.bl true) g= .ok (.bl false) g:=λ_=>rfl;unfold Lg OY at lp2;subst hZ;simp only[SR,Ui,SY,Sd,R3,Uu] at wa mu eq lp2;simp? [ba,cq,tn,lc',wa,mu,eq,st,ib,lp2];exact aK rfl
end
noncomputable def tV:Option Nat->PV
 | none=> .non
 | some k=> .int (k:Int)
theorem FF(i:Nat)(t:Option Nat)(h:PH):dE (.int (i:Int)) (tV t) h= .ok (.bl (decide (t=fv i))) h:=by
 cases t with
 | none=>rfl
 | some k =>
  show dE (.int (i:Int)) (.int (k:Int)) h=_
  rw[vX]
  congr 2
  by_cases e:k=i
  . subst e;simp
  . have e': ¬ (i:Int)=k:=by omega
    simp [e,e']
noncomputable def ltN(i:Nat):Str:=(["a", "b", "c", "d"]:List Str).getD i ""
theorem yU{i:Nat}(hi:i < 4)(g:PH):aL (.str "abcd") (.int (i:Int)) g= .ok (.str (ltN i)) g:=by
 have:i=0∨i=1∨i=2∨i=3:=by omega
 rcases this with rfl | rfl | rfl | rfl<;>rfl
theorem Fs{i:Nat}(hi:i < 4)(g:PH):bM (.str "hand") (.str (ltN i)) g= .ok (.str (hn i)) g:=by
 have:i=0\/i=1\/i=2\/i=3:=by omega
 rcases this with rfl | rfl | rfl | rfl<;>rfl
theorem vx{ns:List Str}{m:Nat}(R:Ring ns m){h:PH}{nn:Nat}(e:h[nn]?=fv (.lst (ns.map PV.str))){i:Nat}(hi:i < m):aL (.ref nn) (.int (i:Int)) h= .ok (.str (nA ns i)) h:=by
 rw[Ba,e,DX,bY (oP R hi)];rfl
theorem F0{m:Nat}(h0:0 < m)(i:Nat)(h:PH):hJ (.int ((i:Int)+1)) (.int (m:Int)) h= .ok (.int (((i+1) % m:Nat):Int)) h:=by
 rw[wj (by omega)];congr 2
theorem F6(ns:List Str)(m:Nat):fD (ns.map PV.str) Rv (fv (m:Int))=(ns.take m).map PV.str:=by rw[P3.qe (by omega),Sj,aad]
theorem yB(P:Pg):P.v.flat=true:=by
 unfold Pg.v;simp only[PV.flat,PV.bq,aab,RT];exact⟨bJ _ (λ_=>rfl) _,bJ _ (λ_=>rfl) _,bJ _ (λ_=>rfl) _,bJ _ (λ_=>rfl) _,bJ _ xw _⟩
def NU:MS:=(ck (aC (aw dE (aa 4) (aa 2))) (gM (eM xT cu (aa 5) ao)) cL)
def NL:MS:=(ag (ar (cY (ab (aw aL (aa 0) (aa 4)) (ab (aw aL (aa 0) (aw hJ (aw bM (aa 4) (eI 1)) (aa 1))) ao))) (gN 5))
  (ag NU
  (ag (ar (az (ab (az (a2 (eS "take") (eX 5 0))) (ab (az (a2 (eS "take") (eX 5 1))) (ab (az (a2 (eS "free") (eX 5 0))) (ab (az (a2 (eS "free") (eX 5 1))) ao))))) (gN 6))
  (gM (eM dc cu (aa 3) (ab (az (ab (aw bM (eS "hand") (aw aL (eS "abcd") (aa 4))) (a1 (aa 6)))) ao))))))
theorem vG{h J:PH}{o o':PO}:(h++o::J).set h.length o'=h++o'::J:=by
 rw[List.set_append_right _ _ (RE _),Nat.sub_self];rfl
theorem qL{h J:PH}{o:PO}:(h++o::J)[h.length]?=fv o:=by
 rw[Sa (RE _),Nat.sub_self];rfl
theorem yN(c:CF)(h:PH){nn:Nat}{ns:List Str}{m:Nat}(R:Ring ns m)(t:Option Nat)(e:h[nn]?=fv (.lst (ns.map PV.str))){i:Nat}(hi:i < m)(xs:List PV)(lx:xs.length<=4)(J:PH)(e4 e5 e6:Option PV) :
  ∃ J' f5 f6,bB (gN 4) NL c (.int (0+(i:Int))) [fv (.ref nn),fv (.int (m:Int)),fv (tV t),fv (.ref h.length),e4,e5,e6] (h++ .lst xs::J) =
   .ok (.nx [fv (.ref nn),fv (.int (m:Int)),fv (tV t),fv (.ref h.length),fv (.int (i:Int)),f5,f6]) (h++ .lst (xs++[bA (hn i,aP ns m t i)])::J'):=by
 have z0:(0:Int)+(i:Int)=i:=UP _;have i4:i < 4:=by have:=R.hi;omega
 obtain⟨Z,hZ⟩: ∃ Z,Z=h++ .lst xs::J:=⟨_,rfl⟩
 have eZ:Z[nn]?=fv (.lst (ns.map PV.str)):=by rw[hZ];exact(bF (cB e)).trans e
 have x1:=vx R eZ hi;have x2:=vx R eZ (gj R.lo R.hi hi).1;have mm:=F0 (m:=m) (by have:=R.lo;omega) i Z;have l1:=λg=>yU i4 g;have l2:=λg=>Fs i4 g;have q:=FF i t;obtain⟨a,b,pr,tr⟩: ∃ a b:Str,aP ns m t i=[.take a,.take b,.free a,.free b]/\NU c [fv (.ref nn),fv (.int (m:Int)),fv (tV t),fv (.ref h.length),fv (.int (i:Int)),fv (.ref Z.length),e6] (Z++[.lst [.str (nA ns i),.str (nA ns ((i+1) % m))]]) =
   .ok (.nx [fv (.ref nn),fv (.int (m:Int)),fv (tV t),fv (.ref h.length),fv (.int (i:Int)),fv (.ref Z.length),e6]) (Z++[.lst [.str a,.str b]]):=by
  by_cases ti:t=fv i
  . refine⟨nA ns ((i+1) % m),nA ns i,by unfold aP sT u9;rw[if_pos ti,if_pos ti],?_⟩;have rv:=MH (n:=Z.length) (h:=Z++[.lst [.str (nA ns i),.str (nA ns ((i+1) % m))]]) aS;simp only[oA,U2,List.reverse_nil,SY,Ui] at rv;have qt: ∀ g,dE (.int (i:Int)) (tV t) g= .ok (.bl true) g:=λg=>by rw[q,decide_eq_true ti]
    unfold NU;simp? [qt,rv]
  . refine⟨nA ns i,nA ns ((i+1) % m),by unfold aP sT u9;rw[if_neg ti,if_neg ti],?_⟩;unfold NU;simp? [q,ti]
 have at3:(Z++[.lst [.str a,.str b]])[h.length]?=fv (.lst xs):=by
  rw[hZ];exact(bF (cB qL)).trans qL
 have at5:(Z++[.lst [.str a,.str b]])[Z.length]?=fv (.lst [.str a,.str b]):=aS;have st:(Z++[PO.lst [.str a,.str b]]).set h.length (.lst (xs++[bA (hn i,aP ns m t i)]))=h++ .lst (xs++[bA (hn i,aP ns m t i)])::(J++[.lst [.str a,.str b]]):=by
  rw[hZ,SR,Ui,vG]
 have hz:xs.length < 16777216:=by omega
 have hv:bA (hn i,aP ns m t i)= .tup [.str (hn i),.tup [.tup [.str "take",.str a],.tup [.str "take",.str b],.tup [.str "free",.str a],.tup [.str "free",.str b]]]:=by rw[pr];rfl
 rw[hv] at st ⊢;refine⟨J++[.lst [.str a,.str b]],fv (.ref Z.length),fv (.tup [.tup [.str "take",.str a],.tup [.str "take",.str b],.tup [.str "free",.str a],.tup [.str "free",.str b]]),?_⟩;rw[<- hZ];unfold NL;simp? [z0,x1,x2,mm,tr,at5,at3,IY,Of,l1,l2,Eb hz,st]
theorem oK(c:CF)(h:PH){nn:Nat}{ns:List Str}{m:Nat}(R:Ring ns m)(t:Option Nat)(e:h[nn]?=fv (.lst (ns.map PV.str)))(xs0:List PV): ∀(d i:Nat)(J:PH)(e4 e5 e6:Option PV),i+d=m ->
  ∃ J' f4 f5 f6,bg ⟨Rv,xs0⟩ (bB (gN 4) NL c) ((V6 i d).map λk:Nat=>PV.int (0+(k:Int))) [fv (.ref nn),fv (.int (m:Int)),fv (tV t),fv (.ref h.length),e4,e5,e6] (h++ .lst ((RJ i).map λk=>bA (hn k,aP ns m t k))::J) =
   .ok (.nx [fv (.ref nn),fv (.int (m:Int)),fv (tV t),fv (.ref h.length),f4,f5,f6]) (h++ .lst ((RJ m).map λk=>bA (hn k,aP ns m t k))::J')
 | 0,i,J,e4,e5,e6,hd=>⟨J,e4,e5,e6,by rw[show i=m by omega];exact iU⟩
 | d+1,i,J,e4,e5,e6,hd=>by
  obtain⟨J1,f5,f6,h1⟩:=yN c h R t e (i:=i) (by omega) ((RJ i).map λk=>bA (hn k,aP ns m t k)) (by rw[RB,SH];have:=R.hi;omega) J e4 e5 e6;obtain⟨J2,g4,g5,g6,h2⟩:=oK c h R t e xs0 d (i+1) J1 (fv (.int (i:Int))) f5 f6 (by omega);refine⟨J2,g4,g5,g6,?_⟩;rw[ZL,TM] at h2;rw[Xm,RL,gZ,h1,gv,c9];exact h2
section
variable{pg:Tb}(T:bW pg)
include T
theorem zU(k:Nat)(h:PH){nn:Nat}{ns:List Str}{m:Nat}(R:Ring ns m)(t:Option Nat)(e:h[nn]?=fv (.lst (ns.map PV.str))):run pg (k+1) "_law_locks" [.ref nn,.int (m:Int),tV t] h= .ok (br ns m t).v h:=by
 obtain⟨J,f4,f5,f6,lp⟩:=oK (run pg k) h R t e (au 0 m) m 0 [] Rv Rv Rv (by omega);rw[<- U9,ZM,SX] at lp;have lp':bg ⟨Rv,au 0 m⟩ (bB (gN 4) NL (run pg k)) (au 0 m) [fv (.ref nn),fv (.int (m:Int)),fv (tV t),fv (.ref h.length),Rv,Rv,Rv] (h++[.lst []])= .ok (.nx [fv (.ref nn),fv (.int (m:Int)),fv (tV t),fv (.ref h.length),f4,f5,f6]) (h++ .lst ((RJ m).map λk=>bA (hn k,aP ns m t k))::J):=lp;obtain⟨Z,hZ⟩: ∃ Z,Z=h++ .lst ((RJ m).map λk=>bA (hn k,aP ns m t k))::J:=⟨_,rfl⟩
 rw[<- hZ] at lp';have a1':Z[nn]?=fv (.lst (ns.map PV.str)):=by rw[hZ];exact(bF (cB e)).trans e
 have a2':(Z++[.lst ((ns.take m).map PV.str)])[h.length]?=fv (.lst ((RJ m).map λk=>bA (hn k,aP ns m t k))):=by rw[hZ];exact(bF (cB qL)).trans qL
 have tn:VF ((m:Nat):Int)=m:=Sj _;have cm:=F6 ns m;have hm:m < 1000:=by have:=R.hi;omega
 unfold NL NU at lp';rw[run_eq T.qq rfl];simp? [dU,jN,tn,lp',a1',a2',cm];have ev:(br ns m t).v= .tup [.tup [],.tup ((ns.take m).map PV.str),.tup [],.tup [],.tup ((RJ m).map λk=>bA (hn k,aP ns m t k))]:=by
  unfold Pg.v br;simp only[SX,Tc];rfl
 rw[hZ,SR,<- ev];exact aK (yB _)
end
def iM(ns:List Str)(m:Nat)(k:Nat):Bool->Rw
 | true=> .send (nA ns ((k+1) % m)) (.num (k:Int))
 | false=> .fetch "p" (nA ns k)
def snd?(f:Option Nat)(k x:Nat):Bool:=decide (f=fv k) == decide (x=0)
def aY(ns:List Str)(m:Nat)(f:Option Nat)(k:Nat):List Rw:=[iM ns m k (snd? f k 0),iM ns m k (snd? f k 1)]
def dJ(ns:List Str)(m:Nat)(f:Option Nat):Pg:=⟨[],[],ns.take m,[],(RJ m).map λk=>(hn k,aY ns m f k)⟩
theorem qg{ns:List Str}{m:Nat}{f:Option Nat}{k x:Nat}(hx:x < 2):(aY ns m f k)[x]?=fv (iM ns m k (snd? f k x)):=by
 have:x=0\/x=1:=by omega
 rcases this with rfl | rfl<;>rfl
theorem Iq{ns:List Str}{m:Nat}{f:Option Nat}{k:Nat}(hk:k < m):(dJ ns m f).hs[k]?=fv (hn k,aY ns m f k):=by
 show((RJ m).map _)[k]?=_;rw[RP,Ua hk];rfl
theorem s9{ns:List Str}{m:Nat}{f:Option Nat}:(dJ ns m f).hs.length=m:=by
 show((RJ m).map _).length=m;rw[RB,SH]
theorem t7{ns:List Str}{m:Nat}(R:Ring ns m)(f:Option Nat):(dJ ns m f).Ok where
 bx:=⟨Si _,λ_ h=>nomatch h⟩
 nm:=⟨qw,wM R,qw⟩
 many:=by rw[s9];exact⟨R5 (by decide) R.lo,R.hi⟩
 hd h mh:=by
  obtain⟨k,mk,rfl⟩:=Se.mp mh;have hk:=Sf.mp mk;have n1:=sM R hk;have n2:=sM R (gj R.lo R.hi hk).1;refine⟨by show 2<=10;decide,["p"],by decide,by decide +kernel,λr mr=>?_⟩;have cl: ∀ b,jg ["p"] 2 (iM ns m k b)/\LC [] [] (ns.take m) [] (iM ns m k b):=λb=>by
   cases b
   . exact⟨Sr.mpr rfl,λi u e=>by cases e;exact n1⟩
   . exact⟨⟨⟨by omega,by have:=R.hi;omega⟩,by show 1<=7;decide⟩,λi u e=>by cases e;exact n2⟩
  simp only[aY,RW,Sz,or_false] at mr;rcases mr with rfl | rfl<;>exact cl _
def js(f:Option Nat)(k x:Nat):Nat:=if (f=fv k/\1<=x)\/2<=x then 1 else 0
def uY(f:Option Nat)(k x:Nat):Nat:=if (¬ f=fv k/\1<=x)\/2<=x then 1 else 0
structure NR(ns:List Str)(m:Nat)(f:Option Nat)(p:List Nat)(S:Wd):Prop where
 len:p.length=m
 le: ∀ k,aA p k<=2
 row: ∀ k s,S.cC[k]?=fv s->s.row=aA p k
 ln: ∀ k z,k < m->S.cy[(k+1) % m]?=fv z->z.2.2.length+uY f ((k+1) % m) (aA p ((k+1) % m))=js f k (aA p k)
 no:f=Rv-> ∀ k,aA p k=0
theorem Bg{ns:List Str}{m k:Nat}(b:Bool)(hl:List Str):own hl (iM ns m k b)=false:=by cases b<;>rfl
theorem yX{f:Option Nat}{k x:Nat}(hx:x < 2):js f k (x+1)=js f k x+(if snd? f k x=true then 1 else 0)/\uY f k (x+1)=uY f k x+(if snd? f k x=true then 0 else 1):=by
 have:x=0\/x=1:=by omega
 rcases this with rfl | rfl<;>by_cases e:f=fv k<;>simp[js,uY,snd?,e]
theorem Ql{m k:Nat}(lo:2<=m)(hi:m<=4)(hk:k < m): ∃ j,j < m/\(j+1) % m=k/\j≠k:=by
 have m3:m=2\/m=3\/m=4:=by omega
 rcases m3 with rfl | rfl | rfl
 . exact⟨(k+1) % 2,by omega,by omega,by omega⟩
 . exact⟨(k+2) % 3,by omega,by omega,by omega⟩
 . exact⟨(k+3) % 4,by omega,by omega,by omega⟩
section
variable{ns:List Str}{m:Nat}{f:Option Nat}{p:List Nat}{S:Wd}{N:Nat}
theorem sZ(R:Ring ns m)(W:dB (dJ ns m f) N S){k:Nat}(hk:k < m): ∃ s c,S.cC[k]?=fv s/\S.fY[k]?=fv c/\(dJ ns m f).hs[k]?=fv (hn k,aY ns m f k):=by
 obtain⟨x,s,c,e1,e2,e3,_⟩:=ju W (s9 ▸ hk:k < (dJ ns m f).hs.length);exact⟨s,c,e2,e3,Iq hk⟩
theorem pG(R:Ring ns m)(W:dB (dJ ns m f) N S){l:Nat}(hl:l < m): ∃ z,S.cy[l]?=fv z:=by
 have e:S.cy.length=m:=by rw[W.l2];show(ns.take m).length=m;rw[Tt];have:=R.ln;have:=R.hi;omega
 exact⟨S.cy[l],RH (by omega)⟩
theorem eV(R:Ring ns m)(L:NR ns m f p S)(W:dB (dJ ns m f) N S){k:Nat}(hk:k < m) :
  (aA p k=2/\aD (dJ ns m f) S k= .str "end")\/(aA p k < 2/\snd? f k (aA p k)=true/\aD (dJ ns m f) S k= .non) \/
  (aA p k < 2/\snd? f k (aA p k)=false/\ ∃ z,S.cy[k]?=fv z/\((z.2.2=[]/\aD (dJ ns m f) S k= .tup [.str "letter",.str (nA ns k)])\/(z.2.2≠[]/\aD (dJ ns m f) S k= .non))):=by
 obtain⟨s,c,es,ec,eh⟩:=sZ R W hk;have hr:=L.row k s es;have h2:=L.le k;have ew:aD (dJ ns m f) S k=dG (dJ ns m f) S ((aY ns m f k)[aA p k]?):=by
  unfold aD;rw[fJ eh es,hr]
 by_cases h:aA p k=2
 . refine .inl ⟨h,?_⟩;rw[ew,h];rfl
 . have hx:aA p k < 2:=by omega
   rw[qg hx] at ew;cases hb:snd? f k (aA p k) with
   | true =>
    rw[hb] at ew
    exact .inr (.inl ⟨hx,rfl,ew⟩)
   | false =>
    rw[hb] at ew
    obtain⟨z,ez⟩:=pG R W hk
    refine .inr (.inr ⟨hx,rfl,z,ez,?_⟩)
    have ix:((dJ ns m f).nm 2).idxOf (nA ns k)=k:=oH R hk
    rw[ew]
    obtain⟨a,b,l⟩:=z
    show(l=[]/\dG _ S (fv (.fetch "p" (nA ns k)))=_)\/(l≠[]/\dG _ S (fv (.fetch "p" (nA ns k)))=_)
    cases l with
    | nil=>exact .inl ⟨rfl,by simp only[dG,ix,ez]⟩
    | cons u r=>exact .inr ⟨(λq=>nomatch q),by simp only[dG,ix,ez]⟩
end
section
variable {ns:List Str} {m:Nat} {f:Option Nat} {p:List Nat} {S:Wd} {N:Nat}
theorem NR.step(R : Ring ns m)(L : NR ns m f p S)(W : dB (dJ ns m f) N S){k : Nat}(hk : k < m)(hw : aD (dJ ns m f) S k = .non) :
    aA p k < 2 /\ ∃ l S1, BS (dJ ns m f) S k .non l S1 /\ NR ns m f (p.set k (aA p k + 1)) S1 := by
  have hx : aA p k < 2 := by
    rcases eV R L W hk with ⟨_, e⟩ | ⟨h, _⟩ | ⟨h, _⟩
    . rw [e] at hw; cases hw
    . exact h
    . exact h
  obtain ⟨s, c, es, ec, eh⟩ := sZ R W hk;have hr := L.row k s es;have er := qg (ns := ns) (m := m) (f := f) (k := k) hx;have kl : k < p.length := by rw [L.len]; exact hk
  have nk := gj R.lo R.hi hk;obtain ⟨r, hr1⟩ : ∃ r, iM ns m k (snd? f k (aA p k)) = r := ⟨_, rfl⟩
  rw [hr1] at er;have gi : eJ r .non := by
    rw [<- hr1]; cases snd? f k (aA p k) <;> exact ⟨(λh => nomatch h), λ_ => rfl⟩
  refine ⟨hx, _, _, ⟨_, s, c, r, eh, es, ec, by rw [hr]; exact er, hw, gi, rfl, rfl⟩, ?_⟩;have hrow : ∀ v, (after s v r).row = aA p k + 1 := λv => by rw [ph, hr]
  have hre : ∀ v, aV (aY ns m f k) (after s v r) = true := λv => by
    unfold aV;rw [hrow];by_cases h3 : aA p k + 1 < 2
    . rw [qg h3];show (!own _ _) = true;rw [Bg]; rfl
    . have : aA p k + 1 = 2 := by omega
      rw [this]; rfl
  have oth : ∀ k', k' ≠ k -> aA (p.set k (aA p k + 1)) k' = aA p k' := λk' q => by rw [df kl, if_neg q]
  have own' : aA (p.set k (aA p k + 1)) k = aA p k + 1 := by rw [df kl, if_pos rfl]
  obtain ⟨nx1, nx2⟩ := yX (f := f) (k := k) hx;refine ⟨by rw [Su]; exact L.len, λj => ?_, λj s' e => ?_, λj z' hj e => ?_, λfn => ?_⟩
  . rw [df kl]; split
    . omega
    . exact L.le j
  . unfold dI jy at e;rw [jW (hre _)] at e;simp only [T6] at e;rw [df kl];have mc : (met (dJ ns m f) S k c s .non r).1.cC = S.cC := by rw [<- hr1]; cases snd? f k (aA p k) <;> rfl
    rw [mc] at e;by_cases ej : k = j
    . subst ej;have kk : k < S.cC.length := (RC.mp es).1;simp only [if_true, kk] at e;cases e;rw [if_pos rfl];exact hrow _
    . rw [if_neg ej] at e;rw [if_neg (λq => ej q.symm)];exact L.row j s' e
  . cases hb : snd? f k (aA p k) with
    | true =>
      rw [hb] at hr1 nx1 nx2
      subst hr1
      have ix : ((dJ ns m f).nm 2).idxOf (nA ns ((k + 1) % m)) = (k + 1) % m := oH R nk.1
      have ml : (dI (dJ ns m f) S k c (aY ns m f k) s .non (iM ns m k true)).cy = S.cy.set ((k + 1) % m) (((S.cy[(k + 1) % m]?).getD (0, 0, [])).1 + 1, ((S.cy[(k + 1) % m]?).getD (0, 0, [])).2.1, ((S.cy[(k + 1) % m]?).getD (0, 0, [])).2.2 ++ [(Sm.num (k : Int)).val (fP s.ps)]) := by
        show S.cy.set _ _ = _;rw [ix]
      obtain ⟨z, ez⟩ := pG R W nk.1
      rw [ml, T6, ez] at e
      have lz := (RC.mp ez).1
      by_cases ej : j = k
      . subst ej;rw [if_pos rfl, if_pos lz] at e;cases e;have := L.ln j z hk ez;rw [own', oth _ nk.2, nx1];simp only [Sk, Sd, VP, if_true];omega
      . have nj : ¬ (k + 1) % m = (j + 1) % m := by
          have m3 : m = 2 ∨ m = 3 ∨ m = 4 := by have := R.lo; have := R.hi; omega
          rcases m3 with rfl | rfl | rfl <;> omega
        rw [if_neg nj] at e;have := L.ln j z' hj e;rw [oth j ej];by_cases ek : (j + 1) % m = k
        . rw [ek] at this ⊢;rw [own', nx2]; simpa using this
        . rw [oth _ ek]; exact this
    | false =>
      rw [hb] at hr1 nx1 nx2
      subst hr1
      have ix : ((dJ ns m f).nm 2).idxOf (nA ns k) = k := oH R hk
      obtain ⟨z, ez⟩ := pG R W hk
      have zn : z.2.2 ≠ [] := by
        rcases eV R L W hk with ⟨q, _⟩ | ⟨_, q, _⟩ | ⟨_, _, z2, q1, ⟨_, q⟩ | ⟨q, _⟩⟩
        . omega
        . rw [hb] at q; cases q
        . rw [q] at hw; cases hw
        . rw [ez] at q1; cases q1; exact q
      have ml : (dI (dJ ns m f) S k c (aY ns m f k) s .non (iM ns m k false)).cy = S.cy.set k (((S.cy[k]?).getD (0, 0, [])).1, ((S.cy[k]?).getD (0, 0, [])).2.1 + 1, ((S.cy[k]?).getD (0, 0, [])).2.2.tail) := by
        show S.cy.set _ _ = _;rw [ix]
      rw [ml, T6, ez] at e
      have lz := (RC.mp ez).1
      by_cases ek : (j + 1) % m = k
      . have jk : j ≠ k := λq => by subst q; exact nk.2 ek
        rw [ek] at e;rw [if_pos rfl, if_pos lz] at e;cases e;have := L.ln j z hj (by rw [ek]; exact ez);rw [ek] at this;rw [oth j jk, ek, own', nx2];have z1 : 0 < z.2.2.length := Yr.mpr zn;simp only [Sk, Zr];simp only [TU, if_false];omega
      . rw [if_neg (λq => ek q.symm)] at e;have := L.ln j z' hj e;rw [oth _ ek];by_cases ej : j = k
        . subst ej; rw [own', nx1]; simpa using this
        . rw [oth j ej]; exact this
  . -- nobody may go where nobody is first
    exfalso;have all := L.no fn;rcases eV R L W hk with ⟨q, _⟩ | ⟨_, q, _⟩ | ⟨_, _, z2, q1, ⟨_, q⟩ | ⟨q, _⟩⟩
    . rw [all k] at q; omega
    . rw [all k, fn] at q; cases q
    . rw [q] at hw; cases hw
    . obtain ⟨j, hj, ej, _⟩ := Ql R.lo R.hi hk;have := L.ln j z2 hj (by rw [ej]; exact q1);rw [all j] at this;have s0 : js f j 0 = 0 := by simp [js, fn]
      rw [s0] at this;exact q (VG.mp (by omega))
theorem BD(R:Ring ns m)(f:Option Nat):NR ns m f (Rz m 0) (bj (dJ ns m f)) where
 len:=Uk
 le k:=by rw[cF];decide
 row k s e:=by
  have e':((RJ m).map λk=>(hn k,aY ns m f k)).map iP=(bj (dJ ns m f)).cC:=rfl;rw[<- e',Tc,RP] at e;obtain⟨j,_,rfl⟩:=Uc.mp e;have z:(iP ∘ λk=>(hn k,aY ns m f k)) j=⟨0,[],[]⟩:=jW (rs:=aY ns m f j) (s:=⟨0,[],[]⟩) (by
   show(!own [] (iM ns m j (snd? f j 0)))=true;rw[Bg];rfl) 200
  rw[z,cF]
 ln k z _ e:=by
  have e':(ns.take m).map (λ_=>((0:Int),(0:Int),([]:List Int)))=(bj (dJ ns m f)).cy:=rfl;rw[<- e',RP] at e;obtain⟨_,_,rfl⟩:=Uc.mp e;rw[cF,cF];simp[js,uY]
 no _ k:=cF m k
theorem Ia(R:Ring ns m)(f:Option Nat):Lj (dJ ns m f) (NR ns m f) m 2 :=
 ⟨t7 R f,s9,R5 (by decide) R.lo,R.hi,by decide,BD R f,λW L hk hw=>L.step R W hk hw,λL=>L.len,λL=>L.le⟩
theorem Iz(R:Ring ns m){t:Nat}(ht:t < m)(L:NR ns m (fv t) p S)(W:dB (dJ ns m (fv t)) N S)(c0:bV (dJ ns m (fv t)) S=[]): ∀ k,k < m->aA p k=2:=by
 have nc: ∀ k,k < m->aD (dJ ns m (fv t)) S k≠ .non:=λk hk e=>by
  have:k∈bV (dJ ns m (fv t)) S:=TL.mpr ⟨Sf.mpr (by rw[s9];exact hk),decide_eq_true e⟩;rw[c0] at this;nomatch this
 have st: ∀ j,j < m->js (fv t) j (aA p j)=1->aA p ((j+1) % m)=2:=λj hj sj=>by
  have nk:=gj R.lo R.hi hj;have hl:=L.le ((j+1) % m);rcases eV R L W nk.1 with⟨q,_⟩ | ⟨_,_,q⟩ | ⟨q0,q1,z,ez,⟨q2,_⟩ | ⟨_,q⟩⟩
  . exact q
  . exact absurd q (nc _ nk.1)
  . have:=L.ln j z hj ez;rw[q2,sj] at this;have f1:uY (fv t) ((j+1) % m) (aA p ((j+1) % m))=0:=by
     have:aA p ((j+1) % m)=0\/aA p ((j+1) % m)=1:=by omega
     rcases this with e | e<;>rw[e] at q1 ⊢ <;>by_cases ef:fv t=fv ((j+1) % m)<;>simp_all [uY,snd?]
    rw[f1] at this;simp at this
  . exact absurd q (nc _ nk.1)
 have s2: ∀ j,aA p j=2->js (fv t) j (aA p j)=1:=λj e=>by rw[e];simp[js]
 have s0:js (fv t) t (aA p t)=1:=by
  have h0:1<=aA p t:=by
   rcases eV R L W ht with⟨q,_⟩ | ⟨_,_,q⟩ | ⟨q0,q1,_⟩
   . omega
   . exact absurd q (nc _ ht)
   . refine Vk λq=>?_;have:aA p t=0:=by omega
     rw[this] at q1;simp[snd?] at q1
  simp[js,h0]
 have go: ∀ i,aA p ((t+1+i) % m)=2:=λi=>by
  induction i with
  | zero=>exact st t ht s0
  | succ i ih =>
   have m3:m=2\/m=3\/m=4:=by have:=R.lo;have:=R.hi;omega
   have:=st _ (Nat.mod_lt _ (by omega)) (s2 _ ih)
   rw[show((t+1+i) % m+1) % m=(t+1+(i+1)) % m by rcases m3 with rfl | rfl | rfl<;>omega] at this
   exact this
 intro k hk;have m3:m=2\/m=3\/m=4:=by have:=R.lo;have:=R.hi;omega
 have:=go (k+m - 1 - t+m);rw[show(t+1+(k+m - 1 - t+m)) % m=k by rcases m3 with rfl | rfl | rfl<;>omega] at this;exact this
end
def LG:MS:=(ck (aC (aw dE (aa 4) (aa 2))) (ar (az (a2 (eX 5 1) (eX 5 0))) (gN 5)) cL)
def N7:MS:=(ag (ar (az (ab (az (ab (eS "fetch") (ab (eS "p") (ab (aw aL (aa 0) (aa 4)) ao)))) (ab (az (ab (eS "send") (ab (aw aL (aa 0) (aw hJ (aw bM (aa 4) (eI 1)) (aa 1))) (ab (az (a2 (eS "num") (aa 4))) ao)))) ao))) (gN 5))
  (ag LG
  (gM (eM dc cu (aa 3) (ab (az (ab (aw bM (eS "hand") (aw aL (eS "abcd") (aa 4))) (a1 (aa 5)))) ao)))))
theorem By(c:CF)(h:PH){nn:Nat}{ns:List Str}{m:Nat}(R:Ring ns m)(t:Option Nat)(e:h[nn]?=fv (.lst (ns.map PV.str))){i:Nat}(hi:i < m)(xs:List PV)(lx:xs.length<=4)(e4 e5:Option PV) :
  ∃ f5,bB (gN 4) N7 c (.int (0+(i:Int))) [fv (.ref nn),fv (.int (m:Int)),fv (tV t),fv (.ref h.length),e4,e5] (h++[.lst xs]) =
   .ok (.nx [fv (.ref nn),fv (.int (m:Int)),fv (tV t),fv (.ref h.length),fv (.int (i:Int)),f5]) (h++[.lst (xs++[bA (hn i,aY ns m t i)])]):=by
 have z0:(0:Int)+(i:Int)=i:=UP _;have i4:i < 4:=by have:=R.hi;omega
 obtain⟨Z,hZ⟩: ∃ Z,Z=h++[.lst xs]:=⟨_,rfl⟩
 have eZ:Z[nn]?=fv (.lst (ns.map PV.str)):=by rw[hZ];exact(bF (cB e)).trans e
 have x1:=vx R eZ hi;have x2:=vx R eZ (gj R.lo R.hi hi).1;have mm:=F0 (m:=m) (by have:=R.lo;omega) i Z;have l1:=λg=>yU i4 g;have l2:=λg=>Fs i4 g;have q:=FF i t;obtain⟨v,hv,tr⟩: ∃ v:PV,eT (aY ns m t i)=v/\LG c [fv (.ref nn),fv (.int (m:Int)),fv (tV t),fv (.ref h.length),fv (.int (i:Int)),fv (.tup [.tup [.str "fetch",.str "p",.str (nA ns i)],.tup [.str "send",.str (nA ns ((i+1) % m)),.tup [.str "num",.int (i:Int)]]])] Z =
   .ok (.nx [fv (.ref nn),fv (.int (m:Int)),fv (tV t),fv (.ref h.length),fv (.int (i:Int)),fv v]) Z:=by
  refine⟨_,rfl,?_⟩;by_cases ti:t=fv i
  . have qt: ∀ g,dE (.int (i:Int)) (tV t) g= .ok (.bl true) g:=λg=>by rw[q,decide_eq_true ti]
    have rv:eT (aY ns m t i)= .tup [.tup [.str "send",.str (nA ns ((i+1) % m)),.tup [.str "num",.int (i:Int)]],.tup [.str "fetch",.str "p",.str (nA ns i)]]:=by
     have b0:snd? t i 0=true:=by simp[snd?,ti]
     have b1:snd? t i 1=false:=by simp[snd?,ti]
     unfold aY;rw[b0,b1];rfl
    rw[rv];unfold LG;simp? [qt]
  . have qf: ∀ g,dE (.int (i:Int)) (tV t) g= .ok (.bl false) g:=λg=>by rw[q,decide_eq_false ti]
    have rv:eT (aY ns m t i)= .tup [.tup [.str "fetch",.str "p",.str (nA ns i)],.tup [.str "send",.str (nA ns ((i+1) % m)),.tup [.str "num",.int (i:Int)]]]:=by
     have b0:snd? t i 0=false:=by simp[snd?,ti]
     have b1:snd? t i 1=true:=by simp[snd?,ti]
     unfold aY;rw[b0,b1];rfl
    rw[rv];unfold LG;simp? [qf]
 have at3:Z[h.length]?=fv (.lst xs):=by rw[hZ];exact aS
 have hz:xs.length < 16777216:=by omega
 have hh:bA (hn i,aY ns m t i)= .tup [.str (hn i),v]:=by rw[<- hv];rfl
 have st:Z.set h.length (.lst (xs++[.tup [.str (hn i),v]]))=h++[.lst (xs++[.tup [.str (hn i),v]])]:=by rw[hZ];exact vG
 rw[hh];refine⟨fv v,?_⟩;rw[<- hZ];unfold N7;simp? [z0,x1,x2,mm,tr,at3,l1,l2,Eb hz,st]
theorem pq(c:CF)(h:PH){nn:Nat}{ns:List Str}{m:Nat}(R:Ring ns m)(t:Option Nat)(e:h[nn]?=fv (.lst (ns.map PV.str)))(xs0:List PV): ∀(d i:Nat)(e4 e5:Option PV),i+d=m ->
  ∃ f4 f5,bg ⟨Rv,xs0⟩ (bB (gN 4) N7 c) ((V6 i d).map λk:Nat=>PV.int (0+(k:Int))) [fv (.ref nn),fv (.int (m:Int)),fv (tV t),fv (.ref h.length),e4,e5] (h++[.lst ((RJ i).map λk=>bA (hn k,aY ns m t k))]) =
   .ok (.nx [fv (.ref nn),fv (.int (m:Int)),fv (tV t),fv (.ref h.length),f4,f5]) (h++[.lst ((RJ m).map λk=>bA (hn k,aY ns m t k))])
 | 0,i,e4,e5,hd=>⟨e4,e5,by rw[show i=m by omega];exact iU⟩
 | d+1,i,e4,e5,hd=>by
  obtain⟨f5,h1⟩:=By c h R t e (i:=i) (by omega) ((RJ i).map λk=>bA (hn k,aY ns m t k)) (by rw[RB,SH];have:=R.hi;omega) e4 e5;obtain⟨g4,g5,h2⟩:=pq c h R t e xs0 d (i+1) (fv (.int (i:Int))) f5 (by omega);refine⟨g4,g5,?_⟩;rw[ZL,TM] at h2;rw[Xm,RL,gZ,h1,gv,c9];exact h2
section
variable{pg:Tb}(T:bW pg)
include T
theorem A8(k:Nat)(h:PH){nn:Nat}{ns:List Str}{m:Nat}(R:Ring ns m)(t:Option Nat)(e:h[nn]?=fv (.lst (ns.map PV.str))):run pg (k+1) "_law_lanes" [.ref nn,.int (m:Int),tV t] h= .ok (dJ ns m t).v h:=by
 obtain⟨f4,f5,lp⟩:=pq (run pg k) h R t e (au 0 m) m 0 Rv Rv (by omega);rw[<- U9,ZM,SX] at lp;have lp':bg ⟨Rv,au 0 m⟩ (bB (gN 4) N7 (run pg k)) (au 0 m) [fv (.ref nn),fv (.int (m:Int)),fv (tV t),fv (.ref h.length),Rv,Rv] (h++[.lst []])= .ok (.nx [fv (.ref nn),fv (.int (m:Int)),fv (tV t),fv (.ref h.length),f4,f5]) (h++[.lst ((RJ m).map λk=>bA (hn k,aY ns m t k))]):=lp;obtain⟨Z,hZ⟩: ∃ Z,Z=h++[.lst ((RJ m).map λk=>bA (hn k,aY ns m t k))]:=⟨_,rfl⟩
 rw[<- hZ] at lp';have a1':Z[nn]?=fv (.lst (ns.map PV.str)):=by rw[hZ];exact(bF (cB e)).trans e
 have a2':(Z++[.lst ((ns.take m).map PV.str)])[h.length]?=fv (.lst ((RJ m).map λk=>bA (hn k,aY ns m t k))):=by rw[hZ];exact(bF (cB aS)).trans aS
 have tn:VF ((m:Nat):Int)=m:=Sj _;have cm:=F6 ns m;have hm:m < 1000:=by have:=R.hi;omega
 unfold N7 LG at lp';rw[run_eq T.qz rfl];simp? [dN,jS,tn,lp',a1',a2',cm];have ev:(dJ ns m t).v= .tup [.tup [],.tup [],.tup ((ns.take m).map PV.str),.tup [],.tup ((RJ m).map λk=>bA (hn k,aY ns m t k))]:=by
  unfold Pg.v dJ;simp only[SX,Tc];rfl
 rw[hZ,SR,<- ev];exact aK (yB _)
end
section
variable{pg:Tb}(T:bW pg)
include T
theorem mH(k:Nat)(h:PH){ns:List Str}{m:Nat}(R:Ring ns m)(t:Option Nat)(ht: ∀ x,t=fv x->x < m){p:List Nat}{S:Wd}{a:List (Nat × PV × PV)}(w:Wk (dJ ns m t) (bj (dJ ns m t)) a S)(L:NR ns m t p S)(c0:bV (dJ ns m t) S=[])(hs:p.sum=a.length)(la:a.length<=16) :
  run pg (k+20) "_law_lanes_right" [(dJ ns m t).v,.int (m:Int),.tup (a.map dZ),aE S,tV t] h= .ok (.bl true) h:=by
 have ok:=t7 R t;have W:=w.ok ok (cI ok);have m4:=R.hi;have hl:(dJ ns m t).hs.length=m:=s9;have wo:=vC ok W;have wa:=jH T (k+7) h ok W;have me:=λg=>wI m m4 g;have tn:VF ((m:Nat):Int)=m:=Sj _;have st:=λg=>rM T (k+6) g ok W;have we2:=λg=>FE wo g;rw[run_eq T.i6 rfl];cases t with
 | some f =>
  have p2:=Iz R (ht f rfl) L W c0
  have al: ∀ x,x < m->aD (dJ ns m (fv f)) S x= .str "end" :=λx hx=>by
   rcases eV R L W hx with q | ⟨q,_⟩ | ⟨q,_⟩
   . exact q.2
   . have:=p2 x hx;omega
   . have:=p2 x hx;omega
  have we:gx (dJ ns m (fv f)) S=Rz m (.str "end"):=by
   unfold gx;rw[hl,Ul];refine⟨by rw[RB,SH],λv mv=>?_⟩;obtain⟨x,mx,rfl⟩:=Se.mp mv;exact al x (Sf.mp mx)
  have sb:fu (gx (dJ ns m (fv f)) S)=false:=by
   unfold fu;rw[we,XZ];refine .inr (WD.mpr λv mv=>?_);rw[W3 mv];simp
  rw[we] at we2 wa
  rw[sb] at st
  have pr:p=Rz m 2:=by
   rw[Ul];refine⟨L.len,λx mx=>?_⟩;obtain⟨i,hi,rfl⟩:=Yh.mp mx;have:=p2 i (by rw[<- L.len];exact hi);unfold aA at this;rw[R8,RH hi] at this;exact this
  have ls:(a.length:Int)=2*(m:Int):=by
   have s2:(Rz m 2).sum=2*m:=by
    have m3:m=2\/m=3\/m=4:=by have:=R.lo;omega
    rcases m3 with rfl | rfl | rfl<;>rfl
   rw[<- hs,pr,s2];omega
  have ln:(a.map dZ).length=a.length:=RB ..
  have mu: ∀ g,bE (.int 2) (.int (m:Int)) g= .ok (.int (2*(m:Int))) g:=λg=>jx (by omega)
  have tv:tV (fv f)= .int (f:Int):=rfl
  have ib: ∀ g,FL (.bl false) (.bl false) g= .ok (.bl true) g:=λ_=>rfl
  rw[tv]
  simp? [bb,cb,wa,me,we2,mu,ls,ln,st,ib]
  skip
 | none =>
  have p0:=L.no rfl
  have a0:a=[]:=by
   have:p.sum=0:=by
    have:=uD (n:=0) (p:=p) (λk=>by rw[p0 k];exact RE _);omega
   exact VG.mp (by omega)
  subst a0
  have al: ∀ x,x < m->aD (dJ ns m Rv) S x= .tup [.str "letter",.str (nA ns x)]:=λx hx=>by
   rcases eV R L W hx with⟨q,_⟩ | ⟨_,q,_⟩ | ⟨_,_,z,ez,⟨_,q⟩ | ⟨q,e⟩⟩
   . rw[p0] at q;omega
   . rw[p0] at q;cases q
   . exact q
   . obtain⟨j,hj,ej,_⟩:=Ql R.lo R.hi hx;have:=L.ln j z hj (by rw[ej];exact ez);rw[p0 j] at this;have s0:js Rv j 0=0:=by simp[js]
     rw[s0] at this;exact absurd (VG.mp (by omega)) q
  have we:gx (dJ ns m Rv) S=(RJ m).map λx=> .tup [.str "letter",.str (nA ns x)]:=by
   unfold gx;rw[hl];exact Vm λx mx=>al x (Sf.mp mx)
  have sb:fu (gx (dJ ns m Rv) S)=true:=by
   unfold fu;rw[we,RT,Th,decide_eq_false_iff_not];constructor
   . intro mv;obtain⟨y,_,ey⟩:=Se.mp mv;cases ey
   . refine Xn.mpr ⟨_,Se.mpr ⟨0,Sf.mpr (by have:=R.lo;omega),rfl⟩,?_⟩;simp
  rw[we] at we2 wa
  rw[sb] at st
  have i2: ∀ g,aL (dJ ns m Rv).v (.int 2) g= .ok (.tup ((ns.take m).map PV.str)) g:=λ_=>rfl
  have lc:P3.ip ⟨Rv,au 0 m⟩ (aR 1 (gN 7) bf (az (ab (eS "letter") (ab (aw aL (eX 0 2) (aa 7)) ao))) (run pg (k+19)) [fv (dJ ns m Rv).v,fv (.int (m:Int)),fv (.tup []),fv (aE S),fv .non,fv (.tup ((RJ m).map λx=> .tup [.str "letter",.str (nA ns x)])),Rv]) (au 0 m) [] h= .ok ((RJ m).map λx=> .tup [.str "letter",.str (nA ns x)]) h:=by
   refine OW (l:=RJ m) (g:=λx:Nat=>PV.int (0+(x:Int))) (f:=λx=> .tup [.str "letter",.str (nA ns x)]) (by rw[SH];omega) λx mx=>?_;have z0:(0:Int)+(x:Int)=x:=UP _;have e:(ns.take m)[x]?=fv (nA ns x):=by rw[VB,if_pos (Sf.mp mx)];exact oP R (Sf.mp mx)
   have ix:aL (.tup ((ns.take m).map PV.str)) (.int (x:Int)) h= .ok (.str (nA ns x)) h:=LM (bY e) h;simp? [z0,i2,ix]
  have ib: ∀ g,FL (.bl true) (.bl true) g= .ok (.bl true) g:=λ_=>rfl
  have e0: ∀ g,dE (.tup []) (.tup []) g= .ok (.bl true) g:=λ_=>rfl
  have tv:tV Rv= .non:=rfl
  rw[tv]
  simp? [bb,cb,wa,tn,lc,e0,we2,st,ib]
  exact aK rfl
end
def OM:MS:=(ag (ar (ah "_law_run" (a3 (aa 6) (aa 1) (aa 7))) (gT 2 (aT (gN 8) (aT (gN 9) eF))))
  (ag (ck (yx (aC (aw gq (ah "can_go" (a2 (aa 6) (aa 9))) (cY ao))) (qG (aC (ah "_law_locks_right" (ab (aa 6) (a3 (aa 2) (aa 8) (aa 9))))))) (aB (eC (.bl false))) cL)
  (ck (n6 (aC (qQ (dq true) (aa 5))) (aC (aw gq (eB b9 (a1 (aa 8))) (aw bE (eI 4) (aa 2))))) (aB (eC (.bl false))) cL)))
theorem ML{ns:List Str}{m:Nat}(R:Ring ns m){t:Nat}(ht:t < m){p:List Nat}{S:Wd}{N:Nat}(L:LR ns m (fv t) p S)(W:dB (br ns m (fv t)) N S)(c0:bV (br ns m (fv t)) S=[]):p.sum=4*m:=by
 have a4:=AR R.lo R.hi ht L.len λk hk=>by
  rcases pZ R L W c0 hk with h | ⟨h,k',_,hk',_,_,hm,_⟩
  . exact .inl h.1
  . exact .inr ⟨h,k',hk',hm⟩
 have pr:p=Rz m 4:=by
  rw[Ul];refine⟨L.len,λx mx=>?_⟩;obtain⟨i,hi,rfl⟩:=Yh.mp mx;have:=a4 i (by rw[<- L.len];exact hi);unfold aA at this;rw[R8,RH hi] at this;exact this
 rw[pr];have m3:m=2\/m=3\/m=4:=by have:=R.lo;have:=R.hi;omega
 rcases m3 with rfl | rfl | rfl<;>rfl
section
variable{pg:Tb}(T:bW pg)
include T
theorem vK(k:Nat){ns:List Str}{m:Nat}(R:Ring ns m)(t:Option Nat)(ht: ∀ x,t=fv x->x < m){fr:PO}(q:Int × Int × Int){G:PH}{i:Nat}{pk:List Nat}(hk:G[i]?=fv (.lst (pk.map dF)))(pks:BZ (br ns m t) (LR ns m t) m pk (Rz m 0))(e0 e3 e4 e7 e8 e9 e10:Option PV) :
  ∃(q':Int × Int × Int)(pk':List Nat)(f8 f9:Option PV),bB (gN 7) OM (run pg (k+22)) (.ref (i+2)) [e0,fv (.ref 1),fv (.int (m:Int)),e3,e4,fv (tV t),fv (br ns m t).v,e7,e8,e9,e10] (fr::dO q::G) =
   .ok (.nx [e0,fv (.ref 1),fv (.int (m:Int)),e3,e4,fv (tV t),fv (br ns m t).v,fv (.ref (i+2)),f8,f9,e10]) (cK fr q' G i pk' [.lst [],.lst []]):=by
 obtain⟨a,S,p,q',pk',w,L,c0,hs,hc,la,re⟩:=nu T (k+1) (GW R t) (fr:=fr) hk pks q;have ok:=p5 R t;have W:=w.ok ok (cI ok);obtain⟨H1,hH⟩: ∃ H1,H1=cK fr q' G i pk' []:=⟨_,rfl⟩
 have cg:=iu T (k+9) H1 ok W;rw[c0,SX] at cg;have ne:=Ed (h:=H1++[.lst []]++[.lst []]) (n:=H1.length) (m:=(H1++[PO.lst []]).length) (l:=[]) ((bF (cB aS)).trans aS) aS;simp only[decide_true,W2,Sd,R3,Uu,SR,Ui,SY] at ne;have lr:=λg=>nF T (k+2) g R t w L c0 hc la;have ln:(a.map dZ).length=a.length:=RB ..;have eq:cK fr q' G i pk' [.lst [],.lst []]=H1++[.lst [],.lst []]:=by rw[hH,dM];rfl
 rw[<- hH] at re;refine⟨q',pk',fv (.tup (a.map dZ)),fv (aE S),?_⟩;rw[eq];cases t with
 | none =>
  have tv:tV Rv= .non:=rfl
  rw[tv]
  unfold OM
  simp? [re,cg,ne,lr]
 | some x =>
  have tv:tV (fv x)= .int (x:Int):=rfl
  have mu: ∀ g,bE (.int 4) (.int (m:Int)) g= .ok (.int (4*(m:Int))) g:=λg=>jx (by have:=R.hi;omega)
  have ls:(a.length:Int)=4*(m:Int):=by
   have:=ML R (ht x rfl) L W c0;omega
  rw[tv]
  unfold OM
  simp? [re,cg,ne,lr,mu,ln,ls]
  skip
end
noncomputable def room:Nat:=22
noncomputable def B4:List Str:=["a", "ab", "abc", "locks"]
theorem Dj{v m:Nat}(hv:v < 4)(lo:2<=m)(hi:m<=4):Ring (B4.drop v++B4.take v) m:=by
 have:v=0∨v=1∨v=2∨v=3:=by omega
 refine ⟨lo,hi,?_,?_,?_⟩
 . rcases this with rfl | rfl | rfl | rfl<;>rfl
 . rcases this with rfl | rfl | rfl | rfl<;>decide +kernel
 . rcases this with rfl | rfl | rfl | rfl<;>decide +kernel
theorem Qh{h:PH}{n m:Nat}{l:List Nat}(e1:h[n]?=fv (.lst (l.map dF)))(e2:h[m]?=fv (.lst [])):dE (.ref n) (.ref m) h= .ok (.bl (decide (l=[]))) h:=by
 obtain⟨ds,d1,d2⟩:=Fz l;unfold dE;rw[oI e1 e2 d1 d2];cases l<;>rfl
theorem xN(m:Nat):au 0 m=(RJ m).map dF:=Vm λx _=>by
 show PV.int (0+(x:Int))= .int (x:Int);rw[UP]
def Qm:MS:=(ag (ar (ah "_law_run" (a3 (aa 10) (aa 1) (cY ao))) (gT 2 (aT (gN 8) (aT (gN 9) eF))))
  (aB (j8 (aw dE (ah "can_go" (a2 (aa 10) (aa 9))) (cY ao)) (ah "_law_lanes_right" (ab (aa 10) (ab (aa 2) (a3 (aa 8) (aa 9) (aa 5))))))))
section
variable{pg:Tb}(T:bW pg)
include T
theorem Kb(k:Nat){ns:List Str}{m:Nat}(R:Ring ns m)(t:Option Nat)(ht: ∀ x,t=fv x->x < m){fr:PO}(q:Int × Int × Int)(G:PH)(e0 e3 e4 e6 e7 e8 e9:Option PV) :
  ∃ h',Qm (run pg (k+22)) [e0,fv (.ref 1),fv (.int (m:Int)),e3,e4,fv (tV t),e6,e7,e8,e9,fv (dJ ns m t).v] (fr::dO q::G)= .ok (.rt (.bl true)) h':=by
 obtain⟨a,S,p,q',pk',w,L,c0,hs,hc,la,re⟩:=nu T (k+1) (Ia R t) (fr:=fr) (G:=G++[.lst []]) (i:=G.length) (pk:=[]) aS trivial q;have ok:=t7 R t;have W:=w.ok ok (cI ok);obtain⟨H0,hH0⟩: ∃ H0,H0=fr::dO q::G:=⟨_,rfl⟩
 obtain⟨H1,hH⟩: ∃ H1,H1=cK fr q' (G++[.lst []]) G.length pk' []:=⟨_,rfl⟩
 rw[<- hH] at re;have l0:H0.length=G.length+2:=by rw[hH0];rfl
 have re':run pg (k+22) "_law_run" [(dJ ns m t).v,.ref 1,.ref H0.length] (H0++[.lst []])= .ok (.tup [.tup (a.map dZ),aE S]) H1:=by rw[l0,hH0];exact re
 have cg:=iu T (k+9) H1 ok W;rw[c0,SX] at cg;have ne:=Qh (h:=H1++[.lst []]++[.lst []]) (n:=H1.length) (m:=(H1++[PO.lst []]).length) (l:=[]) ((bF (cB aS)).trans aS) aS;simp only[decide_true,Sd,R3,Uu,SR,Ui,SY] at ne;have lr:=λg=>mH T (k+2) g R t ht w L c0 hs la;refine⟨H1++[.lst [],.lst []],?_⟩;rw[<- hH0];unfold Qm;simp? [re',cg,ne,lr]
end
noncomputable def Pl(m:Nat):Option Nat->List Nat
 | none=>RJ m
 | some _=>[]
theorem yy: ∀ ns:List Int,ns.length<=63->Ok (run tb (room+1) "law" [.ref 0] [.jD (ns.map PV.int)]) λv _=>v= .bl true:=by
 intro ns0 hn0;have T:bW tb:=has;show Ok (run tb (22+1) "law" [.ref 0] [gz ns0]) _;obtain⟨q0,bx⟩:=Gj T 21 ns0 hn0;obtain⟨v1,q1,v10,v11,t1⟩:=rG T 21 (gz ns0) q0 3 (by decide) (by decide);obtain⟨m,hm⟩: ∃ m:Nat,2+v1=(m:Int):=⟨(2+v1).toNat,by omega⟩
 have lo:2<=m:=by omega
 have hi:m<=4:=by omega
 obtain⟨v2,q2,v20,v21,t2⟩:=rG T 21 (gz ns0) q1 4 (by decide) (by decide);obtain⟨v,rfl⟩: ∃ v:Nat,v2=(v:Int):=⟨v2.toNat,by omega⟩
 obtain⟨v3,q3,v30,v31,t3⟩:=rG T 21 (gz ns0) q2 (m:Int) (by omega) (by omega);obtain⟨o,rfl⟩: ∃ o:Nat,v3=(o:Int):=⟨v3.toNat,by omega⟩
 obtain⟨v4,q4,v40,v41,t4⟩:=rG T 21 (gz ns0) q3 2 (by decide) (by decide);have R:=Dj (v:=v) (m:=m) (by omega) lo hi;obtain⟨ns,hns⟩: ∃ ns,ns=B4.drop v++B4.take v:=⟨_,rfl⟩
 rw[<- hns] at R;obtain⟨t,ht,et⟩: ∃ t:Option Nat,(∀ x,t=fv x->x < m)/\fN [PV.non,.int (o:Int)] v4=fv (tV t):=by
  have:v4=0\/v4=1:=by omega
  rcases this with rfl | rfl
  . exact⟨Rv,(λx e=>nomatch e),rfl⟩
  . exact⟨fv o,λx e=>by cases e;omega,rfl⟩
 have c1:fD (B4.map PV.str) (fv (v:Int)) Rv=(B4.drop v).map PV.str:=by rw[P3.jX (by omega),Sj,List.map_drop]
 have c2:fD (B4.map PV.str) Rv (fv (v:Int))=(B4.take v).map PV.str:=by rw[P3.qe (by omega),Sj,aad]
 have cn:(B4.drop v).map PV.str++(B4.take v).map PV.str=ns.map PV.str:=by rw[hns,TM]
 obtain⟨pk,hpk⟩: ∃ pk:List Nat,pk=Pl m t:=⟨_,rfl⟩
 have pks:BZ (br ns m t) (LR ns m t) m pk (Rz m 0):=by
  cases t with
  | none =>
   rw[hpk]
   show BZ _ _ m (RJ m) _
   rw[U9]
   exact tw R m 0 _ (by omega) Uk λk hk=>by rw[cF,if_neg (Vx _)]
  | some x=>rw[hpk];exact trivial
 obtain⟨G8,hG8⟩: ∃ G:PH,G=[.lst (B4.map PV.str),.lst ((B4.drop v).map PV.str),.lst ((B4.take v).map PV.str),.lst (ns.map PV.str),.lst [.non,.int (o:Int)],.lst [],.lst (pk.map dF),.lst [.ref 7,.ref 8]]:=⟨_,rfl⟩
 obtain⟨q5,pk5,f8,f9,b1⟩:=vK T 0 R t ht (fr:=gz ns0) q4 (G:=G8) (i:=5) (pk:=[]) (by rw[hG8];rfl) trivial (fv (.ref 0)) (fv (.ref 5)) (fv (.int (v:Int))) Rv Rv Rv Rv;obtain⟨G9,hG9⟩: ∃ G:PH,G=G8.set 5 (.lst (pk5.map dF))++[.lst [],.lst []]:=⟨_,rfl⟩
 have r9:cK (gz ns0) q5 G8 5 pk5 [.lst [],.lst []]=gz ns0::dO q5::G9:=by rw[hG9];rfl
 rw[r9] at b1;obtain⟨q6,pk6,g8,g9,b2⟩:=vK T 0 R t ht (fr:=gz ns0) q5 (G:=G9) (i:=6) (pk:=pk) (by rw[hG9,hG8];rfl) pks (fv (.ref 0)) (fv (.ref 5)) (fv (.int (v:Int))) (fv (.ref 7)) f8 f9 Rv;obtain⟨GA,hGA⟩: ∃ G:PH,G=G9.set 6 (.lst (pk6.map dF))++[.lst [],.lst []]:=⟨_,rfl⟩
 have rA:cK (gz ns0) q6 G9 6 pk6 [.lst [],.lst []]=gz ns0::dO q6::GA:=by rw[hGA];rfl
 rw[rA] at b2;have lk:=zU T 21 ([gz ns0,dO q4,.lst (B4.map PV.str),.lst ((B4.drop v).map PV.str),.lst ((B4.take v).map PV.str),.lst (ns.map PV.str),.lst [.non,.int (o:Int)]]) (nn:=5) R t rfl;have le:=A8 T 21 (gz ns0::dO q6::GA) (nn:=5) R t (by rw[hGA,hG9,hG8];rfl);obtain⟨h',en⟩:=Kb T 0 R t ht (fr:=gz ns0) q6 GA (fv (.ref 0)) (fv (.ref 5)) (fv (.int (v:Int))) (fv (br ns m t).v) (fv (.ref 8)) g8 g9;have A:zS (run tb 22) [fv (.ref 0),Rv,Rv,Rv,Rv,Rv,Rv,Rv,Rv,Rv,Rv] [gz ns0]= .ok (.rt (.bl true)) h':=by
  show ag _ (ag _ (ag _ (ag _ (ag _ (ag _ (ag _ (ag _ (ag _ _)))))))) _ _ _=_;refine(gp (e1:=[fv (.ref 0),fv (.ref 1),Rv,Rv,Rv,Rv,Rv,Rv,Rv,Rv,Rv]) (h1:=[gz ns0,dO q0]) ?_).trans ?_
  . simp? [bx]
  refine(gp (e1:=[fv (.ref 0),fv (.ref 1),fv (.int (m:Int)),Rv,Rv,Rv,Rv,Rv,Rv,Rv,Rv]) (h1:=[gz ns0,dO q1]) ?_).trans ?_
  . simp? [t1,hm]
  refine(gp (e1:=[fv (.ref 0),fv (.ref 1),fv (.int (m:Int)),fv (.ref 2),Rv,Rv,Rv,Rv,Rv,Rv,Rv]) (h1:=[gz ns0,dO q1,.lst (B4.map PV.str)]) ?_).trans ?_
  . simp? [SX];rfl
  refine(gp (e1:=[fv (.ref 0),fv (.ref 1),fv (.int (m:Int)),fv (.ref 2),fv (.int (v:Int)),Rv,Rv,Rv,Rv,Rv,Rv]) (h1:=[gz ns0,dO q2,.lst (B4.map PV.str)]) ?_).trans ?_
  . simp? [t2]
  refine(gp (e1:=[fv (.ref 0),fv (.ref 1),fv (.int (m:Int)),fv (.ref 5),fv (.int (v:Int)),Rv,Rv,Rv,Rv,Rv,Rv]) (h1:=[gz ns0,dO q2,.lst (B4.map PV.str),.lst ((B4.drop v).map PV.str),.lst ((B4.take v).map PV.str),.lst (ns.map PV.str)]) ?_).trans ?_
  . have ad:bM (.ref 3) (.ref 4) [gz ns0,dO q2,.lst (B4.map PV.str),.lst ((B4.drop v).map PV.str),.lst ((B4.take v).map PV.str)]= .ok (.ref 5) [gz ns0,dO q2,.lst (B4.map PV.str),.lst ((B4.drop v).map PV.str),.lst ((B4.take v).map PV.str),.lst (ns.map PV.str)]:=by
     show Ou ((B4.drop v).map PV.str++(B4.take v).map PV.str) _=_;rw[cn];have l4:(ns.map PV.str).length<=16777216:=by rw[RB,R.ln];decide
     exact tL l4
    simp? [c1,c2,ad]
  refine(gp (e1:=[fv (.ref 0),fv (.ref 1),fv (.int (m:Int)),fv (.ref 5),fv (.int (v:Int)),fv (tV t),Rv,Rv,Rv,Rv,Rv]) (h1:=[gz ns0,dO q4,.lst (B4.map PV.str),.lst ((B4.drop v).map PV.str),.lst ((B4.take v).map PV.str),.lst (ns.map PV.str),.lst [.non,.int (o:Int)]]) ?_).trans ?_
  . simp? [t3,t4,et]
  refine(gp (e1:=[fv (.ref 0),fv (.ref 1),fv (.int (m:Int)),fv (.ref 5),fv (.int (v:Int)),fv (tV t),fv (br ns m t).v,Rv,Rv,Rv,Rv]) (h1:=[gz ns0,dO q4,.lst (B4.map PV.str),.lst ((B4.drop v).map PV.str),.lst ((B4.take v).map PV.str),.lst (ns.map PV.str),.lst [.non,.int (o:Int)]]) ?_).trans ?_
  . simp? [lk]
  refine(gp (e1:=[fv (.ref 0),fv (.ref 1),fv (.int (m:Int)),fv (.ref 5),fv (.int (v:Int)),fv (tV t),fv (br ns m t).v,fv (.ref 8),g8,g9,Rv]) (h1:=gz ns0::dO q6::GA) ?_).trans ?_
  . have it:(qO (cY (ab (cY ao) (ab (yt (aC (qQ (dq false) (aa 5))) (NM (a1 (aa 2))) (cY ao)) ao)))) (run tb 22) [fv (.ref 0),fv (.ref 1),fv (.int (m:Int)),fv (.ref 5),fv (.int (v:Int)),fv (tV t),fv (br ns m t).v,Rv,Rv,Rv,Rv] [gz ns0,dO q4,.lst (B4.map PV.str),.lst ((B4.drop v).map PV.str),.lst ((B4.take v).map PV.str),.lst (ns.map PV.str),.lst [.non,.int (o:Int)]]= .ok ⟨fv 9,[.ref 7,.ref 8]⟩ (gz ns0::dO q4::G8):=by
     rw[hG8,hpk];have tn:VF ((m:Nat):Int)=m:=Sj _;cases t with
     | none =>
      have tv:tV Rv= .non:=rfl
      have ri:=xN m
      have pn:Pl m Rv=RJ m:=rfl
      rw[tv,pn]
      simp? [yS,ug,tn,ri]
      skip
     | some x =>
      have tv:tV (fv x)= .int (x:Int):=rfl
      have ps:Pl m (fv x)=[]:=rfl
      rw[tv,ps]
      simp? [SX]
      skip
    have lp:bg ⟨fv 9,[.ref 7,.ref 8]⟩ (bB (gN 7) OM (run tb 22)) [.ref 7,.ref 8] [fv (.ref 0),fv (.ref 1),fv (.int (m:Int)),fv (.ref 5),fv (.int (v:Int)),fv (tV t),fv (br ns m t).v,Rv,Rv,Rv,Rv] (gz ns0::dO q4::G8)= .ok (.nx [fv (.ref 0),fv (.ref 1),fv (.int (m:Int)),fv (.ref 5),fv (.int (v:Int)),fv (tV t),fv (br ns m t).v,fv (.ref 8),g8,g9,Rv]) (gz ns0::dO q6::GA):=by
     rw[vq (jO (by rw[hG8];rfl)),b1,gv,c9,vq (jO (by rw[hG9,hG8];rfl)),b2,gv,c9,CL (jO (by rw[hGA,hG9,hG8];rfl))]
    rw[A4,it,gv,wK];exact lp
  refine(gp (e1:=[fv (.ref 0),fv (.ref 1),fv (.int (m:Int)),fv (.ref 5),fv (.int (v:Int)),fv (tV t),fv (br ns m t).v,fv (.ref 8),g8,g9,fv (dJ ns m t).v]) (h1:=gz ns0::dO q6::GA) ?_).trans ?_
  . simp? [le]
  exact en
 rw[run_eq T.F5 rfl];show Ok (fin _ (zS (run tb 22) [fv (.ref 0),Rv,Rv,Rv,Rv,Rv,Rv,Rv,Rv,Rv,Rv] [gz ns0])) _;rw[A,tS];unfold P3.settle;split<;>exact⟨_,_,rfl,rfl⟩
open PySem PySem.W PyProof.Rows
set_option maxHeartbeats 8000000
def eU(K:Rx)(mg:Str->Option RA):List (String × Nat)->Prop
 | []=>True
 | (x,n)::l=>At K mg x (top n)/\eU K mg l
def Zs(K:Rx):List Str->Prop
 | []=>True
 | x::l=>To K Sg x=fv Rv/\Zs K l
theorem Zs.all{K:Rx}{h:S6}{mg:Str->Option RA}(X:K.In h)(G:h.Ns Sg mg): ∀{l:List Str},Zs K l-> ∀ x∈l,mg x=Rv
 | [],_=>by simp_all
 | _::_,z=>Sl.mpr ⟨PySem.W.mg_none_of X G z.1,Zs.all X G z.2⟩
theorem eU.go{P:Sv}{w:SQ}{K:Rx}{mg:Str->Option RA}{x:String}{n:Nat}{l:List (String × Nat)}{st:W5}{N:List Str}{b:String × Df}{m:List (String × Df)}(g:bW tb->At K mg x (top n)->aU P w K mg tb b.1 b.2 st N)(A:eU K mg ((x,n)::l))(r:eU K mg l-> ∀ p∈m,∃ st N,aU P w K mg tb p.1 p.2 st N): ∀ p∈b::m,∃ st N,aU P w K mg tb p.1 p.2 st N:=Sl.mpr ⟨⟨_,_,g has A.1⟩,r A.2⟩
theorem all_mk{l:V3}{w:SQ}{K:Rx}{h:S6}{mg:Str->Option RA}{fa:RQ}(X:K.In h)(G:h.Ns Sg mg)(hfa:mg "law" =fv (.ref fa)){aQj aQg aQb aQh rQh0 rQh1 rQh2 rQh3 rQh4 rQh5 rQh6 rQh7 rQh8 rQh9 rQh10 rQh11 aQf aQc:RQ}{nQj nQg nQb eQh nQhv0_ nQhv1_ nQhv2_ nQhv3_ nQhv4_ nQhv5_ nQhv6_ nQhv7_ nQhv8_ nQhv9_ nQhv10_ nQhv11_ eQf eQc:Nat}{sQj sQg sQb sQhv0_ sQhv1_ sQhv2_ sQhv3_ sQhv4_ sQhv5_ sQhv6_ sQhv7_ sQhv8_ sQhv9_ sQhv10_ sQhv11_:Array (Option RA)}{tQj0 tQj1 tQj2 tQj3 tQj4 tQk tQd tQg0 tQg1 tQg2 tQg3 tQg4 tQa tQi tQb0 tQb1 tQb2 tQe qQh0 qQh1 qQh2 qQh3 qQh4 qQh5 qQh6 qQh7 qQh8 qQh9 qQh10 qQh11 tQhv0_0 tQhv0_1 tQhv1_0 tQhv1_1 tQhv2_0 tQhv2_1 tQhv3_0 tQhv3_1 tQhv4_0 tQhv5_0 tQhv6_0 tQhv6_1 tQhv7_0 tQhv7_1 tQhv8_0 tQhv8_1 tQhv9_0 tQhv10_0 tQhv10_1 tQhv11_0 tQhv11_1 qQf0 qQf1 qQf2 qQf3 vQf0 vQf1 vQf2 vQf3 qQc0 qQc1 qQc2 qQc3 qQc4 qQc5 qQc6 vQc0 vQc1 vQc2 vQc3 vQc4 vQc5 vQc6:Tok}{dQhv0_ dQhv1_ dQhv2_ dQhv3_ dQhv4_ dQhv5_ dQhv6_ dQhv7_ dQhv8_ dQhv9_ dQhv10_ dQhv11_:Option RQ}
  (A:eU K mg [("is_whole",1),("is_between",2),("is_value",3),("is_tuple_of",4),("worth",9),("joined_worth",10),("names_of",12),("number_of",13),("rows_of",14),("first_seat",18),("rested",19),("is_rested",20),("is_own_row",21),("behind_own_row",22),("laid",23),("touch_of",24),("seat_behind",25),("may_come",26),("first_stand",31),("hands_of",32),("state_of",33),("wait_of",34),("waits",35),("can_go",36),("is_stuck",37),("gone",45),("due_touch",46),("takes_gift",47),("meeting",48),("with_hand_on",49),("with_state",50),("replaced",51),("walked",54),("stepped",55),("_law_box",57),("_law_take",58),("_law_locks",59),("_law_lanes",60),("_law_run",61),("_law_locks_right",62),("_law_lanes_right",63),("law",64)])
  (Z:Zs K fI)
  (wQj:To K Sg "SORTS" =fv (fv (.ref aQj))) (oQj:K.lookup aQj=fv ⟨.type "tuple",Rv,.seq #[.str "box" tQj0,.str "lock" tQj1,.str "lane" tQj2,.str "door" tQj3,.str "hand" tQj4] nQj,sQj⟩)
  (wQk:To K Sg "WORTHS" =fv (fv (.int 1000 tQk)))
  (wQd:To K Sg "MOST_OWN_ROWS" =fv (fv (.int 200 tQd)))
  (wQg:To K Sg "POCKETING" =fv (fv (.ref aQg))) (oQg:K.lookup aQg=fv ⟨.type "tuple",Rv,.seq #[.str "get" tQg0,.str "fetch" tQg1,.str "clock" tQg2,.str "lot" tQg3,.str "hear" tQg4] nQg,sQg⟩)
  (wQa:To K Sg "COUNTS" =fv (fv (.int 0 tQa)))
  (wQi:To K Sg "SEATS" =fv (fv (.int 1 tQi)))
  (wQb:To K Sg "GIFTED" =fv (fv (.ref aQb))) (oQb:K.lookup aQb=fv ⟨.type "tuple",Rv,.seq #[.str "clock" tQb0,.str "lot" tQb1,.str "hear" tQb2] nQb,sQb⟩)
  (wQe:To K Sg "MOST_STEPS" =fv (fv (.int 60 tQe)))
  (oQhv0_:K.lookup rQh0=fv ⟨.type "tuple",dQhv0_,.seq #[.str "pocket" tQhv0_0,.str "sum" tQhv0_1] nQhv0_,sQhv0_⟩)
  (oQhv1_:K.lookup rQh1=fv ⟨.type "tuple",dQhv1_,.seq #[.str "target" tQhv1_0,.str "sum" tQhv1_1] nQhv1_,sQhv1_⟩)
  (oQhv2_:K.lookup rQh2=fv ⟨.type "tuple",dQhv2_,.seq #[.str "pocket" tQhv2_0,.str "box" tQhv2_1] nQhv2_,sQhv2_⟩)
  (oQhv3_:K.lookup rQh3=fv ⟨.type "tuple",dQhv3_,.seq #[.str "box" tQhv3_0,.str "sum" tQhv3_1] nQhv3_,sQhv3_⟩)
  (oQhv4_:K.lookup rQh4=fv ⟨.type "tuple",dQhv4_,.seq #[.str "lock" tQhv4_0] nQhv4_,sQhv4_⟩)
  (oQhv5_:K.lookup rQh5=fv ⟨.type "tuple",dQhv5_,.seq #[.str "lock" tQhv5_0] nQhv5_,sQhv5_⟩)
  (oQhv6_:K.lookup rQh6=fv ⟨.type "tuple",dQhv6_,.seq #[.str "lane" tQhv6_0,.str "sum" tQhv6_1] nQhv6_,sQhv6_⟩)
  (oQhv7_:K.lookup rQh7=fv ⟨.type "tuple",dQhv7_,.seq #[.str "pocket" tQhv7_0,.str "lane" tQhv7_1] nQhv7_,sQhv7_⟩)
  (oQhv8_:K.lookup rQh8=fv ⟨.type "tuple",dQhv8_,.seq #[.str "door" tQhv8_0,.str "sum" tQhv8_1] nQhv8_,sQhv8_⟩)
  (oQhv9_:K.lookup rQh9=fv ⟨.type "tuple",dQhv9_,.seq #[.str "pocket" tQhv9_0] nQhv9_,sQhv9_⟩)
  (oQhv10_:K.lookup rQh10=fv ⟨.type "tuple",dQhv10_,.seq #[.str "pocket" tQhv10_0,.str "chances" tQhv10_1] nQhv10_,sQhv10_⟩)
  (oQhv11_:K.lookup rQh11=fv ⟨.type "tuple",dQhv11_,.seq #[.str "pocket" tQhv11_0,.str "door" tQhv11_1] nQhv11_,sQhv11_⟩)
  (wQh:To K Sg "ROW_PARTS" =fv (fv (.ref aQh))) (oQh:K.lookup aQh=fv { cls:= .type "dict",data:= .dict #[{ hash:=Sb w.params "let",key:= .str "let" qQh0,val:= .ref rQh0},{ hash:=Sb w.params "leap",key:= .str "leap" qQh1,val:= .ref rQh1},{ hash:=Sb w.params "get",key:= .str "get" qQh2,val:= .ref rQh2},{ hash:=Sb w.params "put",key:= .str "put" qQh3,val:= .ref rQh3},{ hash:=Sb w.params "take",key:= .str "take" qQh4,val:= .ref rQh4},{ hash:=Sb w.params "free",key:= .str "free" qQh5,val:= .ref rQh5},{ hash:=Sb w.params "send",key:= .str "send" qQh6,val:= .ref rQh6},{ hash:=Sb w.params "fetch",key:= .str "fetch" qQh7,val:= .ref rQh7},{ hash:=Sb w.params "say",key:= .str "say" qQh8,val:= .ref rQh8},{ hash:=Sb w.params "clock",key:= .str "clock" qQh9,val:= .ref rQh9},{ hash:=Sb w.params "lot",key:= .str "lot" qQh10,val:= .ref rQh10},{ hash:=Sb w.params "hear",key:= .str "hear" qQh11,val:= .ref rQh11}] eQh}) (yQh:(aQh == Te)=false)
  (wQf:To K Sg "PLACE_OF" =fv (fv (.ref aQf))) (oQf:K.lookup aQf=fv { cls:= .type "dict",data:= .dict #[{ hash:=Sb w.params "box",key:= .str "box" qQf0,val:= .int 2 vQf0},{ hash:=Sb w.params "lock",key:= .str "lock" qQf1,val:= .int 3 vQf1},{ hash:=Sb w.params "lane",key:= .str "lane" qQf2,val:= .int 4 vQf2},{ hash:=Sb w.params "door",key:= .str "door" qQf3,val:= .int 5 vQf3}] eQf}) (yQf:(aQf == Te)=false)
  (wQc:To K Sg "MET_SORT" =fv (fv (.ref aQc))) (oQc:K.lookup aQc=fv { cls:= .type "dict",data:= .dict #[{ hash:=Sb w.params "get",key:= .str "get" qQc0,val:= .str "box" vQc0},{ hash:=Sb w.params "put",key:= .str "put" qQc1,val:= .str "box" vQc1},{ hash:=Sb w.params "take",key:= .str "take" qQc2,val:= .str "lock" vQc2},{ hash:=Sb w.params "free",key:= .str "free" qQc3,val:= .str "lock" vQc3},{ hash:=Sb w.params "send",key:= .str "send" qQc4,val:= .str "lane" vQc4},{ hash:=Sb w.params "fetch",key:= .str "fetch" qQc5,val:= .str "lane" vQc5},{ hash:=Sb w.params "say",key:= .str "say" qQc6,val:= .str "door" vQc6}] eQc}) (yQc:(aQc == Te)=false) :
  ∃ fd:Vq,(∀(s:RD)(v:RA),Xp s fd ⟨[v],[]⟩ [("_law_script",v)])/\ ∀ base:S6,K.In base->base.Ns Sg mg->jr l.prog w K mg base pH (room+1) fa fd ["_law_script"] (vg K tb (room+1) "law"):=by
 have T:Top l.prog w K mg tb:=⟨Zs.all X G Z,Dh (conT:=conT) rfl (Sl.mpr ⟨pC (us:=[.str "box" tQj0,.str "lock" tQj1,.str "lane" tQj2,.str "door" tQj3,.str "hand" tQj4]) (Tp X G wQj) oQj (by show 5<=RF;decide) (.cons (.str _ _) (.cons (.str _ _) (.cons (.str _ _) (.cons (.str _ _) (.cons (.str _ _) .nil))))),(Sl.mpr ⟨mS (Tp X G wQk) (.int _ _),(Sl.mpr ⟨mS (Tp X G wQd) (.int _ _),(Sl.mpr ⟨pC (us:=[.str "get" tQg0,.str "fetch" tQg1,.str "clock" tQg2,.str "lot" tQg3,.str "hear" tQg4]) (Tp X G wQg) oQg (by show 5<=RF;decide) (.cons (.str _ _) (.cons (.str _ _) (.cons (.str _ _) (.cons (.str _ _) (.cons (.str _ _) .nil))))),(Sl.mpr ⟨mS (Tp X G wQa) (.int _ _),(Sl.mpr ⟨mS (Tp X G wQi) (.int _ _),(Sl.mpr ⟨pC (us:=[.str "clock" tQb0,.str "lot" tQb1,.str "hear" tQb2]) (Tp X G wQb) oQb (by show 3<=RF;decide) (.cons (.str _ _) (.cons (.str _ _) (.cons (.str _ _) .nil))),(Sl.mpr ⟨mS (Tp X G wQe) (.int _ _),(by intro p m;cases m)⟩)⟩)⟩)⟩)⟩)⟩)⟩)⟩),Dp (dcT:=dcT) rfl (Sl.mpr ⟨uj (ls:=[("let",qQh0,.ref rQh0),("leap",qQh1,.ref rQh1),("get",qQh2,.ref rQh2),("put",qQh3,.ref rQh3),("take",qQh4,.ref rQh4),("free",qQh5,.ref rQh5),("send",qQh6,.ref rQh6),("fetch",qQh7,.ref rQh7),("say",qQh8,.ref rQh8),("clock",qQh9,.ref rQh9),("lot",qQh10,.ref rQh10),("hear",qQh11,.ref rQh11)]) (Tp X G wQh) oQh yQh (show([.inr "let",.inr "leap",.inr "get",.inr "put",.inr "take",.inr "free",.inr "send",.inr "fetch",.inr "say",.inr "clock",.inr "lot",.inr "hear"]:List Key).Nodup by decide +kernel) (.cons ⟨rfl,dC (us:=[.str "pocket" tQhv0_0,.str "sum" tQhv0_1]) oQhv0_ (by show 2<=RF;decide) (.cons (.str _ _) (.cons (.str _ _) .nil))⟩ (.cons ⟨rfl,dC (us:=[.str "target" tQhv1_0,.str "sum" tQhv1_1]) oQhv1_ (by show 2<=RF;decide) (.cons (.str _ _) (.cons (.str _ _) .nil))⟩ (.cons ⟨rfl,dC (us:=[.str "pocket" tQhv2_0,.str "box" tQhv2_1]) oQhv2_ (by show 2<=RF;decide) (.cons (.str _ _) (.cons (.str _ _) .nil))⟩ (.cons ⟨rfl,dC (us:=[.str "box" tQhv3_0,.str "sum" tQhv3_1]) oQhv3_ (by show 2<=RF;decide) (.cons (.str _ _) (.cons (.str _ _) .nil))⟩ (.cons ⟨rfl,dC (us:=[.str "lock" tQhv4_0]) oQhv4_ (by show 1<=RF;decide) (.cons (.str _ _) .nil)⟩ (.cons ⟨rfl,dC (us:=[.str "lock" tQhv5_0]) oQhv5_ (by show 1<=RF;decide) (.cons (.str _ _) .nil)⟩ (.cons ⟨rfl,dC (us:=[.str "lane" tQhv6_0,.str "sum" tQhv6_1]) oQhv6_ (by show 2<=RF;decide) (.cons (.str _ _) (.cons (.str _ _) .nil))⟩ (.cons ⟨rfl,dC (us:=[.str "pocket" tQhv7_0,.str "lane" tQhv7_1]) oQhv7_ (by show 2<=RF;decide) (.cons (.str _ _) (.cons (.str _ _) .nil))⟩ (.cons ⟨rfl,dC (us:=[.str "door" tQhv8_0,.str "sum" tQhv8_1]) oQhv8_ (by show 2<=RF;decide) (.cons (.str _ _) (.cons (.str _ _) .nil))⟩ (.cons ⟨rfl,dC (us:=[.str "pocket" tQhv9_0]) oQhv9_ (by show 1<=RF;decide) (.cons (.str _ _) .nil)⟩ (.cons ⟨rfl,dC (us:=[.str "pocket" tQhv10_0,.str "chances" tQhv10_1]) oQhv10_ (by show 2<=RF;decide) (.cons (.str _ _) (.cons (.str _ _) .nil))⟩ (.cons ⟨rfl,dC (us:=[.str "pocket" tQhv11_0,.str "door" tQhv11_1]) oQhv11_ (by show 2<=RF;decide) (.cons (.str _ _) (.cons (.str _ _) .nil))⟩ .nil)))))))))))),(Sl.mpr ⟨uj (ls:=[("box",qQf0,.int 2 vQf0),("lock",qQf1,.int 3 vQf1),("lane",qQf2,.int 4 vQf2),("door",qQf3,.int 5 vQf3)]) (Tp X G wQf) oQf yQf (show([.inr "box",.inr "lock",.inr "lane",.inr "door"]:List Key).Nodup by decide +kernel) (.cons ⟨rfl,hU (.int _ _)⟩ (.cons ⟨rfl,hU (.int _ _)⟩ (.cons ⟨rfl,hU (.int _ _)⟩ (.cons ⟨rfl,hU (.int _ _)⟩ .nil)))),(Sl.mpr ⟨uj (ls:=[("get",qQc0,.str "box" vQc0),("put",qQc1,.str "box" vQc1),("take",qQc2,.str "lock" vQc2),("free",qQc3,.str "lock" vQc3),("send",qQc4,.str "lane" vQc4),("fetch",qQc5,.str "lane" vQc5),("say",qQc6,.str "door" vQc6)]) (Tp X G wQc) oQc yQc (show([.inr "get",.inr "put",.inr "take",.inr "free",.inr "send",.inr "fetch",.inr "say"]:List Key).Nodup by decide +kernel) (.cons ⟨rfl,hU (.str _ _)⟩ (.cons ⟨rfl,hU (.str _ _)⟩ (.cons ⟨rfl,hU (.str _ _)⟩ (.cons ⟨rfl,hU (.str _ _)⟩ (.cons ⟨rfl,hU (.str _ _)⟩ (.cons ⟨rfl,hU (.str _ _)⟩ (.cons ⟨rfl,hU (.str _ _)⟩ .nil))))))),(by intro p m;cases m)⟩)⟩)⟩)⟩
 refine K1 T (zZ (fnT:=fnT) rfl ?_) has.F5 rfl (FH has A.2.2.2.2.2.2.2.2.2.2.2.2.2.2.2.2.2.2.2.2.2.2.2.2.2.2.2.2.2.2.2.2.2.2.2.2.2.2.2.2.2.1) hfa;exact eU.go tP A λA=>eU.go p7 A λA=>eU.go va A λA=>eU.go nQ A λA=>eU.go Dw A λA=>eU.go mZ A λA=>eU.go uf A λA=>eU.go sA A λA=>eU.go ya A λA=>eU.go pE A λA=>eU.go A6 A λA=>eU.go rp A λA=>eU.go qF A λA=>eU.go kr A λA=>eU.go IG A λA=>eU.go uX A λA=>eU.go oq A λA=>eU.go uF A λA=>eU.go ox A λA=>eU.go vi A λA=>eU.go uV A λA=>eU.go yn A λA=>eU.go EK A λA=>eU.go y0 A λA=>eU.go tN A λA=>eU.go IP A λA=>eU.go rF A λA=>eU.go pT A λA=>eU.go xR A λA=>eU.go mU A λA=>eU.go qA A λA=>eU.go uW A λA=>eU.go Ad A λA=>eU.go xg A λA=>eU.go tR A λA=>eU.go sC A λA=>eU.go qa A λA=>eU.go qE A λA=>eU.go u6 A λA=>eU.go je A λA=>eU.go jl A λA=>eU.go FH A λ_ p m=>nomatch m
theorem walk{l:V3}{q:Sv}{loose:List Str}{XP:(Str->Option RA)->S6->Prop}{YP:SQ->S6->Prop}{d:DefRec}{K:Params->Rx}(hn:l.most=fv 63)(hdf:d.params.defaults=[])
  (hY: ∀(w:SQ)(h:S6),YP w h->(K w.params).In h)
  (F: ∀(w:SQ)(mg:Str->Option RA)(fa:RQ)(h:S6),(K w.params).In h->h.Ns Sg mg->mg d.name=fv (.ref fa) ->
   ∃ fd:Vq,(∀(s:RD)(u:RA),Xp s fd ⟨[u],[]⟩ [("_law_script",u)])/\ ∀ base:S6,(K w.params).In base->base.Ns Sg mg->jr l.prog w (K w.params) mg base pH (room+1) fa fd ["_law_script"] (vg (K w.params) tb (room+1) "law")) :
  ZQ q loose XP YP l.row.toRowW d [] (λf vs=>Z2 f vs) :=
 L2.DO (n:=63) (k:=room+1) (x:= "_law_script") (CX:=λ_=>pH) (sp:=λw=>vg (K w.params) tb (room+1) "law") hn (by decide) hdf ⟨rfl,by decide,by decide,rfl⟩ hY F (λ_ H a ns hl hO hS=>GU yy H a ns hl hO hS) λ_ _ _ _ _ z=>z
end K30
open PySem PySem.W PyProof.Rows
set_option maxRecDepth 100000 in
set_option maxHeartbeats 0 in
theorem PySem.Challenge.cw_leastrecord_k30_stuck_hands_holds : PySem.Challenge.rw_leastrecord_k30_stuck_hands.Holds := by
 w_on;o_law;k_head;(case hw=>w_witness2)
 k_fill
 refine K30.walk (l:=PySem.Challenge.rw_leastrecord_k30_stuck_hands) rfl rfl (λw h Y=>PySem.W.kIn_of Y) ?F
 case F =>
  intro w mg fa h KX G hmg
  refine' K30.all_mk KX G hmg ?A ?Z ?_ ?_ ?_ ?_ ?_ ?_ ?_ ?_ ?_ ?_ ?_ ?_ ?_ ?_ ?_ ?_ ?_ ?_ ?_ ?_ ?_ ?_ ?_ ?_ ?_ ?_ ?_ ?_ ?_ ?_ ?_ ?_
  case' A=>repeat' first | exact trivial | refine' Xd (L2.Lu KX G ?_ ?_ ?_ ?_) ?_
  case' Z=>repeat' first | exact trivial | refine' Xd ?_ ?_
  all_goals try k_is
  all_goals try k_is
  all_goals exact rfl
end
end
end
