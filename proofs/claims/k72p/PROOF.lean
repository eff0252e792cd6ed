import PyProof.Rows.All
import Wide.All
import OpenK.AllK
import Wide.FinOn
import Lean
import PyProof.EqAt
import PyProof.EqKinds
import PyProof.TupleCall
import KE.KDictSum
import PyProof.AttrMissHeap
import PyProof.WalksMore
import KE.LcSums
import PyProof.AutoListH
import PyProof.ListMulRoad
import KE.KSortTup
import PyProof.ZipIter
import PyProof.Draws
import PyProof.EnumFor
import PyProof.ReprRoads
import PyProof.ListRange
import PyProof.ListNew
import PyProof.StrCalls2
import PyProof.CallStr
import PyProof.Rows.SetFrom
import PyProof.SetRoads
import PyProof.MeetsStr2
import PyProof.TupleOfGen
import PyProof.CollectWalk
import KE.KIntText
import PyProof.FString
import PyProof.EnumMake
import PySem.Challenge.RW_leastrecord_k72_papers_as_lines
open Option renaming some->UU,none->UX,bind_some->Xv,isSome_iff_exists->YG,map_some->ZR,isSome_map->aan,bind_eq_some_iff->aaP,isSome_some->ab9,getD_none->acG,bind_none->acO
open PySem.W renaming Frag->UW,findIn->Vw,fnOf->VX,nsIn->VZ,mg_of->V0,keepIn->Wh,kia_one->Wo,mroIn->Wq,kitAny->WG,emptyDict->WW,looks_findIn->Xc,InstAt->Xw,instObj->XI,looks_mroIn->XW,cellsFrom_some->X5,any_some->Yy,kia_tup->Y7,hasDictIn->Ze,kitOne->Zf,tailIn->Zm,OpenLaw->ZJ,codeIn->ZQ,looks_clsIn->ZX,lookIn->Z9,check_slot->aad,kitx_list->aas,kitx_dict->aat,clsIn->aau,Looks->aav,handedOut_of->abp,callWith_K->ab3,codeRec_of->ab4,looks_find->acb,mg_none_of->ach,specialIn->ack,isFn->acm,set_plain->acs,handedIn->acE,plainGet->acF,makesIn->acX,WalkO->ac3,kitx_float->ac5,kitx_tuple->ac6,typeIn->ac9,nsOkIn->adb
open PySem renaming wpAny_bind->UY,Value->U1,Shared->U5,Addr->U9,wpAny_pure->Vf,sizeLine->Vj,wpAny->Vs,model->Vv,wpAny_mono->VA,mainGlobals->VB,Program->VE,compareOp->VF,foldedSetIterable->VH,Expr->VN,starEach->VR,World->VY,Around->V6,wpAny_field->Wa,Heap->Wb,behindInMarks->Wg,wpAny_truthy_bool->Wk,bootBuiltins->Wm,Paired->Ws,binaryOp->Wv,wpAny_newObj_type->Ww,assignEach->Wx,compEnvC->WE,wpAny_ite_split->WH,swapsWith->WI,wpAny_callSpecial?_slot->WN,eval->WT,wpAny_holding->WU,Stmt->WV,bindArgs->W8,sysModules->Xa,wpAny_loadPart_at->Xh,call_meets->Xj,attributeBase->Xq,cellsFrom->Xu,FuncData->Xx,wpAny_seqItems->Xy,wpAny_setField_rec->Xz,mem_of_lookup->XU,wpAny_call_entry->XX,wpAny_Call_Name_kw->X4,PyData->Yk,Scope->YD,wpAny_execs_nil->YO,wpAny_passesOwn->YQ,backTo->YX,wpAny_load->YY,tupleKind_room_in1->Y0,Within->Zc,recursionLimit->Zg,cLine->Zh,wpAny_setField->Zk,plainObj_wpAny_Assign_Attribute->Zt,assign->Zw,typeIs_str->Zy,holding->ZD,wpAny_standAt->ZE,wpAny_attempt->ZF,Builtin->ZG,wpAny_onRaise->ZH,NameKind->ZI,codeAny_call_builtin->ZK,wpAny_updateSeq_pair->ZL,codeAny->Z0,setFlight->Z7,wpAny_call->aaa,wpAny_newFunctionEnv_cells->aab,wpAny_pyIter_tuple->aag,wpAny_binaryOp_repeat_ref->aaj,BindsTo->aak,sliceBounds->aal,wpAny_pyIter_list->aao,rawInt->aar,wpAny_comprehension_free->aaw,IsPair->aay,wpAny_execs_cons->aaE,lastMarks->aaF,noFill_tuple_add->aaH,noteFrame->aaI,pushCells->aaJ,codeAny_mono->aaS,IsPart->aaT,getItem->aaU,typeIs_int->aaW,notedBy->aaX,letOwnedTupleGo->aa7,pushCells_keeps->aa9,wpAny_isTrue_Compare1->abd,codeAny_call_function->abe,sizeLine_eq->abm,wpAny_loadPart->abn,newFunctionEnv->abq,field->abw,intText?->abx,tupleKind->abE,PassesOwn->abF,Keyword->abG,callerA->abH,valueAt->abI,wpAny_isSubtype_exc->abN,swapsWithSole->abS,swappedStores->abT,seq_tuple_add->abU,isTrue->ab1,PlainAttrs->ab7,isInstance->aca,wpAny_rule->ace,standAt->acj,concat_meets->aco,wpAny_typeOf->acp,seqIndex_neg->acq,ZipApart->acy,pyIter->acD,DictEntry->acH,onTheHeap->acI,seqSlot_of->acK,strValues->acN,seqIndex_of->acR,subscripted->acS,keywordEach->acT,atKey->acU,wpAny_letGo->acV,unaryOp->ac1,call->ac8
open List renaming length_cons->UZ,map_cons->U2,length_map->U3,length_nil->U6,length_append->U7,replicate->U8,forall_mem_cons->Va,append_assoc->Vd,mem_cons_self->Ve,mem_append_right->Vi,getElem?_eq_some_iff->Vk,mem_cons_of_mem->Vl,mem_singleton->Vm,getElem?_set_ne->Vp,mem_cons->Vt,map_append->Vu,getElem?_append_left->Vx,mem_append->Vz,size_toArray->VC,getElem?_eq_getElem->VG,getElem?_map->VI,getElem?_append_right->VJ,getElem?_set_self->VL,append_nil->VM,mem_append_left->VO,map_nil->VP,all_eq_true->VT,mem_of_getElem?->VU,nil_append->VW,drop_eq_nil_of_le->V5,drop_eq_getElem_cons->Wd,length_take->We,set_append_right->Wu,length_drop->Wy,lookup_cons->Wz,mem_map->WA,not_mem_nil->WB,filterMap_eq_map'->WC,getElem?_replicate->WJ,cons_append->WQ,map_map->WY,mem_filter->W2,range'->Xd,dropLast_concat_getLast->Xk,length_pos_iff->Xl,length_eq_one_iff->Xp,any_cons->Xr,getElem?_eq_none->XC,getElem?_eq_none_iff->XG,mem_of_find?_eq_some->XH,range->XQ,range'_succ->X0,take_of_length_le->X8,filter_eq_nil_iff->Yb,forIn_cons->Ye,all_cons->Yf,length_singleton->Yi,length->Yp,range_eq_range'->Yu,mem_of_mem_drop->Yv,filterMap_cons_some->YM,nodup_cons->YR,of_mem_zip->YS,foldl_cons->YT,set_cons_zero->Y2,set_cons_succ->Y3,lookup->Y5,length_eq_zero_iff->Za,mem_range->Zd,drop_zero->Zo,length_replicate->Zu,eq_nil_of_length_eq_zero->ZM,set_append_left->ZN,mem_of_mem_tail->ZO,mem_of_mem_take->ZP,filterMap_cons->ZV,zip_cons_cons->aae,flatten_cons->aam,length_tail->aaO,append_inj'->aaQ,find?_cons_of_neg->aa2,length_set->aa8,find?_some->abb,head?_cons->abc,map->abv,replicate_succ->abK,zipIdx_map_fst->abO,map_take->abX,mem_filterMap->ab2,find?_eq_none->acg,take_length->acM,flatten_nil->acP,getElem_mem->acQ,find?_cons->acY,foldl->ac7,sum_cons->adf,map_drop->adi
open PySem.Str renaming ofString->U0,ofString_eq_toList->aa0,length->aa5
open PySem.Heap renaming get?_push_of_some->U4,lt_size->Vh,get?_push_size->Vq,size_push->V1,get?_update_other->Wn,get?_update_self->W9,push->Xi,size_after_update->Zj,SameBut->ZZ,get?_update_ne->abM,get?_push_at->acv
open Nat renaming le_refl->Vb,lt_of_lt_of_le->Vg,le_trans->Vn,ne_of_lt->Vy,zero_le->V2,lt_irrefl->Wf,mul_le_mul_right->Xe,ne_of_gt->Xm,not_lt->XR,lt_or_ge->X7,toDigits->Ya,le_succ_of_le->Yl,le_succ->Yr,zero_add->YB,toDigits_of_lt_base->Y9,sub_self->Zr,min_le_right->Zx,min_eq_right->ZA,le_of_lt->ZY,mul_comm->Z3,ble->aap,lt_succ_self->aaG,add_sub_cancel_left->aaM,le_of_eq->aaR,le_total->aaY,lt_of_succ_lt_succ->aa1,min_eq_left->aba,le_of_ble_eq_true->abh,pow_le_pow_right->abz,add_mul->abB,lt_of_le_of_lt->ab8,sub_zero->acx,pow_succ->acA
open Bool renaming and_eq_true->Vc,false_ne_true->Vr,true_and->VQ,false_eq_true->VS,false_and->Wj,and_false->WX,not_eq_true'->Xg,and_self->Xt,eq_iff_iff->XJ,true_or->XM,decide_or->Yt,or_true->Yz,not_eq_true->YC,or_eq_true->YU,false_or->aaD,and_eq_true_iff->abr,or_eq_false_iff->aby,and_true->abV,or_false->abW,eq_false_iff->acw,not_false->ada,not_true->adg
open PySem.Value renaming ref->Vo,none->Wc,builtin->Xs,type->Yn,bool->YW,int->Z5,str->Z6,float->abl,isStrOf->ade
open PySem.PyData renaming keyHash->VD,str->Wt,strOk->W0,depthAll->W4,leavesShort->XA,list->Ys,canLayAll0->Zp,canLay0->Zq,leavesShortAll->Zv,showable->ZU,eqv->aaf,showableAll->aai,hasDictAll->aaq,hasDict->abC,bulkAll->abD,tuple->acB,depth->acC,bulk->acW,eqvAll->adh
open PySem.Builtin.Str renaming occurrences->V3,strKind->abR
open Option.some renaming inj->V4,injEq->Zn
open Int renaming toNat_natCast->V7,eq_ofNat_of_zero_le->WS,emod_lt_of_pos->Yc,toNat->Yh,emod_nonneg->YV,zero_add->aa6
open PySem.W.Looks renaming here->V8
open PyProof.Rows renaming slot_tuple_getitem->V9,callWith_type1->Xn,joinOk_of_weight->X1,envOfC->Yo,AllBare->Yx,boot_isinstance->ZS,canLayAll_strs'->ZT,subscriptTail_builtinR->aaV,entry_tuple_getitem->abJ,args_tuple_getitem->ab5,IntsAre->ac2,isStrOf->ac4
open Array renaming getElem?_eq_some_iff->Wi,getElem?_eq_getElem->XE,length_toList->ZW,getD_eq_getD_getElem?->Z4,append_assoc->ab0,toList_inj->acL,toList->adj
open PySem.Builtin.SmallTypes renaming nextOf->Wl,ownedTupleIsFree->YJ,ownedTupleHandOut->abQ
open PySem.AutoSeq1 renaming wpAny_loadPart'->Wr
open PySem.Builtin.Tuple renaming tupleExact->WD,tupleItemsOf->aac,tupleTooMany->aah
open PySem.Txt renaming split->WR,join->acz
open PySem.F renaming slot_tuple_iterator_next->WZ,slot_tuple_mul->Xo,attr_ValueError->XY,plainAttrs_list->XZ,plainAttrs_str->X9,slot_zip_next->Yj,args_tuple_add_2->YH,args_tuple_mul_2->YL,args_tuple_iterator_next_1->Y1,entry_tuple_add->Y6,entry_tuple_mul->Y8,entry_tuple_iterator_next->Zb,slot_tuple_add->Zi,slot_str_eq_refl->aax,slot_list_append->aaz,type_list_append->aaA,slot_list_extend->aaB,type_list_extend->aaC,slot_tuple_rmul->aaK,args_zip_next_1->aaL,entry_zip_next->aaZ,slot_str_split->aa3,type_str_split->aa4,entry_bexc_ga->abf,slot_int_rmul->abg,slot_str_join->abi,type_str_join->abj,args_bexc_ga->abo,sub_str_dict->abt,slot_dict_eq->abu
open False renaming elim->Xb
open Ne renaming symm->Xf
open PySem.Obj renaming isFreed_of_fields->XB,data_mapFields->X6,mapFields->Yg,mapSeq->ab6,cls_mapFields->acr
open PySem.Builtin.Slice renaming slicePlaces->XD,sliceAdjust->YE
open PySem.NumText renaming digitsVal->XN,AllDigits->Ym
open PySem.NameKind renaming free->XS,cell->XT
open True renaming intro->X3
open ForInStep renaming yield->Yd
open Or renaming inr->Yq,inl->YZ
open PySem.Paired renaming length->YF,snoc->adm
open PySem.Builtin.List renaming listTooLong->YI
open Char renaming toNat->Y4
open And renaming intro->Zz
open Sum renaming inr->ZC,inl->ac0
open PySem.Calls renaming Name_function_global->Z8
open PySem.StrLaws renaming partsBetween_eq->aaN,glued_eq_join->abk,partsFrom_ne->abA,join_split->acf
open PySem.EntryCells renaming newEntry->abL
open PySem.Heap.SameBut renaming update->abP
open PySem.SeqAt.EqAt renaming int_str->abY,str_int->abZ
open PySem.Code renaming quiet_builtin->acd
open PySem.Builtin.ObjectAttr renaming storeInOwnDict->aci
open PySem.Heap.Ns1 renaming of_empty->acn
open PySem.Within renaming cons->acu
open PySem.Data renaming noConfusion->acJ
open List.cons renaming injEq->acZ
open PySem.Around renaming under->adk
open Nat.succ renaming inj->adl
open PySem.Heap.IsSliceOf renaming new->adn
set_option genSizeOf false
set_option compiler.extract_closed false
set_option bootstrap.genMatcherCode false
namespace PySem.W.Fast
def tw2157838629889682161:=0
def tw15386263746776056587:=0
def tw4698130316958736598:=0
def tw7176337509083045473:=0
def tw8808933319502338368:=0
def tw6440370142035285943:=0
def tw2161569827863886349:=0
def tw13754314011187406170:=0
def tw3614504481507182028:=0
def tw15008689766068547799:=0
def tw18054828620185260013:=0
def tw6406568985998275057:=0
def tw6034127990867611927:=0
def tw11910795929157661321:=0
def tw637128394595371455:=0
def tw17258145894863363150:=0
def tw11735620214645316101:=0
def tw16788096854129638308:=0
def tw6288735583562744682:=0
def tw7597874553054723435:=0
def tw12960490946813210433:=0
def tw7380127804970450425:=0
def tw10789268992083148584:=0
def tw11097269052956951308:=0
def tw4481815103732721914:=0
def tw11592403933056576001:=0
def tw15791394064672121760:=0
def tw14466186855485623514:=0
def tw5784470856043486322:=0
def tw4769769724072434488:=0
def tw13682598826486034280:=0
def tw15917825661577292686:=0
def tw3313558490516932719:=0
def tw464548001179891131:=0
def tw13527023024967758555:=0
def tw11810996703127697321:=0
def tw4655141983308970688:=0
def tw17766723286758947366:=0
def tw5491603524719547750:=0
def tw5375655829863956453:=0
def tw9405603952298271201:=0
def tw7584283066575936925:=0
def tw2844011021316251230:=0
def tw3814864879198885905:=0
def tw11961919682583823393:=0
def tw17583349740296283679:=0
def tw9139243474378306713:=0
def tw17794733268172143228:=0
def tw5299294095905063714:=0
def tw13421830563920640792:=0
def tw8275790106036002370:=0
def tw16507799137388004474:=0
def tw7858046326108358195:=0
def tw1118399406322124746:=0
def tw17332805407183455637:=0
def tw11213559292450511207:=0
def tw5278508155056478210:=0
def tw1487273820775841155:=0
def tw4590934028662362629:=0
def tw11332641172842818641:=0
def tw13693581294873901268:=0
def tw17809423463406849113:=0
def tw4301982677501975925:=0
def tw9910640795525411679:=0
def tw6583139513205124712:=0
def tw4437437568387289679:=0
def tw14465636016099680798:=0
def tw16743502773520242260:=0
def tw4146740021448387383:=0
def tw1221842682448498745:=0
def tw11123270240759547008:=0
def tw6926057089096944437:=0
def tw13623883570472153685:=0
def tw18357594338935087680:=0
def tw1554990742156686073:=0
def tw17812380586072433204:=0
def tw1463488299791703745:=0
def tw8186641905006296624:=0
def tw3031534409093280165:=0
def tw1873658066080435157:=0
def tw7922736308167527691:=0
def tw10512630758190948083:=0
def tw17982432548859408712:=0
def tw12784839712121883488:=0
def tw6451583498440612513:=0
def tw1862778021951715562:=0
def tw776743433765172192:=0
def tw9481049179521508226:=0
def tw207929104081833481:=0
def tw1535365331919519510:=0
def tw1089714217326730110:=0
def tw13789499193205273306:=0
def tw5440245112812232074:=0
def tw11348123623357197037:=0
def tw3119273783000767352:=0
def tw15208735587681996640:=0
def tw4266548254630163741:=0
def tw7110984741263576706:=0
def tw17977566654995960099:=0
def tw615808111853684032:=0
def tw18438743844171539256:=0
def tw9464213955051372773:=0
def tw12353596271379660180:=0
def tw9354307529535811431:=0
def tw1054431581327145261:=0
def tw12038765102992341077:=0
def tw6773866563406597801:=0
def tw4616267933863080179:=0
def tw1144203258543202333:=0
def tw5461996747204635946:=0
def tw18229697743890098857:=0
def tw8309495217584267867:=0
def tw15425393418958775359:=0
def tw4913553568427208766:=0
def tw15851754090373156692:=0
def tw13345300380838115456:=0
def tw12308912055654418655:=0
def tw16341369612211404876:=0
def tw135520120347573730:=0
def tw5626948906251983891:=0
def tw3246379468591486084:=0
def tw7949102525930517573:=0
def tw701749701396504628:=0
def tw9428206534240161810:=0
def tw1962380749364146766:=0
def tw12256624637103053172:=0
def tw2464491826101584096:=0
def tw17205481979885847871:=0
def tw7141085677673848158:=0
def tw189361892070621682:=0
def tw9198681125346976979:=0
def tw2862243484995712228:=0
def tw10672023138023794099:=0
def tw3276686143051809429:=0
def tw18158924106799009991:=0
def tw2772309459273319905:=0
def tw4926366238410665640:=0
def tw11984645489663416659:=0
def tw351700625488425806:=0
def tw11723775145450881090:=0
def tw14927792966011891017:=0
def tw7835464865131230398:=0
def tw5510672949426009493:=0
def tw3868040917288779911:=0
def tw8431772785427099289:=0
def tw13695762780297493430:=0
def tw1270216769770873474:=0
def tw8662454506681527437:=0
def tw3087421506151248218:=0
def tw1528103608578205461:=0
def tw4615838360358647188:=0
def tw10155318834125014763:=0
def tw14152753443298122808:=0
def tw2882736708014920414:=0
def tw4066209408109662651:=0
def tw12403540573241048660:=0
def tw14335678622485272128:=0
def tw9251358953003155129:=0
def tw2922458715035669036:=0
def tw9665490667236694679:=0
def tw3568892082753777271:=0
def tw14923166198912942480:=0
def tw14272249065743786552:=0
def tw2964569573340423200:=0
def tw6193678591626276034:=0
def tw10180949706991044344:=0
def tw11237724399329872658:=0
def tw14581571713152336926:=0
def tw16891891131284261348:=0
def tw6761083807528888082:=0
def tw10533131299740883598:=0
def tw14264723499461325616:=0
def tw5873047994241264008:=0
def tw8192174261299227401:=0
def tw486665169036747988:=0
def tw12908200688310293787:=0
def tw2081651332210173512:=0
def tw9241096659071329984:=0
def tw3114586414287898811:=0
def tw12201263460870902644:=0
def tw3814540662896160885:=0
def tw4925524205083383249:=0
def tw7898362513197840657:=0
def tw6276690142427164220:=0
def tw6638104541418981492:=0
def tw212283942523997286:=0
def tw13093387972552335728:=0
def tw14970510078069128072:=0
def tw1796265953140117674:=0
def tw10591464858549760069:=0
def tw7048063065983870481:=0
def tw7142459015171281729:=0
def tw7838254518793439040:=0
def tw16342029341722188158:=0
def tw202769793177220934:=0
def tw1933477512520841499:=0
def tw582223109881997553:=0
def tw2576958615496482144:=0
def tw18380970319874894286:=0
def tw24342166799179190:=0
def tw11932351585394120786:=0
def tw12322689872057728526:=0
def tw14829129324863800024:=0
def tw3259257398363528814:=0
def tw2317100057802664719:=0
def tw3459683587276808781:=0
def tw18276942384546050614:=0
def tw13445293841384065734:=0
def tw11560859724763476160:=0
def tw16660480746806274749:=0
def tw6015066056343611589:=0
def tw2657381683096900645:=0
def tw13583867609739333141:=0
def tw17178308195164815829:=0
def tw18118181902621323568:=0
def tw13942160614308494969:=0
def tw1495202311031541069:=0
def tw15567063777228683159:=0
def tw12275181489844272687:=0
def tw8525602540779494161:=0
def tw14606746992173984945:=0
def tw3121578212915564116:=0
def tw8478524396186032934:=0
def tw10386526633294659593:=0
def tw12391248900762554921:=0
def tw750130655881644045:=0
def tw3169150194847876376:=0
def tw2625112281576839827:=0
def tw7707636684101505245:=0
def tw16187945587551604605:=0
def tw7657045000216970190:=0
def tw8940995632674841660:=0
def tw8055799746093220864:=0
def tw11313867331155212619:=0
def tw433581398376736299:=0
def tw9614805533458844844:=0
def tw10974309176839130339:=0
def tw16385445183629020562:=0
def tw876284895669938316:=0
def tw16983242010296564494:=0
def tw5655995355898574697:=0
def tw10625574505621033907:=0
def tw5979217847858163463:=0
def tw5912128854397568707:=0
def tw3722101079970199901:=0
end PySem.W.Fast
noncomputable section
set_option Elab.async false
set_option linter.all false
set_option maxRecDepth 100000
section
namespace L2
open PySem PySem.Spec PyProof.Rows
abbrev Key:=Sum Int Str
noncomputable def pV:Key->U1->Bool
 | .inl k,v=>Value.isInt k v
 | .inr x,v=>ade x v
noncomputable def S7(w:VY):Key->Int
 | .inl k=>hashInt k
 | .inr x=>hashStr w x
theorem bV: ∀{k v},pV k v=true->(∃ i t,k=ac0 i/\v=Z5 i t)\/(∃ x t,k=ZC x/\v=Z6 x t)
 | .inl i,v,h=>by
  obtain⟨t,e⟩:=Value.isInt_shape (k:=i) (v:=v) h;exact .inl ⟨i,t,rfl,e⟩
 | .inr x,v,h=>by
  obtain⟨t,e⟩:=Value.isStrOf_shape (x:=x) (v:=v) h;exact .inr ⟨x,t,rfl,e⟩
theorem yq i t:pV (.inl i) (.int i t)=true:=by simp[pV,Value.isInt]
theorem ku x t:pV (.inr x) (.str x t)=true:=by simp[pV,ade]
theorem Ls a b:decide ((ac0 a:Key)=ac0 b)=(a == b):=by
 by_cases e:a=b
 . subst e;simp
 . simp_all
theorem LP a b:decide ((ZC a:Key)=ZC b)=decide (a=b):=by
 simp_all
theorem KA(a:Int)(b:Str):decide ((ac0 a)=ZC b)=false:=decide_eq_false (λq=>by cases q)
theorem Mw(a:Str)(b:Int):decide ((ZC a)=ac0 b)=false:=decide_eq_false (λq=>by cases q)
def bR prog w:PySem.KeyKind prog w Key where
 is:=pV
 hash:=S7 w
 inj:=λv a b ha hb=>by
  rcases bV ha with⟨i,t,rfl,rfl⟩ | ⟨x,t,rfl,rfl⟩
  . rcases bV hb with⟨j,u,rfl,e⟩ | ⟨y,u,rfl,e⟩
    . injection e with e1 _;rw[e1]
    . nomatch e
  . rcases bV hb with⟨j,u,rfl,e⟩ | ⟨y,u,rfl,e⟩
    . nomatch e
    . injection e with e1 _;rw[e1]
 byValue:=λk v h=>by
  rcases bV h with⟨i,t,rfl,rfl⟩ | ⟨x,t,rfl,rfl⟩<;>rfl
 pyHash:=λhv h=>by
  rcases bV hv with⟨i,t,rfl,rfl⟩ | ⟨x,t,rfl,rfl⟩
  . exact wpAny_pyHash_int h
  . exact wpAny_pyHash_str h
 eqBool:=λhu hv h=>by
  rcases bV hu with⟨i,t,rfl,rfl⟩ | ⟨x,t,rfl,rfl⟩
  . rcases bV hv with⟨j,u,rfl,rfl⟩ | ⟨y,u,rfl,rfl⟩
    . rw[Ls] at h;exact wpAny_eqBool_int h
    . rw[KA] at h;exact abY i t y u _ _ _ _ h
  . rcases bV hv with⟨j,u,rfl,rfl⟩ | ⟨y,u,rfl,rfl⟩
    . rw[Mw] at h;exact abZ x t j u _ _ _ _ h
    . rw[LP] at h;exact wpAny_eqBool_str h
 «strs» :=λk x t v h=>by
  rcases bV h with⟨i,u,rfl,e⟩ | ⟨y,u,rfl,e⟩
  . nomatch e
  . injection e with e1 _;subst e1;cases v<;>rfl
theorem sG prog w i t:(bR prog w).is (.inl i) (.int i t)=true:=yq i t
theorem sY prog w x t:(bR prog w).is (.inr x) (.str x t)=true:=ku x t
inductive V where
 | non | bl (b:Bool) | int (i:Int) | str (x:Str) | byt (b:Array UInt8) | flt (b:UInt64) | ref (a:U9) | ty (n:String)
 deriving DecidableEq
def RelV:V->U1->Prop
 | .non,u=>u=Wc
 | .bl b,u=>u=YW b
 | .int i,u=> ∃ t,u=Z5 i t
 | .str x,u=> ∃ t,u=Z6 x t
 | .byt b,u=> ∃ t,u=Value.bytes b t
 | .flt b,u=> ∃ t,u=abl b t
 | .ref a,u=>u=Vo a
 | .ty n,u=>u=Yn n
abbrev Vals:List V->List U1->Prop:=Ws RelV
theorem Vals.length(r:Vals xs us):xs.length=us.length:=YF r
theorem Vals.get: ∀{xs us}{i:Nat}{x},Vals xs us->xs[i]?=UU x-> ∃ u,us[i]?=UU u/\RelV x u
 | _,_,_,_,.nil,e=>by simp at e
 | _,_,0,_,.cons r _,e=>by simp at e;subst e;exact⟨_,rfl,r⟩
 | _,_,i+1,x,.cons _ t,e=>by
  obtain⟨u,h1,h2⟩:=Vals.get (i:=i) (x:=x) t (by simpa using e);exact⟨u,by simpa using h1,h2⟩
theorem Vals.set(r:RelV x u): ∀{xs us} i,Vals xs us->Vals (xs.set i x) (us.set i u)
 | _,_,_,.nil=> .nil
 | _,_,0,.cons _ t=> .cons r t
 | _,_,i+1,.cons q t=> .cons q (Vals.set r i t)
theorem Vals.append: ∀{xs ys us ws},Vals xs us->Vals ys ws->Vals (xs++ys) (us++ws)
 | _,_,_,_,.nil,s=>s
 | _,_,_,_,.cons r t,s=> .cons r (Vals.append t s)
theorem Vals.take: ∀{xs us} n,Vals xs us->Vals (xs.take n) (us.take n)
 | _,_,0,_=> .nil
 | _,_,_+1,.nil=> .nil
 | _,_,n+1,.cons r t=> .cons r (Vals.take n t)
theorem Vals.drop: ∀{xs us} n,Vals xs us->Vals (xs.drop n) (us.drop n)
 | _,_,0,r=>r
 | _,_,_+1,.nil=> .nil
 | _,_,n+1,.cons _ t=>Vals.drop n t
def gF:Option V->Option U1->Prop
 | some v,UU u=>RelV v u
 | none,UX=>True
 | _,_=>False
def KV{κ}:=Ws λ(p: κ × V) (q: κ × U1)=>p.1=q.1/\RelV p.2 q.2
noncomputable def kV:Key->V
 | .inl i=> .int i
 | .inr x=> .str x
inductive HO where
  | lst (xs:List V)
  | tup (xs:List V)
  | dK (kvs:List (Key × V)) | dT (kvs:List (List Key × V))
  | set (S:Int->Bool) (n:Nat)
  | ins (C dx:U9) (fs:List (Str × V))
  | own (x:U9)
  | xd (fs:List (Str × V))
  | met (f x:U9)
  | rng (lo hi:Int)
  | ef (o:Obj) (u:HO)
  | tbl (ps:Array U1)
  | ext (φ :Wb->Prop)
abbrev Hp:=U9->Option HO
noncomputable def upd(H:Hp)(a:U9)(o:HO):Hp:=λb=>if b=a then UU o else H b
theorem bb:upd H a o a=UU o:=by unfold upd;rw[if_pos rfl]
theorem aw(h:b≠a):upd H a o b=H b:=by unfold upd;rw[if_neg h]
theorem pA{H:Hp}{a b:U9}{o u:HO}(h:H a=UU o)(h':H b=UU u)(d:o≠u):a≠b:=by
 intro e;subst e;rw[h] at h';exact d (V4 h')
theorem aq{H:Hp}{a b:U9}{o:HO}(h:H a=UU o)(h':H b=UX):a≠b:=by
 intro e;subst e;rw[h] at h';cases h'
def o8(h:Wb) a (items:Array U1):= ∃ o,h.get? a=UU o/\o.cls= .type "tuple" /\ ∃ n,o.data= .seq items n/\o.dict=UX
theorem o8.tup{h a items}(x:o8 h a items):IsTup h a items:=by obtain⟨o,e,c,n,d,_⟩:=x;exact⟨o,e,c,n,d⟩
theorem o8.new(h:Wb) items:o8 (h.push { cls:= .type "tuple",data:= .seq items}) h.objs.size items:=⟨_,Vq _ rfl,rfl,_,rfl,rfl⟩
section
variable(P:VE)(w:VY)
def bz(H:Hp)(h:Wb)(a:U9):HO->Prop
 | .lst xs=>xs.length<=Vj/\ ∃(ar:List U1)(n:Nat),Vals xs ar/\h.get? a=UU { cls:= .type "list",data:= .seq ar.toArray n}
 | .tup xs=>xs.length<=Vj/\ ∃ ar ,Vals xs ar/\o8 h a ar.toArray
 | .dK kvs=>kvs.length<=Vj/\(a == Xa)=false/\ ∃ vs,KV kvs vs/\h.DictOf (bR P w) a vs
 | .dT kvs=>kvs.length<=Vj/\(a == Xa)=false/\ ∃ xs ,
   Ws (λ(p) (q)=>p.1=q.1/\H q.2.1=UU (.tup (p.1.map kV))/\RelV p.2 q.2.2) kvs xs /\
   ∃ o es ep,h.get? a=UU o/\o.ExactDict/\o.data= .dict es ep/\es.toList=xs.map (entryOfKey (abE (bR P w)))/\(xs.map (·.1)).Nodup
 | .set S n=>h.SetOf (intKind P w) a S n
 | .ins C dx fs=>H dx=UU (.own a)/\fs.length<=1000/\dx≠a/\h.get? a=UU (XI C dx) /\
   ∃ mA,h.Ns1 dx mA/\(∀ f,gF (fs.lookup f) (mA f))/\Zc mA (fs.map (·.1))
 | .own _=> ∃ o,h.get? a=UU o
 | .xd fs=> ∃ mA,h.Ns1 a mA/\ ∀ f,gF (fs.lookup f) (mA f)
 | .rng lo hi=> ∃ t u v,h.get? a=UU { cls:= .type "range",data:= .fields #[.int lo t,.int hi u,.int 1 v]}
 | .ef o u=>h.get? a=UU o∧bz H h a u
 | .tbl ps=>h.get? a=UU { cls:= .none,data:= .fields ps}
 | .met f x=>h.get? a=UU (PySem.W.methodObj (.ref f) (.ref x))
 | .ext φ => φ h∧(∃ o,h.get? a=UU o)∧ ∀ h1 h2 , φ h1->(∀ o,h1.get? a=UU o->h2.get? a=UU o)-> φ h2
def hI H h:= ∀ a o,H a=UU o->bz P w H h a o
end
section
variable{P:VE}{w:VY}{H H':Hp}{h h':Wb}{a:U9}{o:HO}
theorem bz.lt(x:bz P w H h a o):a < h.objs.size:=by
 cases o with
 | lst xs=>obtain⟨_,_,_,_,e⟩:=x;exact Vh e
 | tup xs=>obtain⟨_,_,_,p⟩:=x;exact p.tup.lt
 | dK kvs=>obtain⟨_,_,_,_,o,_,_,e,_⟩:=x;exact Vh e
 | dT kvs=>obtain⟨_,_,_,_,o,_,_,e,_⟩:=x;exact Vh e
 | set S n=>obtain⟨o,_,_,_,e,_⟩:=x;exact Vh e
 | ins C dx fs=>obtain⟨_,_,_,e,_⟩:=x;exact Vh e
 | own y=>obtain⟨_,e⟩:=x;exact Vh e
 | xd fs=>obtain⟨_,⟨_,_,_,e,_⟩,_⟩:=x;exact Vh e
 | rng lo hi=>obtain⟨_,_,_,e⟩:=x;exact Vh e
 | ef ob u=>obtain⟨e,_⟩:=x;exact Vh e
 | tbl ps=>exact Vh (show h.get? a=UU _ from x)
 | met f y=>exact Vh (show h.get? a=UU _ from x)
 | ext φ =>obtain⟨_,⟨_,e⟩,_⟩:=x;exact Vh e
theorem Paired.DT: ∀{l₁ l₂},Ws F l₁ l₂ ->(∀ a b,F a b->G a b)->Ws G l₁ l₂
 | _,_,.nil,_=> .nil
 | _,_,.cons r t,f=> .cons (f _ _ r) (Paired.DT t f)
theorem bz.jl(x:bz P w H h a o)(k: ∀ b u,(b=a\/H b=UU (.own a))->h.get? b=UU u->h'.get? b=UU u)
  (ho: ∀ b,H b=UU (.own a)->H' b=UU (.own a)) (ht: ∀ b xs,H b=UU (.tup xs)->H' b=UU (.tup xs)):bz P w H' h' a o:=by
 induction o with
 | lst xs=>obtain⟨z,ar,n,r,e⟩:=x;exact⟨z,ar,n,r,k _ _ (.inl rfl) e⟩
 | tup xs=>obtain⟨z,ar,r,ob,e,c⟩:=x;exact⟨z,ar,r,ob,k _ _ (.inl rfl) e,c⟩
 | dK kvs=>obtain⟨z,y,vs,r,ob,es,ep,e,c⟩:=x;exact⟨z,y,vs,r,ob,es,ep,k _ _ (.inl rfl) e,c⟩
 | dT kvs =>
  obtain⟨z,y,xs,r,ob,es,ep,e,c⟩:=x
  exact⟨z,y,xs,Paired.DT r λp q z=>⟨z.1,ht _ _ z.2.1,z.2.2⟩,ob,es,ep,k _ _ (.inl rfl) e,c⟩
 | set S n=>obtain⟨ob,es,ep,t,e,c⟩:=x;exact⟨ob,es,ep,t,k _ _ (.inl rfl) e,c⟩
 | ins C dx fs =>
  obtain⟨d,z,ne,e,mA,⟨od,es,ep,e2,c⟩,r⟩:=x
  exact⟨ho _ d,z,ne,k _ _ (.inl rfl) e,mA,⟨od,es,ep,k _ _ (.inr d) e2,c⟩,r⟩
 | own y=>obtain⟨ob,e⟩:=x;exact⟨ob,k _ _ (.inl rfl) e⟩
 | xd fs=>obtain⟨mA,⟨od,es,ep,e,c⟩,r⟩:=x;exact⟨mA,⟨od,es,ep,k _ _ (.inl rfl) e,c⟩,r⟩
 | rng lo hi=>obtain⟨t,u,v,e⟩:=x;exact⟨t,u,v,k _ _ (.inl rfl) e⟩
 | ef ob u ih=>obtain⟨e,q⟩:=x;exact⟨k _ _ (.inl rfl) e,ih q⟩
 | tbl ps =>
  have e:=x
  exact k a _ (.inl rfl) e
 | met f y =>
  have e:=x
  exact k a _ (.inl rfl) e
 | ext φ =>obtain⟨p,⟨o,e⟩,st⟩:=x;exact⟨st _ _ p λo q=>k _ _ (.inl rfl) q,⟨o,k _ _ (.inl rfl) e⟩,st⟩
theorem hI.lt(x:hI P w H h)(e:H a=UU o):a < h.objs.size:=(x a o e).lt
theorem hI.fresh(x:hI P w H h)(e:h.objs.size<=a):H a=UX:=by
 cases q:H a with
 | none=>rfl
 | some u=>exact absurd (Vg (x.lt q) e) (Wf _)
theorem hI.kept(x:hI P w H h)(k: ∀ b u,h.get? b=UU u->h'.get? b=UU u):hI P w H h':=λa o e =>
 (x a o e).jl (λb u _ q=>k b u q) (λ_ q=>q) λ_ _ q=>q
theorem hI.laid(x:hI P w H h)(k: ∀ b u,h.get? b=UU u->h'.get? b=UU u)(hp:h.objs.size<=a)(new:bz P w (upd H a o) h' a o):hI P w (upd H a o) h':=λb u e=>by
 have hn:=x.fresh hp;by_cases hb:b=a
 . subst hb;rw[bb] at e;cases e;exact new
 . rw[aw hb] at e;exact(x b u e).jl (λc v _ q=>k c v q) (λc q=>by rw[aw (aq q hn)];exact q) λc xs q=>by rw[aw (aq q hn)];exact q
end
def Rd(H:Hp) a u:=H a=UU u\/ ∃ o,H a=UU (.ef o u)
theorem Rd.of{H:Hp}{a:U9}{u:HO}(h:H a=UU u):Rd H a u:= .inl h
theorem Rd.ok(r:Rd H a u)(x:hI P w H h):bz P w H h a u:=by
 rcases r with r | ⟨o,r⟩
 . exact x a u r
 . obtain⟨_,q⟩:=x a _ r;exact q
def NQ:Option HO->Prop
 | some (.lst _)=>True
 | some (.dK _)=>True
 | some (.dT _)=>True
 | some (.set _ _)=>True
 | some (.ins _ _ _)=>True
 | some (.ext _)=>True
 | _=>False
section
variable{P:VE}{w:VY}{H:Hp}{h h':Wb}{x e:U9}{o':HO}
theorem hI.write(ok:hI P w H h)(mu:NQ (H x))(he:e=x\/H e=UU (.own x))(k: ∀ b u,b≠e->h.get? b=UU u->h'.get? b=UU u)(heo: ∃ u,h'.get? e=UU u)
  (new:bz P w (upd H x o') h' x o'):hI P w (upd H x o') h':=λb u q=>by
 have nown: ∀ c y,H c=UU (.own y)->c≠x:=λc y r z=>by subst z;rw[r] at mu;exact mu
 have ntup: ∀ c xs,H c=UU (.tup xs)->c≠x:=λc xs r z=>by subst z;rw[r] at mu;exact mu
 by_cases hb:b=x
 . subst hb;rw[bb] at q;cases q;exact new
 . rw[aw hb] at q;by_cases hbe:b=e
   . have q':H b=UU (.own x):=by
      rcases he with z | z
      . exact absurd (hbe.trans z) hb
      . rw[hbe];exact z
     rw[q] at q';cases q';obtain⟨v,hv⟩:=heo;exact⟨v,by rw[hbe];exact hv⟩
   . refine(ok b u q).jl (λc v hc r=>k c v ?_ r) (λc r=>by rw[aw (nown c b r)];exact r) λc xs r=>by rw[aw (ntup c xs r)];exact r
     rcases hc with rfl | hc
     . exact hbe
     . rintro rfl;rcases he with z | z
       . exact nown c b hc z
       . simp_all
end
structure Un(fs ex:List U9)(H H':Hp)(h h':Wb):Prop where
 keep: ∀ b o,h.get? b=UU o->H b=UX->b ∉ fs->b ∉ ex->h'.get? b=UU o
 slot: ∀ b o,h.get? b=UU o->H b=UX->b∈fs->b ∉ ex-> ∃ sl,h'.get? b=UU { o with slots:=sl}
 free: ∀ b o,h.get? b=UU o->H b=UX->b ∉ ex->H' b=UX
 there: ∀ b o,h.get? b=UU o->b ∉ ex-> ∃ o',h'.get? b=UU o'
 gM: ∀ b xs,H b=UU (.tup xs)->H' b=UU (.tup xs)
 ik: ∀ b o u,H b=UU (.ef o u)->H' b=UU (.ef o u)
 jw: ∀ b ps,H b=UU (.tbl ps)-> ∃ more,H' b=UU (.tbl (ps++more))
section
variable{fs fs' ex ex':List U9}{H H1 H2:Hp}{h h1 h2 h':Wb}{a x e:U9}{o:HO}
theorem Un.any(u:Un fs ex H H1 h h1)(q:h.get? b=UU ob)(n:H b=UX)(hx:b ∉ ex): ∃ sl,h1.get? b=UU { ob with slots:=sl}:=by
 by_cases hb:b∈fs
 . exact u.slot b ob q n hb hx
 . exact⟨ob.slots,u.keep b ob q n hb hx⟩
theorem Un.trans(a:Un fs ex H H1 h h1)(b:Un fs ex H1 H2 h1 h2):Un fs ex H H2 h h2 where
 keep:=λc ob q n hc hx=>b.keep c ob (a.keep c ob q n hc hx) (a.free c ob q n hx) hc hx
 slot:=λc ob q n hc hx=>by
  obtain⟨sl,e1⟩:=a.slot c ob q n hc hx;obtain⟨sl',e2⟩:=b.slot c _ e1 (a.free c ob q n hx) hc hx;exact⟨sl',e2⟩
 free:=λc ob q n hx=>by
  obtain⟨o',e1⟩:=a.there c ob q hx;exact b.free c o' e1 (a.free c ob q n hx) hx
 there:=λc ob q hx=>by
  obtain⟨o',e1⟩:=a.there c ob q hx;exact b.there c o' e1 hx
 gM:=λc xs q=>b.gM c xs (a.gM c xs q)
 ik:=λc ob xs q=>b.ik c ob xs (a.ik c ob xs q)
 jw:=λc ps q=>by
  obtain⟨m1,e1⟩:=a.jw c ps q;obtain⟨m2,e2⟩:=b.jw c _ e1;exact⟨m1++m2,by rw[e2,ab0]⟩
theorem Un.kept(k: ∀ b u,h.get? b=UU u->h'.get? b=UU u):Un fs ex H H h h' :=
 ⟨λb ob q _ _ _=>k b ob q,λb ob q _ _ _=>⟨ob.slots,k b ob q⟩,λ_ _ _ n _=>n,λb ob q _=>⟨ob,k b ob q⟩,λ_ _ q=>q,λ_ _ _ q=>q,λ_ ps q=>⟨#[],by simp_all⟩⟩
theorem Un.refl:Un fs ex H H h h:=Un.kept λ_ _ q=>q
theorem Un.laid(k: ∀ b u,h.get? b=UU u->h'.get? b=UU u)(hp:h.objs.size<=a)(hn:H a=UX):Un fs ex H (upd H a o) h h' where
 keep:=λb u q _ _ _=>k b u q
 slot:=λb u q _ _ _=>⟨u.slots,k b u q⟩
 free:=λb u q n _=>by rw[aw (Vy (Vg (Vh q) hp))];exact n
 there:=λb u q _=>⟨u,k b u q⟩
 gM:=λb xs q=>by rw[aw (aq q hn)];exact q
 ik:=λb u xs q=>by rw[aw (aq q hn)];exact q
 jw:=λb ps q=>⟨#[],by rw[aw (aq q hn),q];simp⟩
theorem Un.write(mu:NQ (H x))(he:e=x\/H e=UU (.own x))(k: ∀ b u,b≠e->h.get? b=UU u->h'.get? b=UU u)(heo: ∃ u,h'.get? e=UU u):Un fs ex H (upd H x o) h h':=by
 have hx: ∀ b,H b=UX->b≠x:=λb n z=>by subst z;rw[n] at mu;exact mu
 have hb: ∀ b,H b=UX->b≠e:=λb n z=>by
  simp_all
 have hm: ∀ b u,H b=UU u-> ¬ NQ (UU u)->b≠x:=λb u q nm z=>by simp_all
 refine⟨λb u q n _ _=>k b u (hb b n) q,λb u q n _ _=>⟨u.slots,k b u (hb b n) q⟩,λb u q n _=>by rw[aw (hx b n)];exact n,λb u q _=>?_,
  λb xs q=>by rw[aw (hm b _ q λz=>z)];exact q,λb u xs q=>by rw[aw (hm b _ q λz=>z)];exact q,λb ps q=>⟨#[],by rw[aw (hm b _ q λz=>z),q];simp⟩⟩
 by_cases hbe:b=e
 . simp_all
 . exact⟨u,k b u hbe q⟩
end
noncomputable def Dh(h:Wb)(H:Hp):=(XQ h.objs.size).filter λa=>(H a).isSome
def uq h H:=PySem.W.hideAll h (Dh h H)
theorem xV h H:(uq h H).objs.size=h.objs.size:=PySem.W.hideAll_size _ _
theorem AY{h:Wb}{H:Hp}{b:U9}{o:Obj}(e:h.get? b=UU o)(n:H b=UX):(uq h H).get? b=UU o :=
 PySem.W.hideAll_get _ e λhm=>by
  have q:=(W2.mp hm).2;rw[n] at q;simp at q
theorem Dy(e:(uq h H).get? b=UU o):h.get? b=UU o/\H b=UX:=by
 have e':=PySem.W.of_hideAll (Dh h H) e;refine⟨e',?_⟩;cases q:H b with
 | none=>rfl
 | some x =>
  have hm:b∈Dh h H:=W2.mpr ⟨Zd.mpr (Vh e'),by simp[q]⟩
  have z:(uq h H).get? b=UX:=PySem.W.hideAll_none (Dh h H) hm
  rw[z] at e;cases e
noncomputable def Ga(g h:Wb) L:=(XQ h.objs.size).filterMap λa=>if a=L\/(g.get? a).isSome=true then UX else(h.get? a).map λo=>(a,o)
def rest g h L d:=(Ga g h L).filter λp=>decide (p.1≠d)
structure Mod(K:UW)(mg:Str->Option U1)(base:Wb):Prop where
 QM:K.In base
 glob:base.Ns VB mg
 blt: ∃ mb,base.Ns builtinsNs mb/\ ∀ x:Str,x≠ "__name__" ->mb x=Wm x
 nolimit:base.NoLimit
structure Cx where
 prog:VE
 w:VY
 K:UW
 mg:Str->Option U1
 base:Wb
 A:V6
 N:List Str
 s₀ :U5
 H₀ :Hp
 env:Env
 outer:List Env
 stack:List Env
 ex:List U9
 fn:Str->Bool
 calm:Bool
 pn:List (U9 × Obj)
 xe:U1->U5->Prop
noncomputable def gI(l:List Env):=l.filterMap (·.frame)
abbrev Cx.fs(X:Cx):List U9:=gI X.outer
def Ic(sc:YD) x:=sc.names.lookup x=UU .local\/sc.names.lookup x=UU .cell\/sc.names.lookup x=UU .free
def Loc(sc:YD) x:=sc.names.lookup x=UU .local\/sc.names.lookup x=UU .cell
def Look(env:Env)(h:Wb)(m:Str->Option U1) x (u:U1) :=
 (env.kindOf x=UU .local/\m x=UU u)\/((env.kindOf x=UU .cell\/env.kindOf x=UU .free)/\ ∃ c,env.cells.lookup x=UU c/\h.IsCell c (UU u))
structure Cx.Ok(X:Cx):Prop where
 mod:Mod X.K X.mg X.base
 kind:X.env.scope.kind= .function
 glob:X.env.globals=VB
 blt:X.env.builtins=builtinsNs
 above:X.s₀.heap.objs.size<=X.env.locals
 inj: ∀ x y c,X.env.cells.lookup x=UU c->X.env.cells.lookup y=UU c->x=y
 has: ∀ x,(X.env.kindOf x=UU .cell\/X.env.kindOf x=UU .free)-> ∃ c,X.env.cells.lookup x=UU c
 C9: ∀ x c,X.fn x=true->X.env.cells.lookup x=UU c->X.s₀.heap.objs.size<=c
 hd:X.calm=true->X.A.handled=UX
 frames:X.A.frames=UU X.stack
 H9:X.stack=X.outer\/(X.stack=X.env::X.outer/\X.env.frame=UU X.env.locals)
 M9: ∀ b∈X.ex,b≠X.env.locals/\ ∀ x c,X.env.cells.lookup x=UU c->c≠b
 bs: ∀ b o,X.base.get? b=UU o->X.s₀.heap.get? b=UU o/\X.H₀ b=UX
 xA:X.base.objs.size<=X.s₀.heap.objs.size
 ui: ∀ b o,X.base.get? b=UU o->b ∉ X.ex
 uZ: ∀ b∈X.ex,b ∉ X.fs
 gZ:X.s₀.heap.FunFrames X.base X.outer
 zE: ∀ b∈X.fs,X.H₀ b=UX
structure Inv(X:Cx)(pins:List (U9 × Obj))(σ :List (Option V))(H:Hp)(s:U5):Prop where
 ok:X.Ok
 os:s.os=X.s₀.os
 bare:Yx s.gens
 base:Un X.fs X.ex X.H₀ H X.s₀.heap s.heap
 loc: ∃ m,s.heap.Ns X.env.locals m/\ ∀(i:Nat)(x:Str)(v:V),X.N[i]?=UU x-> σ[i]?=UU (UU v)->Ic X.env.scope x-> ∃ u,RelV v u/\Look X.env s.heap m x u
 cell: ∀ x c,X.env.cells.lookup x=UU c-> ∃ v,s.heap.IsCell c v
 free:H X.env.locals=UX
 dW: ∀ x c,X.env.cells.lookup x=UU c->H c=UX
 pin: ∀ p∈X.pn++pins,s.heap.get? p.1=UU p.2/\H p.1=UX/\p.1≠X.env.locals/\p.1 ∉ X.fs/\ ∀ v,p.2.data≠ .cell v
 aY:hI X.prog X.w H s.heap
 len: σ.length=X.N.length
section
variable{X:Cx}{pins:List (U9 × Obj)}{σ :List (Option V)}{H H':Hp}{s:U5}{h':Wb}
theorem Cx.Ok.SQ(ok:X.Ok)(e:X.base.get? b=UU o):b ∉ X.fs:=λhb=>by
 have:=(ok.gZ.mem hb).1;rw[e] at this;cases this
theorem Inv.bs(I:Inv X pins σ H s): ∀ b o,X.base.get? b=UU o->s.heap.get? b=UU o/\H b=UX:=λb o e =>
 ⟨I.base.keep b o (I.ok.bs b o e).1 (I.ok.bs b o e).2 (I.ok.SQ e) (I.ok.ui b o e),I.base.free b o (I.ok.bs b o e).1 (I.ok.bs b o e).2 (I.ok.ui b o e)⟩
theorem Inv.bk(I:Inv X pins σ H s): ∀ b o,X.base.get? b=UU o->s.heap.get? b=UU o:=λb o e=>(I.bs b o e).1
theorem Inv.mod(I:Inv X pins σ H s):Mod X.K X.mg X.base:=I.ok.mod
theorem Inv.gU(I:Inv X pins σ H s):X.K.In s.heap:=I.ok.mod.QM.keeps I.bk
theorem Inv.nolimit(I:Inv X pins σ H s):s.heap.NoLimit:=I.ok.mod.nolimit.keeps I.bk
theorem Inv.fr(I:Inv X pins σ H s): ∃ m,Fr X.base X.env.locals s.heap m :=
 by obtain⟨m,hn,_⟩:=I.loc;exact⟨m,hn,I.bk,Vn I.ok.xA I.ok.above⟩
theorem Inv.lt(I:Inv X pins σ H s):X.env.locals < s.heap.objs.size:=by obtain⟨_,hn,_⟩:=I.loc;exact hn.lt
theorem Inv.sz(I:Inv X pins σ H s):X.s₀.heap.objs.size<=s.heap.objs.size:=Vn I.ok.above (ZY I.lt)
theorem Inv.DJ(I:Inv X pins σ H s){a:U9}(h:s.heap.objs.size<=a):a ∉ X.fs:=λhb=>by
 obtain⟨_,o,ho,_⟩:=I.ok.gZ.mem hb;exact absurd (Vg (Vh ho) (Vn I.sz h)) (Wf _)
theorem Inv.Cu(I:Inv X pins σ H s): ∀ x c,X.env.cells.lookup x=UU c->c≠X.env.locals:=λx c e z=>by
 obtain⟨v,o,ho,hd⟩:=I.cell x c e;obtain⟨m,⟨o',es,ep,ho',hd',_⟩,_⟩:=I.loc;rw[z,ho'] at ho;cases ho;rw[hd'] at hd;cases hd
theorem Inv.gZ(I:Inv X pins σ H s):s.heap.FunFrames X.base X.outer:=by
 have all: ∀ l,(∀ b∈gI l,b∈X.fs)->X.s₀.heap.FunFrames X.base l->s.heap.FunFrames X.base l:=by
  intro l
  induction l with
  | nil=>intro _ _;trivial
  | cons env r ih =>
   intro hs hl
   obtain⟨hk,⟨L,o,hf,hn,ho,hd⟩,hr⟩:=hl
   have hL:=hs L (by unfold gI;rw[ZV,hf];exact Ve)
   obtain⟨sl,e⟩:=I.base.slot L o ho (I.ok.zE L hL) hL λz=>I.ok.uZ L z hL
   exact⟨hk,⟨L,_,hf,hn,e,hd⟩,ih (λb hb=>hs b (by unfold gI;rw[ZV,hf];exact Vl _ hb)) hr⟩
 exact all X.outer (λ_ hb=>hb) I.ok.gZ
theorem Inv.stack(I:Inv X pins σ H s):s.heap.FunFrames X.base X.stack:=by
 rcases I.ok.H9 with e | ⟨e,hf⟩
 . rw[e];exact I.gZ
 . rw[e];obtain⟨m,hn,_⟩:=I.loc;refine .cons (by rw[I.ok.kind];decide) hf hn ?_ I.gZ;exact Heap.get?_none_of_le (Vn I.ok.xA I.ok.above)
theorem Inv.jq(I:Inv X pins σ H s): ∀ b∈gI X.stack,b∈X.env.locals::X.fs:=λb hb=>by
 rcases I.ok.H9 with e | ⟨e,hf⟩
 . rw[e] at hb;exact Vl _ hb
 . rw[e] at hb;unfold gI at hb;rw[ZV,hf] at hb;exact hb
theorem Inv.jP(I:Inv X pins σ H s): ∀ b∈gI X.stack,H b=UX:=λb hb=>by
 rcases Vt.mp (I.jq b hb) with e | hb
 . rw[e];exact I.free
 . obtain⟨_,o,ho,_⟩:=I.ok.gZ.mem hb;exact I.base.free b o ho (I.ok.zE b hb) λz=>I.ok.uZ b z hb
theorem Inv.step{ch:List U9}(I:Inv X pins σ H s)
  (hch: ∀ b∈ch,(b∈X.ex\/X.s₀.heap.objs.size<=b)/\b≠X.env.locals/\(∀ x c,X.env.cells.lookup x=UU c->c≠b)/\ ∀ p∈X.pn++pins,p.1≠b)
  (keep: ∀ b o,b≠X.env.locals->b ∉ X.fs->b ∉ ch->s.heap.get? b=UU o->H b=UX->h'.get? b=UU o)
  (slot: ∀ b o,b≠X.env.locals->b∈X.fs->b ∉ ch->s.heap.get? b=UU o->H b=UX-> ∃ sl,h'.get? b=UU { o with slots:=sl}) (free: ∀ b o,b ∉ ch->s.heap.get? b=UU o->H b=UX->H' b=UX)
  (there: ∀ b o,b ∉ ch->s.heap.get? b=UU o-> ∃ o',h'.get? b=UU o')
  (gM: ∀ b xs,H b=UU (.tup xs)->H' b=UU (.tup xs)) (ik: ∀ b o u,H b=UU (.ef o u)->H' b=UU (.ef o u)) (jw: ∀ b ps,H b=UU (.tbl ps)-> ∃ more,H' b=UU (.tbl (ps++more)))
  (ns: ∀ m,s.heap.Ns X.env.locals m->h'.Ns X.env.locals m) (aY:hI X.prog X.w H' h') (hg:Yx g') :
  Inv X pins σ H' { s with heap:=h',gens:=g',drawn:=d',toks:=t'}:=by
 have neL: ∀ b o,X.s₀.heap.get? b=UU o->b≠X.env.locals:=λb o e=>Vy (Vg (Vh e) I.ok.above);have neC: ∀ b o,X.s₀.heap.get? b=UU o->b ∉ X.ex->b ∉ ch:=λb o e hx hb=>by
  rcases(hch b hb).1 with z | z
  . exact hx z
  . exact absurd (Vg (Vh e) z) (Wf _)
 have cellK: ∀ x c,X.env.cells.lookup x=UU c-> ∀ v,s.heap.IsCell c v->h'.IsCell c v:=λx c e v ⟨o,ho,hd⟩=>by
  have nch:=λz=>(hch c z).2.2.1 x c e rfl;by_cases hc:c∈X.fs
  . obtain⟨sl,q⟩:=slot c o (I.Cu x c e) hc nch ho (I.dW x c e);exact⟨_,q,hd⟩
  . exact⟨o,keep c o (I.Cu x c e) hc nch ho (I.dW x c e),hd⟩
 refine⟨I.ok,I.os,hg,⟨λb o e n hb hx=>?_,λb o e n hb hx=>?_,λb o e n hx=>?_,λb o e hx=>?_,λb xs e=>gM b xs (I.base.gM b xs e),λb o xs e=>ik b o xs (I.base.ik b o xs e),λb ps e=>?_⟩,?_,λx c e=>?_,?_,λx c e=>?_,λp hp=>?_,aY,I.len⟩
 . exact keep b o (neL b o e) hb (neC b o e hx) (I.base.keep b o e n hb hx) (I.base.free b o e n hx)
 . obtain⟨sl,e1⟩:=I.base.slot b o e n hb hx;obtain⟨sl',e2⟩:=slot b _ (neL b o e) hb (neC b o e hx) e1 (I.base.free b o e n hx);exact⟨sl',e2⟩
 . obtain⟨o',e1⟩:=I.base.there b o e hx;exact free b o' (neC b o e hx) e1 (I.base.free b o e n hx)
 . obtain⟨o',e1⟩:=I.base.there b o e hx;exact there b o' (neC b o e hx) e1
 . obtain⟨m1,e1⟩:=I.base.jw b ps e;obtain⟨m2,e2⟩:=jw b _ e1;exact⟨m1++m2,by rw[e2,ab0]⟩
 . obtain⟨m,hn,hl⟩:=I.loc;refine⟨m,ns m hn,λi x v e1 e2 e3=>?_⟩;obtain⟨u,r,l⟩:=hl i x v e1 e2 e3;refine⟨u,r,?_⟩;rcases l with l | ⟨k,c,e,z⟩
   . exact .inl l
   . exact .inr ⟨k,c,e,cellK x c e _ z⟩
 . obtain⟨v,z⟩:=I.cell x c e;exact⟨v,cellK x c e v z⟩
 . obtain⟨m,⟨o,_,_,ho,_⟩,_⟩:=I.loc;exact free _ o (λz=>(hch _ z).2.1 rfl) ho I.free
 . obtain⟨v,o,ho,hd⟩:=I.cell x c e;exact free c o (λz=>(hch c z).2.2.1 x c e rfl) ho (I.dW x c e)
 . obtain⟨e,n,ne,nf,d⟩:=I.pin p hp;have nch:=λz=>(hch p.1 z).2.2.2 p hp rfl;exact⟨keep p.1 p.2 ne nf nch e n,free p.1 p.2 nch e n,ne,nf,d⟩
theorem Inv.un(I:Inv X pins σ H s)(u:Un X.fs [] H H' s.heap h')(aY:hI X.prog X.w H' h'):Inv X pins σ H' { s with heap:=h',toks:=t'}:=by
 obtain⟨m,⟨o,es,ep,ho,r⟩,_⟩:=id I.loc;obtain⟨sl,hL⟩:=u.any ho I.free (by simp);exact I.step (g':=s.gens) (d':=s.drawn) (ch:=[]) (λ_ z=>by cases z) (λb o _ hb _ e n=>u.keep b o e n hb (by simp)) (λb o _ hb _ e n=>u.slot b o e n hb (by simp)) (λb o _ e n=>u.free b o e n (by simp)) (λb o _ e=>u.there b o e (by simp)) u.gM u.ik u.jw (λm' hm=>by
  obtain⟨o',es',ep',ho',r'⟩:=hm;rw[ho] at ho';cases ho';exact⟨_,es',ep',hL,r'⟩) aY I.bare
theorem Inv.call(I:Inv X pins σ H s)(u:Un (gI X.stack) ch H H' s.heap h')(aY:hI X.prog X.w H' h')(hg:Yx g')
  (hch: ∀ b∈ch,(b∈X.ex\/X.s₀.heap.objs.size<=b)/\b≠X.env.locals/\(∀ x c,X.env.cells.lookup x=UU c->c≠b)/\ ∀ p∈X.pn++pins,p.1≠b) :
  Inv X pins σ H' { s with heap:=h',gens:=g',drawn:=d',toks:=t'}:=by
 obtain⟨m,⟨o,es,ep,ho,r⟩,_⟩:=id I.loc;obtain⟨sl,hL⟩:=u.any ho I.free λz=>(hch _ z).2.1 rfl;exact I.step (ch:=ch) hch (λb o hL hb hc e n=>u.keep b o e n (λz=>(Vt.mp (I.jq b z)).elim hL hb) hc) (λb o _ _ hc e n=>u.any e n hc) (λb o hc e n=>u.free b o e n hc) (λb o hc e=>u.there b o e hc) u.gM u.ik u.jw (λm' hm=>by
  obtain⟨o',es',ep',ho',r'⟩:=hm;rw[ho] at ho';cases ho';exact⟨_,es',ep',hL,r'⟩) aY hg
theorem Inv.turned(I:Inv X pins σ H s)(k: ∀ b o,b≠it->s.heap.get? b=UU o->h'.get? b=UU o)(hn:H it=UX)(hL:it≠X.env.locals)
  (h1:it∈X.ex\/X.s₀.heap.objs.size<=it) (h2: ∀ x c,X.env.cells.lookup x=UU c->c≠it) (h3: ∀ p∈X.pn++pins,p.1≠it):Inv X pins σ H { s with heap:=h',toks:=t'}:=by
 have nit: ∀ b u,H b=UU u->b≠it:=λb u e z=>by simp_all
 refine I.step (g':=s.gens) (d':=s.drawn) (ch:=[it]) (λb hb=>?_) (λb o _ _ hc e _=>k b o (λz=>hc (by simp[z])) e) (λb o _ _ hc e _=>⟨o.slots,k b o (λz=>hc (by simp[z])) e⟩) (λ_ _ _ _ n=>n)
  (λb o hc e=>⟨o,k b o (λz=>hc (by simp[z])) e⟩) (λ_ _ e=>e) (λ_ _ _ e=>e) (λb ps e=>⟨#[],by simp_all⟩) (λm hm=>?_) (λb u e=>?_) I.bare
 . have e:b=it:=by simpa using hb
   subst e;exact⟨h1,hL,h2,h3⟩
 . obtain⟨o,es,ep,ho,r⟩:=hm;exact⟨o,es,ep,k _ o (Xf hL) ho,r⟩
 . refine(I.aY b u e).jl (λc v hc q=>k c v ?_ q) (λ_ q=>q) λ_ _ q=>q;rcases hc with z | z
   . rw[z];exact nit b u e
   . exact nit c _ z
theorem Inv.tok(I:Inv X pins σ H s) t:Inv X pins σ H { s with toks:=t}:=I.un (h':=s.heap) (t':=t) Un.refl I.aY
theorem Inv.kept(I:Inv X pins σ H s)(k: ∀ b u,s.heap.get? b=UU u->h'.get? b=UU u):Inv X pins σ H { s with heap:=h',toks:=t'}:=I.un (Un.kept k) (I.aY.kept k)
theorem Inv.laid{a:U9}(I:Inv X pins σ H s)(k: ∀ b u,s.heap.get? b=UU u->h'.get? b=UU u)(hp:s.heap.objs.size<=a)(new:bz X.prog X.w (upd H a o) h' a o) :
  Inv X pins σ (upd H a o) { s with heap:=h',toks:=t'}:=I.un (Un.laid k hp (I.aY.fresh hp)) (I.aY.laid k hp new)
theorem Inv.write(I:Inv X pins σ H s)(mu:NQ (H x))(he:e=x∨H e=UU (.own x))(k: ∀ b u,b≠e->s.heap.get? b=UU u->h'.get? b=UU u)(heo: ∃ u,h'.get? e=UU u)
  (new:bz X.prog X.w (upd H x o) h' x o):Inv X pins σ (upd H x o) { s with heap:=h',toks:=t'}:=I.un (Un.write mu he k heo) (I.aY.write mu he k heo new)
theorem Inv.weak(I:Inv X pins σ H s)(hl: σ'.length= σ.length)(w: ∀ (i:Nat) v, σ'[i]?=UU (UU v)-> σ[i]?=UU (UU v)):Inv X pins σ' H s :=
 ⟨I.ok,I.os,I.bare,I.base,by obtain ⟨m,hn,hl'⟩:=I.loc;exact ⟨m,hn,λi x v e1 e2 e3=>hl' i x v e1 (w i v e2) e3⟩,I.cell,I.free,I.dW,I.pin,I.aY,hl.trans I.len⟩
theorem Inv.dJ(I:Inv X pins σ H s)(h: ∀ p∈pins',s.heap.get? p.1=UU p.2∧H p.1=UX∧p.1≠X.env.locals∧p.1 ∉ X.fs∧ ∀ v,p.2.data≠ .cell v):Inv X pins' σ H s :=
 ⟨I.ok,I.os,I.bare,I.base,I.loc,I.cell,I.free,I.dW,λp hp=>(Vz.mp hp).elim (λz=>I.pin p (VO _ z)) (h p),I.aY,I.len⟩
theorem nL{N:List Str}(hN:N.Nodup){ j:Nat}(a:N[i]?=UU x)(b:N[j]?=UU x):i=j:=by
 obtain⟨h1,e1⟩:=Vk.mp a;obtain⟨h2,e2⟩:=Vk.mp b;exact(List.getElem_inj hN).mp (e1.trans e2.symm)
theorem pZ{M:Model}{A:V6}{E:U1->U5->Prop}{i:Nat}{x:Str}{v:V}{u:U1}{Q:Unit->U5->Prop}(I:Inv X pins σ H s)(hN:X.N.Nodup)(hi:X.N[i]?=UU x)(hx:Loc X.env.scope x)(r:RelV v u)
  (h: ∀ s',Inv X pins (σ.set i (UU v)) H s'->(∃ a,ZZ a s.heap s'.heap/\(a=X.env.locals\/X.env.cells.lookup x=UU a))->Q () s') (hf:X.fn x=true\/X.env.scope.names.lookup x=UU .local:=by first | exact .inl rfl | exact .inr rfl | assumption):Vs M A (storeName X.env x u) Q E s:=by
 obtain⟨m,hn,hl⟩:=id I.loc;have hcls:(X.env.scope.kind == .class||(X.env.scope.kind == .module&&X.env.locals !=X.env.globals))=false:=by rw[I.ok.kind];rfl
 have hiσ :i < σ.length:=by rw[I.len];exact(Vk.mp hi).1
 have Cu:=I.Cu;have tracked: ∀{a:U9}{h':Wb},(∃ o,s.heap.get? a=UU o/\H a=UX)->ZZ a s.heap h'->hI X.prog X.w H h':=λ{a h'} ha hs b ob e=>by
  obtain⟨_,_,hfree⟩:=ha;refine(I.aY b ob e).jl (λc w' hc q=>(hs.2 c ?_).trans q) (λ_ q=>q) λ_ _ q=>q;rintro rfl;rcases hc with rfl | hc
  . simp_all
  . simp_all
 rcases hx with hk | hk
 . refine wpAny_storeName_local hk hn (λh' hn' hs=>?_) hcls;obtain⟨oL,_,_,hoL,_⟩:=id hn;refine h _ ⟨I.ok,I.os,I.bare,⟨λb o e n hb hx=>?_,λb o e n hb hx=>?_,I.base.free,λb o e hx=>?_,I.base.gM,I.base.ik,I.base.jw⟩,⟨_,hn',λj y v' e1 e2 e3=>?_⟩,λy c e=>?_,I.free,I.dW,λp hp=>?_,tracked ⟨oL,hoL,I.free⟩ hs,by simpa using I.len⟩ ⟨_,hs,.inl rfl⟩
   . exact(hs.2 b (Vy (Vg (Vh e) I.ok.above))).trans (I.base.keep b o e n hb hx)
   . obtain⟨sl,e1⟩:=I.base.slot b o e n hb hx;exact⟨sl,(hs.2 b (Vy (Vg (Vh e) I.ok.above))).trans e1⟩
   . obtain⟨o',e1⟩:=I.base.there b o e hx;exact⟨o',(hs.2 b (Vy (Vg (Vh e) I.ok.above))).trans e1⟩
   . by_cases hj:j=i
     . subst hj;rw[hi] at e1;cases e1;rw[VL hiσ] at e2;cases e2;exact⟨u,r,.inl ⟨hk,by simp⟩⟩
     . rw[Vp (Xf hj)] at e2;obtain⟨u',r',q⟩:=hl j y v' e1 e2 e3;refine⟨u',r',?_⟩;rcases q with⟨k,e⟩ | ⟨k,c,e,z⟩
       . refine .inl ⟨k,?_⟩;have:y≠x:=λe=>hj (nL hN e1 (e ▸ hi));simp[this,e]
       . exact .inr ⟨k,c,e,z.sameBut hs (Cu y c e)⟩
   . obtain⟨w',z⟩:=I.cell y c e;exact⟨w',z.sameBut hs (Cu y c e)⟩
   . obtain⟨e,n,ne,nf,d⟩:=I.pin p hp;exact⟨(hs.2 p.1 ne).trans e,n,ne,nf,d⟩
 . have hfn:X.fn x=true:=by
    simp_all
   obtain⟨c,hc⟩:=I.ok.has x (.inl hk);obtain⟨w',z⟩:=I.cell x c hc;refine wpAny_storeName_cell I.ok.kind hk hc z (λh' hc' hs=>?_);obtain⟨oc,hoc,hocd⟩:=id z;refine h { s with heap:=h'} ⟨I.ok,I.os,I.bare,⟨λb o e n hb hx=>?_,λb o e n hb hx=>?_,I.base.free,λb o e hx=>?_,I.base.gM,I.base.ik,I.base.jw⟩,⟨m,hn.sameBut hs (Xf (Cu x c hc)),λj y v' e1 e2 e3=>?_⟩,λy c' e=>?_,I.free,I.dW,λp hp=>?_,tracked ⟨oc,hoc,I.dW x c hc⟩ hs,by simpa using I.len⟩ ⟨c,hs,.inr hc⟩
   . exact(hs.2 b (Vy (Vg (Vh e) (I.ok.C9 x c hfn hc)))).trans (I.base.keep b o e n hb hx)
   . obtain⟨sl,e1⟩:=I.base.slot b o e n hb hx;exact⟨sl,(hs.2 b (Vy (Vg (Vh e) (I.ok.C9 x c hfn hc)))).trans e1⟩
   . obtain⟨o',e1⟩:=I.base.there b o e hx;exact⟨o',(hs.2 b (Vy (Vg (Vh e) (I.ok.C9 x c hfn hc)))).trans e1⟩
   . by_cases hj:j=i
     . subst hj;rw[hi] at e1;cases e1;rw[VL hiσ] at e2;cases e2;exact⟨u,r,.inr ⟨.inl hk,c,hc,hc'⟩⟩
     . rw[Vp (Xf hj)] at e2;obtain⟨u',r',q⟩:=hl j y v' e1 e2 e3;refine⟨u',r',?_⟩;rcases q with q | ⟨k,c',e,z'⟩
       . exact .inl q
       . refine .inr ⟨k,c',e,z'.sameBut hs ?_⟩;rintro rfl;exact hj (nL hN e1 (I.ok.inj _ _ _ e hc ▸ hi))
   . by_cases hcc:c'=c
     . subst hcc;exact⟨_,hc'⟩
     . obtain⟨w2,z2⟩:=I.cell y c' e;exact⟨w2,z2.sameBut hs hcc⟩
   . obtain⟨e,n,ne,nf,d⟩:=I.pin p hp;refine⟨(hs.2 p.1 ?_).trans e,n,ne,nf,d⟩;intro q;rw[q,hoc] at e;have q':=V4 e;exact d w' (by rw[<- q'];exact hocd)
theorem mM{M:Model}{A:V6}{E:U1->U5->Prop}{i:Nat}{x:Str}{v:V}{u:U1}{Q:Unit->U5->Prop}(I:Inv X pins σ H s)(hN:X.N.Nodup)(hi:X.N[i]?=UU x)(hx:Loc X.env.scope x)(r:RelV v u)
  (h: ∀ s',Inv X pins (σ.set i (UU v)) H s'->Q () s') (hf:X.fn x=true\/X.env.scope.names.lookup x=UU .local:=by first | exact .inl rfl | exact .inr rfl | assumption):Vs M A (storeName X.env x u) Q E s :=
 pZ I hN hi hx r (λs' I' _=>h s' I') hf
theorem Inv.p5(I:Inv X pins σ H s)(ho:s'.os=s.os)(u:Un (gI X.stack) ch H H' s.heap s'.heap)(aY:hI X.prog X.w H' s'.heap)(hg:Yx s'.gens)
  (hch: ∀ b∈ch,(b∈X.ex\/X.s₀.heap.objs.size<=b)/\b≠X.env.locals/\(∀ x c,X.env.cells.lookup x=UU c->c≠b)/\ ∀ p∈X.pn++pins,p.1≠b):Inv X pins σ H' s':=by
 obtain⟨h',g',d',t',o'⟩:=s';have e:=ho;subst e;exact I.call (g':=g') (t':=t') (d':=d') u aY hg hch
end
abbrev XK:=U1->Option U9->Hp->Prop
abbrev St:=List (Option V)
abbrev VK:=V->Hp->Prop
abbrev TE:=St->Hp->VK->Prop
abbrev TT:=St->Hp->(Bool->Hp->Prop)->Prop
abbrev TA:=St->Hp->(List V->Hp->Prop)->Prop
structure Ends where
 nx:St->Hp->Prop
 rt:VK
 bk:St->Hp->Prop:=λ_ _=>False
 ct:St->Hp->Prop:=λ_ _=>False
abbrev TS:=Ends->St->Hp->Prop
def EP X (pins:List (U9 × Obj)) (σ :St) (Q:VK) (u:U1) (s':U5):= ∃ v H',Inv X pins σ H' s'/\RelV v u/\Q v H'
def TP X (pins:List (U9 × Obj)) (σ :St) (Q:Bool->Hp->Prop) b (s':U5):= ∃ H',Inv X pins σ H' s'/\Q b H'
def AP X (pins:List (U9 × Obj)) (σ :St) (Q:List V->Hp->Prop) (us:List U1) (s':U5):= ∃ vs H',Inv X pins σ H' s'/\Vals vs us/\Q vs H'
def SP X (pins:List (U9 × Obj)) (D:Ends) (f:Flow) (s':U5) :=
 match f with
 | .next=> ∃ σ' H',Inv X pins σ' H' s'/\D.nx σ' H'
 | .brk=> ∃ σ' H',Inv X pins σ' H' s'/\D.bk σ' H'
 | .cont=> ∃ σ' H',Inv X pins σ' H' s'/\D.ct σ' H'
 | .ret u=> ∃ v σ' H',Inv X pins σ' H' s'/\RelV v u/\D.rt v H'
def PE X e (t:TE) :=
 ∀ pins s(σ :St) H Q,Inv X pins σ H s->t σ H Q->Vs (Vv X.prog X.w) X.A (WT e X.env) (EP X pins σ Q) X.xe s
def PT X e (t:TT) :=
 ∀ pins s(σ :St) H Q,Inv X pins σ H s->t σ H Q->Vs (Vv X.prog X.w) X.A (ab1 e X.env (WT e X.env)) (TP X pins σ Q) X.xe s
def PW X e (t:TT) :=
 ∀ whole pins s(σ :St) H Q,Inv X pins σ H s->t σ H Q->Vs (Vv X.prog X.w) X.A (ab1 e X.env whole) (TP X pins σ Q) X.xe s
theorem PW.pt(h:PW X e t):PT X e t:=h _
def PA X (es:List VN) (t:TA) :=
 ∀ pos pins s(σ :St) H Q,Inv X pins σ H s->t σ H Q->Vs (Vv X.prog X.w) X.A (spliced (YX pos (VR es X.env))) (AP X pins σ Q) X.xe s
def PS X st (t:TS) :=
 ∀ pins s(σ :St) H D,Inv X pins σ H s->t D σ H->Vs (Vv X.prog X.w) X.A (exec st X.env) (SP X pins D) X.xe s
def oO X (st:List WV) (t:TS) :=
 ∀ pins s(σ :St) H D,Inv X pins σ H s->t D σ H->Vs (Vv X.prog X.w) X.A (execs st X.env) (SP X pins D) X.xe s
theorem gE(h:Vs M A t Q E s)(hQ: ∀ a s,Q a s->Q' a s):Vs M A t Q' E s:=VA h hQ λ_ _ x=>x
theorem kO(h:Vs M A t (EP X pins σ Q) E s)(k: ∀ u s v H,Inv X pins σ H s->RelV v u->Q v H->Q' u s):Vs M A t Q' E s:=gE h λu s z=>by obtain⟨v,H,a,b,c⟩:=z;exact k u s v H a b c
theorem Fe(h:Vs M A t (AP X pins σ Q) E s)(k: ∀ u s v H,Inv X pins σ H s->Vals v u->Q v H->Q' u s):Vs M A t Q' E s:=gE h λu s z=>by obtain⟨v,H,a,b,c⟩:=z;exact k u s v H a b c
theorem uH(h:Vs M A t (TP X pins σ Q) E s)(k: ∀ u s H,Inv X pins σ H s->Q u H->Q' u s):Vs M A t Q' E s:=gE h λu s z=>by obtain⟨H,a,c⟩:=z;exact k u s H a c
section
variable {X:Cx}
noncomputable def yj(i:Nat):TE:=fun σ H Q=> ∃ v, σ[i]?=UU (UU v)∧Q v H
noncomputable def tC(v:V):TE:=λ_ H Q=>Q v H
theorem mR{pos}(hN:X.N[i]?=UU x)(hv:Ic X.env.scope x)(hd:(x == ("__debug__"))=false:=by decide)(hcd:(x == ("__classdict__"))=false:=by decide):PE X (.Name x pos) (yj i):=by
 intro pins s σ H Q I h;obtain⟨v,e,h⟩:=h;obtain⟨m,hn,hl⟩:=I.loc;obtain⟨u,r,l⟩:=hl i x v hN e hv;have fin:EP X pins σ Q u s:=⟨v,H,I,r,h⟩
 rcases l with⟨hk,hm⟩ | ⟨hk,c,hc,hcell⟩
 . exact wpAny_Name (wpAny_loadName_local I.ok.kind hk hn hm fin) hd
 . rcases hk with hk | hk
   . exact wpAny_Name (wpAny_loadName_cell I.ok.kind hk hc hcell fin) hd
   . exact wpAny_Name (wpAny_loadName_free I.ok.kind hk hc hcell fin hcd) hd
theorem Lw:PE X (.Constant (.int i) j pos) (tC (.int i)):=λ_ _ _ H _ I h=>wpAny_Constant_int ⟨.int i,H,I.tok _,⟨_,rfl⟩,h⟩
theorem NO:PE X (.Constant (.bool b) j pos) (tC (.bl b)):=λ_ _ _ H _ I h=>Constant_bool ⟨.bl b,H,I,rfl,h⟩
theorem Mv:PE X (.Constant .none j pos) (tC .non):=λ_ _ _ H _ I h=>Constant_none ⟨.non,H,I,rfl,h⟩
theorem Im:PE X (.Constant (.str x) j pos) (tC (.str x)):=λ_ _ _ H _ I h=>Calls.Constant_str ⟨.str x,H,I.tok _,⟨_,rfl⟩,h⟩
def Gl(X:Cx) x:=X.env.kindOf x=UU .globalImplicit
theorem jM{E:U1->U5->Prop}{pins:List (U9 × Obj)}{s:U5}{σ :St}{H:Hp}{x:Str}{u:U1}{pos:Pos}{Q:U1->U5->Prop}(I:Inv X pins σ H s)(hg:Gl X x)(hm:X.mg x=UU u)(h:Q u s)
  (hd:(x == ("__debug__" :Str))=false:=by decide):Vs (Vv X.prog X.w) X.A (WT (.Name x pos) X.env) Q E s :=
 Z8 I.ok.kind hg (Calls.loadGlobal_global (by rw[I.ok.glob];exact I.mod.glob.keeps I.bk) hm h) hd
theorem kA{E:U1->U5->Prop}{pins:List (U9 × Obj)}{s:U5}{σ :St}{H:Hp}{x:Str}{u:U1}{pos:Pos}{Q:U1->U5->Prop}(I:Inv X pins σ H s)(hg:Gl X x)(hm:X.mg x=UX)(hv:Wm x=UU u)(h:Q u s)
  (hn:x≠ "__name__" :=by decide) (hd:(x == ("__debug__" :Str))=false:=by decide):Vs (Vv X.prog X.w) X.A (WT (.Name x pos) X.env) Q E s:=by
 obtain⟨mb,h1,h2⟩:=I.mod.blt;exact Z8 I.ok.kind hg (Calls.loadGlobal_builtin (by rw[I.ok.glob];exact I.mod.glob.keeps I.bk) hm (by rw[I.ok.blt];exact h1.keeps I.bk) ((h2 x hn).trans hv) h) hd
theorem lW(hg:Gl X x)(hm:X.mg x=UU u)(r:RelV v u)(hd:(x == ("__debug__"))=false:=by decide):PE X (.Name x pos) (tC v) :=
 λ_ _ _ H _ I h=>jM I hg hm ⟨v,H,I,r,h⟩ hd
theorem wW{pos}(hg:Gl X x)(hm:X.mg x=UX)(hv:Wm x=UU u)(r:RelV v u)(hn:x≠ "__name__" :=by decide)(hd:(x == ("__debug__"))=false:=by decide):PE X (.Name x pos) (tC v) :=
 λ_ _ _ H _ I h=>kA I hg hm hv ⟨v,H,I,r,h⟩ hn hd
variable{a b:VN}{ta tb:TE}{pos:Pos}
def PC X (op:CmpOp) a b (t:TE) :=
 ∀ pins s(σ :St) H Q,Inv X pins σ H s->t σ H Q ->
  Vs (Vv X.prog X.w) X.A (WT a X.env) (λv s₁ =>Vs (Vv X.prog X.w) X.A (WT b X.env) (λu s₂ =>Vs (Vv X.prog X.w) X.A (VF op v u) (EP X pins σ Q) X.xe s₂) X.xe s₁) X.xe s
theorem sE b (h:op≠ .In) (h2:op≠ .NotIn):Wg op b=false:=by
 have e1:(op == CmpOp.In)=false:=by simp_all
 have e2:(op == CmpOp.NotIn)=false:=by simp_all
 cases b<;>simp[Wg,e1,e2]
noncomputable def NW(ta:TE):TE:=fun σ H Q=>ta σ H λx H1=>Q (.bl (decide (x= .non))) H1
theorem RelV.AA(r:RelV x v):(v == Wc)=decide (x= .non):=by
 cases x with
 | non=>cases r;rfl
 | bl _=>cases r;rfl
 | int _=>obtain⟨t,rfl⟩:=r;rfl
 | str _=>obtain⟨t,rfl⟩:=r;rfl
 | byt _=>obtain⟨t,rfl⟩:=r;rfl
 | flt _=>obtain⟨t,rfl⟩:=r;rfl
 | ref _=>cases r;rfl
 | ty _=>cases r;rfl
theorem Lg(ha:PE X a ta):PC X .Is a (.Constant .none j pos') (NW ta):=by
 intro pins s σ H Q I h;refine kO (ha pins s σ H _ I h) λv s1 x H1 I1 r1 q1=>?_;exact Constant_none (is_none_gen ⟨.bl _,H1,I1,by rw[r1.AA];rfl,q1⟩)
noncomputable def tB(t:TE):TT:=fun σ H Q=>t σ H λx H1=> ∃ c,x= .bl c/\Q c H1
theorem Jz(h:PC X op a b t)(h1:Wg op b=false:=by first | exact sE _ (by decide) (by decide) | rfl):PE X (.Compare a [op] [b] pos) t:=λpins s σ H Q I hw=>wpAny_Compare1 (h pins s σ H Q I hw) h1
theorem B8(h:PC X op a b t)(h1:Wg op b=false:=by first | exact sE _ (by decide) (by decide) | rfl):PT X (.Compare a [op] [b] pos) (tB t):=by
 intro pins s σ H Q I hw;refine abd (gE (h pins s σ H _ I hw) λv s1 h1=>gE h1 λu s2 h2=>kO h2 λc s3 x H1 I1 r1 q1=>?_) h1;obtain⟨d,rfl,q⟩:=q1;cases r1;exact Wk ⟨H1,I1,q⟩
theorem M5(h:PE X e t)(he: ∀ whole,ab1 e X.env whole=(do let v <- whole;acj e.pos;ZD [v] (truthy v)):=by intro _;rfl):PT X e (tB t):=by
 intro pins s σ H Q I hw;refine isTrue_plain (kO (h pins s σ H _ I hw) λv s1 x H1 I1 r1 q1=>?_) (he _);obtain⟨d,rfl,q⟩:=q1;cases r1;exact Wk ⟨H1,I1,q⟩
variable{tA tB':TT}{rest:List VN}
noncomputable def Pr(t u:TT):TT:=fun σ H Q=>t σ H λc H1=>if c=true then u σ H1 Q else Q false H1
noncomputable def Ti(t u:TT):TT:=fun σ H Q=>t σ H λc H1=>if c=true then Q true H1 else u σ H1 Q
noncomputable def Oq(t:TT):TT:=fun σ H Q=>t σ H λc H1=>Q (!c) H1
theorem pw_and1(ha:PT X a tA):PW X (.BoolOp .And [a] pos) tA:=by
 intro wh pins s σ H Q I h;refine isTrue_and (gE (ha pins s σ H Q I h) λc s1 e=>?_);cases c with
 | true=>exact isTrue_and_nil e
 | false=>exact e
theorem pw_or1(ha:PT X a tA):PW X (.BoolOp .Or [a] pos) tA:=by
 intro wh pins s σ H Q I h;refine isTrue_or (gE (ha pins s σ H Q I h) λc s1 e=>?_);cases c with
 | false=>exact isTrue_or_nil e
 | true=>exact e
theorem pw_and(ha:PT X a tA)(hb:PW X (.BoolOp .And (b::rest) pos) tB'):PW X (.BoolOp .And (a::b::rest) pos) (Pr tA tB'):=by
 intro wh pins s σ H Q I h;refine isTrue_and (uH (ha pins s σ H _ I h) λc s1 H1 I1 q1=>?_);cases c with
 | true=>exact hb wh pins s1 σ H1 Q I1 q1
 | false=>exact⟨H1,I1,q1⟩
theorem pw_or(ha:PT X a tA)(hb:PW X (.BoolOp .Or (b::rest) pos) tB'):PW X (.BoolOp .Or (a::b::rest) pos) (Ti tA tB'):=by
 intro wh pins s σ H Q I h;refine isTrue_or (uH (ha pins s σ H _ I h) λc s1 H1 I1 q1=>?_);cases c with
 | true=>exact⟨H1,I1,q1⟩
 | false=>exact hb wh pins s1 σ H1 Q I1 q1
theorem JC(ha:PT X a tA):PT X (.UnaryOp .Not a pos) (Oq tA):=by
 intro pins s σ H Q I h;exact isTrue_not (ha pins s σ H (λc H1=>Q (!c) H1) I h)
noncomputable def HA(ta tb:TE):TE:=fun σ H Q=>ta σ H λx H1=> ∃ c,x= .bl c/\if c=true then tb σ H1 Q else Q (.bl false) H1
noncomputable def Pu(ta tb:TE):TE:=fun σ H Q=>ta σ H λx H1=> ∃ c,x= .bl c/\if c=true then Q (.bl true) H1 else tb σ H1 Q
noncomputable def Hr(ta:TE):TE:=fun σ H Q=>ta σ H λx H1=> ∃ c,x= .bl c/\Q (.bl (!c)) H1
theorem Nk(h:PE X a t):PE X (.BoolOp op [a] pos) t:=λpins s σ H Q I hw=>BoolOp_one (h pins s σ H Q I hw)
theorem Lx(ha:PE X a ta)(hb:PE X (.BoolOp .And (b::rest) pos) tb):PE X (.BoolOp .And (a::b::rest) pos) (HA ta tb):=by
 intro pins s σ H Q I h;refine BoolOp_and (kO (ha pins s σ H _ I h) λv s1 x H1 I1 r1 q1=>?_);obtain⟨c,rfl,q1⟩:=q1;cases r1;refine Wk ?_;cases c with
 | true=>exact hb pins s1 σ H1 Q I1 q1
 | false=>exact⟨.bl false,H1,I1,rfl,q1⟩
theorem Pn(ha:PE X a ta)(hb:PE X (.BoolOp .Or (b::rest) pos) tb):PE X (.BoolOp .Or (a::b::rest) pos) (Pu ta tb):=by
 intro pins s σ H Q I h;refine BoolOp_or (kO (ha pins s σ H _ I h) λv s1 x H1 I1 r1 q1=>?_);obtain⟨c,rfl,q1⟩:=q1;cases r1;refine Wk ?_;cases c with
 | false=>exact hb pins s1 σ H1 Q I1 q1
 | true=>exact⟨.bl true,H1,I1,rfl,q1⟩
theorem IJ(ha:PE X a ta):PE X (.UnaryOp .Not a pos) (Hr ta):=by
 intro pins s σ H Q I h;refine UnaryOp_ (kO (ha pins s σ H _ I h) λv s1 x H1 I1 r1 q1=>?_);obtain⟨c,rfl,q1⟩:=q1;cases r1;exact not_of (Wk ⟨.bl (!c),H1,I1,rfl,q1⟩)
noncomputable def Uk(t:TT)(ta tb:TE):TE:=fun σ H Q=>t σ H λc H1=>if c=true then ta σ H1 Q else tb σ H1 Q
theorem AX(hc:PT X c tA)(ha:PE X a ta)(hb:PE X b tb):PE X (.IfExp c a b pos) (Uk tA ta tb):=by
 intro pins s σ H Q I h;refine wpAny_IfExp (uH (hc pins s σ H _ I h) λd s1 H1 I1 q1=>?_);cases d with
 | true=>exact ha pins s1 σ H1 Q I1 q1
 | false=>exact hb pins s1 σ H1 Q I1 q1
end
def gP(K:UW) H a (xs:List V) :=
 Rd H a (.lst xs) \/
  ∃(o:Obj)(ar:Array U1)(n:Nat),K.lookup a=UU o/\o.cls= .type "list" /\o.dict=UX/\o.data= .seq ar n/\ar.size<=Vj/\Vals xs ar.toList
def fU(K:UW) H a (xs:List V) :=
 Rd H a (.tup xs) \/
  ∃(o:Obj)(ar:Array U1)(n:Nat),K.lookup a=UU o/\o.cls= .type "tuple" /\o.data= .seq ar n/\ar.size<=Vj/\Vals xs ar.toList
noncomputable def Si:U1->Option V
 | .none=>UU .non
 | .bool b=>UU (.bl b)
 | .int i _=>UU (.int i)
 | .str x _=>UU (.str x)
 | .bytes b _=>UU (.byt b)
 | .float b _=>UU (.flt b)
 | .ref a=>UU (.ref a)
 | .type n=>UU (.ty n)
 | _=>UX
theorem RelV.abs(r:RelV x u):Si u=UU x:=by
 cases x with
 | non=>cases r;rfl
 | bl _=>cases r;rfl
 | int _=>obtain⟨t,rfl⟩:=r;rfl
 | str _=>obtain⟨t,rfl⟩:=r;rfl
 | byt _=>obtain⟨t,rfl⟩:=r;rfl
 | flt _=>obtain⟨t,rfl⟩:=r;rfl
 | ref _=>cases r;rfl
 | ty _=>cases r;rfl
theorem RelV.inj(r:RelV x u)(q:RelV y u):x=y:=V4 (r.abs.symm.trans q.abs)
theorem Vals.inj: ∀{xs ys us},Vals xs us->Vals ys us->xs=ys
 | _,_,_,.nil,.nil=>rfl
 | _,_,_,.cons r t,.cons r' t'=>by rw[r.inj r',Vals.inj t t']
section
variable{X:Cx}{pins:List (U9 × Obj)}{σ :St}{H:Hp}{s:U5}{a:U9}{xs ys:List V}
theorem gP.of{K:UW}(h:H a=UU (.lst xs)):gP K H a xs:= .inl (.inl h)
theorem fU.of{K:UW}(h:H a=UU (.tup xs)):fU K H a xs:= .inl (.inl h)
theorem Inv.list(I:Inv X pins σ H s)(h:gP X.K H a xs): ∃ ar ,Vals xs ar/\PlainL s.heap a ar.toArray/\xs.length<=Vj:=by
 rcases h with h | ⟨o,ar,n,hk,hc,hd,hs,hz,r⟩
 . obtain⟨z,ar,n,r,e⟩:=h.ok I.aY;exact⟨ar,r,⟨_,n,e,rfl,rfl,rfl⟩,z⟩
 . refine⟨ar.toList,r,⟨o,n,I.gU a o hk,hc,hd,by omega⟩,?_⟩;have e:=r.length;simp only[ZW] at e;omega
theorem Inv.tuple(I:Inv X pins σ H s)(h:fU X.K H a xs): ∃ ar ,Vals xs ar/\IsTup s.heap a ar.toArray/\xs.length<=Vj:=by
 rcases h with h | ⟨o,ar,n,hk,hc,hs,hz,r⟩
 . obtain⟨z,ar,r,p⟩:=h.ok I.aY;exact⟨ar,r,p.tup,z⟩
 . refine⟨ar.toList,r,⟨o,I.gU a o hk,hc,n,by omega⟩,?_⟩;have e:=r.length;simp only[ZW] at e;omega
theorem Inv.Az(I:Inv X pins σ H s)(h:gP X.K H a xs)(h':gP X.K H a ys):xs=ys:=by
 obtain⟨ar,r,⟨o,n,e,_,_,d⟩,_⟩:=I.list h;obtain⟨its',r',⟨o',n',e',_,_,d'⟩,_⟩:=I.list h';rw[e] at e';cases e';rw[d] at d';injection d' with d1 _;have:ar=its':=by simpa using congrArg adj d1
 subst this;exact r.inj r'
theorem Inv.ki(I:Inv X pins σ H s)(h:fU X.K H a xs)(h':fU X.K H a ys):xs=ys:=by
 obtain⟨ar,r,⟨o,e,_,n,d⟩,_⟩:=I.tuple h;obtain⟨its',r',⟨o',e',_,n',d'⟩,_⟩:=I.tuple h';rw[e] at e';cases e';rw[d] at d';injection d' with d1 _;have:ar=its':=by simpa using congrArg adj d1
 subst this;exact r.inj r'
end
abbrev Cx.bu(X:Cx)(E:U1->U5->Prop):Cx:={ X with xe:=E}
abbrev Cx.dw(X:Cx):Cx:=X.bu λ_ _=>False
theorem Cx.Ok.bu{X:Cx}(ok:X.Ok) E:(X.bu E).Ok :=
 ⟨ok.mod,ok.kind,ok.glob,ok.blt,ok.above,ok.inj,ok.has,ok.C9,ok.hd,ok.frames,ok.H9,ok.M9,ok.bs,ok.xA,ok.ui,ok.uZ,ok.gZ,ok.zE⟩
theorem Cx.Ok.bK{X:Cx}(ok:(X.bu E).Ok):X.Ok :=
 ⟨ok.mod,ok.kind,ok.glob,ok.blt,ok.above,ok.inj,ok.has,ok.C9,ok.hd,ok.frames,ok.H9,ok.M9,ok.bs,ok.xA,ok.ui,ok.uZ,ok.gZ,ok.zE⟩
section
variable{X:Cx}{pins:List (U9 × Obj)}{σ :St}{H:Hp}{s:U5}{E:U1->U5->Prop}
theorem Inv.bu(I:Inv X pins σ H s) E:Inv (X.bu E) pins σ H s:=⟨I.ok.bu E,I.os,I.bare,I.base,I.loc,I.cell,I.free,I.dW,I.pin,I.aY,I.len⟩
theorem Inv.bK(I:Inv (X.bu E) pins σ H s):Inv X pins σ H s:=⟨I.ok.bK,I.os,I.bare,I.base,I.loc,I.cell,I.free,I.dW,I.pin,I.aY,I.len⟩
theorem SP.bK(h:SP (X.bu E) pins D f s'):SP X pins D f s':=by
 cases f with
 | next=>obtain ⟨σ',H',I,q⟩:=h;exact ⟨σ',H',I.bK,q⟩
 | brk=>obtain ⟨σ',H',I,q⟩:=h;exact ⟨σ',H',I.bK,q⟩
 | cont=>obtain ⟨σ',H',I,q⟩:=h;exact ⟨σ',H',I.bK,q⟩
 | ret u=>obtain ⟨v, σ',H',I,r,q⟩:=h;exact ⟨v, σ',H',I.bK,r,q⟩
theorem PE.dw{e:VN}{t:TE}(h:PE X.dw e t):PE X e t:=λpins s σ H Q I hw =>
 VA (h pins s σ H Q (I.bu _) hw) (λ_ _ ⟨v,H',I',r,q⟩=>⟨v,H',I'.bK,r,q⟩) λ_ _ z=>Xb z
theorem PT.dw{e:VN}{t:TT}(h:PT X.dw e t):PT X e t:=λpins s σ H Q I hw =>
 VA (h pins s σ H Q (I.bu _) hw) (λ_ _ ⟨H',I',q⟩=>⟨H',I'.bK,q⟩) λ_ _ z=>Xb z
theorem oO.dw{st}(h:oO X.dw st t):oO X st t:=λpins s σ H D I hw =>
 VA (h pins s σ H D (I.bu _) hw) (λ_ _ q=>q.bK) λ_ _ z=>Xb z
end
section
variable{X:Cx}{st:WV}{rest:List WV}{t u:TS}{e:VN}{te:TE}{pos:Pos}
noncomputable def A8:TS:=λD σ H=>D.nx σ H
noncomputable def Kl(t u:TS):TS:=λD σ H=>t { D with nx:=u D} σ H
theorem D4:oO X [] A8:=λ_ _ σ H _ I h=>YO ⟨σ,H,I,h⟩
theorem zW(h1:PS X st t)(h2:oO X rest u):oO X (st::rest) (Kl t u):=by
 intro pins s σ H D I h;refine aaE (gE (h1 pins s σ H { D with nx:=u D} I h) λf s1 q=>?_);cases f with
 | next =>
  obtain⟨σ',H',I',q⟩:=q
  exact h2 pins s1 σ' H' D I' q
 | ret v=>exact q
 | brk=>exact q
 | cont=>exact q
theorem F7(h1:PS X st t):oO X [st] t:=by
 intro pins s σ H D I h;refine aaE (gE (h1 pins s σ H D I h) λf s1 q=>?_);cases f with
 | next=>exact YO q
 | ret v=>exact q
 | brk=>exact q
 | cont=>exact q
theorem Inv.quiet{σ :St}(I:Inv X pins σ H s):interactive X.env=false:=by simp[interactive,I.ok.kind]
noncomputable def HD(te:TE):TS:=λD σ H=>te σ H λ_ H1=>D.nx σ H1
theorem Ge(he:PE X e te)(hs:WI e UX pos.line X.env=pure false:=by rfl):PS X (.Expr e pos) (HD te):=by
 intro pins s σ H D I h;exact wpAny_Expr_any (kO (he pins s σ H _ I h) λv s1 x H1 I1 r1 q1=>⟨σ,H1,I1,q1⟩) I.quiet hs
noncomputable def Ob(te:TE):TS:=λD σ H=>te σ H D.rt
theorem Ip(he:PE X e te):PS X (.Return (UU e) pos) (Ob te):=by
 intro pins s σ H D I h;exact wpAny_Return_some (kO (he pins s σ H _ I h) λv s1 x H1 I1 r1 q1=>⟨x, σ,H1,I1,r1,q1⟩)
noncomputable def OE(c:TT)(t u:TS):TS:=λD σ H=>c σ H λb H1=>if b=true then t D σ H1 else u D σ H1
theorem NR(hc:PT X c tc)(ha:oO X a t)(hb:oO X b u):PS X (.If c a b pos) (OE tc t u):=by
 intro pins s σ H D I h;refine wpAny_If (uH (hc pins s σ H _ I h) λd s1 H1 I1 q1=>?_);cases d with
 | true=>exact ha pins s1 σ H1 D I1 q1
 | false=>exact hb pins s1 σ H1 D I1 q1
end
abbrev TG:=V->St->Hp->(St->Hp->Prop)->Prop
abbrev Dc:=List V->St->Hp->(St->Hp->Prop)->Prop
def PG X target (t:TG) :=
 ∀ pins s(σ :St) H v u Q,Inv X pins σ H s->RelV v u->t v σ H Q ->
  Vs (Vv X.prog X.w) X.A (Zw target X.env u) (λ_ s'=> ∃ σ' H',Inv X pins σ' H' s'/\Q σ' H') X.xe s
def Oe X (ts:List VN) (t:Dc) :=
 ∀ pins s(σ :St) H vs us Q,Inv X pins σ H s->Vals vs us->t vs σ H Q ->
  Vs (Vv X.prog X.w) X.A (assignInOrder ((Wx ts X.env).map (·.2)) us) (λ_ s'=> ∃ σ' H',Inv X pins σ' H' s'/\Q σ' H') X.xe s
abbrev Nj:=V->V->V->Hp->(Hp->Prop)->Prop
def pj X (t:Nj) :=
 ∀ pins s(σ :St) H o i v ov iv u Q,Inv X pins σ H s->RelV o ov->RelV i iv->RelV v u->t o i v H Q ->
  Vs (Vv X.prog X.w) X.A (setItem ov iv u) (λ_ s'=> ∃ H',Inv X pins σ H' s'/\Q H') X.xe s
section
variable{X:Cx}{pos:Pos}
noncomputable def dz(i:Nat):TG:=λv σ H Q=>Q (σ.set i (UU v)) H
theorem FN(hN:X.N.Nodup)(hi:X.N[i]?=UU x)(hx:Loc X.env.scope x)(hf:X.fn x=true\/X.env.scope.names.lookup x=UU .local:=by first | exact .inl rfl | exact .inr rfl | assumption):PG X (.Name x pos) (dz i):=by
 intro pins s σ H v u Q I r h;exact wpAny_assign_Name (mM I hN hi hx r (λs' I'=>⟨_,H,I',h⟩) hf)
noncomputable def yX:Dc:=λvs σ H Q=>vs=[]/\Q σ H
noncomputable def kX(t:TG)(u:Dc):Dc:=λvs σ H Q=> ∃ v r,vs=v::r/\t v σ H fun σ' H'=>u r σ' H' Q
theorem D8:Oe X [] yX:=by
 intro pins s σ H vs us Q I r h;obtain⟨e,h⟩:=h;subst e;exact assignInOrder_nil ⟨σ,H,I,h⟩
theorem BB(h1:PG X e t)(h2:Oe X es u)
  (hs:(Wx (e::es) X.env).map (·.2)=Zw e X.env::(Wx es X.env).map (·.2):=by rfl):Oe X (e::es) (kX t u):=by
 intro pins s σ H vs us Q I r h;obtain⟨v,vr,e1,h⟩:=h;subst e1;cases r with
 | cons r rr =>
  rw[hs]
  refine assignInOrder_cons (gE (h1 pins s σ H _ _ _ I r h) λ_ s1 z9=>?_);obtain⟨σ1,H1,I1,q1⟩:=z9
  exact h2 pins s1 σ1 H1 _ _ Q I1 rr q1
noncomputable def vq(K:UW)(n:Nat)(t:Dc):TG:=λv σ H Q=> ∃ a xs,v= .ref a/\fU K H a xs/\xs.length=n/\t xs σ H Q
theorem IP{k}(hc:X.calm=true)(h:Oe X es t)
  (hn:(Wx es X.env).length=n:=by rfl) (hst:(Wx es X.env).findIdx? (·.1)=UX:=by rfl):PG X (.Tuple es k pos) (vq X.K n t):=by
 intro pins s σ H v u Q I r hw;obtain⟨a,xs,e1,hq,hl,hw⟩:=hw;subst e1;cases r;obtain⟨ar,rv,ht,hz⟩:=I.tuple hq;refine assign_Tuple_tuple (I.ok.hd hc) ht (by simp[hn,<- hl,rv.length]) hst λh' hx=>?_;have I1:=I.kept (t':=s.toks) λb o e=>hx b o (Vy (Vh e)) e;exact h pins _ σ H xs _ Q I1 (by omega) hw
noncomputable def Sl(to ti:TE)(t:Nj):TG:=λv σ H Q=>to σ H λo H1=>ti σ H1 λi H2=>t o i v H2 λH3=>Q σ H3
theorem Jf(ho:PE X o to)(hi:PE X i ti)(hs:pj X t)
  (ha: ∀ v,Zw (.Subscript o i pos) X.env v=(do
   let ov <- ZD [v] (WT o X.env)
   let iv <- ZD [v,ov] (WT i X.env)
   acj pos
   ZD [v,ov,iv] (setItem ov iv v)
   release [v,ov,iv] []):=by intro _;rfl):PG X (.Subscript o i pos) (Sl to ti t):=by
 intro pins s σ H v u Q I r h;rw[ha];refine UY (WU (kO (ho pins s σ H _ I h) λov s1 x H1 I1 r1 q1=>?_));refine UY (WU (kO (hi pins s1 σ H1 _ I1 q1) λiv s2 y H2 I2 r2 q2=>?_));refine UY (ZE (UY (WU (gE (hs pins s2 σ H2 x y v ov iv u _ I2 r1 r2 r q2) λ_ s3 z9=>?_))));obtain⟨H3,I3,q3⟩:=z9;exact wpAny_release ⟨σ,H3,I3,q3⟩
noncomputable def Ab(te:TE)(g:TG):TS:=λD σ H=>te σ H λx H1=>g x σ H1 D.nx
theorem Mm(he:PE X e te)(hg:PG X tg g)(hs:abS [tg] e pos.line X.env=pure false:=by rfl)(hw:abT [tg] e X.env=pure UX:=by rfl)
  (h1:(Wx [tg] X.env).map (·.2)=[Zw tg X.env]:=by rfl):PS X (.Assign [tg] e pos) (Ab te g):=by
 intro pins s σ H D I h;refine wpAny_Assign_stores (kO (he pins s σ H _ I h) λv s1 x H1 I1 r1 q1=>?_) hs hw;rw[h1];exact gE (hg pins s1 σ H1 x v _ I1 r1 q1) λ_ s2 q=>q
theorem LM(hN:X.N.Nodup)(hi:X.N[i]?=UU x)(hx:Loc X.env.scope x)(he:PE X e te)(hs:WI e (UU (.Name x pos')) pos.line X.env=pure false:=by rfl)(hf:X.fn x=true\/X.env.scope.names.lookup x=UU .local:=by first | exact .inl rfl | exact .inr rfl | assumption) :
  PS X (.Assign [.Name x pos'] e pos) (Ab te (dz i)):=by
 intro pins s σ H D I h;refine wpAny_Assign_Name (kO (he pins s σ H _ I h) λv s1 y H1 I1 r1 q1=>?_) hs;exact mM I1 hN hi hx r1 (λs2 I2=>⟨_,H1,I2,q1⟩) hf
end
structure It where
 go:Nat->Hp->Prop
 NI:Nat->Hp->V->Hp->Prop
 stop:Nat->Hp->Prop
def kq(X:Cx)(pins:List (U9 × Obj))(H:Hp) b :=
 H b=UX/\b≠X.env.locals/\b ∉ X.fs/\(b∈X.ex\/X.s₀.heap.objs.size<=b)/\(∀ x c,X.env.cells.lookup x=UU c->c≠b)/\ ∀ p∈X.pn++pins,p.1≠b
theorem Inv.M0{X:Cx}{pins:List (U9 × Obj)}{σ :St}{H H':Hp}{s:U5}{b:U9}(I:Inv X pins σ H s)(hb:s.heap.objs.size<=b)(hn:H' b=UX):kq X pins H' b:=by
 refine⟨hn,Xm (Vg I.lt hb),I.DJ hb,.inr (Vn I.sz hb),λx c e z=>?_,λp hp z=>?_⟩
 . obtain⟨v,q⟩:=I.cell x c e;exact absurd (Vg q.lt (by simp_all)) (Wf _)
 . exact absurd (Vg (Vh (I.pin p hp).1) (by simp_all)) (Wf _)
structure Turn(P:VE)(w:VY)(K:UW)(tg:VN)(J:It)(fp:List U9)(it:U9)(tn:Nat->Wb->Prop):Prop where
 mem:it∈fp
 obj: ∀ i h,tn i h-> ∀ b∈fp,∃ o,h.get? b=UU o/\ ∀ v,o.data≠ .cell v
 keep: ∀ i h h',tn i h->(∀ b∈fp,∀ o,h.get? b=UU o->h'.get? b=UU o)->tn i h'
 item: ∀(X:Cx),X.prog=P->X.w=w->X.K=K->X.calm=true-> ∀(i:Nat)(pins:List (U9 × Obj))(s:U5)(σ :St)(H:Hp)(E:U1->U5->Prop),Inv X pins σ H s->(∀ b∈fp,kq X pins H b)->tn i s.heap->J.go i H ->
  Vs (Vv P w) X.A (pyNext (.ref it)) (λr s1=> ∃ u,r=UU u /\
   Vs (Vv P w) X.A (aa7 tg (.ref it) u) (λ_ s2=> ∃ x H',Inv X pins σ H' s2/\RelV x u/\J.NI i H x H'/\tn (i+1) s2.heap/\ ∀ b∈fp,H' b=UX) E s1) E s
 done: ∀(X:Cx),X.prog=P->X.w=w->X.K=K->X.calm=true-> ∀(i:Nat)(pins:List (U9 × Obj))(s:U5)(σ :St)(H:Hp)(E:U1->U5->Prop),Inv X pins σ H s->(∀ b∈fp,kq X pins H b)->tn i s.heap->J.stop i H ->
  Vs (Vv P w) X.A (pyNext (.ref it)) (λr s1=>r=UX/\Inv X pins σ H s1) E s
 self: ∀(A:V6)(i:Nat)(s:U5)(Q:U1->U5->Prop)(E:U1->U5->Prop),tn i s.heap->Q (.ref it) s->Vs (Vv P w) A (acD (.ref it)) Q E s
abbrev TI:=St->Hp->(It->Hp->Prop)->Prop
def Ol X (pins:List (U9 × Obj)) (σ :St) tg (R:It->Hp->Prop) (itv:U1) (s2:U5) :=
 ∃(it:U9)(fp:List U9)(tn:Nat->Wb->Prop)(J:It)(H':Hp),itv= .ref it/\Inv X pins σ H' s2/\Turn X.prog X.w X.K tg J fp it tn/\tn 0 s2.heap/\(∀ b∈fp,kq X pins H' b)/\R J H'
def PI X tg iter (wi:TI) :=
 ∀ pins s(σ :St) H R,Inv X pins σ H s->wi σ H R ->
  Vs (Vv X.prog X.w) X.A (WT iter X.env) (λv s1=>Vs (Vv X.prog X.w) X.A (acD v) (Ol X pins σ tg R) X.xe s1) X.xe s
theorem xb{M : Model}{A : V6}{E : U1 -> U5 -> Prop}{s : U5}{tg : VN}{it : U9}{u : U1}{o : Obj}{n : String}{vs : Array U1}{Q : Unit -> U5 -> Prop}(ho : s.heap.get? it = UU o)(hc : o.cls = .type n)(hd : o.data = .fields vs)
    (hn : ["enumerate", "zip", "dict_itemiterator", "dict_reverseitemiterator", "odict_iterator", "itertools.zip_longest", "itertools.pairwise"].contains n = false) (hQ : Q () s) : Vs M A (aa7 tg (.ref it) u) Q E s := by
  cases tg <;> first
    | exact Vf hQ
    | (cases u <;> first
        | exact Vf hQ
        | (refine UY (YY ho ?_)
           rw [hc, hd]
           show Vs M A (if (["enumerate", "zip", "dict_itemiterator", "dict_reverseitemiterator", "odict_iterator", "itertools.zip_longest", "itertools.pairwise"].contains n && vs[0]? == UU (aar _)) = true then _ else _) Q E s
           rw [if_neg (by intro h; rw [hn] at h; cases h)]
           exact Vf hQ))
noncomputable def SY(K:UW)(a:U9):It :=
 ⟨λi H=> ∃ xs x,gP K H a xs/\xs[i]?=UU x,λi H x H'=>H'=H/\ ∀ xs,gP K H a xs->xs[i]?=UU x,λi H=> ∃ xs,gP K H a xs/\xs.length<=i⟩
noncomputable def Rn(K:UW)(a:U9):It :=
 ⟨λi H=> ∃ xs x,fU K H a xs/\xs[i]?=UU x,λi H x H'=>H'=H/\ ∀ xs,fU K H a xs->xs[i]?=UU x,λi H=> ∃ xs,fU K H a xs/\xs.length<=i⟩
noncomputable def Oz(lo:Int)(n:Nat):It:=⟨λi _=>i < n,λi H x H'=>H'=H/\x= .int (lo+i),λi _=>n<=i⟩
theorem yu{K} a it:Turn P w K tg (SY K a) [it] it (λi h=>h.IsListIter it a i) where
 mem:=by simp
 obj:=λi h st b hb=>by
  have e:b=it:=by simpa using hb
  subst e;obtain⟨o,e,c,d⟩:=st;exact⟨o,e,λv z=>by simp_all⟩
 keep:=λi h h' st k=>st.at λo e=>k it (by simp) o e
 item:=by
  intro X hP hw hK hc i pins s σ H E I hf st hg;subst hP hw hK;obtain⟨xs,x,hq,hx⟩:=hg;obtain⟨ar,rv,p,hz⟩:=I.list hq;obtain⟨u,hu,ru⟩:=rv.get hx;obtain⟨f0,f1,f2,f3,f4,f5⟩:=hf it (by simp);refine wpAny_pyNext_list_item st p.isList (x:=u) (by simpa using hu) λh' st' sb=>?_;have I1:=I.turned (t':=s.toks) (λb o hb e=>(sb.2 b hb).trans e) f0 f1 f3 f4 f5;obtain⟨o,e,c,d⟩:=id st';exact⟨u,rfl,xb (s:={ s with heap:=h'}) e c d (by decide) ⟨x,H,I1,ru,⟨rfl,λys hy=>by rw[I.Az hy hq];exact hx⟩,st',λb hb=>(hf b hb).1⟩⟩
 done:=by
  intro X hP hw hK hc i pins s σ H E I hf st hg;subst hP hw hK;obtain⟨xs,hq,hx⟩:=hg;obtain⟨ar,rv,p,hz⟩:=I.list hq;obtain⟨f0,f1,f2,f3,f4,f5⟩:=hf it (by simp);have hl:=rv.length;exact wpAny_pyNext_list_end (I.ok.hd hc) st p.isList (by simp;omega) λh' eb=>⟨rfl,I.turned (t':=s.toks) (λb o hb e=>eb b o hb e) f0 f1 f3 f4 f5⟩
 self:=λ_ _ _ _ _ st h=>wpAny_pyIter_listiter st h
theorem vt{K} a it:Turn P w K tg (Rn K a) [it] it (λi h=>h.IsTupleIter it a i) where
 mem:=by simp
 obj:=λi h st b hb=>by
  have e:b=it:=by simpa using hb
  subst e;obtain⟨o,e,c,d⟩:=st;exact⟨o,e,λv z=>by simp_all⟩
 keep:=λi h h' st k=>st.at λo e=>k it (by simp) o e
 item:=by
  intro X hP hw hK hc i pins s σ H E I hf st hg;subst hP hw hK;obtain⟨xs,x,hq,hx⟩:=hg;obtain⟨ar,rv,p,hz⟩:=I.tuple hq;obtain⟨u,hu,ru⟩:=rv.get hx;obtain⟨f0,f1,f2,f3,f4,f5⟩:=hf it (by simp);refine wpAny_pyNext_tuple_item st (show s.heap.IsTuple a ar.toArray from p) (x:=u) (by simpa using hu) λh' st' sb=>?_;have I1:=I.turned (t':=s.toks) (λb o hb e=>(sb.2 b hb).trans e) f0 f1 f3 f4 f5;obtain⟨o,e,c,d⟩:=id st';exact⟨u,rfl,xb (s:={ s with heap:=h'}) e c d (by decide) ⟨x,H,I1,ru,⟨rfl,λys hy=>by rw[I.ki hy hq];exact hx⟩,st',λb hb=>(hf b hb).1⟩⟩
 done:=by
  intro X hP hw hK hc i pins s σ H E I hf st hg;subst hP hw hK;obtain⟨xs,hq,hx⟩:=hg;obtain⟨ar,rv,p,hz⟩:=I.tuple hq;obtain⟨f0,f1,f2,f3,f4,f5⟩:=hf it (by simp);have hl:=rv.length;exact wpAny_pyNext_tuple_end (I.ok.hd hc) st (show s.heap.IsTuple a ar.toArray from p) (by simp;omega) λh' eb=>⟨rfl,I.turned (t':=s.toks) (λb o hb e=>eb b o hb e) f0 f1 f3 f4 f5⟩
 self:=λ_ _ _ _ _ st h=>wpAny_pyIter_tupleiter st h
theorem vn{K} it lo n:Turn P w K tg (Oz lo n) [it] it (λi h=>IsRangeIter h it (lo+(i)*1) ((n) - (i)) 1) where
 mem:=by simp
 obj:=λi h st b hb=>by
  simp_all
 keep:=λi h h' st k=>k it (by simp) _ st
 item:=by
  intro X hP hw hK hc i pins s σ H E I hf st hg;subst hP hw hK;obtain⟨f0,f1,f2,f3,f4,f5⟩:=hf it (by simp);have W:=Walks.range (prog:=X.prog) (w:=X.w) (I.ok.hd hc) it lo 1 n;refine W.item i s _ _ hg st λv h' tk hv st' kk=>?_;obtain⟨t,rfl⟩:=hv;have I1:Inv X pins σ H { s with heap:=h',toks:=tk}:=I.turned (λb o hb e=>kk b o (by simpa using hb) e) f0 f1 f3 f4 f5;refine⟨_,rfl,xb (s:={ s with heap:=h',toks:=tk}) (n:= "range_iterator") st' rfl rfl (by decide) ⟨.int (lo+i),H,I1,⟨t,?_⟩,⟨rfl,rfl⟩,st',λb hb=>(hf b hb).1⟩⟩;rw[Int.mul_one]
 done:=by
  intro X hP hw hK hc i pins s σ H E I hf st hg;obtain⟨f0,f1,f2,f3,f4,f5⟩:=hf it (by simp);exact wpAny_pyNext_range_end (I.ok.hd hc) st (by have:n<=i:=hg;omega) λh' eb=>⟨rfl,I.turned (t':=s.toks) (λb o hb e=>eb b o hb e) f0 f1 f3 f4 f5⟩
 self:=λ_ _ _ _ _ st h=>wpAny_pyIter_rangeiter st h
section
variable{X:Cx}{tg:VN}
theorem uf{pins:List (U9 × Obj)}{σ :St}{H:Hp}{s:U5}{R:It->Hp->Prop}{E:U1->U5->Prop}{lo hi:Int}{t u v:Tok}{tk:Nat}(I:Inv X pins σ H s)(h1: -(2 ^ 62)<=lo)(h2:lo < 2 ^ 62)(h3: -(2 ^ 62)<=hi)(h4:hi < 2 ^ 62)
  (q:R (Oz lo (hi - lo).toNat) H):Vs (Vv X.prog X.w) X.A (acD (.ref s.heap.objs.size)) (Ol X pins σ tg R) E { s with heap:=s.heap.push { cls:= .type "range",data:= .fields #[.int lo t,.int hi u,.int 1 v]},toks:=tk}:=by
 refine wpAny_pyIter_range (IsRange.new ..) (small_one h1 h2 h3 h4) ?_;have I1:Inv X pins σ H { s with heap:=s.heap.push { cls:= .type "range",data:= .fields #[.int lo t,.int hi u,.int 1 v]},toks:=tk}:=I.kept λb o e=>U4 _ e;refine⟨(s.heap.push { cls:= .type "range",data:= .fields #[.int lo t,.int hi u,.int 1 v]}).objs.size,[(s.heap.push { cls:= .type "range",data:= .fields #[.int lo t,.int hi u,.int 1 v]}).objs.size],_,_,H,rfl,
  I1.kept (t':=tk) λb o e=>U4 _ e,vn _ lo (hi - lo).toNat,?_,λb hb=>?_,q⟩
 . have e1:lo+((0:Nat))*1=lo:=by simp
   have e2:(((hi - lo).toNat)) - ((0:Nat))=Builtin.Range.rangeSize lo hi 1:=by rw[rangeSize_one];split<;>omega
   rw[e1,e2];exact Vq _ rfl
 . have e:b=(s.heap.push { cls:= .type "range",data:= .fields #[.int lo t,.int hi u,.int 1 v]}).objs.size:=by simpa using hb
   subst e;exact I1.M0 (Vb _) (I1.aY.fresh (Vb _))
def QY(ta:TA):TI:=fun σ H R=>ta σ H λvs H1=> ∃ j ,vs=[.int j]/\ -(2 ^ 62)<=j/\j < 2 ^ 62/\R (Oz 0 j.toNat) H1
def Ou(ta:TA):TI:=fun σ H R=>ta σ H λvs H1=> ∃ i j:Int,vs=[.int i,.int j]/\(-(2 ^ 62)<=i/\i < 2 ^ 62/\ -(2 ^ 62)<=j/\j < 2 ^ 62)/\R (Oz i (j - i).toNat) H1
theorem ya(hg:Gl X "range")(hm:X.mg "range" =UX)(ha:PA X [a] ta)(hs:VR [a] X.env=[(false,WT a X.env)]:=by rfl):PI X tg (.Call (.Name "range" p) [a] [] pos) (QY ta):=by
 intro pins s σ H R I h;refine Call_ (kA I hg hm boot_range (Xn (Fe (ha pos pins s σ H _ I h) λus s1 vs H1 I1 r1 q1=>?_) hs rfl));obtain⟨j,e,q1,q2,q⟩:=q1;subst e;cases r1 with
 | cons r rr =>
  cases rr
  obtain⟨t,rfl⟩:=r
  exact call_range_1 (uf I1 (by omega) (by omega) q1 q2 (by simpa using q))
theorem yV{a b:VN}{ta:TA}{p pos:Pos}(hg:Gl X "range")(hm:X.mg "range" =UX)(ha:PA X [a,b] ta)(hs:VR [a,b] X.env=[(false,WT a X.env),(false,WT b X.env)]:=by rfl)(hs2:VR [b] X.env=[(false,WT b X.env)]:=by rfl) :
  PI X tg (.Call (.Name "range" p) [a,b] [] pos) (Ou ta):=by
 intro pins s σ H R I h;refine Call_ (kA I hg hm boot_range (Xn (gE (ha pos pins s σ H _ I h) λus s1 ⟨vs,H1,I1,r1,q1⟩=>?_) (by rw[hs,hs2]) (by rw[hs2];rfl)));obtain⟨i,j,e,⟨q1,q2,q3,q4⟩,q⟩:=q1;subst e;cases r1 with
 | cons r rr =>
  cases rr with
  | cons r' rr =>
   cases rr
   obtain⟨t,rfl⟩:=r
   obtain⟨t',rfl⟩:=r'
   exact call_range_2 (uf I1 q1 q2 q3 q4 q)
noncomputable def OR(wi:TI)(g:TG)(tb:TS):TS:=λD σ H=>wi σ H λJ H1=> ∃ W:Nat->Nat->St->Hp->Prop,(∃ m,W 0 m σ H1)/\ ∀ i m σ H,W i m σ H ->
 (J.stop i H/\D.nx σ H)\/(J.go i H/\ ∃ N ,(∀ σ' H',N σ' H'-> ∃ m',m' < m/\W (i+1) m' σ' H')/\ ∀ x H',J.NI i H x H'->g x σ H' fun σ2 H2=>tb { D with nx:=N,ct:=N,bk:=D.nx} σ2 H2)
noncomputable def rB(fp:List U9)(h:Wb):=fp.filterMap λb=>(h.get? b).map λo=>(b,o)
theorem dE(hb:b∈fp)(e:h.get? b=UU o):(b,o)∈rB fp h:=ab2.mpr ⟨b,hb,by rw[e];rfl⟩
theorem yb(hp:p∈rB fp h):p.1∈fp/\h.get? p.1=UU p.2:=by
 obtain⟨b,hb,e⟩:=ab2.mp hp;cases q:h.get? b with
 | none=>simp_all
 | some o =>
  rw[q] at e
  have e':=V4 e
  subst e'
  exact⟨hb,q⟩
theorem Inv.pinned{σ :St}(I:Inv X pins σ H s)(hf: ∀ b∈fp,kq X pins H b)(ho: ∀ b∈fp,∃ o,s.heap.get? b=UU o/\ ∀ v,o.data≠ .cell v):Inv X (pins++rB fp s.heap) σ H s :=
 I.dJ λp hp=>(Vz.mp hp).elim (λz=>I.pin p (Vi _ z)) λz=>by
  obtain⟨hb,e⟩:=yb z;obtain⟨f0,f1,f2,_⟩:=hf p.1 hb;obtain⟨o,e',d⟩:=ho p.1 hb;rw[e] at e';cases e';exact⟨e,f0,f1,f2,d⟩
theorem Inv.nU{σ :St}(I:Inv X (pins++pl) σ H s):Inv X pins σ H s:=I.dJ λp hp=>I.pin p (Vi _ (VO _ hp))
theorem Lf(hp:abF (Vv X.prog X.w) X.A X.env X.xe)(hc:X.calm=true)(hi:PI X tg iter wi)(hg:PG X tg g)(hb:oO X body tb)
  (hs: ∀ x,VH iter X.env x=pure x:=by intro _;rfl):PS X (.For tg iter body [] pos) (OR wi g tb):=by
 intro pins s σ H D I h;refine wpAny_For (gE (hi pins s σ H _ I h) λv s1 h1=>gE h1 λitv s2 h2=>?_) hs;obtain ⟨it,fp,tn,J,H2,e,I2,T,st2,f2,W,⟨m0,w0⟩,turn⟩:=h2;subst e;have stat: ∀{H':Hp},(∀ b∈fp,H' b=UX)-> ∀ b∈fp,kq X pins H' b:=λhn b hb=>⟨hn b hb,(f2 b hb).2⟩
 refine codeAny_forLoop_any (λn s'=> ∃ i σ' H',Inv X pins σ' H' s'∧tn i s'.heap∧(∀ b∈fp,H' b=UX)∧W i n σ' H') ?_ m0 ⟨0, σ,H2,I2,st2,λb hb=>(f2 b hb).1,w0⟩;rintro n s3 ⟨i, σ3,H3,I3,st3,fr3,w3⟩;rcases turn i n σ3 H3 w3 with ⟨stop,qn⟩ | ⟨go,N,hN,step⟩
 . refine YQ hp (gE (T.done X rfl rfl rfl hc i pins s3 σ3 H3 X.xe I3 (stat fr3) st3 stop) λr s4 z9=>?_);obtain ⟨hr,I4⟩:=z9;subst hr;exact YO ⟨σ3,H3,I4,qn⟩
 . refine YQ hp (gE (T.item X rfl rfl rfl hc i pins s3 σ3 H3 X.xe I3 (stat fr3) st3 go) λr s4 z9=>?_);obtain⟨u,hr,h4⟩:=z9;subst hr;refine YQ hp (gE h4 λ_ s5 z9=>?_);obtain⟨x,H5,I5,r5,y5,st5,fr5⟩:=z9;have I5':=I5.pinned (stat fr5) (T.obj _ _ st5);refine YQ hp (gE (hg _ s5 σ3 H5 x u _ I5' r5 (step x H5 y5)) λ_ s6 z9=>?_);obtain⟨σ6,H6,I6,q6⟩:=z9;refine YQ hp (gE (hb _ s6 σ6 H6 _ I6 q6) λf s7 q7=>?_);have again: ∀{σ7:St}{H7:Hp},Inv X (pins++rB fp s5.heap) σ7 H7 s7->N σ7 H7-> ∃ m,m < n∧ ∃ i σ' H',Inv X pins σ' H' s7∧tn i s7.heap∧(∀ b∈fp,H' b=UX)∧W i m σ' H':=λ{σ7 H7} I7 n7=>by
    obtain ⟨m',hm,w7⟩:=hN σ7 H7 n7;refine ⟨m',hm,i+1, σ7,H7,I7.nU,T.keep _ _ _ st5 λb hb o e=>(I7.pin (b,o) (Vi _ (Vi _ (dE hb e)))).1,λb hb=>?_,w7⟩;obtain ⟨o,e,d⟩:=T.obj _ _ st5 b hb;exact (I7.pin (b,o) (Vi _ (Vi _ (dE hb e)))).2.1
   cases f with
   | next=>obtain ⟨σ7,H7,I7,n7⟩:=q7;exact again I7 n7
   | cont=>obtain ⟨σ7,H7,I7,n7⟩:=q7;exact again I7 n7
   | brk=>obtain ⟨σ7,H7,I7,q7⟩:=q7;exact ⟨σ7,H7,I7.nU,q7⟩
   | ret v=>obtain ⟨x7, σ7,H7,I7,r7,q7⟩:=q7;exact ⟨x7, σ7,H7,I7.nU,r7,q7⟩
end
abbrev R2:=V->V->Hp->VK->Prop
def cI X (f:U1->U1->Sem U1) (r:R2) :=
 ∀ pins s(σ :St) H x y v u Q,Inv X pins σ H s->RelV x v->RelV y u->r x y H Q ->
  Vs (Vv X.prog X.w) X.A (f v u) (EP X pins σ Q) X.xe s
def Nw(X:Cx)(f:U1->Sem U1)(r:V->Hp->VK->Prop):Prop :=
 ∀(pins:List (U9 × Obj))(s:U5)(σ :St)(H:Hp)(x:V)(v:U1)(Q:VK),Inv X pins σ H s->RelV x v->r x H Q ->
  Vs (Vv X.prog X.w) X.A (f v) (EP X pins σ Q) X.xe s
def aU X (f:U1) (r:List V->Hp->VK->Prop) :=
 ∀ pins s(σ :St) H xs us Q,Inv X pins σ H s->Vals xs us->r xs H Q ->
  Vs (Vv X.prog X.w) X.A (call f us) (EP X pins σ Q) X.xe s
noncomputable def Ej(r:R2)(ta tb:TE):TE:=fun σ H Q=>ta σ H λx H1=>tb σ H1 λy H2=>r x y H2 Q
noncomputable def Tg(r:V->Hp->VK->Prop)(ta:TE):TE:=fun σ H Q=>ta σ H λx H1=>r x H1 Q
noncomputable def rI(C:Int->Int->Prop)(g:Int->Int->V):R2:=λx y H Q=> ∃ i j,x= .int i/\y= .int j/\C i j/\Q (g i j) H
noncomputable def FG(g:Int->Int->V):R2:=λx y H Q=> ∃ i j,x= .int i/\y= .int j/\Q (g i j) H
def rU(g:Int->V):V->Hp->VK->Prop:=λx H Q=> ∃ i,x= .int i/\Q (g i) H
section
variable{X:Cx}{a b c:VN}{ta tb tc:TE}{pos:Pos}
theorem L0(ha:PE X a ta)(hb:PE X b tb){σ :St}{R:V->V->Hp->Prop}(I:Inv X pins σ H s)
  (h:ta σ H λx H1=>tb σ H1 λy H2=>R x y H2) {f:U1->U1->Sem U1}
  (hf: ∀ v u s2 x y H2,Inv X pins σ H2 s2->RelV x v->RelV y u->R x y H2->Vs (Vv X.prog X.w) X.A (f v u) Q X.xe s2) :
  Vs (Vv X.prog X.w) X.A (WT a X.env) (λv s₁ =>Vs (Vv X.prog X.w) X.A (WT b X.env) (λu s₂ =>Vs (Vv X.prog X.w) X.A (f v u) Q X.xe s₂) X.xe s₁) X.xe s:=by
 refine kO (ha pins s σ H _ I h) λv s1 x H1 I1 r1 q1=>?_;refine kO (hb pins s1 σ H1 _ I1 q1) λu s2 y H2 I2 r2 q2=>?_;exact hf v u s2 x y H2 I2 r1 r2 q2
theorem PN(ho:cI X (Wv op) r)(ha:PE X a ta)(hb:PE X b tb):PE X (.BinOp a op b pos) (Ej r ta tb):=by
 intro pins s σ H Q I h;exact wpAny_BinOp (L0 ha hb I h λv u s2 x y H2 I2 rx ry q=>ho pins s2 σ H2 x y v u Q I2 rx ry q)
theorem N2{op:UnaryOp}{r:V->Hp->VK->Prop}(ho:Nw X (ac1 op) r)(ha:PE X a ta):PE X (.UnaryOp op a pos) (Tg r ta):=by
 intro pins s σ H Q I h;exact UnaryOp_ (gE (ha pins s σ H _ I h) λv s1 ⟨x,H1,I1,r1,q1⟩=>ho pins s1 σ H1 x v Q I1 r1 q1)
theorem RA{f:U1->U1->Sem U1}{C:Int->Int->Prop}{g:Int->Int->Int}
  (rule: ∀(i j:Int)(t u:Tok)(s:U5)(Q:U1->U5->Prop)(E:U1->U5->Prop),C i j->Q (.int (g i j) s.toks) { s with toks:=s.toks+1}->Vs (Vv X.prog X.w) X.A (f (.int i t) (.int j u)) Q E s) :
  cI X f (rI C λi j=> .int (g i j)):=by
 intro pins s σ H x y v u Q I rx ry h;obtain⟨i,j,rfl,rfl,hc,q⟩:=h;obtain⟨t,rfl⟩:=rx;obtain⟨t',rfl⟩:=ry;exact rule i j t t' s _ _ hc ⟨.int (g i j),H,I.tok _,⟨_,rfl⟩,q⟩
theorem OB{f:U1->U1->Sem U1}{g:Int->Int->Int}
  (rule: ∀(i j:Int)(t u:Tok)(s:U5)(Q:U1->U5->Prop)(E:U1->U5->Prop),Q (.int (g i j) s.toks) { s with toks:=s.toks+1}->Vs (Vv X.prog X.w) X.A (f (.int i t) (.int j u)) Q E s) :
  cI X f (FG λi j=> .int (g i j)):=by
 intro pins s σ H x y v u Q I rx ry h;obtain⟨i,j,rfl,rfl,q⟩:=h;obtain⟨t,rfl⟩:=rx;obtain⟨t',rfl⟩:=ry;exact rule i j t t' s _ _ ⟨.int (g i j),H,I.tok _,⟨_,rfl⟩,q⟩
theorem Lh{f:U1->U1->Sem U1}{g:Int->Int->Bool}
  (rule: ∀(i j:Int)(t u:Tok)(s:U5)(Q:U1->U5->Prop)(E:U1->U5->Prop),Q (.bool (g i j)) s->Vs (Vv X.prog X.w) X.A (f (.int i t) (.int j u)) Q E s) :
  cI X f (FG λi j=> .bl (g i j)):=by
 intro pins s σ H x y v u Q I rx ry h;obtain⟨i,j,rfl,rfl,q⟩:=h;obtain⟨t,rfl⟩:=rx;obtain⟨t',rfl⟩:=ry;exact rule i j t t' s _ _ ⟨.bl (g i j),H,I,rfl,q⟩
def SN(i j:Int):=0<=j/\j<=1000000/\i.natAbs < 2 ^ 64
def JH i j:=(-(2 ^ 64) < i/\i < 2 ^ 64)\/(-(2 ^ 64) < j/\j < 2 ^ 64)
theorem JH.ok(h:JH i j):IntMulOk i j:=by
 rcases h with⟨h1,h2⟩ | ⟨h1,h2⟩
 . exact .of_left (intBits_le_64 h1 h2)
 . exact .of_right (intBits_le_64 h1 h2)
theorem Kf:cI X (Wv .Add) (FG λi j=> .int (i+j)):=OB λ_ _ _ _ _ _ _ q=>add_int q
theorem MQ:cI X (Wv .Sub) (FG λi j=> .int (i - j)):=OB λ_ _ _ _ _ _ _ q=>sub_int q
theorem LH:cI X (Wv .Mult) (rI JH λi j=> .int (i*j)):=RA λ_ _ _ _ _ _ _ hc q=>mul_int q hc.ok
theorem IY:cI X (Wv .Mod) (rI (λ_ j=>0 < j) λi j=> .int (i % j)):=RA λi j _ _ _ _ _ hc q=>by
 exact mod_int' (by omega) (by rw[Int.fmod_eq_emod_of_nonneg i (by omega)];exact q)
theorem MD:cI X (Wv .Pow) (rI SN λi j=> .int (i ^ j.toNat)):=RA λ_ _ _ _ _ _ _ hc q=>pow_int_small hc.1 hc.2.1 hc.2.2 q
theorem UB{f:U1->Sem U1}{g:Int->Int}
  (rule: ∀(i:Int)(t:Tok)(s:U5)(Q:U1->U5->Prop)(E:U1->U5->Prop),Q (.int (g i) s.toks) { s with toks:=s.toks+1}->Vs (Vv X.prog X.w) X.A (f (.int i t)) Q E s) :
  Nw X f (rU λi=> .int (g i)):=by
 intro pins s σ H x v Q I rx h;obtain⟨i,rfl,q⟩:=h;obtain⟨t,rfl⟩:=rx;exact rule i t s _ _ ⟨.int (g i),H,I.tok _,⟨_,rfl⟩,q⟩
theorem Nf:Nw X (ac1 .USub) (rU λi=> .int (-i)):=UB λ_ _ _ _ _ q=>neg_int q
end
noncomputable def EL:V->V->Bool
 | .non,.non=>true | .non,.int _=>true | .int _,.non=>true | .non,.bl _=>true | .bl _,.non=>true | .non,.str _=>true | .str _,.non=>true
 | .int _,.int _=>true | .bl _,.bl _=>true | .str _,.str _=>true | .byt _,.byt _=>true
 | .int _,.str _=>true | .str _,.int _=>true | .bl _,.str _=>true | .str _,.bl _=>true
 | _,_=>false
def Uz:R2:=λx y H Q=>EL x y=true/\Q (.bl (decide (x=y))) H
def Ux:R2:=λx y H Q=>EL x y=true/\Q (.bl (!decide (x=y))) H
theorem xJ:decide (V.int i=V.int j)=(i == j):=by
 rw[XJ];simp
theorem zU:decide (V.bl i=V.bl j)=(i == j):=by
 rw[XJ];simp
theorem wy:decide (V.str i=V.str j)=(i == j):=by
 rw[XJ];simp
theorem xO:decide (V.byt i=V.byt j)=(i.toList == j.toList):=by
 rw[XJ];cases i;cases j;simp
section
variable{X:Cx}{a b c:VN}{ta tb tc:TE}{pos:Pos}
theorem ba{pins:List (U9 × Obj)}{σ :St}{H:Hp}{s:U5}{Q:VK}{k k':Bool}(I:Inv X pins σ H s)(q:Q (.bl k) H)(e:k=k'):EP X pins σ Q (.bool k') s:=by
 subst e;exact⟨.bl k,H,I,rfl,q⟩
theorem Pw:cI X (VF .Eq) Uz:=by
 intro pins s σ H x y v u Q I rx ry h;obtain⟨hs,q⟩:=h;cases x with
 | non =>
  cases rx
  cases y with
  | non=>cases ry;exact PySem.EqNone.eq_none_none (ba I q (by simp))
  | bl j=>cases ry;exact PySem.EqNone.eq_none_bool (ba I q (by simp))
  | int j=>obtain⟨t',rfl⟩:=ry;exact PySem.EqNone.eq_none_int (ba I q (by simp))
  | str j=>obtain⟨t',rfl⟩:=ry;exact PySem.EqNone.eq_none_str (ba I q (by simp))
  | _=>exact absurd (show false=true from hs) Vr
 | bl i =>
  cases rx
  cases y with
  | non=>cases ry;exact PySem.EqNone.eq_bool_none (ba I q (by simp))
  | bl j=>cases ry;exact eq_bool (ba I q zU)
  | str j=>obtain⟨t',rfl⟩:=ry;exact PySem.EqMixed.eq_bool_str (ba I q (by simp))
  | _=>exact absurd (show false=true from hs) Vr
 | int i =>
  obtain⟨t,rfl⟩:=rx
  cases y with
  | non=>cases ry;exact PySem.EqNone.eq_int_none (ba I q (by simp))
  | int j=>obtain⟨t',rfl⟩:=ry;exact eq_int (ba I q xJ)
  | str j=>obtain⟨t',rfl⟩:=ry;exact PySem.EqMixed.eq_int_str (ba I q (by simp))
  | _=>exact absurd (show false=true from hs) Vr
 | str i =>
  obtain⟨t,rfl⟩:=rx
  cases y with
  | non=>cases ry;exact PySem.EqNone.eq_str_none (ba I q (by simp))
  | bl j=>cases ry;exact PySem.EqMixed.eq_str_bool (ba I q (by simp))
  | int j=>obtain⟨t',rfl⟩:=ry;exact PySem.EqMixed.eq_str_int (ba I q (by simp))
  | str j=>obtain⟨t',rfl⟩:=ry;exact eq_str (ba I q wy)
  | _=>exact absurd (show false=true from hs) Vr
 | byt i =>
  obtain⟨t,rfl⟩:=rx
  cases y with
  | byt j=>obtain⟨t',rfl⟩:=ry;exact PySem.W.eq_bytes (ba I q xO)
  | _=>exact absurd (show false=true from hs) Vr
 | _=>cases y<;>exact absurd (show false=true from hs) Vr
theorem Pm:cI X (VF .NotEq) Ux:=by
 intro pins s σ H x y v u Q I rx ry h;obtain⟨hs,q⟩:=h;cases x with
 | non =>
  cases rx
  cases y with
  | non=>cases ry;exact PySem.EqNone.ne_none_none (ba I q (by simp))
  | bl j=>cases ry;exact PySem.EqNone.ne_none_bool (ba I q (by simp))
  | int j=>obtain⟨t',rfl⟩:=ry;exact PySem.EqNone.ne_none_int (ba I q (by simp))
  | str j=>obtain⟨t',rfl⟩:=ry;exact PySem.EqNone.ne_none_str (ba I q (by simp))
  | _=>exact absurd (show false=true from hs) Vr
 | bl i =>
  cases rx
  cases y with
  | non=>cases ry;exact PySem.EqNone.ne_bool_none (ba I q (by simp))
  | bl j=>cases ry;exact ne_bool (ba I q (congrArg not zU))
  | str j=>obtain⟨t',rfl⟩:=ry;exact PySem.EqMixed.ne_bool_str (ba I q (by simp))
  | _=>exact absurd (show false=true from hs) Vr
 | int i =>
  obtain⟨t,rfl⟩:=rx
  cases y with
  | non=>cases ry;exact PySem.EqNone.ne_int_none (ba I q (by simp))
  | int j=>obtain⟨t',rfl⟩:=ry;exact ne_int (ba I q (congrArg not xJ))
  | str j=>obtain⟨t',rfl⟩:=ry;exact PySem.EqMixed.ne_int_str (ba I q (by simp))
  | _=>exact absurd (show false=true from hs) Vr
 | str i =>
  obtain⟨t,rfl⟩:=rx
  cases y with
  | non=>cases ry;exact PySem.EqNone.ne_str_none (ba I q (by simp))
  | bl j=>cases ry;exact PySem.EqMixed.ne_str_bool (ba I q (by simp))
  | int j=>obtain⟨t',rfl⟩:=ry;exact PySem.EqMixed.ne_str_int (ba I q (by simp))
  | str j=>obtain⟨t',rfl⟩:=ry;exact ne_str (ba I q (congrArg not wy))
  | _=>exact absurd (show false=true from hs) Vr
 | byt i =>
  obtain⟨t,rfl⟩:=rx
  cases y with
  | byt j=>obtain⟨t',rfl⟩:=ry;exact PySem.W.ne_bytes (ba I q (congrArg not xO))
  | _=>exact absurd (show false=true from hs) Vr
 | _=>cases y<;>exact absurd (show false=true from hs) Vr
theorem Om:cI X (VF .Lt) (FG λi j=> .bl (decide (i < j))):=Lh λ_ _ _ _ _ _ _ q=>lt_int q
theorem O9:cI X (VF .LtE) (FG λi j=> .bl (decide (i<=j))):=Lh λ_ _ _ _ _ _ _ q=>le_int q
theorem QN:cI X (VF .Gt) (FG λi j=> .bl (decide (j < i))):=Lh λ_ _ _ _ _ _ _ q=>gt_int q
theorem zA:cI X (VF .In) (λx y H Q=> ∃ i j,x= .str i/\y= .str j/\Q (.bl (!(V3 j i 0 j.length 1).isEmpty)) H):=by
 intro pins s σ H x y v u Q I rx ry h;obtain⟨i,j,rfl,rfl,q⟩:=h;obtain⟨t,rfl⟩:=rx;obtain⟨t',rfl⟩:=ry;exact in_str (ba I q rfl)
theorem cI.or(h:cI X f r)(h':cI X f r'):cI X f (λx y H Q=>r x y H Q\/r' x y H Q):=by
 intro pins s σ H x y v u Q I rx ry q;rcases q with q | q
 . exact h pins s σ H x y v u Q I rx ry q
 . exact h' pins s σ H x y v u Q I rx ry q
theorem CQ b (h:op≠ .In:=by decide) (h2:op≠ .NotIn:=by decide):Wg op b=false:=by
 have e1:(op == CmpOp.In)=false:=by simp_all
 have e2:(op == CmpOp.NotIn)=false:=by simp_all
 cases b<;>simp[Wg,e1,e2]
theorem Gs(ho:cI X (VF op) r)(ha:PE X a ta)(hb:PE X b tb)(hm:Wg op b=false):PE X (.Compare a [op] [b] pos) (Ej r ta tb):=by
 intro pins s σ H Q I h;exact wpAny_Compare1 (L0 ha hb I h λv u s2 x y H2 I2 rx ry q=>ho pins s2 σ H2 x y v u Q I2 rx ry q) hm
noncomputable def uc(t:TE):TT:=fun σ H Q=>t σ H λx H'=> ∃ k,x= .bl k/\Q k H'
theorem D6(ho:cI X (VF op) r)(ha:PE X a ta)(hb:PE X b tb)(hm:Wg op b=false):PT X (.Compare a [op] [b] pos) (uc (Ej r ta tb)):=by
 intro pins s σ H Q I h;refine abd (kO (ha pins s σ H _ I h) λv s1 x H1 I1 r1 q1=>kO (hb pins s1 σ H1 _ I1 q1) λu s2 y H2 I2 r2 q2 =>
  kO (ho pins s2 σ H2 x y v u _ I2 r1 r2 q2) λc s3 z H3 I3 r3 ⟨k,e,q3⟩=>?_) hm
 subst e;cases r3;exact Wk ⟨H3,I3,q3⟩
noncomputable def nN(r r':R2)(ta tb tc:TE):TE:=fun σ H Q=>ta σ H λx H1=>tb σ H1 λy H2=>r x y H2 λz H3=> ∃ k,z= .bl k /\
 (if k=true then tc σ H3 λw' H4=>r' y w' H4 Q else Q (.bl false) H3)
theorem CM(ho:cI X (VF op) r)(ho':cI X (VF op') r')(ha:PE X a ta)(hb:PE X b tb)(hc:PE X c tc)
  (hm:aaF [op,op'] [b,c]=false:=by with_unfolding_all rfl):PE X (.Compare a [op,op'] [b,c] pos) (nN r r' ta tb tc):=by
 intro pins s σ H Q I h;refine Compare_chain (kO (ha pins s σ H _ I h) λv s1 x H1 I1 r1 q1=>chain_link (kO (hb pins s1 σ H1 _ I1 q1) λu s2 y H2 I2 r2 q2 =>
  kO (ho pins s2 σ H2 x y v u _ I2 r1 r2 q2) λd s3 z H3 I3 r3 ⟨k,e,q3⟩=>?_)) hm
 subst e;cases r3;refine Wk ?_;cases k with
 | false=>exact ite_ff ⟨.bl false,H3,I3,rfl,q3⟩
 | true=>exact ite_tt (chain_last (kO (hc pins s3 σ H3 _ I3 q3) λw' s4 z' H4 I4 r4 q4=>ho' pins s4 σ H4 y z' u w' Q I4 r2 r4 q4))
theorem Cy{op op':CmpOp}{r r':R2}(ho:cI X (VF op) r)(ho':cI X (VF op') r')(ha:PE X a ta)(hb:PE X b tb)(hc:PE X c tc)
  (hm:aaF [op,op'] [b,c]=false:=by with_unfolding_all rfl):PT X (.Compare a [op,op'] [b,c] pos) (uc (nN r r' ta tb tc)):=by
 intro pins s σ H Q I h;refine isTrue_chain (gE (ha pins s σ H _ I h) λv s1 ⟨x,H1,I1,r1,q1⟩=>test_link (gE (hb pins s1 σ H1 _ I1 q1) λu s2 ⟨y,H2,I2,r2,q2⟩ =>
  gE (ho pins s2 σ H2 x y v u _ I2 r1 r2 q2) λd s3 ⟨z,H3,I3,r3,k,e,q3⟩=>?_)) hm
 subst e;cases r3;refine Wk ?_;cases k with
 | false =>
  obtain⟨k',e',q'⟩:=q3
  cases e'
  exact ite_ff ⟨H3,I3,q'⟩
 | true =>
  refine ite_tt (test_last (gE (hc pins s3 σ H3 _ I3 q3) λw' s4 ⟨z',H4,I4,r4,q4⟩=>gE (ho' pins s4 σ H4 y z' u w' _ I4 r2 r4 q4) λd' s5 ⟨z2,H5,I5,r5,k2,e2,q5⟩=>?_))
  subst e2
  cases r5
  exact Wk ⟨H5,I5,q5⟩
theorem kl:(Vj) < 2 ^ 63:=by decide
theorem vals1(r:Vals [x] us): ∃ u,us=[u]/\RelV x u:=by
 cases r with
 | cons r1 r2=>cases r2;exact⟨_,rfl,r1⟩
theorem vals2(r:Vals [x,y] us): ∃ u w',us=[u,w']/\RelV x u/\RelV y w':=by
 cases r with
 | cons r1 r2 =>
  cases r2 with
  | cons r3 r4=>cases r4;exact⟨_,_,rfl,r1,r3⟩
theorem zu:aU X (.type "int") (λxs H Q=>(∃ i,xs=[.int i]/\Q (.int i) H)\/ ∃ k,xs=[.bl k]/\Q (.int (if k then 1 else 0)) H):=by
 intro pins s σ H xs us Q I r h;rcases h with⟨i,rfl,q⟩ | ⟨k,rfl,q⟩
 . obtain⟨u,rfl,t,rfl⟩:=vals1 r;exact call_int_int ⟨.int i,H,I,⟨_,rfl⟩,q⟩
 . obtain⟨u,rfl,r1⟩:=vals1 r;cases r1;exact call_int_bool ⟨.int (if k then 1 else 0),H,I.tok _,⟨_,rfl⟩,q⟩
end
structure Nm(h:Wb)(x dx C:U9)(mA:Str->Option U1):Prop where
 obj:h.get? x=UU (XI C dx)
 ns:h.Ns1 dx mA
 ne:dx≠x
theorem pP{h:Wb}(n:h.Ns1 dx mA): ∃ od,h.get? dx=UU od/\ ∀ name,Z9 name od=UU (mA name):=by
 obtain⟨o,es,ep,ho,hd,hk,_,hm⟩:=n;refine⟨o,ho,λname=>?_⟩;have e:=hm name;unfold nsFind findBy at e;rw[<- Array.find?_toList] at e;unfold Z9;rw[hd];dsimp only;split
 . rename_i y q;rw[q] at e;exact congrArg UU e
 . rename_i q;rw[q] at e;have a:es.toList.any (·.refKey)=false:=by
    rw[List.any_eq_false];intro y hy;obtain⟨z,t,hkey⟩:=hk y (Array.mem_toList_iff.mp hy);simp[DictEntry.refKey,hkey]
   have a': ¬ es.toList.any (·.refKey)=true:=by rw[a];exact Vr
   rw[if_neg a'];exact congrArg UU e
theorem Nm.look(I:Nm h x dx C mA): ∃ od,Xw h x (XI C dx) C (UU od)/\ ∀ name,Z9 name od=UU (mA name) :=
 by obtain⟨od,ho,hl⟩:=pP I.ns;exact⟨od,⟨I.obj,rfl,rfl,ho⟩,hl⟩
noncomputable def fW(f:Str)(v:V):List (Str × V)->List (Str × V)
 | []=>[(f,v)]
 | (g,x)::r=>if g=f then(g,v)::r else(g,x)::fW f v r
theorem kR(f g:Str)(v:V): ∀ fs:List (Str × V),(fW f v fs).lookup g=if g=f then UU v else fs.lookup g
 | []=>by
  show Y5 g [(f,v)]=_;by_cases h:g=f
  . have hb:(g == f)=true:=beq_iff_eq.mpr h;simp only[Y5,hb,if_pos h]
  . have hb:(g == f)=false:=beq_eq_false_iff_ne.mpr h;simp only[Y5,hb,if_neg h]
 | (k,x)::r=>by
  have ih:=kR f g v r;rw[show fW f v ((k,x)::r)=(if k=f then(k,v)::r else(k,x)::fW f v r) from rfl];by_cases hk:k=f
  . rw[if_pos hk];by_cases h:g=k
    . have hb:(g == k)=true:=beq_iff_eq.mpr h;simp only[Y5,hb,if_pos (h.trans hk)]
    . have hb:(g == k)=false:=beq_eq_false_iff_ne.mpr h;simp only[Y5,hb,if_neg (λe:g=f=>h (e.trans hk.symm))]
  . rw[if_neg hk];by_cases h:g=k
    . have hb:(g == k)=true:=beq_iff_eq.mpr h;simp only[Y5,hb,if_neg (λe:g=f=>hk (h.symm.trans e))]
    . have hb:(g == k)=false:=beq_eq_false_iff_ne.mpr h;simp only[Y5,hb];exact ih
theorem kg(f:Str)(v:V): ∀ fs:List (Str × V),f∈(fW f v fs).map (·.1)/\ ∀ g,g∈fs.map (·.1)->g∈(fW f v fs).map (·.1)
 | []=>⟨by simp[fW],λg h=>by simp at h⟩
 | (k,x)::r=>by
  obtain⟨i1,i2⟩:=kg f v r;rw[show fW f v ((k,x)::r)=(if k=f then(k,v)::r else(k,x)::fW f v r) from rfl];by_cases hk:k=f
  . rw[if_pos hk];subst hk;exact⟨by simp,λg h=>by simpa using h⟩
  . rw[if_neg hk];refine⟨?_,λg h=>?_⟩
    . rw[U2];exact Vl _ i1
    . rw[U2] at h ⊢;rcases Vt.mp h with e | e
      . exact Vt.mpr (.inl e)
      . exact Vl _ (i2 g e)
theorem kM(f:Str)(v:V): ∀ fs:List (Str × V),(fW f v fs).length<=fs.length+1
 | []=>by simp[fW]
 | (k,x)::r=>by
  have ih:=kM f v r;rw[show fW f v ((k,x)::r)=(if k=f then(k,v)::r else(k,x)::fW f v r) from rfl];by_cases hk:k=f
  . rw[if_pos hk,UZ,UZ];omega
  . rw[if_neg hk,UZ,UZ];omega
theorem gF.some_of(r:gF (UU v) o): ∃ u,o=UU u/\RelV v u:=by
 cases o with
 | none=>exact(show False from r).elim
 | some u=>exact⟨u,rfl,r⟩
theorem xR{v:V}{u:U1}(r:RelV v u):acE u=true:=by
 cases v with
 | non=>cases(show u=Wc from r);rfl
 | bl b=>cases(show u=YW b from r);rfl
 | int i=>obtain⟨t,e⟩:=(show ∃ t,u=Z5 i t from r);cases e;rfl
 | str x=>obtain⟨t,e⟩:=(show ∃ t,u=Z6 x t from r);cases e;rfl
 | byt b=>obtain⟨t,e⟩:=(show ∃ t,u=Value.bytes b t from r);cases e;rfl
 | flt b=>obtain⟨t,e⟩:=(show ∃ t,u=abl b t from r);cases e;rfl
 | ref a=>cases(show u=Vo a from r);rfl
 | ty n=>cases(show u=Yn n from r);rfl
section
variable{P:VE}{w:VY}{H H':Hp}{h h':Wb}{a C dx:U9}{fs fs':List (Str × V)}
theorem Eb(aY:hI P w H h)(e:H a=UU (.ins C dx fs)): ∃ mA,Nm h a dx C mA/\(∀ f,gF (fs.lookup f) (mA f))/\Zc mA (fs.map (·.1))/\fs.length<=1000/\H dx=UU (.own a):=by
 obtain⟨d,z,ne,ob,mA,n,r,q⟩:=(show bz P w H h a (.ins C dx fs) from aY a _ e)
 exact⟨mA,⟨ob,n,ne⟩,r,q,z,d⟩
end
structure RP(K:UW)(C:U9):Prop where
 pg:acF K C Str.empty=true
 hd:Ze K C=true
 po:PySem.W.plainOver K C=true
 sa:Vw K (.ref C) "__setattr__" =UU (UU (.builtin "object.__setattr__"))
theorem RP.get{K}(c:RP K C) f:acF K C f=true:=c.pg
def JV(K:UW)(C:U9)(f:Str):Prop:=Vw K (.ref C) f=UU UX
structure UQ(K:UW)(C:U9)(f:Str)(v:V)(u:U1):Prop where
 at_:Vw K (.ref C) f=UU (UU u)
 rel:RelV v u
 get:ack K u "__get__" =UU UX
 cp:PySem.W.copiedNames.contains f=false
structure Meth(K:UW)(C:U9)(m:Str)(f:U9):Prop where
 at_:Vw K (.ref C) m=UU (UU (.ref f))
 fn:acm K (.ref f)=true
 kp:Wh K (.ref f)=true
section
variable{X:Cx}{pins:List (U9 × Obj)}{σ :St}{H:Hp}{s:U5}{a C dx:U9}{fs:List (Str × V)}{f:Str}{v:V}{A:V6}{E:U1->U5->Prop}
theorem Inv.made(I:Inv X pins σ H s):Inv X pins σ (upd (upd H s.heap.objs.size (.own (s.heap.objs.size+1))) (s.heap.objs.size+1) (.ins C s.heap.objs.size []))
  { s with heap:=(s.heap.push WW).push (XI C s.heap.objs.size)}:=by
 have e1:(s.heap.push WW).get? s.heap.objs.size=UU WW:=Vq s.heap rfl;have e2:((s.heap.push WW).push (XI C s.heap.objs.size)).get? (s.heap.objs.size+1)=UU (XI C s.heap.objs.size):=by
  have:=Vq (s.heap.push WW) (o:=XI C s.heap.objs.size) rfl
  rwa [V1] at this
 have e3:(s.heap.push WW).Ns s.heap.objs.size (λ_=>UX):=⟨WW, #[],_,e1,rfl,(λe he=>absurd he (by simp)),λ_=>rfl⟩
 have I1:=I.laid (a:=s.heap.objs.size) (o:= .own (s.heap.objs.size+1)) (h':=s.heap.push WW) (t':=s.toks) (λb u q=>U4 _ q) (Vb _) ⟨_,e1⟩;refine I1.laid (a:=s.heap.objs.size+1) (o:= .ins C s.heap.objs.size []) (t':=s.toks) (λb u q=>U4 _ q) (aaR (V1 _ _)) ?_;have ne:s.heap.objs.size≠s.heap.objs.size+1:=Vy (aaG _);refine⟨by rw[aw ne,bb],V2 _,ne,e2,λ_=>UX,(acn e3).at λo q=>U4 _ q,λ_=>X3,λy hy=>absurd rfl hy⟩
theorem GV{prog:VE}{w:VY}{env:Env}{e:VN}{f:Str}{pos:Pos}{s:U5}{Q:U1->U5->Prop}(hb:Xq e f env (WT e env)=WT e env)
  (h:Vs (Vv prog w) A (WT e env) (λo s₁ =>Vs (Vv prog w) A (getAttr o f true) Q E s₁) E s):Vs (Vv prog w) A (WT (.Attribute e f pos) env) Q E s :=
 Attribute_any_ h (by rw[arm_eval_Attribute,hb])
end
section
variable{X:Cx}{pins:List (U9 × Obj)}{σ :St}{H:Hp}{s:U5}{A:V6}{E:U1->U5->Prop}{Q:U1->U5->Prop}{c:U1}{b:Bool}
inductive iV(K:UW)(H:Hp):V->U1->Prop where
 | non:iV K H .non (.type "NoneType")
 | bl (x:Bool):iV K H (.bl x) (.type "bool")
 | int (i:Int):iV K H (.int i) (.type "int")
 | str (x:Str):iV K H (.str x) (.type "str")
 | flt (x:UInt64):iV K H (.flt x) (.type "float")
 | lst {a:U9} {xs:List V} (e:H a=UU (.lst xs)):iV K H (.ref a) (.type "list")
 | ef {a:U9} {o:Obj} {xs:List V} (e:H a=UU (.ef o (.lst xs))):iV K H (.ref a) (.type "list")
 | tup {a:U9} {xs:List V} (e:H a=UU (.tup xs)):iV K H (.ref a) (.type "tuple")
 | dK {a:U9} {kvs:List (Key × V)} (e:H a=UU (.dK kvs)):iV K H (.ref a) (.type "dict")
 | dT {a:U9} {kvs:List (List Key × V)} (e:H a=UU (.dT kvs)):iV K H (.ref a) (.type "dict")
 | ins {a C dx:U9} {fs:List (Str × V)} (e:H a=UU (.ins C dx fs)) (cl:RP K C) (ha:Vw K (.ref C) "__class__" =UU (UU (.builtin "object.__class__")))
   (hn:ack K (.builtin "object.__class__") "__get__" =UU (UU (.builtin "getset_descriptor.__get__"))) (htk:PySem.W.takesIn K (.builtin "object.__class__")=UU true)
   (hm:Wq K C (.type "object")=UU true):iV K H (.ref a) (.ref C)
theorem xY{x:V}{u t:U1}(I:Inv X pins σ H s)(rx:RelV x u)(ty:iV X.K H x t)(e:Zf X.K t c=UU b)(h: ∀ tk,Q (.bool b) { s with toks:=tk}) :
  Vs (Vv X.prog X.w) A (call (.builtin "isinstance") [u,c]) Q E s:=by
 cases ty with
 | non=>cases(show u=Wc from rx);exact Wo PySem.W.kitx_none I.gU X3 e (λz=>by cases z) h
 | bl y=>cases(show u=YW y from rx);exact Wo PySem.W.kitx_bool I.gU X3 e (λz=>by cases z) h
 | int i=>obtain⟨t,q⟩:=(show ∃ t,u=Z5 i t from rx);cases q;exact Wo PySem.W.kitx_int I.gU X3 e (λz=>by cases z) h
 | str y=>obtain⟨t,q⟩:=(show ∃ t,u=Z6 y t from rx);cases q;exact Wo PySem.W.kitx_str I.gU X3 e (λz=>by cases z) h
 | flt y=>obtain⟨t,q⟩:=(show ∃ t,u=abl y t from rx);cases q;exact Wo ac5 I.gU X3 e (λz=>by cases z) h
 | @lst a xs ea =>
  cases(show u=Vo a from rx)
  obtain⟨_,_,n,_,h1⟩:=(show bz X.prog X.w H s.heap a (.lst xs) from I.aY a _ ea)
  exact Wo aas I.gU ⟨_,h1,rfl⟩ e (λz=>nomatch z) h
 | @ef a ob xs ea =>
  cases(show u=Vo a from rx)
  obtain⟨_,_,_,n,_,h1⟩:=(show bz X.prog X.w H s.heap a (.ef ob (.lst xs)) from I.aY a _ ea)
  exact Wo aas I.gU ⟨_,h1,rfl⟩ e (λz=>nomatch z) h
 | @tup a xs ea =>
  cases(show u=Vo a from rx)
  obtain⟨_,_,_,p⟩:=(show bz X.prog X.w H s.heap a (.tup xs) from I.aY a _ ea)
  obtain⟨o,h1,h2,_⟩:=p
  exact Wo ac6 I.gU ⟨o,h1,h2⟩ e (λz=>nomatch z) h
 | @dK a kvs ea =>
  cases(show u=Vo a from rx)
  obtain⟨_,_,vs,_,p⟩:=(show bz X.prog X.w H s.heap a (.dK kvs) from I.aY a _ ea)
  obtain⟨o,es,ep,h1,h2,_⟩:=p
  exact Wo aat I.gU ⟨o,h1,h2.1⟩ e (λz=>nomatch z) h
 | @dT a kvs ea =>
  cases(show u=Vo a from rx)
  obtain⟨_,_,xs,_,o,es,ep,h1,h2,_⟩:=(show bz X.prog X.w H s.heap a (.dT kvs) from I.aY a _ ea)
  exact Wo aat I.gU ⟨o,h1,h2.1⟩ e (λz=>nomatch z) h
 | @ins a C dx fs ea cl ha hn htk hm =>
  cases(show u=Vo a from rx)
  obtain⟨mA,O,_⟩:=Eb I.aY ea
  obtain⟨od,J,_⟩:=O.look
  exact Wo (PySem.W.kitx_own (cl.get _) cl.hd ha hn htk hm) I.gU J e (λz=>nomatch z) h
end
structure cG(k:Nat)(A:V6):Prop where
 hd:A.handled=UX
 dp:A.depth+3*k+5 < Zg
 un:A.units+16*k+200 < Zh
 gd:A.guards=UU []
theorem cG.mono(r:cG k A)(h:j<=k):cG j A:=⟨r.hd,by have:=r.dp;omega,by have:=r.un;omega,r.gd⟩
theorem cG.deeper(r:cG (k+1) A) env:cG k (A.deeper env) :=
 ⟨r.hd,by have:=r.dp;show A.depth+1+3*k+5 < _;omega,by have:=r.un;show A.units+3+16*k+200 < _;omega,r.gd⟩
theorem cG.in1(r:cG (k+1) A):cG k A.in1 :=
 ⟨r.hd,by have:=r.dp;show A.depth+3*k+5 < _;omega,by have:=r.un;show A.units+1+16*k+200 < _;omega,r.gd⟩
theorem vy{A:V6}{C:U9}{us:List U1}{kw:List (Str × U1)}:(A.under (.builtin "type.__call__" ⟨.ref C::us,kw⟩)).depth=A.depth+1:=by
 first | rfl | simp[adk,Code.weight,Code.isCreation,Code.isGuard,Code.isCaller,Code.frames,Code.isFrame,guardIds]
theorem cG.depth(r:cG k A):A.depth < Zg:=by have:=r.dp;omega
theorem cG.units(r:cG k A):A.units+64 < Zh:=by have:=r.un;omega
theorem cG.KP(r:cG k A):A.units < Zh:=by have:=r.un;omega
noncomputable def uC:TA:=λ_ H Q=>Q [] H
noncomputable def kJ(ta:TE)(tr:TA):TA:=fun σ H Q=>ta σ H λx H1=>tr σ H1 λxs H2=>Q (x::xs) H2
section
variable{X:Cx}{e:VN}{es:List VN}{te:TE}{t:TA}{pos:Pos}
theorem jm:PA X [] uC:=λ_ _ _ _ H Q I h=>Calls.spliced_nil ⟨[],H,I,.nil,h⟩
theorem dI(ha:PE X e te)(hr:PA X es t)(hs:VR (e::es) X.env=(false,WT e X.env)::VR es X.env:=by rfl):PA X (e::es) (kJ te t):=by
 intro pos pins s σ H Q I h;rw[hs];show Vs _ _ (spliced ((false,WT e X.env)::YX pos (VR es X.env))) _ _ s;refine Calls.spliced_cons (kO (ha pins s σ H _ I h) λu s1 x H1 I1 r1 q1=>?_);exact Fe (hr pos pins s1 σ H1 _ I1 q1) λus s2 xs H2 I2 r2 q2=>⟨x::xs,H2,I2,.cons r1 r2,q2⟩
def F9(t:TA):TE:=fun σ H Q=>t σ H λxs H1=>xs.length<=Vj/\ ∀ p,H1 p=UX->Q (.ref p) (upd H1 p (.tup xs))
def Qh(t:TA):TE:=fun σ H Q=>t σ H λxs H1=>xs.length<=Vj/\ ∀ p,H1 p=UX->Q (.ref p) (upd H1 p (.lst xs))
theorem BS(h:PA X es t):PE X (.Tuple es x1 pos) (F9 t):=by
 intro pins s σ H Q I hq;refine wpAny_Tuple_spliced (Fe (h pos pins s σ H _ I hq) λus s1 xs H1 I1 r ⟨z,q⟩=>⟨by rw[<- r.length];exact z,?_⟩);have hf:=I1.aY.fresh (Vb _);refine⟨.ref s1.heap.objs.size,upd H1 s1.heap.objs.size (.tup xs),I1.laid (t':=s1.toks) (λb u e=>U4 _ e) (Vb _) ?_,rfl,q _ hf⟩;exact⟨z,us,r,⟨_,Vq _ rfl,rfl,_,rfl,rfl⟩⟩
theorem Jt(h:PA X es t):PE X (.List es pos) (Qh t):=by
 intro pins s σ H Q I hq;refine wpAny_List_spliced (Fe (h pos pins s σ H _ I hq) λus s1 xs H1 I1 r ⟨z,q⟩=>⟨by rw[<- r.length];exact z,?_⟩);have hf:=I1.aY.fresh (Vb _);refine⟨.ref s1.heap.objs.size,upd H1 s1.heap.objs.size (.lst xs),I1.laid (t':=s1.toks) (λb u e=>U4 _ e) (Vb _) ?_,rfl,q _ hf⟩;exact⟨z,us,0,r,Vq _ rfl⟩
end
abbrev Sp:=List V->Hp->VK->XK->Prop
abbrev Di:=List Env->Hp->U5->XK->U1->U5->Prop
structure nP(P:VE)(w:VY)(K:UW)(mg:Str->Option U1)(base:Wb)(A:V6)(outer:List Env)(s:U5)(H:Hp):Prop where
 frames:A.frames=UU outer
 mod:Mod K mg base
 bs: ∀ b o,base.get? b=UU o->s.heap.get? b=UU o/\H b=UX
 xA:base.objs.size<=s.heap.objs.size
 gZ:s.heap.FunFrames base outer
 zE: ∀ b∈gI outer,H b=UX
 aY:hI P w H s.heap
 bare:Yx s.gens
def CE(outer:List Env)(P:VE)(w:VY) H (s:U5) (Q:VK) (u:U1) (s':U5) :=
 ∃ v H',s'.os=s.os/\Yx s'.gens/\Un (gI outer) [] H H' s.heap s'.heap/\hI P w H' s'.heap/\RelV v u/\Q v H'
def CR(CX:Di)(outer:List Env)(P:VE)(w:VY) H (s:U5) Q E (r:Result) (s':U5) :=
 match r with
 | .ok (.ret u)=>CE outer P w H s Q u s'
 | .ok _=>False
 | .error e=>CX outer H s E e s'
structure ig(P:VE)(w:VY)(K:UW)(mg:Str->Option U1)(base:Wb)(CX:Di)(k:Nat)(f:U9)(fd:Xx)(ps:List Str)(sp:Sp):Prop where
 len: ∀ vs H Q E,sp vs H Q E->vs.length=ps.length
 run: ∀(A:V6)(outer:List Env)(s:U5)(H:Hp)(args:Args)(us:List U1)(vs:List V)(Q:VK)(E:XK),cG k A->nP P w K mg base A outer s H->aak s fd args (ps.zip us)->Vals vs us->sp vs H Q E ->
  Z0 (Vv P w) A (.call (.ref f) args) (CR CX outer P w H s Q E) s
theorem ig.imp{K}(F:ig P w K mg base CX k f fd ps sp)
  (h: ∀ vs H Q E,sp' vs H Q E->sp vs H Q E):ig P w K mg base CX k f fd ps sp' :=
 ⟨λvs H Q E q=>F.len vs H Q E (h _ _ _ _ q),λA outer s H args us vs Q E hr he hb hv hs=>F.run A outer s H args us vs Q E hr he hb hv (h _ _ _ _ hs)⟩
theorem nP.make{P:VE}{w:VY}{K:UW}{mg:Str->Option U1}{base:Wb}{A:V6}{outer:List Env}{s:U5}{H:Hp}(e:nP P w K mg base A outer s H)(C:U9)(us:List U1)(kw:List (Str × U1)) :
  nP P w K mg base (A.under (.builtin "type.__call__" ⟨.ref C::us,kw⟩)) outer s H:=⟨by first | exact e.frames | (simpa [adk,Code.envs,Code.isFrame,pushEnvs] using e.frames),e.mod,e.bs,e.xA,e.gZ,e.zE,e.aY,e.bare⟩
theorem nP.in1{K}(e:nP P w K mg base A outer s H) :
  nP P w K mg base A.in1 outer s H:=⟨e.frames,e.mod,e.bs,e.xA,e.gZ,e.zE,e.aY,e.bare⟩
section
variable{X:Cx}{pins:List (U9 × Obj)}{σ :St}{H:Hp}{s s':U5}
theorem Inv.kE(I:Inv X pins σ H s):nP X.prog X.w X.K X.mg X.base X.A X.stack s H :=
 ⟨I.ok.frames,I.ok.mod,I.bs,Vn I.ok.xA I.sz,I.stack,I.jP,I.aY,I.bare⟩
theorem Inv.after(I:Inv X pins σ H s)(h:CE X.stack X.prog X.w H s Q u s'):EP X pins σ Q u s':=by
 obtain⟨v,H',os,bare,un,aY,r,q⟩:=h;obtain⟨hh,g,d,t,os'⟩:=s';obtain rfl:os'=s.os:=os;exact⟨v,H',I.call (h':=hh) (g':=g) (d':=d) (t':=t) (ch:=[]) un aY bare (λb z=>absurd z (by simp)),r,q⟩
end
noncomputable def lj(sp:Sp)(zQ:List V)(E:XK)(t:TA):TE:=fun σ H Q=>t σ H λvs H1=>sp (vs++zQ) H1 Q E
def Binds(K:UW)(fd:Xx)(ps:List Str)(ds:List U1) :=
 ∀ s us,K.In s.heap->(us++ds).length=ps.length->aak s fd ⟨us,[]⟩ (ps.zip (us++ds))
theorem Binds.all{K}(h: ∀ us ,us.length=ps.length->W8 fd ⟨us,[]⟩=pure (ps.zip us)):Binds K fd ps []:=λs us _ hl=>by
 rw[VM] at hl ⊢;exact .of_eq (h us hl)
def Passes(CX:Di) X E:= ∀ pins(σ :St) H s e s',Inv X pins σ H s->CX X.stack H s E e s'->X.xe e s'
section
variable{X:Cx}{CX:Di}{k:Nat}{f C:U9}{fd:Xx}{ps:List Str}{sp:Sp}{zQ:List V}{ds:List U1}{E:XK}{x m:Str}{p pos apos:Pos}{e o:VN}{es:List VN}{ta:TE}{t:TA}
theorem zO{σ :St}(F:ig X.prog X.w X.K X.mg X.base CX k f fd ps sp)(hr:cG k X.A)(hb:Binds X.K fd ps ds)(hd:Vals zQ ds)(hx:Passes CX X E)
  (I:Inv X pins σ H s) (r:Vals vs us) (h:sp (vs++zQ) H Q E):Vs (Vv X.prog X.w) X.A (call (.ref f) us) (EP X pins σ Q) X.xe s:=by
 have r2:=r.append hd;have hl:(us++ds).length=ps.length:=by rw[<- r2.length];exact F.len _ _ _ _ h
 refine aaa (aaS (F.run X.A X.stack s H ⟨us,[]⟩ (us++ds) (vs++zQ) Q E hr I.kE (hb s us I.gU hl) r2 h) λr s' hq=>?_);cases r with
 | error e=>exact hx pins σ H s e s' I hq
 | ok fl =>
  cases fl with
  | ret u=>exact I.after hq
  | next=>exact Xb hq
  | brk=>exact Xb hq
  | cont=>exact Xb hq
theorem wY(F:ig X.prog X.w X.K X.mg X.base CX k f fd ps sp)(hr:cG k X.A)(hg:Gl X x)(hm:X.mg x=UU (.ref f))(hk:Wh X.K (.ref f)=true)(hb:Binds X.K fd ps ds)(hd:Vals zQ ds)(hx:Passes CX X E)
  (ha:PA X (e::es) t) (hdb:(x == ("__debug__"))=false:=by decide) (he:VR (e::es) X.env=(false,WT e X.env)::VR es X.env:=by rfl) (hpl:(YX pos (VR es X.env)).any (·.1)=false:=by rfl) :
  PE X (.Call (.Name x p) (e::es) [] pos) (lj sp zQ E t):=by
 intro pins s σ H Q I h;refine X4 (jM I hg hm ?_ hdb);refine ab3 (h₀ :=X.base) I.ok.mod.QM hk (Fe (ha pos pins s σ H _ I h) λus s1 vs H1 I1 r q=>⟨I1.gU,?_⟩) he hpl;exact zO F hr hb hd hx I1 r q
theorem C2(F:ig X.prog X.w X.K X.mg X.base CX k f fd ps sp)(hr:cG k X.A)(hg:Gl X x)(hm:X.mg x=UU (.ref f))(hk:Wh X.K (.ref f)=true)(hb:Binds X.K fd ps ds)(hd:Vals zQ ds)(hx:Passes CX X E)
  (hdb:(x == ("__debug__" :Str))=false:=by decide):PE X (.Call (.Name x p) [] [] pos) (lj sp zQ E uC):=by
 intro pins s σ H Q I h;refine X4 (jM I hg hm ?_ hdb);exact PySem.W.callWith_K0 I.gU hk (zO (us:=[]) F hr hb hd hx I .nil h)
structure Mk(K:UW)(C f:U9):Prop where
 makes:acX K C=true
 init:Vw K (.ref C) "__init__" =UU (UU (.ref f))
 fn:acm K (.ref f)=true
 kp:Wh K (.ref C)=true
end
section
variable{X:Cx}{CX:Di}{k:Nat}{f C:U9}{fd:Xx}{ps ks:List Str}{sp:Sp}{E:XK}{x m:Str}{p pos apos kpos:Pos}{e o:VN}{es:List VN}{kws:List abG}{te ta:TE}{t tk:TA}{nm:Option Str}
structure Sj(K:UW)(fd:Xx)(ps ks:List Str)(g:List U1->List U1->List U1)(gV:List V->List V->List V):Prop where
 to: ∀(s:U5)(us ws:List U1),K.In s.heap->(g us ws).length=ps.length->aak s fd ⟨us,ks.zip ws⟩ (ps.zip (g us ws))
 rel: ∀{vs:List V}{us:List U1}{zs:List V}{ws:List U1},Vals vs us->Vals zs ws->Vals (gV vs zs) (g us ws)
variable{g:List U1->List U1->List U1}{gV:List V->List V->List V}
end
structure bO(N P:List Str)(sc:YD):Prop where
 kind:sc.kind= .function
 co:sc.isCoroutine=false
 gen:sc.isGenerator=false
 nd:N.Nodup
 pre:N.take P.length=P
 par: ∀ x∈P,sc.names.lookup x=UU .local\/sc.names.lookup x=UU .cell
 LL: ∀ y∈sc.names,y.2≠ .free
theorem pI{kindOf}: ∀{binds m},(∀ v,(x,v) ∉ binds)->bindL kindOf binds m x=m x
 | [],_,_=>rfl
 | (n,v)::r,m,h=>by
  unfold bindL;rw[pI λw hw=>h w (Vl _ hw)];split
  . have:x≠n:=by rintro rfl;exact h v Ve
    simp[this]
  . rfl
theorem pB{kindOf}: ∀{binds m},(∀ v,(x,v) ∉ binds)->bindC kindOf binds m x=m x
 | [],_,_=>rfl
 | (n,v)::r,m,h=>by
  unfold bindC;rw[pB λw hw=>h w (Vl _ hw)];split
  . rfl
  . have:x≠n:=by rintro rfl;exact h v Ve
    simp[this]
theorem pE{kindOf:Str->Option ZI}{x:Str}{v:U1}: ∀{P:List Str}{vs:List U1}{i:Nat}{m:Str->Option U1},P.Nodup->P[i]?=UU x->vs[i]?=UU v->kindOf x=UU .local ->
  bindL kindOf (P.zip vs) m x=UU v
 | [],_,_,_,_,h,_,_=>by simp at h
 | _::_,[],_,_,_,_,h,_=>by simp at h
 | p::P,w::vs,0,m,nd,h1,h2,hk=>by
  simp at h1 h2;subst h1;subst h2;show bindL kindOf ((p,w)::P.zip vs) m p=_;unfold bindL;rw[pI λv hv=>(YR.mp nd).1 (YS hv).1,if_pos hk];simp
 | p::P,w::vs,i+1,m,nd,h1,h2,hk=>by
  unfold bindL;exact pE (i:=i) (YR.mp nd).2 (by simpa using h1) (by simpa using h2) hk
theorem qj{kindOf:Str->Option ZI}{x:Str}{v:U1}: ∀{P:List Str}{vs:List U1}{i:Nat}{m:Str->Option U1},P.Nodup->P[i]?=UU x->vs[i]?=UU v->kindOf x≠UU .local ->
  bindC kindOf (P.zip vs) m x=UU v
 | [],_,_,_,_,h,_,_=>by simp at h
 | _::_,[],_,_,_,_,h,_=>by simp at h
 | p::P,w::vs,0,m,nd,h1,h2,hk=>by
  simp at h1 h2;subst h1;subst h2;show bindC kindOf ((p,w)::P.zip vs) m p=_;unfold bindC;rw[pB λv hv=>(YR.mp nd).1 (YS hv).1,if_neg hk];simp
 | p::P,w::vs,i+1,m,nd,h1,h2,hk=>by
  unfold bindC;exact qj (i:=i) (YR.mp nd).2 (by simpa using h1) (by simpa using h2) hk
noncomputable def start(N:List Str)(vs:List V):St:=vs.map UU++U8 (N.length - vs.length) UX
noncomputable def dm(CX:Di)(P:VE)(w:VY)(K:UW)(mg:Str->Option U1)(base:Wb)(N:List Str)(qual:Str)(scope:YD)(f:U9)(cd:U1)(A:V6)(outer:List Env)(s:U5)(H:Hp)(E:XK):Cx where
 prog:=P
 w:=w
 K:=K
 mg:=mg
 base:=base
 A:=A.deeper (Yo qual scope s.heap.objs.size f cd)
 N:=N
 s₀ :=s
 H₀ :=H
 env:=Yo qual scope s.heap.objs.size f cd
 outer:=outer
 stack:=Yo qual scope s.heap.objs.size f cd::outer
 ex:=[]
 calm:=true
 fn:=λ_=>true
 pn:=[]
 xe:=λe s'=>Vs (Vv P w) (A.deeper (Yo qual scope s.heap.objs.size f cd)) (leaving (Yo qual scope s.heap.objs.size f cd) e) (λ_ s''=>CX outer H s E e s'') (λe' s''=>CX outer H s E e' s'') s'
theorem uj{sc:YD}(h:sc.names.lookup x=UU .cell): ∃ c,(Xu n sc.names []).lookup x=UU c:=by
 have q:=X5 sc.names n [] (.inl h);exact YG.mp q
theorem pD{K} 
  (S:bO N ps scope) (hd:A.handled=UX) (e0:nP P w K mg base A outer s H) (hl:vs.length=ps.length) (r:Vals vs us)
  (x:InCallC s s.heap.objs.size (bindL (Yo qual scope s.heap.objs.size f cd).kindOf (ps.zip us) λ_=>UX) (Xu (s.heap.objs.size+1) scope.names []) (bindC (Yo qual scope s.heap.objs.size f cd).kindOf (ps.zip us) λ_=>UX) s1) :
  Inv (dm CX P w K mg base N qual scope f cd A outer s H E) [] (start N vs) H s1:=by
 have hpl:ps.length<=N.length:=by have:=congrArg Yp S.pre;rw[We] at this;omega
 obtain⟨h1,tk,rfl,hk⟩:=x.done;have noA: ∀ b:U9,b ∉ (dm CX P w K mg base N qual scope f cd A outer s H E).ex:=λb z=>absurd (show b∈([]) from z) (by simp);refine⟨⟨e0.mod,S.kind,rfl,rfl,Vb _,λy z c h1 h2=>?_,λy hy=>?_,λy c _ h=>?_,λ_=>hd,Around.frames_deeper e0.frames,.inr ⟨rfl,rfl⟩,λb z=>absurd z (noA b),e0.bs,e0.xA,λb _ _=>noA b,λb z=>absurd z (noA b),e0.gZ,e0.zE⟩,
  rfl,e0.bare,Un.kept hk,⟨_,x.toInCall.ns,λi y v h1 h2 h3=>?_⟩,λy c h=>⟨_,x.cell y c h⟩,e0.aY.fresh (Vb _),λy c h=>?_,λp hp=>absurd (show p∈([]) from hp) (by simp),e0.aY.kept hk,?_⟩
 . exact name_of_addr x.apart (XU h1) (XU h2)
 . rcases hy with hy | hy
   . exact uj hy
   . exact absurd rfl (S.LL _ (XU hy))
 . exact ZY (x.above y c (XU h))
 . have hi:i < vs.length:=by
    unfold start at h2;by_cases hi:i < vs.length
    . exact hi
    . rw[VJ (by simpa using hi)] at h2;rw[WJ] at h2;split at h2<;>cases h2
   have ha:vs[i]?=UU v:=by
    unfold start at h2;rw[Vx (by simpa using hi),VI] at h2;cases e:vs[i]? with
    | none=>simp_all
    | some a=>simp_all
   obtain⟨u,hu,rv⟩:=r.get ha;have hp:ps[i]?=UU y:=by
    rw[<- S.pre,List.getElem?_take_of_lt (by omega)];exact h1
   have ndP:ps.Nodup:=by rw[<- S.pre];exact S.nd.sublist (List.take_sublist _ _)
   refine⟨u,rv,?_⟩;rcases S.par y (VU hp) with k | k
   . exact .inl ⟨k,pE ndP hp hu k⟩
   . obtain⟨c,e⟩:=uj (n:=s.heap.objs.size+1) k;refine .inr ⟨.inl k,c,e,?_⟩;have q:=x.cell y c e;rw[qj ndP hp hu (by show scope.names.lookup y≠_;rw[k];decide)] at q;exact q
 . exact e0.aY.fresh (ZY (x.above y c (XU h)))
 . unfold start;show _=N.length;rw [U7,U3,Zu];omega
theorem HF{K kV} 
       (lk : K.lookup f = some ⟨oc, od, .func (PySem.W.fnOf name qual params body scope dV kV doc pm an cdv ct), osl⟩) (hcd : PySem.W.codeIn K cdv qual = true) (S : bO N ps scope)
    (len : ∀ vs H Q E, sp vs H Q E -> vs.length = ps.length)
    (hbody : ∀ A outer s H vs Q E, cG k (A.deeper (Yo qual scope s.heap.objs.size f cdv)) -> sp vs H Q E ->
      ∃ t, oO (dm CX P w K mg base N qual scope f cdv A outer s H E) body t /\ t { nx := λ_ H' => Q .non H', rt := Q} (start N vs) H) :
    ig P w K mg base CX (k + 1) f (VX name qual params body scope dV kV doc pm an cdv ct) ps sp := by
  refine ⟨len, λA outer s H args us vs Q E hr e0 hb r hsp => ?_⟩;have hl := len _ _ _ _ hsp;have KX := e0.mod.QM.keeps λb o e => (e0.bs b o e).1;have lim := e0.mod.nolimit.keeps λb o e => (e0.bs b o e).1;have hkind : ∀ y ∈ ps.zip us, scope.names.lookup y.1 = UU .local ∨ (scope.names.lookup y.1 = UU .cell /\ ((Xu (s.heap.objs.size + 1) scope.names []).lookup y.1).isSome = true) := λ⟨n, v⟩ hy => by
    rcases S.par n (YS hy).1 with q | q
    . exact .inl q
    . exact .inr ⟨q, X5 _ _ _ (.inl q)⟩
  refine abe hr.depth (KX _ _ lk) rfl S.co S.gen rfl (ab4 KX hcd) (hb _ _ _ _ ?_);refine aab S.kind hkind λenv he s1 x => ?_;subst he;refine ⟨lim.keeps x.toInCall.keep, codeAny_func ?_⟩;obtain ⟨t, ht, hq⟩ := hbody A outer s H vs Q E (hr.deeper _) hsp;have I : Inv (dm CX P w K mg base N qual scope f cdv A outer s H E) [] (start N vs) H s1 := pD S hr.hd e0 hl r x;refine VA (ht [] s1 (start N vs) H _ I hq) (λfl s' hs => ?_) λe s' hs => hs;have fin : ∀{σ' : St}{H' : Hp}{v : V}{u : U1}, Inv (dm CX P w K mg base N qual scope f cdv A outer s H E) [] σ' H' s' -> RelV v u -> Q v H' -> CE outer P w H s Q u s' :=
    λ{σ' H' v u} J rv q => ⟨v, H', J.os, J.bare, J.base, J.aY, rv, q⟩
  cases fl with
  | ret u =>
    obtain ⟨v, σ', H', J, rv, q⟩ := hs
    exact fin J rv q
  | next =>
    obtain ⟨σ', H', J, q⟩ := hs
    exact fin (v := V.non) (u := Wc) J rfl q
  | brk =>
    obtain ⟨_, _, _, q⟩ := hs
    exact Xb q
  | cont =>
    obtain ⟨_, _, _, q⟩ := hs
    exact Xb q
section
variable{X:Cx}{x:Str}{p pos:Pos}{e:VN}{es:List VN}{t:TA}{id T:String}{r:List V->Hp->VK->Prop}
noncomputable def F6(r:List V->Hp->VK->Prop)(t:TA):TE:=fun σ H Q=>t σ H λvs H1=>r vs H1 Q
theorem j2(hc:aU X (.builtin id) r)(hg:Gl X x)(hm:X.mg x=UX)(hv:Wm x=UU (.builtin id))(ha:PA X (e::es) t)(hn:x≠ "__name__" :=by decide)(hdb:(x == ("__debug__"))=false:=by decide)
  (he:VR (e::es) X.env=(false,WT e X.env)::VR es X.env:=by rfl) (hpl:(YX pos (VR es X.env)).any (·.1)=false:=by rfl):PE X (.Call (.Name x p) (e::es) [] pos) (F6 r t):=by
 intro pins s σ H Q I h;refine X4 (kA I hg hm hv ?_ hn hdb);exact PyProof.Rows.callWith_builtin1 (Fe (ha pos pins s σ H _ I h) λus s1 vs H1 I1 r1 q1=>hc pins s1 σ H1 vs us Q I1 r1 q1) he hpl
theorem yi(hc:aU X (.type T) r)(hg:Gl X x)(hm:X.mg x=UX)(hv:Wm x=UU (.type T))(ha:PA X (e::es) t)(hn:x≠ "__name__" :=by decide)(hdb:(x == ("__debug__"))=false:=by decide)
  (he:VR (e::es) X.env=(false,WT e X.env)::VR es X.env:=by rfl) (hpl:(YX pos (VR es X.env)).any (·.1)=false:=by rfl):PE X (.Call (.Name x p) (e::es) [] pos) (F6 r t):=by
 intro pins s σ H Q I h;refine X4 (kA I hg hm hv ?_ hn hdb);exact Xn (Fe (ha pos pins s σ H _ I h) λus s1 vs H1 I1 r1 q1=>hc pins s1 σ H1 vs us Q I1 r1 q1) he hpl
end
end L2
namespace HT
open PySem PyProof.Rows
section
variable{prog:VE}{w:VY}{A:V6}{E:U1->U5->Prop}{s:U5}
theorem FT{t b:U9}{vs ws:List U1}{Q:U1->U5->Prop}(ht:IsTup s.heap t vs.toArray)(hb:IsTup s.heap b ws.toArray)(hv:vs≠[])
  (h1:ws=[]->Q (.ref t) s) (h2:ws≠[]->Q (.ref s.heap.objs.size) { s with heap:=s.heap.push { cls:= .type "tuple",data:= .seq (vs++ws).toArray}})
  (hsz:vs.length+ws.length<=Vj):Vs (Vv prog w) A (Wv .Add (.ref t) (.ref b)) Q E s:=by
 obtain⟨⟨cls,dd,data,sl⟩,ho,hc,n,hd⟩:=id ht;obtain⟨⟨cls2,dd2,data2,sl2⟩,ho2,hc2,n2,hd2⟩:=id hb;simp only at hc hd hc2 hd2;subst hc hd hc2 hd2;have e:vs.toArray++ws.toArray=(vs++ws).toArray:=by simp
 by_cases hw:ws=[]
 . exact aco ⟨_,ho,rfl⟩ ⟨_,ho2,rfl⟩ aaH abU Zi Y6 (YH _ _)
    (tuple_addW1 t b vs.toArray ws.toArray n n2 dd dd2 sl sl2 (by simpa using hv) (by simp[hw])) ⟨ho,ho2,h1 hw⟩
 . refine aco ⟨_,ho,rfl⟩ ⟨_,ho2,rfl⟩ aaH abU Zi Y6 (YH _ _)
    (tuple_addW2 t b vs.toArray ws.toArray n n2 dd dd2 sl sl2 (by simpa using hv) (by simpa using hw) (by exact hsz)) ⟨ho,ho2,?_⟩
   rw[e];exact h2 hw
noncomputable def dj(n d:Nat):Option Int->Nat
 | none=>d
 | some v=>if v < 0 then(v+(n)).toNat else min v.toNat n
theorem jU n d:dj n d UX=d:=rfl
theorem lV(n d k:Nat):dj n d (UU (k))=min k n:=by
 rfl
theorem Sk n d (hd:d<=n) o:dj n d o<=n:=by
 cases o with
 | none=>exact hd
 | some v =>
  show(if v < 0 then(v+(n)).toNat else min v.toNat n)<=n
  by_cases hv:v < 0
  . grind
  . rw[if_neg hv];exact Zx _ _
theorem wJ v (n d:Nat):(if v < 0 then max (v+(n:Int)) 0 else min v (n))=((dj n d (UU v))):=by
 show(if v < 0 then max (v+(n)) 0 else min v (n))=(((if v < 0 then(v+(n)).toNat else min v.toNat n)))
 by_cases hv:v < 0
 . simp_all
 . grind
theorem vK lo hi (n:Nat):YE lo hi 1 (n)=(((dj n 0 lo):Int),((dj n n hi):Int)):=by
 have h1: ¬ ((1) < 0):=by omega
 unfold YE;refine Prod.ext ?_ ?_
 . cases lo with
   | none=>rfl
   | some v=>exact wJ v n 0
 . cases hi with
   | none=>rfl
   | some v=>exact wJ v n n
theorem vw(i j:Nat):XD (i) (j) 1=j - i:=by
 unfold XD;have h1:(1:Int) > 0:=by omega
 simp only[h1,if_true,Int.ediv_one];split<;>omega
theorem oq{v:U1}{o:Option Int}{Q:Option Int->U5->Prop}(p:aaT v o)(h:Q o s):Vs (Vv prog w) A (Builtin.Slice.slicePartIndex v) Q E s:=by
 cases p with
 | none=>exact slicePart_none h
 | int i t=>exact slicePart_int h
theorem gA{sl:U9}{vl vu:U1}{lo hi:Option Int}{n:Nat}{Q:Int × Int × Nat->U5->Prop}(hs:s.heap.IsSliceOf sl vl vu .none)(pl:aaT vl lo)(pu:aaT vu hi)
  (h:Q (((dj n 0 lo:Nat):Int),1,dj n n hi - dj n 0 lo) s):Vs (Vv prog w) A (Builtin.Slice.sliceApplied (.ref sl) (pure (n:Int))) Q E s:=by
 obtain⟨os,hos,hcs,hds⟩:=id hs;refine UY (UY (Wa hos hds (x:=vl) rfl (UY (Wa hos hds (x:=vu) rfl (UY (Wa hos hds (x:= .none) rfl (Vf ?_)))))));refine UY (slicePart_none ?_);refine UY (oq pl (UY (oq pu (UY (Vf ?_)))));show Vs _ _ (match YE lo hi 1 (n) with | (lo,hi)=>pure (lo,(1:Int),XD lo hi 1)) _ _ s;rw[vK lo hi n];show Vs _ _ (pure (((dj n 0 lo):Int),(1),XD ((dj n 0 lo)) ((dj n n hi)) 1)) _ _ s;rw[vw];exact Vf h
theorem Ad(xs:Array U1)(i k:Nat):((XQ k).filterMap λ(m:Nat)=>xs[((i:Int)+(m)*1).toNat]?).toArray=((xs.toList.drop i).take k).toArray:=by
 have e:(λ(m:Nat)=>xs[((i)+(m:Int)*1).toNat]?)=λm=>xs[i+m]?:=by
  funext m
  have:((i)+(m:Int)*1).toNat=i+m:=by omega
  rw[this]
 rw[e];have:=pick_run xs i k;rw[List.filterMap_map] at this;have e2:((λx=>xs[x]?) ∘ λx=>i+x)=λm=>xs[i+m]?:=rfl;rw[e2] at this;rw [this]
theorem j5{t sl : U9}{items : Array U1}{vl vu : U1}{lo hi : Option Int}{Q : U1 -> U5 -> Prop}(ht : IsTup s.heap t items)(hs : s.heap.IsSliceOf sl vl vu .none)(pl : aaT vl lo)(pu : aaT vu hi)
    (hw : ¬ (dj items.size 0 lo = 0 /\ dj items.size items.size hi = items.size))
    (h : Q (.ref s.heap.objs.size) { s with heap := s.heap.push { cls := .type "tuple", data := .seq ((items.toList.drop (dj items.size 0 lo)).take (dj items.size items.size hi - dj items.size 0 lo)).toArray}})
    (hsz : items.size <= Vj) : Vs (Vv prog w) A (aaU (.ref t) (.ref sl)) Q E s := by
  have htake : sizeOk (.seq ((items.toList.drop (dj items.size 0 lo)).take (dj items.size items.size hi - dj items.size 0 lo)).toArray) := by
    show ((items.toList.drop (dj items.size 0 lo)).take (dj items.size items.size hi - dj items.size 0 lo)).toArray.size <= Vj;rw [VC, We, Wy, ZW];omega
  obtain ⟨os, hos, hcs, hds⟩ := id hs;have hTs : s.TypeIs (.ref sl) "slice" := ⟨os, hos, hcs⟩
  unfold aaU
  try with_reducible refine WU ?_
  refine UY (wpAny_sequenceKey ht.typeIs (by decide) ?_);refine UY (WN (name := U0 "__getitem__") ht.typeIs V9
    (XX V9 ht.typeIs abJ ?_ (ab5 _ _)))
  show Vs _ _ (aac (.ref t) >>= _) _ _ s;refine UY (tupleItemsOf_ ht ?_);refine UY (acp hTs ?_);refine UY (gA hs pl pu ?_);have hno : ¬ ((((dj items.size 0 lo) : Int) == 0 && (1 : Int) == 1 && (dj items.size items.size hi - dj items.size 0 lo) == items.size) = true) := by
    simp_all
  show Vs _ _ (if (((dj items.size 0 lo) : Int) == 0 && (1) == 1 && (dj items.size items.size hi - dj items.size 0 lo) == items.size) = true then _ else _) _ _ s;rw [if_neg hno, Ad]
  first
    | exact UY (m := WD _) (Ww (Vf ⟨_, rfl, Vf h⟩) htake)
    | exact UY (m := WD _) (Ww (UY (Vf (Vf ⟨_, rfl, Vf h⟩))) htake)
    | exact UY (UY (m := WD _) (Ww (Vf (Vf ⟨_, rfl, Vf h⟩)) htake))
    | exact UY (UY (m := WD _) (Ww (Vf ⟨_, rfl, Vf h⟩) htake))
end
end HT
namespace L2
open PySem PySem.Spec PyProof.Rows
abbrev TO:=St->Hp->(Option Int->Hp->Prop)->Prop
def PO X (e:Option VN) (t:TO) :=
 ∀ pins s(σ :St) H Q,Inv X pins σ H s->t σ H Q ->
  Vs (Vv X.prog X.w) X.A (evalPart e X.env) (λu s'=> ∃ o H',Inv X pins σ H' s'/\aaT u o/\Q o H') X.xe s
noncomputable def v5:TO:=λ_ H Q=>Q UX H
noncomputable def Hy(t:TE):TO:=fun σ H Q=>t σ H λx H1=> ∃ i,x= .int i/\Q (UU i) H1
section
variable{X:Cx}{e:VN}{te:TE}{lo hi:Option VN}{tl th:TO}{pos p2:Pos}
theorem Fz:PO X UX v5:=by
 intro pins s σ H Q I h;exact Vf ⟨UX,H,I,.none,h⟩
theorem FH(h:PE X e te):PO X (UU e) (Hy te):=by
 intro pins s σ H Q I hw;refine kO (h pins s σ H _ I hw) λu s1 x H1 I1 r1 q1=>?_;obtain⟨i,rfl,q⟩:=q1;obtain⟨t,rfl⟩:=r1;exact⟨UU i,H1,I1,.int i t,q⟩
def De X (r:V->Option Int->Option Int->Hp->VK->Prop) :=
 ∀ pins s(σ :St) H x v vl vu lo hi sl Q,Inv X pins σ H s->RelV x v->s.heap.IsSliceOf sl vl vu .none->aaT vl lo->aaT vu hi->r x lo hi H Q ->
  ∃ T id,typeLookup (.type T) "__getitem__" =pure (UU (.builtin id))/\s.TypeIs v T/\Vs (Vv X.prog X.w) X.A (aaU v (.ref sl)) (EP X pins σ Q) X.xe s
theorem De.or(h:De X r)(h':De X r'):De X (λx lo hi H Q=>r x lo hi H Q\/r' x lo hi H Q):=by
 intro pins s σ H x v vl vu lo hi sl Q I rx hs pl pu q;rcases q with q | q
 . exact h pins s σ H x v vl vu lo hi sl Q I rx hs pl pu q
 . exact h' pins s σ H x v vl vu lo hi sl Q I rx hs pl pu q
noncomputable def Us(r:V->Option Int->Option Int->Hp->VK->Prop)(te:TE)(tl th:TO):TE:=fun σ H Q=>te σ H λx H1=>tl σ H1 λl H2=>th σ H2 λu H3=>r x l u H3 Q
theorem CN(hr:De X r)(he:PE X e te)(hl:PO X lo tl)(hu:PO X hi th):PE X (.Subscript e (.Slice lo hi UX p2) pos) (Us r te tl th):=by
 intro pins s σ H Q I h;refine Subscript_ (kO (he pins s σ H _ I h) λv s1 x H1 I1 r1 q1=>?_);refine wpAny_Slice (gE (hl pins s1 σ H1 _ I1 q1) λvl s2 ⟨l,H2,I2,pl,q2⟩=>gE (hu pins s2 σ H2 _ I2 q2) λvu s3 z9=>?_);obtain⟨u,H3,I3,pu,q3⟩:=z9;refine Vf ?_;have I4:Inv X pins σ H3 { s3 with heap:=s3.heap.push { cls:= .type "slice",data:= .fields #[vl,vu,.none]}}:=I3.kept (t':=s3.toks) λb ob q=>U4 _ q;obtain⟨T,id,hT,ht,hg⟩:=hr pins { s3 with heap:=s3.heap.push { cls:= .type "slice",data:= .fields #[vl,vu,.none]}} σ H3 x v vl vu l u s3.heap.objs.size Q I4 r1 (adn ..) pl pu q3;exact tail_any (ops:=[.ref s3.heap.objs.size,v]) ht hT hg (by rfl)
def lF(xs:List V)(lo hi:Option Int):=(xs.drop (HT.dj xs.length 0 lo)).take (HT.dj xs.length xs.length hi - HT.dj xs.length 0 lo)
theorem kK xs lo hi:(lF xs lo hi).length<=xs.length:=by
 unfold lF;rw[We,Wy];omega
def ON(K:UW):V->Option Int->Option Int->Hp->VK->Prop:=λx lo hi H Q=> ∃ a xs,x= .ref a/\fU K H a xs /\
 ¬ (HT.dj xs.length 0 lo=0/\HT.dj xs.length xs.length hi=xs.length)/\ ∀ p,H p=UX->Q (.ref p) (upd H p (.tup (lF xs lo hi)))
theorem Mo:De X (ON X.K):=by
 intro pins s σ H x v vl vu lo hi sl Q I rx hs pl pu h;obtain⟨a,xs,rfl,hx,hw,q⟩:=h;cases rx;obtain⟨ar,r,ht,hz⟩:=I.tuple hx;have hlen:ar.toArray.size=xs.length:=by exact r.length.symm
 refine⟨"tuple",_,V9.lookup,ht.typeIs,?_⟩;refine HT.j5 ht hs pl pu (by rw[hlen];exact hw) ?_ (by rw[hlen];exact hz);rw[hlen];refine⟨.ref s.heap.objs.size,_,I.laid (t':=s.toks) (o:= .tup (lF xs lo hi)) (λb ob q=>U4 _ q) (Vb _) ?_,rfl,q _ (I.aY.fresh (Vb _))⟩;exact⟨Vn (kK xs lo hi) hz,_,(r.drop (HT.dj xs.length 0 lo)).take (HT.dj xs.length xs.length hi - HT.dj xs.length 0 lo),o8.new _ _⟩
def Hh(K:UW):R2:=λx y H Q=> ∃ a b xs ys,x= .ref a/\y= .ref b/\fU K H a xs/\fU K H b ys/\xs≠[]/\xs.length+ys.length<=Vj /\
 (ys=[]->Q (.ref a) H)/\(ys≠[]-> ∀ p,H p=UX->Q (.ref p) (upd H p (.tup (xs++ys))))
theorem Vals.l4(r:Vals xs us):us=[]↔xs=[]:=by
 cases r with
 | nil=>simp
 | cons _ _=>simp
theorem Gn:cI X (Wv .Add) (Hh X.K):=by
 intro pins s σ H x y v u Q I rx ry h;obtain⟨a,b,xs,ys,rfl,rfl,ha,hb,hx,hz,q1,q2⟩:=h;cases rx;cases ry;obtain⟨ar,r1,p1,_⟩:=I.tuple ha;obtain⟨its2,r2,p2,_⟩:=I.tuple hb;refine HT.FT p1 p2 (λz=>hx (r1.l4.mp z)) (λz=>⟨.ref a,H,I,rfl,q1 (r2.l4.mp z)⟩) (λz=>?_) (by rw[<- r1.length,<- r2.length];exact hz);refine⟨.ref s.heap.objs.size,_,I.laid (t':=s.toks) (o:= .tup (xs++ys)) (λb ob q=>U4 _ q) (Vb _) ?_,rfl,q2 (λw=>z (r2.l4.mpr w)) _ (I.aY.fresh (Vb _))⟩;exact⟨by rw[U7];exact hz,_,r1.append r2,o8.new _ _⟩
end
noncomputable def mK(n:Nat)(i:Int):=if 0<=i then(if i < n then UU i.toNat else UX) else if -(n)<=i then UU (i+n).toNat else UX
def gf{α :Type}(xs:List α) i:=(mK xs.length i).bind λj=>xs[j]?
theorem wH(h:mK n i=UU j):seqIndex? i n=UU j/\j < n/\ -(n)<=i/\i < n:=by
 unfold mK at h;by_cases h0:0<=i
 . rw[if_pos h0] at h;by_cases h1:i < n
   . rw[if_pos h1] at h;have e:=V4 h;exact⟨by rw[acR h0 h1,e],by omega,by omega,h1⟩
   . simp_all
 . rw[if_neg h0] at h;by_cases h1: -(n)<=i
   . rw[if_pos h1] at h;have e:=V4 h;exact⟨by rw[acq (by omega) h1,e],by omega,h1,by omega⟩
   . simp_all
theorem qM(h:gf xs i=UU v): ∃ j,seqIndex? i xs.length=UU j/\xs[j]?=UU v/\j < xs.length/\ -(xs.length)<=i/\i < xs.length:=by
 unfold gf at h;cases e:mK xs.length i with
 | none=>simp_all
 | some j =>
  rw[e] at h
  obtain⟨h1,h2,h3,h4⟩:=wH e
  exact⟨j,h1,h,h2,h3,h4⟩
theorem cw{j:Nat}(h:xs[j]?=UU v):gf xs (j)=UU v:=by
 have hj:=(Vk.mp h).1;have e:mK xs.length (j)=UU j:=by
  unfold mK;rw[if_pos (by omega),if_pos (by omega)];simp
 unfold gf;rw[e];exact h
def qm b:= ∀ o i,acS b false o i=operate [o,i] (aaU o i)
def y4 X (r:R2) :=
 ∀ value slice pins s(σ :St) H x y v u Q,Inv X pins σ H s->RelV x v->RelV y u->r x y H Q ->
  acS slice false v u=operate [v,u] (aaU v u)->Vs (Vv X.prog X.w) X.A (subscriptTail value slice v u) (EP X pins σ Q) X.xe s
def xc X (id:String) (r:V->List V->Hp->VK->Prop) :=
 ∀ pins s(σ :St) H x xs v us Q,Inv X pins σ H s->RelV x v->Vals xs us->r x xs H Q ->
  Vs (Vv X.prog X.w) X.A (call (.builtin id) (v::us)) (EP X pins σ Q) X.xe s
section
variable{X:Cx}{a b:VN}{ta tb:TE}{pos:Pos}
theorem y4.or(h:y4 X r)(h':y4 X r'):y4 X (λx y H Q=>r x y H Q\/r' x y H Q):=by
 intro value slice pins s σ H x y v u Q I rx ry q hs;rcases q with q | q
 . exact h value slice pins s σ H x y v u Q I rx ry q hs
 . exact h' value slice pins s σ H x y v u Q I rx ry q hs
theorem OS(hr:y4 X r)(ha:PE X a ta)(hb:PE X b tb)(hs:qm b):PE X (.Subscript a b pos) (Ej r ta tb):=by
 intro pins s σ H Q I h;exact Subscript_ (L0 ha hb I h λv u s2 x y H2 I2 rx ry q=>hr a b pins s2 σ H2 x y v u Q I2 rx ry q (hs _ _))
def Rb(K:UW):R2:=λx y H Q=> ∃ p xs i v,x= .ref p/\y= .int i/\gP K H p xs/\gf xs i=UU v/\Q v H
def QL(K:UW):R2:=λx y H Q=> ∃ p xs i v,x= .ref p/\y= .int i/\fU K H p xs/\gf xs i=UU v/\Q v H
def OM:R2:=λx y H Q=> ∃ z i c,x= .str z/\y= .int i/\z.length<=Vj/\gf z.cps.toList i=UU c/\Q (.str ⟨#[c]⟩) H
theorem EK:y4 X (Rb X.K):=by
 intro value slice pins s σ H x y v u Q I rx ry h hs;obtain⟨p,xs,i,z,rfl,rfl,hq,he,q⟩:=h;cases rx;obtain⟨t,rfl⟩:=ry;obtain⟨ar,r,pl,hz⟩:=I.list hq;obtain⟨j,h1,h2,h3,h4,h5⟩:=qM he;obtain⟨w,ew,rw'⟩:=r.get h2;have hl:=r.length;have hn:=kl;have fin:EP X pins σ Q w s:=⟨z,H,I,rw',q⟩
 by_cases h0:0<=i
 . have hj:i.toNat=j:=by
    rw[acR h0 h5] at h1;exact V4 h1
   exact item_listR pl.isList h0 (by omega) (by rw[hj];simpa using ew) fin hs
 . have hj:(i+(ar.toArray.size)).toNat=j:=by
    rw[acq (by omega) h4] at h1;rw[VC,<- hl];exact V4 h1
   exact aaV (x:=w) pl.isList.typeIs slot_list_getitem.lookup
    (wpAny_getItem_list_neg (Q:=λr s'=>r=w/\EP X pins σ Q r s') pl.isList (by omega) (by simp_all) (by omega) (by rw[hj];simpa using ew) ⟨rfl,fin⟩) hs
theorem Ij:y4 X (QL X.K):=by
 intro value slice pins s σ H x y v u Q I rx ry h hs;obtain⟨p,xs,i,z,rfl,rfl,hq,he,q⟩:=h;cases rx;obtain⟨t,rfl⟩:=ry;obtain⟨ar,r,pl,hz⟩:=I.tuple hq;obtain⟨j,h1,h2,h3,h4,h5⟩:=qM he;obtain⟨w,ew,rw'⟩:=r.get h2;have hl:=r.length;have hn:=kl;have fin:EP X pins σ Q w s:=⟨z,H,I,rw',q⟩
 exact aaV (x:=w) pl.typeIs V9.lookup
  (getItem_tuple (j:=j) (Q:=λr s'=>r=w/\EP X pins σ Q r s') pl (by omega) (by omega) (by rw[VC,<- hl];exact h1) (by simpa using ew) ⟨rfl,fin⟩) hs
theorem LO:y4 X OM:=by
 intro value slice pins s σ H x y v u Q I rx ry h hs;obtain⟨z,i,c,rfl,rfl,hz,he,q⟩:=h;obtain⟨t,rfl⟩:=rx;obtain⟨t',rfl⟩:=ry;obtain⟨j,h1,h2,h3,h4,h5⟩:=qM he;have hl:z.cps.toList.length=z.length:=by rfl
 rw[hl] at h1 h4 h5;have hn:=kl;exact tail_any (Zy s z t) slot_str_getitem.lookup (getItem_str (c:=c) (by
  grind) (by rw[h1];simpa using h2) ⟨.str ⟨#[c]⟩,H,I.tok _,⟨_,rfl⟩,q⟩) hs
def Uu(K:UW):R2:=λx y H Q=>Rb K x y H Q\/QL K x y H Q\/OM x y H Q
theorem IC:y4 X (Uu X.K):=EK.or (Ij.or LO)
theorem u6(ar:List U1) n j u:ab6 (·.setIfInBounds j u) { cls:= .type "list",data:= .seq ar.toArray n}={ cls:= .type "list",data:= .seq (ar.set j u).toArray n}:=by
 simp[ab6]
theorem Inv.lst{pins}{σ :St}{H s p xs}(I:Inv X pins σ H s)(h:H p=UU (.lst xs)) :
  ∃(ar:List U1)(n:Nat),Vals xs ar/\s.heap.get? p=UU { cls:= .type "list",data:= .seq ar.toArray n}/\xs.length<=Vj:=by
 obtain⟨z,ar,n,r,e⟩:=I.aY p _ h;exact⟨ar,n,r,e,z⟩
theorem Inv.M7{pins:List (U9 × Obj)}{σ :St}{H:Hp}{s:U5}{p:U9}{xs ys:List V}{ar its':List U1}{n n':Nat}{f:Obj->Obj}(I:Inv X pins σ H s)(h:H p=UU (.lst xs))
  (ho:s.heap.get? p=UU { cls:= .type "list",data:= .seq ar.toArray n}) (hf:f { cls:= .type "list",data:= .seq ar.toArray n}={ cls:= .type "list",data:= .seq its'.toArray n'}) (r:Vals ys its') (hz:ys.length<=Vj) (t:Nat) :
  Inv X pins σ (upd H p (.lst ys)) { s with heap:=s.heap.update p f,toks:=t}:=by
 have e:(s.heap.update p f).get? p=UU { cls:= .type "list",data:= .seq its'.toArray n'}:=by
  rw[W9 f ho (by rw[hf]<;>rfl),hf]
 refine I.write (x:=p) (e:=p) (by rw[h];trivial) (.inl rfl) (λb u hb q=>(Wn _ _ (Xf hb)).trans q) ⟨_,e⟩ ?_;exact⟨hz,its',n',r,e⟩
def PU:V->V->V->Hp->(Hp->Prop)->Prop:=λo i v H Q=> ∃ p xs k j,o= .ref p/\i= .int k/\H p=UU (.lst xs)/\mK xs.length k=UU j/\Q (upd H p (.lst (xs.set j v)))
theorem set_list:pj X PU:=by
 intro pins s σ H o i v ov iv u Q I ro ri rv h;obtain⟨p,xs,k,j,rfl,rfl,hp,hj,q⟩:=h;cases ro;obtain⟨t,rfl⟩:=ri;obtain⟨ar,n,r,ho,hz⟩:=I.lst hp;obtain⟨h1,h2,h3,h4⟩:=wH hj;have hl:=r.length;have hn:=kl;have I' :=
  I.M7 hp ho (u6 ar n j u) (r.set rv j) (by rw[aa8];exact hz) s.toks
 by_cases h0:0<=k
 . have hk:k.toNat=j:=by
    rw[acR h0 h4] at h1;exact V4 h1
   exact PySem.W.ki_setAt ho h0 (by omega) (by rw[VC,<- hl];exact h4) (by rw[hk];exact⟨_,I',q⟩)
 . have hk:(k+(ar.toArray.size)).toNat=j:=by
    rw[acq (by omega) h3] at h1;rw[VC,<- hl];exact V4 h1
   exact PySem.W.ki_setBack ho (by omega) (by simp_all) (by omega) (by rw[hk];exact⟨_,I',q⟩)
theorem qS lo hi n:(aal lo hi UX n).1=((HT.dj n 0 lo))/\(aal lo hi UX n).2.1=((HT.dj n n hi))/\(aal lo hi UX n).2.2=1:=by
 refine⟨?_,?_,rfl⟩
 . cases lo with
   | none=>rfl
   | some i =>
    simp only[aal,HT.dj,acG,show(1:Int) > 0 by decide,if_true]
    by_cases h:i < 0
    . simp only[h,if_true]<;>omega
    . simp only[h,if_false]<;>omega
 . cases hi with
   | none=>rfl
   | some i =>
    simp only[aal,HT.dj,acG,show(1:Int) > 0 by decide,if_true]
    by_cases h:i < 0
    . simp only[h,if_true]<;>omega
    . simp only[h,if_false]<;>omega
theorem oW(ar:List U1) lo hi:slicePick ar.toArray lo hi UX=((ar.drop (HT.dj ar.length 0 lo)).take (HT.dj ar.length ar.length hi - HT.dj ar.length 0 lo)).toArray:=by
 obtain⟨h1,h2,h3⟩:=qS lo hi ar.toArray.size;unfold slicePick;rw[h1,h2,h3];simp only[sliceRange_one,pick_run]<;>rfl
def NL(K:UW):V->Option Int->Option Int->Hp->VK->Prop:=λx lo hi H Q=> ∃ a xs,x= .ref a/\gP K H a xs/\ ∀ p,H p=UX->Q (.ref p) (upd H p (.lst (lF xs lo hi)))
theorem GN:De X (NL X.K):=by
 intro pins s σ H x v vl vu lo hi sl Q I rx hs pl pu h;obtain⟨a,xs,rfl,hx,q⟩:=h;cases rx;obtain⟨ar,r,ht,hz⟩:=I.list hx;have hlen:=r.length;refine⟨"list",_,slot_list_getitem.lookup,ht.isList.typeIs,?_⟩;refine wpAny_getItem_list_slice ht.isList hs pl pu .none (by simp) ?_ (by simp_all);rw[oW,<- hlen];refine⟨.ref s.heap.objs.size,_,I.laid (t':=s.toks) (o:= .lst (lF xs lo hi)) (λb ob q=>U4 _ q) (Vb _) ?_,rfl,q _ (I.aY.fresh (Vb _))⟩;exact⟨Vn (kK xs lo hi) hz,_,0,(r.drop (HT.dj xs.length 0 lo)).take (HT.dj xs.length xs.length hi - HT.dj xs.length 0 lo),Vq _ rfl⟩
noncomputable def gW:V->Bool
 | .non=>true
 | .bl _=>true
 | .int _=>true
 | .str _=>true
 | _=>false
noncomputable def EM:V->V->Bool
 | .non,.non=>true
 | .bl a,.bl b=>a == b
 | .bl a,.int b=>(if a then 1 else 0) == b
 | .int a,.bl b=>a == (if b then 1 else 0)
 | .int a,.int b=>a == b
 | .str a,.str b=>a == b
 | _,_=>false
theorem II(ry:RelV y u)(rx:RelV x v)(fy:gW y=true)(fx:gW x=true):SeqAt.EqAt A s u v (EM y x):=by
 cases y with
 | non =>
  cases ry
  cases x with
  | non=>cases rx;exact SeqAt.EqAt.same _
  | bl b=>cases rx;exact SeqAt.EqAt.none_bool b
  | int b=>obtain⟨t,rfl⟩:=rx;exact SeqAt.EqAt.none_int b t
  | str b=>obtain⟨t,rfl⟩:=rx;exact SeqAt.EqAt.none_str b t
  | _=>exact absurd (show false=true from fx) Vr
 | bl a =>
  cases ry
  cases x with
  | non=>cases rx;exact SeqAt.EqAt.bool_none a
  | bl b=>cases rx;exact SeqAt.EqAt.bool_bool a b
  | int b=>obtain⟨t,rfl⟩:=rx;exact SeqAt.EqAt.bool_int a b t
  | str b=>obtain⟨t,rfl⟩:=rx;exact SeqAt.EqAt.bool_str a b t
  | _=>exact absurd (show false=true from fx) Vr
 | int a =>
  obtain⟨t',rfl⟩:=ry
  cases x with
  | non=>cases rx;exact SeqAt.EqAt.int_none a t'
  | bl b=>cases rx;exact SeqAt.EqAt.int_bool a t' b
  | int b=>obtain⟨t,rfl⟩:=rx;exact SeqAt.EqAt.int_int a t' b t
  | str b=>obtain⟨t,rfl⟩:=rx;exact abY a t' b t
  | _=>exact absurd (show false=true from fx) Vr
 | str a =>
  obtain⟨t',rfl⟩:=ry
  cases x with
  | non=>cases rx;exact SeqAt.EqAt.str_none a t'
  | bl b=>cases rx;exact SeqAt.EqAt.str_bool a t' b
  | int b=>obtain⟨t,rfl⟩:=rx;exact abZ a t' b t
  | str b=>obtain⟨t,rfl⟩:=rx;exact SeqAt.EqAt.str_str a t' b t
  | _=>exact absurd (show false=true from fx) Vr
 | _=>exact absurd (show false=true from fy) Vr
def vQ x (u:U1):=match u with
 | .none=>EM .non x
 | .bool b=>EM (.bl b) x
 | .int i _=>EM (.int i) x
 | .str z _=>EM (.str z) x
 | _=>false
theorem zN(r:RelV y u)(f:gW y=true):vQ x u=EM y x:=by
 cases y with
 | non=>cases r;rfl
 | bl b=>cases r;rfl
 | int i=>obtain⟨t,rfl⟩:=r;rfl
 | str z=>obtain⟨t,rfl⟩:=r;rfl
 | _=>exact absurd (show false=true from f) Vr
theorem jJ: ∀{xs us},Vals xs us->xs.all gW=true->us.any (vQ x)=xs.any λy=>EM y x
 | _,_,.nil,_=>rfl
 | y::xs,u::us,.cons r t,f=>by
  rw[Yf,Vc] at f;rw[Xr,Xr,zN r f.1,jJ t f.2]
theorem ie(rx:RelV x v)(fx:gW x=true): ∀{xs us},Vals xs us->xs.all gW=true-> ∀ u∈us,SeqAt.EqAt A s u v (vQ x u)
 | _,_,.nil,_=>λu hu=>by cases hu
 | y::xs,u::us,.cons r t,f=>λu' hu=>by
  rw[Yf,Vc] at f;rcases Vt.mp hu with rfl | hu
  . rw[zN r f.1];exact II r rx f.1 fx
  . exact ie rx fx t f.2 u' hu
def OX x (xs:List V):=xs.any λy=>EM y x
def Tn(K:UW)(neg:Bool):R2:=λx y H Q=> ∃ p xs,y= .ref p/\(gP K H p xs\/fU K H p xs)/\gW x=true/\xs.all gW=true/\Q (.bl (if neg then !OX x xs else OX x xs)) H
theorem za:cI X (VF .In) (Tn X.K false):=by
 intro pins s σ H x y v u Q I rx ry h;obtain⟨p,xs,rfl,hq,fx,fs,q⟩:=h;cases ry;rcases hq with hq | hq
 . obtain⟨ar,r,pl,hz⟩:=I.list hq;refine SeqAt.in_listAt (vQ x) pl.isList (λw hw=>ie rx fx r fs w (by simpa using hw)) ⟨.bl _,H,I,rfl,?_⟩;rw[show ar.toArray.any (vQ x)=ar.any (vQ x) by simp,jJ r fs];exact q
 . obtain⟨ar,r,pl,hz⟩:=I.tuple hq;refine SeqAt.in_tupleAt (vQ x) pl (λw hw=>ie rx fx r fs w (by simpa using hw)) ⟨.bl _,H,I,rfl,?_⟩;rw[show ar.toArray.any (vQ x)=ar.any (vQ x) by simp,jJ r fs];exact q
theorem qr:cI X (VF .NotIn) (Tn X.K true):=by
 intro pins s σ H x y v u Q I rx ry h;obtain⟨p,xs,rfl,hq,fx,fs,q⟩:=h;cases ry;rcases hq with hq | hq
 . obtain⟨ar,r,pl,hz⟩:=I.list hq;refine SeqAt.notIn_listAt (vQ x) pl.isList (λw hw=>ie rx fx r fs w (by simpa using hw)) ⟨.bl _,H,I,rfl,?_⟩;rw[show ar.toArray.any (vQ x)=ar.any (vQ x) by simp,jJ r fs];exact q
 . obtain⟨ar,r,pl,hz⟩:=I.tuple hq;refine SeqAt.notIn_tupleAt (vQ x) pl (λw hw=>ie rx fx r fs w (by simpa using hw)) ⟨.bl _,H,I,rfl,?_⟩;rw[show ar.toArray.any (vQ x)=ar.any (vQ x) by simp,jJ r fs];exact q
theorem rh:cI X (VF .NotIn) (λx y H Q=> ∃ i j,x= .str i/\y= .str j/\Q (.bl (!(!(V3 j i 0 j.length 1).isEmpty))) H):=by
 intro pins s σ H x y v u Q I rx ry h;obtain⟨i,j,rfl,rfl,q⟩:=h;obtain⟨t,rfl⟩:=rx;obtain⟨t',rfl⟩:=ry;exact notIn_str ⟨.bl _,H,I,rfl,q⟩
theorem qW:aU X (.builtin "len") (λxs H Q=> ∃ p ys,xs=[.ref p]/\(gP X.K H p ys\/fU X.K H p ys)/\Q (.int ys.length) H):=by
 intro pins s σ H xs us Q I r h;obtain⟨p,ys,rfl,hq,q⟩:=h;obtain⟨u,rfl,rx⟩:=vals1 r;cases rx;have hn:=kl;rcases hq with hq | hq
 . obtain⟨ar,r',pl,hz⟩:=I.list hq;have hlen:=r'.length;exact Calls.call_len_list pl.isList (by simp only[VC]<;>omega) ⟨.int ys.length,H,I.tok _,⟨s.toks+1,by rw[VC,hlen]⟩,q⟩
 . obtain⟨ar,r',pl,hz⟩:=I.tuple hq;have hlen:=r'.length;exact len_tuple pl (by simp only[VC]<;>omega) ⟨.int ys.length,H,I.tok _,⟨s.toks+1,by rw[VC,hlen]⟩,q⟩
theorem rT:aU X (.builtin "len") (λxs H Q=> ∃ z,xs=[.str z]/\z.length<=Vj/\Q (.int z.length) H):=by
 intro pins s σ H xs us Q I r h;obtain⟨z,rfl,hz,q⟩:=h;obtain⟨u,rfl,t,rfl⟩:=vals1 r;have hn:=kl;exact len_str (by omega) ⟨.int z.length,H,I.tok _,⟨_,rfl⟩,q⟩
theorem aU.or(h:aU X f r)(h':aU X f r'):aU X f (λxs H Q=>r xs H Q\/r' xs H Q):=by
 intro pins s σ H xs us Q I rs q;rcases q with q | q
 . exact h pins s σ H xs us Q I rs q
 . exact h' pins s σ H xs us Q I rs q
theorem rM:aU X (.type "list") (λxs H Q=> ∃ p ys,xs=[.ref p]/\(gP X.K H p ys\/fU X.K H p ys)/\ ∀ l,H l=UX->Q (.ref l) (upd H l (.lst ys))):=by
 intro pins s σ H xs us Q I r h;obtain⟨p,ys,rfl,hq,q⟩:=h;obtain⟨u,rfl,rx⟩:=vals1 r;cases rx;have fin: ∀(ar:List U1),Vals ys ar->ys.length<=Vj-> ∀(h':Wb)(c':Nat),(∀ b o',s.heap.get? b=UU o'->h'.get? b=UU o') ->
   h'.get? s.heap.objs.size=UU { cls:= .type "list",dict:=UX,data:= .seq ar.toArray c',slots:= #[]}->EP X pins σ Q (.ref s.heap.objs.size) { s with heap:=h'}:=λar r' hz h' c' kp e =>
  ⟨.ref s.heap.objs.size,_,I.laid (t':=s.toks) kp (Vb _) (show bz X.prog X.w _ h' _ (.lst ys) from⟨hz,ar,c',r',e⟩),rfl,q _ (I.aY.fresh (Vb _))⟩
 rcases hq with hq | hq
 . obtain⟨ar,r',pl,hz⟩:=I.list hq;have hlen:=r'.length;obtain⟨o,ho,hc,n,hd⟩:=pl.isList;exact call_list_seq p (.inl rfl) ho hc hd (λh' c' kp e=>fin ar r' hz h' c' kp e) (by simp only[VC]<;>omega)
 . obtain⟨ar,r',pl,hz⟩:=I.tuple hq;have hlen:=r'.length;obtain⟨o,ho,hc,n,hd⟩:=pl;exact call_list_seq p (.inr rfl) ho hc hd (λh' c' kp e=>fin ar r' hz h' c' kp e) (by simp only[VC]<;>omega)
theorem oG:aU X (.type "tuple") (λxs H Q=> ∃ p ys,xs=[.ref p]/\((gP X.K H p ys/\ ∀ l,H l=UX->Q (.ref l) (upd H l (.tup ys)))\/(fU X.K H p ys/\Q (.ref p) H))):=by
 intro pins s σ H xs us Q I r h;obtain⟨p,ys,rfl,h⟩:=h;obtain⟨u,rfl,rx⟩:=vals1 r;cases rx;rcases h with⟨hq,q⟩ | ⟨hq,q⟩
 . obtain⟨ar,r',pl,hz⟩:=I.list hq;have hlen:=r'.length;refine call_tuple_list pl.isList (λh' kp=>?_) (by simp_all);have I1:=I.kept (t':=s.toks) kp;have I2 :=
    I1.laid (t':=s.toks) (λb o e=>U4 _ e) (Vb _) (show bz X.prog X.w _ _ _ (.tup ys) from⟨hz,ar,r',o8.new _ _⟩)
   exact⟨.ref h'.objs.size,_,I2,rfl,q _ (I1.aY.fresh (Vb _))⟩
 . obtain⟨ar,r',pl,hz⟩:=I.tuple hq;exact call_tuple_same pl ⟨.ref p,H,I,rfl,q⟩
def Qp(K:UW)(T:String)(x:V)(H:Hp):Prop:=match x with
 | .str _=>T= "str"
 | .int _=>T= "int"
 | .ref p=>(T= "list" /\ ∃ xs,gP K H p xs)\/(T= "tuple" /\ ∃ o,K.lookup p=UU o/\o.cls= .type "tuple" /\o.dict=UX) \/
   (T= "dict" /\((∃ kvs,H p=UU (.dK kvs))\/ ∃ kvs,H p=UU (.dT kvs)))\/(T= "set" /\ ∃ S n,H p=UU (.set S n))
 | _=>False
theorem IQ{σ :St}(I:Inv X pins σ H s)(r:RelV x v)(ty:Qp X.K T x H) :
  s.TypeIs v T/\ ∀ a,v= .ref a-> ∃ ob,s.heap.get? a=UU ob/\ob.dict=UX:=by
 cases x with
 | str z =>
  obtain⟨t,rfl⟩:=r
  cases(show T= "str" from ty)
  exact⟨Zy s z t,λ_ e=>by cases e⟩
 | int i =>
  obtain⟨t,rfl⟩:=r
  cases(show T= "int" from ty)
  exact⟨aaW s i t,λ_ e=>by cases e⟩
 | ref p =>
  cases r
  rcases ty with⟨rfl,xs,hq⟩ | ⟨rfl,o,hk,hc,hd⟩ | ⟨rfl,hk⟩ | ⟨rfl,S,n,hk⟩
  . obtain⟨ar,_,pl,_⟩:=I.list hq;refine⟨pl.isList.typeIs,λa e=>?_⟩;cases e;obtain⟨o,n,e,c,hd,_⟩:=pl;exact⟨o,e,hd⟩
  . refine⟨⟨o,I.gU p o hk,hc⟩,λa e=>?_⟩;cases e;exact⟨o,I.gU _ o hk,hd⟩
  . have z: ∃ o,s.heap.get? p=UU o/\o.ExactDict:=by
     rcases hk with⟨kvs,hk⟩ | ⟨kvs,hk⟩
     . obtain⟨_,_,_,_,o,_,_,e,ex,_⟩:=I.aY p _ hk;exact⟨o,e,ex⟩
     . obtain⟨_,_,_,_,o,_,_,e,ex,_⟩:=I.aY p _ hk;exact⟨o,e,ex⟩
    obtain⟨o,e,ex⟩:=z;refine⟨⟨o,e,ex.1⟩,λa e2=>?_⟩;cases e2;exact⟨o,e,ex.2.1⟩
  . obtain⟨o,_,_,_,e,ex,_⟩:=I.aY p _ hk;refine⟨⟨o,e,ex.1⟩,λa e2=>?_⟩;cases e2;exact⟨o,e,ex.2.1⟩
 | _=>exact Xb ty
noncomputable def T9(K:UW)(T:String)(r:V->List V->Hp->VK->Prop)(to:TE)(t:TA):TE:=fun σ H Q=>to σ H λx H1=>Qp K T x H1/\t σ H1 λxs H2=>r x xs H2 Q
variable{o e:VN}{es:List VN}{to:TE}{t:TA}{name:Str}{apos cpos:Pos}{T id:String}{r:V->List V->Hp->VK->Prop}
theorem Oo(pa:ab7 T)(slot:Slot T name id)(hty:typeOf (.builtin id)=pure (.type "method_descriptor"))(hm:xc X id r)(ho:PE X o to)(ha:PA X (e::es) t)
  (hbase:Xq o name X.env (WT o X.env)=WT o X.env:=by rfl)
  (hfew:((YX cpos (VR (e::es) X.env)).all (λx=> !x.1)&&(backToKw cpos (acT [] X.env)).all (λx=>x.1.isSome)
   && decide ((e::es).length+([]:List abG).length+(if ([]:List abG).isEmpty then 0 else 1) < 30))=true:=by rfl)
  (hline:(apos.endLine == cpos.line)=true:=by rfl) (hs:VR (e::es) X.env=(false,WT e X.env)::VR es X.env:=by rfl) (hplain:(YX cpos (VR es X.env)).any (·.1)=false:=by rfl) :
  PE X (.Call (.Attribute o name apos) (e::es) [] cpos) (T9 X.K T r to t):=by
 intro pins s σ H Q I h;refine wpAny_Call_method_late hbase hfew hline rfl (kO (ho pins s σ H _ I h) λv s1 x H1 I1 r1 ⟨ty,q1⟩=>?_);obtain⟨h1,h2⟩:=IQ I1 r1 ty;refine⟨T,id,pa,slot,hty,h1,h2,?_⟩;have hA:=ha cpos pins s1 σ H1 _ I1 q1;rw[hs] at hA ⊢;refine Calls.callWith_builtin (by show(false||(YX cpos (VR es X.env)).any (·.1))=false;rw[hplain]<;>rfl) (Calls.evalArgs_plain ?_)
 exact Fe hA λus s2 vs H2 I2 r2 q2=>hm pins s2 σ H2 x vs v us Q I2 r1 r2 q2
/- xs.append(e),list.index on a module's tuple .. are xc facts of 06m -/
end
def Uo X (id:String) (r:V->List V->Hp->VK->Prop) :=
 ∀ pins s(σ :St) H x xs v us Q,Inv X pins σ H s->RelV x v->Vals xs us->r x xs H Q ->
  Vs (Vv X.prog X.w) X.A (call (.builtin id) (v::us)) (EP X pins σ Q) X.xe s
theorem Vals.one{x:V}{us:List U1}(h:Vals [x] us): ∃ u,us=[u]/\RelV x u:=by
 cases h with
 | cons r t=>cases t;exact⟨_,rfl,r⟩
theorem Vals.two{x y:V}{us:List U1}(h:Vals [x,y] us): ∃ u v,us=[u,v]/\RelV x u/\RelV y v:=by
 cases h with
 | cons r t=>cases t with
  | cons q t=>cases t;exact⟨_,_,rfl,r,q⟩
theorem Vals.zero: ∀{us},Vals [] us->us=[]
 | _,.nil=>rfl
theorem Vals.dropLast{xs:List V}{us:List U1}(h:Vals xs us):Vals xs.dropLast us.dropLast:=by
 induction h with
 | nil=>exact .nil
 | cons r t ih =>
  cases t with
  | nil=>exact .nil
  | cons q t'=>exact .cons r ih
theorem Vals.rep(h:Vals xs us): ∀ k ,Vals (U8 k xs).flatten (U8 k us).flatten
 | 0=> .nil
 | k+1=>by
  exact Vals.append h (Vals.rep h k)
theorem foldl_rep(ar:List U1): ∀ k acc,
  ac7 (λx1 x2=>x1++x2) acc.toArray (U8 k ar.toArray)=(acc++(U8 k ar).flatten).toArray
 | 0,acc=>by simp
 | k+1,acc=>by
  have e:acc.toArray++ar.toArray=(acc++ar).toArray:=by simp
  have e2:(acc++ar)++(U8 k ar).flatten=acc++(U8 (k+1) ar).flatten:=by
   rw[abK,aam,Vd]
  rw[<- e2,<- foldl_rep ar k (acc++ar),<- e,abK,YT]
section
variable{X:Cx}{pins:List (U9 × Obj)}{σ :St}{H:Hp}{s:U5}{l b:U9}{xs ys zs:List V}
theorem Inv.Qn{ar its':List U1}{n:Nat}{f:Array U1->Array U1}{t':Nat}(I:Inv X pins σ H s)(hH:H l=UU (.lst xs))
  (e:s.heap.get? l=UU { cls:= .type "list",data:= .seq ar.toArray n}) (hf:f ar.toArray=its'.toArray) (hv:Vals ys its') (hz:ys.length<=Vj) :
  Inv X pins σ (upd H l (.lst ys)) { s with heap:=s.heap.update l (ab6 f),toks:=t'}:=by
 have q:=PySem.IsL.update e f;rw[hf] at q;refine I.write (x:=l) (e:=l) (by rw[hH];exact trivial) (.inl rfl) (λb' u hb hu=>(Wn s.heap (ab6 f) (Xf hb)).trans hu) ⟨_,q⟩ ?_;exact⟨hz,its',_,hv,q⟩
theorem Inv.PK(I:Inv X pins σ H s)(hv:Vals ys ar)(hz:ys.length<=Vj) :
  Inv X pins σ (upd H s.heap.objs.size (.lst ys)) { s with heap:=s.heap.push { cls:= .type "list",data:= .seq ar.toArray},toks:=t'} :=
 I.laid (λ_ _ q=>U4 _ q) (Vb _) ⟨hz,ar,0,hv,Vq _ rfl⟩
theorem Inv.fresh(I:Inv X pins σ H s):H s.heap.objs.size=UX:=I.aY.fresh (Vb _)
theorem Inv.uU(I:Inv X pins σ H s)(hH:H l=UU (.lst xs)):xs.length<=Vj/\ ∃(ar:List U1)(n:Nat),Vals xs ar/\xs.length=ar.length/\s.heap.get? l=UU { cls:= .type "list",data:= .seq ar.toArray n}:=by
 obtain⟨z,ar,n,r,e⟩:=I.aY l _ hH;exact⟨z,ar,n,r,r.length,e⟩
theorem sR(h:n<=Vj):YI n=false:=by
 exact decide_eq_false (by omega)
end
section
variable{X:Cx}
def EO:V->List V->Hp->VK->Prop:=λx vs H Q=> ∃ l xs y,x= .ref l/\vs=[y]/\H l=UU (.lst xs)/\xs.length < Vj/\Q .non (upd H l (.lst (xs++[y])))
theorem yF:Uo X "list.append" EO:=by
 intro pins s σ H x vs v us Q I rx rv h;obtain⟨l,xs,y,rfl,rfl,hH,hz,q⟩:=h;cases rx;obtain⟨u,rfl,ru⟩:=rv.one;obtain⟨z,ar,n,r,hl,e⟩:=I.uU hH;refine Xj F.slot_list_append ⟨_,e,rfl⟩ F.entry_list_append (F.args_list_append_2 _ _) (PySem.list_append l ar.toArray n u (by simp_all)) ⟨e,?_⟩;refine⟨.non,_,I.Qn (its':=ar++[u]) hH e (by simp) (r.append (.cons ru .nil)) ?_,rfl,q⟩;rw[U7,Yi];omega
def EZ:V->List V->Hp->VK->Prop:=λx vs H Q=> ∃ l b xs zs,x= .ref l/\vs=[.ref b]/\H l=UU (.lst xs)/\H b=UU (.lst zs)/\xs.length+zs.length<=Vj/\Q .non (upd H l (.lst (xs++zs)))
theorem yG:Uo X "list.extend" EZ:=by
 intro pins s σ H x vs v us Q I rx rv h;obtain⟨l,b,xs,zs,rfl,rfl,hH,hB,hz,q⟩:=h;cases rx;obtain⟨u,rfl,ru⟩:=rv.one;cases ru;obtain⟨z,ar,n,r,hl,e⟩:=I.uU hH;obtain⟨z2,its2,n2,r2,hl2,e2⟩:=I.uU hB;have hsz:ar.toArray.size+its2.toArray.size<=Vj:=by rw[VC,VC];omega
 have hlong: ¬ (!ar.toArray.isEmpty&&YI (ar.toArray.size+its2.toArray.size))=true:=by
  rw[sR hsz,WX];exact Vr
 refine Xj F.slot_list_extend ⟨_,e,rfl⟩ F.entry_list_extend (F.args_list_extend_2 _ _)
  (AutoSeq1.list_extend_list_list_0 l ar.toArray n b its2.toArray n2 hlong (by rw[VC];omega) (by omega)) ⟨e,e2,?_⟩
 refine⟨.non,_,I.Qn (its':=ar++its2) hH e (by simp) (r.append r2) ?_,rfl,q⟩;rw[U7];omega
def QB:R2:=λx y H Q=> ∃ l b xs zs,x= .ref l/\y= .ref b/\H l=UU (.lst xs)/\H b=UU (.lst zs)/\xs.length+zs.length<=Vj/\ ∀ p,H p=UX->Q (.ref p) (upd H p (.lst (xs++zs)))
theorem Ll:cI X (Wv .Add) QB:=by
 intro pins s σ H x y v u Q I rx ry h;obtain⟨l,b,xs,zs,rfl,rfl,hH,hB,hz,q⟩:=h;cases rx;cases ry;obtain⟨z,ar,n,r,hl,e⟩:=I.uU hH;obtain⟨z2,its2,n2,r2,hl2,e2⟩:=I.uU hB;refine PySem.P.add_list e e2 ?_ (by simp_all);have ea:ar.toArray++its2.toArray=(ar++its2).toArray:=by simp
 rw[ea];exact⟨.ref _,_,I.PK (t':=s.toks) (r.append r2) (by rw[U7];omega),rfl,q _ I.fresh⟩
def S3:R2:=λx y H Q=> ∃ l k xs,x= .ref l/\y= .int k/\H l=UU (.lst xs)/\ -(2 ^ 63)<=k/\k < 2 ^ 63/\xs.length*k.toNat<=Vj /\
 ∀ p,H p=UX->Q (.ref p) (upd H p (.lst (U8 k.toNat xs).flatten))
theorem len_rep{α :Type}(xs:List α) k:(U8 k xs).flatten.length=k*xs.length:=by
 simp_all
theorem MM:cI X (Wv .Mult) S3:=by
 intro pins s σ H x y v u Q I rx ry h;obtain⟨l,k,xs,rfl,rfl,hH,h1,h2,hz,q⟩:=h;cases rx;obtain⟨t,rfl⟩:=ry;obtain⟨z,ar,n,r,hl,e⟩:=I.uU hH;have hlen:ar.toArray.size*k.toNat<=Vj:=by rw[VC,<- hl];exact hz
 have hcap: ¬ ar.toArray.size*k.toNat > (2 ^ 63 - 1) / 8:=by
  have:(Vj)<=(2 ^ 63 - 1) / 8:=by decide
  omega
 have hfit: ¬ (!Builtin.List.listFitsIndex k)=true:=by
  rw[fitsIndex_both h1 h2];exact Vr
 have hlong: ¬ YI (ar.toArray.size*k.toNat)=true:=by
  rw[sR hlen];exact Vr
 have hnew:ac7 (λx1 x2=>x1++x2) #[] (U8 (if ar.toArray.isEmpty=true then 0 else k.toNat) ar.toArray)=(U8 k.toNat ar).flatten.toArray:=by
  have f0:=λm=>by
   have:=foldl_rep ar m [];rw[VW] at this;exact this
  rw[f0];cases ar with
  | nil=>simp
  | cons a r'=>rfl
 refine aaj (T:= "list") (U:= "int") (by decide) ⟨_,e,rfl⟩ (λs'=>aaW s' k t) noFill_list_mul F.fills_int_mul F.slot_int_rmul repeat_list F.slot_int_index.lookup
  (Xj F.slot_int_rmul (aaW s k t) F.entry_int_rmul (F.args_int_rmul_2 _ _) (int___rmul___int_list k t l ar.toArray n)
   ⟨e,rfl,⟨_,e,rfl⟩,Xj F.slot_list_mul ⟨_,e,rfl⟩ F.entry_list_mul (F.args_list_mul_2 _ _) (AutoListH.list___mul___list_int_3 l ar.toArray n k t hfit hcap hlong) ⟨e,?_⟩⟩)
 rw[hnew];exact⟨.ref _,_,I.PK (t':=s.toks) (r.rep k.toNat) (by rw[len_rep,Z3];exact hz),rfl,q _ I.fresh⟩
end
end L2
namespace Att
open PySem PySem.W PySem.Calls PyProof.Rows
theorem lH: ∀ ns vs,WellAll P h vs (ns.map WData.int)->ac2 vs ns:=by
 intro ns
 induction ns with
 | nil =>
  intro vs w
  cases w
  exact .nil
 | cons n ns ih =>
  intro vs w
  cases w with
  | cons a b =>
   cases a
   exact .cons _ _ (ih _ b)
theorem xS{l : ZJ}(hn : l.most = UU n) 
    (hpre : l.row.toRowW.claim.pre args = true) (hwl : WellAll P h vals args) :
    ∃ a vs ns, vals = [Vo a] /\ args = [WData.list (ns.map WData.int)] /\ h.get? a = UU { cls := .type "list", data := .seq vs.toArray} /\ ac2 vs ns /\ ns.length <= n := by
  have hsh : WShape.hasAll [] args [.list .int] = true := (pre_splitW hpre).1;have hc : l.pre.holds [] { args := args} = true := (pre_splitW hpre).2;obtain ⟨d, r, rfl, h1, h2⟩ := hasAllW_cons hsh;obtain rfl := hasAllW_nil h2;obtain ⟨xs, rfl, h3⟩ := hasW_list h1;obtain ⟨ns, rfl⟩ := items_int h3;have hlen : ns.length <= n := by
    have h4 : (WTm.not (.lt (.lit (.int (n))) (.len (.arg 0)))).holds [] { args := [.list (ns.map .int)]} = true := by
      have h4 := (holds_andW hc).1;rw [hn] at h4;exact h4
    have h5 := condW_of h4 (w_not (w_lt w_lit (w_len_list (w_arg rfl))))
    first
      | (exact absurd h5 (by decide))
      | (simp at h5; omega)
  cases hwl with
  | cons w1 w2 =>
    cases w2
    cases w1 with
    | list ho hall => exact ⟨_, _, ns, rfl, rfl, ho, lH ns _ hall, hlen⟩
theorem yO(l:ZJ) args:l.row.toRowW.claim.post args (.bool true) args=true :=
 postW_of (r:=l.row.toRowW) (X:=(true == true))
  (show WShape.has [] (.bool true) .bool=true by first | rfl | decide | simp [WShape.arms])
  (show(WTm.eq .res (.lit (.bool true))).value [] { args:=args,res:=UU (.bool true),after:=args}=UU (.bool (true == true)) from w_eq_bool (w_res rfl) w_lit) rfl
theorem sX{l:ZJ}{n:Nat}{q:VE}{loose:List Str}{XP:(Str->Option U1)->Wb->Prop}{YP:VY->Wb->Prop}{d:DefRec}
  (hn:l.most=UU n) (hdf:d.params.defaults=[])
  (call: ∀(w:VY)(s₀ s₁ :U5)(mg mb:Str->Option U1)(fa:U9)(o:Obj)(pm cd doc:U1)(a:U9)(vs:List U1)(ns:List Int),
   Ground q loose [] XP w s₀ mg mb s₁.heap->YP w s₁.heap ->
   s₁.heap.get? fa=UU o->o.data= .func (docDef d.name d.params d.body d.scope pm cd doc)->s₁.heap.CodeRec cd d.name->mg d.name=UU (.ref fa) ->
   s₁.heap.get? a=UU { cls:= .type "list",data:= .seq vs.toArray}->ac2 vs ns->ns.length<=n->s₁.gens= #[] ->
   Z0 (Vv l.prog w) abH (.call (.ref fa) ⟨[.ref a],[]⟩) (λr s'=>r= .ok (.ret (.bool true))/\OldK s₁.heap s'.heap/\s'.os=s₁.os/\Yx s'.gens) s₁) :
  ac3 q loose XP YP l.row.toRowW d [] (λf vs=>ac8 f vs):=by
 intro w s₀ s₁ mg mb G Y fa o pm cd doc dV kV ho hd hcd hD hmg hg args vals as hpre hlay hrd hwl hlo;obtain rfl:dV= .none:=Dflts.none hD hdf;obtain rfl:kV= .none:=Dflts.noKw hD;obtain⟨a,vs,ns,rfl,rfl,hobj,hints,hlen⟩:=xS hn hpre hwl;refine enter_call (aaS (call w s₀ s₁ mg mb fa o pm cd doc a vs ns G Y ho (fd_plain hd) hcd hmg hobj hints hlen hg) λr s' hq=>?_);obtain⟨rfl,h2,h3,h4⟩:=hq;exact⟨.inl ⟨.bool true,.bool true,[],rfl,λ_=>rfl,.bool true,yO l _,λ_=>⟨List.Pairwise.nil,λ_ hm=>(by cases hm)⟩⟩,h2,h3,h4⟩
section
variable{prog:VE}{w:VY}{A:V6}{E:U1->U5->Prop}{s:U5}{K:UW}
noncomputable def ledger(h:Wb) L d:=(XQ h.objs.size).filterMap λa=>if a=L\/a=d then UX else(h.get? a).map λo=>(a,o)
end
end Att
namespace L2
open PySem PySem.Spec PyProof.Rows
theorem pX: ∀{vs ns},ac2 vs ns->Vals (ns.map V.int) vs
 | _,_,.nil=> .nil
 | _,_,.cons n t h=> .cons ⟨t,rfl⟩ (pX h)
def zV(H:Hp):= ∀ b,H b=UX\/ ∃ o xs,H b=UU (.ef o (.lst xs))
theorem Cw{K} 
  (KX:K.In s₁.heap) (hns:s₁.heap.Ns VB mg) (hb:s₁.heap.Ns builtinsNs mb) (hbb: ∀ x:Str,x≠ "__name__" ->mb x=Wm x) (hlim:s₁.heap.NoLimit) (hg:s₁.gens= #[])
  (ha:s₁.heap.get? a=UU { cls:= .type "list",data:= .seq vs.toArray}) (hi:ac2 vs ns) (hl:ns.length<=Vj) (hr:cG k abH)
  (F: ∀ base ,K.In base->base.Ns VB mg->ig P w K mg base CX k fa fd [x] sp) (hbind: ∀ s u,aak s fd ⟨[u],[]⟩ [(x,u)])
  (hsp: ∀ H ,zV H->gP K H a (ns.map V.int)->sp [.ref a] H (λv _=>v= .bl true) λ_ _ _=>False)
  (hCX: ∀ H e s',CX [] H s₁ (λ_ _ _=>False) e s'->False) :
  Z0 (Vv P w) abH (.call (.ref fa) ⟨[.ref a],[]⟩) (λr s'=>r= .ok (.ret (.bool true))/\OldK s₁.heap s'.heap/\s'.os=s₁.os/\Yx s'.gens) s₁ :=by
 have rv:=pX hi;have lenV:=hi.length;have core: ∀ H ,zV H->gP K H a (ns.map V.int)->hI P w H s₁.heap->(∀ b,H b≠UX->b=a)->(H a≠UX->K.lookup a=UX) ->
   Z0 (Vv P w) abH (.call (.ref fa) ⟨[.ref a],[]⟩) (λr s'=>r= .ok (.ret (.bool true))/\OldK s₁.heap s'.heap/\s'.os=s₁.os/\Yx s'.gens) s₁ :=by
  intro H hO hS aY hA hK;have base_of: ∀{b:U9}{o:Obj},s₁.heap.get? b=UU o->H b=UX->(uq s₁.heap H).get? b=UU o:=λe n=>AY e n;have noA: ∀{b:U9}{o:Obj}{es:Array acH}{ep:Nat},s₁.heap.get? b=UU o->o.data= .dict es ep->H b=UX:=λ{b o es ep} e d=>by
   cases q:H b with
   | none=>rfl
   | some u =>
    have e':=hA b (by rw[q];simp)
    subst e'
    rw[ha] at e;cases e
    have d':=d
    cases d'
  have nsK: ∀{b:U9}{m:Str->Option U1},s₁.heap.Ns b m->(uq s₁.heap H).Ns b m:=λ{b m}=>by rintro ⟨o,es,ep,e,d,r⟩;exact⟨o,es,ep,base_of e (noA e d),d,r⟩
  have hKb:=λb o e=>base_of (KX b o e) (by
   cases q:H b with
   | none=>rfl
   | some u =>
    have e':=hA b (by rw[q];simp)
    subst e'
    rw[hK (by rw[q];simp)] at e;cases e)
  have hM:Mod K mg (uq s₁.heap H):=⟨hKb,nsK hns,⟨mb,nsK hb,hbb⟩,by obtain⟨mc,h1,h2⟩:=hlim;exact⟨mc,nsK h1,h2⟩⟩
  have e0:nP P w K mg (uq s₁.heap H) abH [] s₁ H:=⟨rfl,hM,λb o e=>Dy e,aaR (xV _ _),trivial,λb hb=>absurd (show b∈([]) from hb) (by simp),aY,.of_eq hg⟩
  refine aaS ((F _ hKb (nsK hns)).run abH [] s₁ H ⟨[.ref a],[]⟩ [.ref a] [.ref a] _ _ hr e0 (hbind s₁ (.ref a)) (.cons rfl .nil) (hsp H hO hS)) λr s' h=>?_;cases r with
  | error e=>exact(hCX H e s' h).elim
  | ok fl =>
   cases fl with
   | next=>exact Xb h
   | brk=>exact Xb h
   | cont=>exact Xb h
   | ret u =>
    obtain⟨v,H',os,bare,un,hok',r',q⟩:=h
    have q':=q
    subst q'
    obtain rfl:u=YW true:=r'
    refine⟨rfl,OldK.of_keep λb o e=>?_,os,bare⟩
    cases q:H b with
    | none=>exact un.keep b o e q (by intro z;exact absurd (show b∈([]) from z) (by simp)) (by simp)
    | some u =>
     rcases hO b with z | ⟨ob,xs,z⟩
     . rw[q] at z;cases z
     . have z2:=un.ik b ob _ z;obtain⟨e1,_⟩:=aY b _ z;obtain⟨e2,_⟩:=hok' b _ z2;rw[e] at e1;cases e1;exact e2
 cases hk:K.lookup a with
 | some o =>
  have e:=KX a o hk
  rw[ha] at e
  cases e
  refine core (λ_=>UX) (λ_=> .inl rfl) (.inr ⟨_,vs.toArray,_,hk,rfl,rfl,rfl,by simp_all,by omega⟩) (λb u z=>by simp_all) (λb z=>absurd rfl z) λz=>absurd rfl z
 | none =>
  refine core (λb=>if b=a then UU (.ef { cls:= .type "list",data:= .seq vs.toArray} (.lst (ns.map V.int))) else UX) (λb=>?_) (.inl (.inr ⟨{ cls:= .type "list",data:= .seq vs.toArray},if_pos rfl⟩)) (λb u z=>?_) (λb z=>?_) λ_=>hk
  . by_cases hb:b=a
    . exact .inr ⟨_,_,if_pos hb⟩
    . exact .inl (if_neg hb)
  . by_cases hb:b=a
    . have z':=(if_pos hb).symm.trans z;cases z';subst hb;exact⟨ha,by simp_all,vs,_,rv,ha⟩
    . simp_all
  . by_cases hb:b=a
    . exact hb
    . exact absurd (if_neg hb) z
theorem Eu{l:ZJ}{n k:Nat}{q:VE}{loose:List Str}{XP:(Str->Option U1)->Wb->Prop}{YP:VY->Wb->Prop}{d:DefRec}{K:Params->UW}{CX:VY->Di}{sp:VY->Sp}{x:Str}
  (hn:l.most=UU n) (hn2:n<=Vj) (hdf:d.params.defaults=[]) (hr:cG k abH)
  (hY: ∀(w:VY)(h:Wb),YP w h->(K w.params).In h)
  (F: ∀(w:VY)(mg:Str->Option U1)(fa:U9)(h:Wb),(K w.params).In h->h.Ns VB mg->mg d.name=UU (.ref fa) ->
   ∃ fd:Xx,(∀(s:U5)(u:U1),aak s fd ⟨[u],[]⟩ [(x,u)]) /\
    ∀ base:Wb,(K w.params).In base->base.Ns VB mg->ig l.prog w (K w.params) mg base (CX w) k fa fd [x] (sp w))
  (hsp: ∀(w:VY)(H:Hp)(a:U9)(ns:List Int),ns.length<=n->zV H->gP (K w.params) H a (ns.map V.int)->sp w [.ref a] H (λv _=>v= .bl true) λ_ _ _=>False)
  (hCX: ∀(w:VY)(H:Hp)(s:U5)(e:U1)(s':U5),CX w [] H s (λ_ _ _=>False) e s'->False) :
  ac3 q loose XP YP l.row.toRowW d [] (λf vs=>ac8 f vs):=by
 refine Att.sX hn hdf λw s₀ s₁ mg mb fa o pm cd doc a vs ns G Y ho hd hcd hmg hobj hints hlen hg=>?_;have KX:=hY w _ Y;obtain ⟨fd,hb,hF⟩:=F w mg fa _ KX G.T.g hmg;exact Cw KX G.T.g G.T.b G.T.builtins G.T.nolimit hg hobj hints (Vn hlen hn2) hr hF hb (λH hO hS=>hsp w H a ns hlen hO hS) λH e s'=>hCX w H s₁ e s'
end L2
/- THE LAST THEOREM (shape; LID, My.* are yours):
   My.Adr: a structure of the addresses that your layer names (classes, functions); My.Txt K t: a structure (Prop) of the equations over K;
   My.txt_mk : {K} {implicit addresses ..} (e1 : VZ K VB "law" = UU (UU (.ref f))) (e2 : K.lookup f = UU ⟨oc, od, .func (VX "law" "law" params body scope dV kV doc pm an cdv ct), sl⟩) (e3 : ZQ K cdv "law" = true) .. : ∃ t, My.Txt K t
set_option maxRecDepth 100000 in
(the tactic k_is has no namespace:write k_is) -/
namespace L2
open PySem PySem.Spec PyProof.Rows
noncomputable def br(s:WV):=match s with
 | .FunctionDef _ a _ _ _ _ _ _ _ _=>a
 | _=>{ posonlyargs:=[],args:=[],vararg:=UX,kwonlyargs:=[],kw_defaults:=[],kwarg:=UX,defaults:=[]}
noncomputable def aE(s:WV):=match s with
 | .FunctionDef _ _ b _ _ _ _ _ _ _=>b
 | _=>[]
noncomputable def ag(s:WV):=match s with
 | .FunctionDef _ _ _ _ _ _ sc _ _ _=>sc
 | _=>{ kind:= .function,names:=[],isGenerator:=false,isCoroutine:=false}
abbrev Th:Di:=λ_ _ _ _ _ _=>False
abbrev E0:XK:=λ_ _ _=>False
structure qD(K:UW)(x qual:Str)(st:WV)(f:U9)(fd:Xx):Prop where
 ex: ∃(oc:U1)(od:Option U9)(kV doc pm:U1)(an:Option U9)(cdv ct:U1)(osl:Array (Option U1)),
  fd=VX x qual (br st) (aE st) (ag st) .none kV doc pm an cdv ct/\K.lookup f=UU ⟨oc,od,.func fd,osl⟩/\ZQ K cdv qual=true
 kp:Wh K (.ref f)=true
section
variable{P:VE}{w:VY}{K:UW}{mg:Str->Option U1}{base:Wb}
theorem qD.ok{st}(F:qD K x qual st f fd)(S:bO N ps (ag st))(len: ∀ vs H Q E,sp vs H Q E->vs.length=ps.length)
  (hbody: ∀ cdv A outer s H vs Q E,cG k (A.deeper (Yo qual (ag st) s.heap.objs.size f cdv))->sp vs H Q E ->
   ∃ t,oO (dm Th P w K mg base N qual (ag st) f cdv A outer s H E).dw (aE st) t/\t { nx:=λ_ H'=>Q .non H',rt:=Q} (start N vs) H):ig P w K mg base Th (k+1) f fd ps sp:=by
 obtain⟨oc,od,kV,doc,pm,an,cdv,ct,osl,rfl,lk,hcd⟩:=F.ex;refine HF lk hcd S len λA outer s H vs Q E hr hsp=>?_;obtain⟨t,h,q⟩:=hbody cdv A outer s H vs Q E hr hsp;exact⟨t,h.dw,q⟩
theorem qD.binds{st}(F:qD K x qual st f fd)
  (h: ∀ kV doc pm an cdv ct us,us.length=ps.length->W8 (VX x qual (br st) (aE st) (ag st) .none kV doc pm an cdv ct) ⟨us,[]⟩=pure (ps.zip us)):Binds K fd ps []:=by
 obtain⟨oc,od,kV,doc,pm,an,cdv,ct,osl,rfl,lk,hcd⟩:=F.ex;exact .all (h kV doc pm an cdv ct)
theorem BE{st kV}(l:K.lookup f=UU ⟨oc,od,.func (VX x qual (br st) (aE st) (ag st) .none kV doc pm an cdv ct),osl⟩)
  (c:ZQ K cdv qual=true) (k:Wh K (.ref f)=true):qD K x qual st f (VX x qual (br st) (aE st) (ag st) .none kV doc pm an cdv ct):=⟨⟨oc,od,kV,doc,pm,an,cdv,ct,osl,rfl,l,c⟩,k⟩
end
theorem Ot(hr:cG k A):A.units+1 < Zh:=ab8 (Nat.add_le_add_left (by decide) _) hr.units
section
variable{X:Cx}
theorem pv(i:Nat){x:Str}{pos:Pos}(hN:X.N[i]?=UU x:=by rfl)(hv:Ic X.env.scope x:=by first | exact YZ rfl | exact Yq (YZ rfl) | exact Yq (Yq rfl))(hd:(x == ("__debug__" :Str))=false:=by decide)
  (hcd:(x == ("__classdict__" :Str))=false:=by decide):PE X (.Name x pos) (yj i):=mR hN hv hd hcd
end
def jG(H H':Hp):= ∀ b o,H b=UU o->H' b=UU o
theorem jG.trans(a:jG H H1)(b:jG H1 H2):jG H H2:=λc o h=>b c o (a c o h)
theorem jG.free(e:jG H H')(h:H' l=UX):H l=UX:=by
 cases q:H l with
 | none=>rfl
 | some o =>
  rw[e l o q] at h
  cases h
theorem jG.seq{K:UW}{H H':Hp}{a:U9}{xs:List V}(e:jG H H')(h:gP K H a xs):gP K H' a xs:=by
 rcases h with(h | ⟨o,h⟩) | h
 . exact .inl (.inl (e _ _ h))
 . exact .inl (.inr ⟨o,e _ _ h⟩)
 . exact .inr h
open PySem PySem.W PyProof.Rows
section
variable{κ :Type}[DecidableEq κ]
noncomputable def fE(kvs:List (κ × V)) k:=(kvs.find? λkv=>decide (kv.1=k)).map (·.2)
noncomputable def putK kvs (k: κ) (v:V) :=
 if (kvs.any λkv=>decide (kv.1=k))=true then kvs.map (λkv=>if kv.1=k then(kv.1,v) else kv) else kvs++[(k,v)]
theorem nZ{k: κ}(e:p.1=k):fE (p::r) k=UU p.2:=by simp[fE,e]
theorem m3{k: κ}(e: ¬ p.1=k):fE (p::r) k=fE r k:=by simp[fE,e]
theorem tZ(k: κ): ∀ kvs ,(kvs.any λkv=>decide (kv.1=k))=(fE kvs k).isSome
 | []=>rfl
 | p::r=>by
  rw[Xr];by_cases e:p.1=k
  . simp only[nZ e,decide_eq_true e,XM,ab9]
  . rw[m3 e,decide_eq_false e];exact tZ k r
theorem kS kvs (k: κ) v:(putK kvs k v).length<=kvs.length+1:=by
 unfold putK;split
 . simp_all
 . simp_all
theorem gF.dG(r:gF o u):o.isSome=u.isSome:=by
 cases o with
 | none=>cases u with
  | none=>rfl
  | some _=>exact(show False from r).elim
 | some _=>cases u with
  | none=>exact(show False from r).elim
  | some _=>rfl
theorem gF.getD(r:gF o u)(rd:RelV d d'):RelV (o.getD d) (u.getD d'):=by
 cases o with
 | none=>cases u with
  | none=>exact rd
  | some _=>exact(show False from r).elim
 | some _=>cases u with
  | none=>exact(show False from r).elim
  | some _=>exact r
theorem KV.val(r:KV kvs vs)(k: κ):gF (fE kvs k) (abI vs k):=by
 induction r with
 | nil=>exact X3
 | @cons p q ps qs h t ih =>
  obtain⟨h1,h2⟩:=h
  by_cases e:p.1=k
  . have e':=h1.symm.trans e;have b:abI (q::qs) k=UU q.2:=by simp[abI,e']
    rw[nZ e,b];exact h2
  . have e': ¬ q.1=k:=λz=>e (h1.trans z);have b:abI (q::qs) k=abI qs k:=by simp[abI,e']
    rw[m3 e,b];exact ih
theorem KV.any(r:KV kvs vs)(k: κ):(kvs.any λkv=>decide (kv.1=k))=vs.any λkv=>decide (kv.1=k):=by
 induction r with
 | nil=>rfl
 | cons h t ih=>simp_all
theorem KV.Lm(r:KV kvs vs)(k: κ)(ry:RelV y u) :
  KV (kvs.map λkv=>if kv.1=k then(kv.1,y) else kv) (vs.map λkv=>if kv.1=k then(kv.1,u) else kv):=by
 induction r with
 | nil=>exact .nil
 | @cons p q ps qs h t ih =>
  rw[U2,U2]
  refine .cons ?_ ih
  obtain⟨h1,h2⟩:=h
  by_cases e:p.1=k
  . rw[if_pos e,if_pos (h1.symm.trans e)];exact⟨h1,ry⟩
  . rw[if_neg e,if_neg (λz=>e (h1.trans z))];exact⟨h1,h2⟩
theorem KV.put(r:KV kvs vs)(k: κ)(ry:RelV y u):KV (putK kvs k y) (stored vs k u):=by
 unfold putK stored;rw[r.any k];by_cases e:(vs.any λkv=>decide (kv.1=k))=true
 . rw[if_pos e,if_pos e];exact r.Lm k ry
 . rw[if_neg e,if_neg e];exact adm r ⟨rfl,ry⟩
theorem KV.keys{kvs:List (κ × V)}{vs:List (κ × U1)}(r:KV kvs vs):kvs.map (·.1)=vs.map (·.1):=by
 induction r with
 | nil=>rfl
 | cons h t ih=>simp_all
theorem KV.length{kvs:List (κ × V)}{vs:List (κ × U1)}(r:KV kvs vs):kvs.length=vs.length:=YF r
end
theorem nr(r:RelV (kV k) u):(bR P w).is k u=true:=by
 cases k with
 | inl i=>obtain⟨t,e⟩:=(show ∃ t,u=Z5 i t from r);subst e;exact sG P w i t
 | inr x=>obtain⟨t,e⟩:=(show ∃ t,u=Z6 x t from r);subst e;exact sY P w x t
theorem pT: ∀{ks us},Vals (ks.map kV) us->ItemsAre (bR P w) ks us
 | [],_,r=>by cases r;exact .nil
 | k::ks,_,r=>by
  cases r with
  | cons h t=>exact .cons (nr h) (pT t)
abbrev KT(H:Hp):List (List Key × V)->List (List Key × U9 × U1)->Prop:=Ws λp q=>p.1=q.1/\H q.2.1=UU (.tup (p.1.map kV))/\RelV p.2 q.2.2
theorem KT.val(r:KT H kvs xs) k:gF (fE kvs k) ((acU xs k).map (·.2)):=by
 induction r with
 | nil=>exact X3
 | @cons p q ps qs h t ih =>
  obtain⟨h1,_,h2⟩:=h
  by_cases e:p.1=k
  . have e':=h1.symm.trans e;have b:acU (q::qs) k=UU q.2:=by simp[acU,e']
    rw[nZ e,b];exact h2
  . have e': ¬ q.1=k:=λz=>e (h1.trans z);have b:acU (q::qs) k=acU qs k:=by simp[acU,e']
    rw[m3 e,b];exact ih
theorem KT.Lm(r:KT H kvs xs) k (ry:RelV y u) :
  KT H (kvs.map λkv=>if kv.1=k then(kv.1,y) else kv) (xs.map (putAt k u)):=by
 induction r with
 | nil=>exact .nil
 | @cons p q ps qs h t ih =>
  rw[U2]
  refine .cons ?_ ih
  obtain⟨h1,h2,h3⟩:=h
  unfold putAt
  by_cases e:p.1=k
  . rw[if_pos e,if_pos (h1.symm.trans e)];exact⟨h1,h2,ry⟩
  . rw[if_neg e,if_neg (λz=>e (h1.trans z))];exact⟨h1,h2,h3⟩
theorem KT.put(r:KT H kvs xs) k (hb:H b=UU (.tup (k.map kV))) (ry:RelV y u) :
  KT H (putK kvs k y) (storedH xs k b u):=by
 have e:(kvs.any λkv=>decide (kv.1=k))=(acU xs k).isSome:=by
  rw[tZ,(r.val k).dG,aan]
 unfold putK storedH;rw[e];by_cases q:(acU xs k).isSome=true
 . rw[if_pos q,if_pos q];exact r.Lm k ry
 . rw[if_neg q,if_neg q];exact adm r ⟨rfl,hb,ry⟩
theorem KT.keeps(r:KT H kvs xs)(ht: ∀ b ys,H b=UU (.tup ys)->H' b=UU (.tup ys)):KT H' kvs xs :=
 Paired.DT r λ_ _ z=>⟨z.1,ht _ _ z.2.1,z.2.2⟩
section
variable{P:VE}{w:VY}{H:Hp}{h:Wb}{a:U9}
theorem Hn(ok:hI P w H h)(e:Rd H a u):bz P w H h a u:=e.ok ok
theorem pH(ok:hI P w H h)(e:Rd H a (.dK kvs)):kvs.length<=Vj/\(a == Xa)=false/\ ∃ vs,KV kvs vs/\h.DictOf (bR P w) a vs :=
 show bz P w H h a (.dK kvs) from Hn ok e
theorem HL(ok:hI P w H h)(e:H a=UU (.dK kvs)):kvs.length<=Vj/\(a == Xa)=false/\ ∃ vs,KV kvs vs/\h.DictOf (bR P w) a vs:=pH ok (.inl e)
theorem ng(ok:hI P w H h)(e:H a=UU (.tup (ks.map kV))):(abE (bR P w)).is h ks a:=by
 obtain⟨_,ar,r,o,h1,h2,n,h3,_⟩:=(show bz P w H h a (.tup (ks.map kV)) from ok a _ e)
 exact⟨o,ar.toArray,n,h1,h2,h3,by simpa using pT r⟩
theorem uA(ok:hI P w H h)(e:Rd H a (.dT kvs)):kvs.length<=Vj/\(a == Xa)=false /\
  ∃ xs,KT H kvs xs/\h.DictOfH (abE (bR P w)) a xs:=by
 obtain⟨z,y,xs,r,o,es,ep,h1,h2,h3,h4,h5⟩:=(show bz P w H h a (.dT kvs) from Hn ok e)
 refine⟨z,y,xs,r,o,es,ep,h1,h2,h3,h4,λx hx=>?_,h5⟩;have all: ∀{l m},KT H l m-> ∀ x∈m,(abE (bR P w)).is h x.1 x.2.1:=by
  intro l m q
  induction q with
  | nil=>simp_all
  | @cons p q ps qs hq t ih =>
   intro x hx
   rcases Vt.mp hx with e | hx
   . subst e;exact ng ok (by rw[<- hq.1];exact hq.2.1)
   . exact ih x hx
 exact all r x hx
theorem Oj(ok:hI P w H h)(e:H a=UU (.dT kvs)):kvs.length<=Vj/\(a == Xa)=false /\
  ∃ xs,KT H kvs xs/\h.DictOfH (abE (bR P w)) a xs:=uA ok (.inl e)
end
def ko H (a:U9) y (r:Option V) :=
 (∃ kvs k,Rd H a (.dK kvs)/\y=kV k/\r=fE kvs k)\/ ∃ kvs k b,Rd H a (.dT kvs)/\y= .ref b/\H b=UU (.tup (k.map kV))/\r=fE kvs k
def uW H (a:U9) y v H' :=
 (∃ kvs k,H a=UU (.dK kvs)/\y=kV k/\kvs.length < Vj/\H'=upd H a (.dK (putK kvs k v))) \/
 ∃ kvs k b,H a=UU (.dT kvs)/\y= .ref b/\H b=UU (.tup (k.map kV))/\kvs.length < Vj/\H'=upd H a (.dT (putK kvs k v))
theorem ko.k{H:Hp}{a:U9}{kvs:List (Key × V)}{k:Key}(e:H a=UU (.dK kvs)):ko H a (kV k) (fE kvs k):= .inl ⟨kvs,k,.inl e,rfl,rfl⟩
theorem ko.t{H:Hp}{a b:U9}{kvs:List (List Key × V)}{k:List Key}(e:H a=UU (.dT kvs))(eb:H b=UU (.tup (k.map kV))):ko H a (.ref b) (fE kvs k):= .inr ⟨kvs,k,b,.inl e,rfl,eb,rfl⟩
theorem uW.k{H:Hp}{a:U9}{kvs:List (Key × V)}{k:Key}{v:V}(e:H a=UU (.dK kvs))(hl:kvs.length < Vj):uW H a (kV k) v (upd H a (.dK (putK kvs k v))):= .inl ⟨kvs,k,e,rfl,hl,rfl⟩
theorem uW.t{H:Hp}{a b:U9}{kvs:List (List Key × V)}{k:List Key}{v:V}(e:H a=UU (.dT kvs))(eb:H b=UU (.tup (k.map kV)))(hl:kvs.length < Vj) :
  uW H a (.ref b) v (upd H a (.dT (putK kvs k v))):= .inr ⟨kvs,k,b,e,rfl,eb,hl,rfl⟩
section
variable{X:Cx}{pins:List (U9 × Obj)}{σ :St}{H:Hp}{s:U5}{a:U9}{y v:V}{u r:U1}{o:Option V}{A:V6}{E:U1->U5->Prop}
theorem Inv.big(I:Inv X pins σ H s):Xa < s.heap.objs.size:=by
 have h:=(I.mod.glob.keeps I.bk).lt;exact Nat.lt_trans (by decide) h
theorem xW(hu:A.units+1 < Zh)(I:Inv X pins σ H s)(g:ko H a y (UU v))(ry:RelV y u)(h: ∀ w' s',Inv X pins σ H s'->RelV v w'->Q w' s') :
  Vs (Vv X.prog X.w) A (aaU (.ref a) u) Q E s:=by
 rcases g with⟨kvs,k,e,ey,l⟩ | ⟨kvs,k,b,e,ey,eb,l⟩
 . subst ey;obtain⟨z,hd,vs,rel,dd⟩:=pH I.aY e;obtain⟨w',hw,rw'⟩:=gF.some_of (v:=v) (o:=abI vs k) (by rw[l];exact rel.val k);exact wpAny_getItem_of (nr ry) dd.mapOf hw (h w' _ (I.tok _) rw')
 . subst ey;cases(show u=Vo b from ry);obtain⟨z,hd,xs,rel,dd⟩:=uA I.aY e;obtain⟨w',hw,rw'⟩:=gF.some_of (v:=v) (o:=(acU xs k).map (·.2)) (by rw[l];exact rel.val k)
   obtain⟨p,hp,hp2⟩:=Option.map_eq_some_iff.mp hw;refine wpAny_getItem_heap (Y0 hu) (ng I.aY eb) dd hp ?_;rw[hp2];exact h w' _ (I.tok _) rw'
theorem SW{Q:U1->U5->Prop}(hu:A.units+1 < Zh)(I:Inv X pins σ H s)(g:ko H a y o)(ry:RelV y u)(h: ∀ s',Inv X pins σ H s'->Q (.bool o.isSome) s') :
  Vs (Vv X.prog X.w) A (VF .In u (.ref a)) Q E s:=by
 rcases g with⟨kvs,k,e,ey,l⟩ | ⟨kvs,k,b,e,ey,eb,l⟩
 . subst ey;obtain⟨z,hd,vs,rel,dd⟩:=pH I.aY e;refine wpAny_in_of (nr ry) hd dd.mapOf ?_;rw[<- (rel.val k).dG,<- l];exact h _ (I.tok _)
 . subst ey;cases(show u=Vo b from ry);obtain⟨z,hd,xs,rel,dd⟩:=uA I.aY e;refine wpAny_in_heap (Y0 hu) (ng I.aY eb) hd dd ?_;have q:=(rel.val k).dG;rw[aan] at q;rw[<- q,<- l];exact h _ (I.tok _)
theorem D9{Q:U1->U5->Prop}(hu:A.units+1 < Zh)(I:Inv X pins σ H s)(g:ko H a y o)(ry:RelV y u)(h: ∀ s',Inv X pins σ H s'->Q (.bool (!o.isSome)) s') :
  Vs (Vv X.prog X.w) A (VF .NotIn u (.ref a)) Q E s:=by
 rcases g with⟨kvs,k,e,ey,l⟩ | ⟨kvs,k,b,e,ey,eb,l⟩
 . subst ey;obtain⟨z,hd,vs,rel,dd⟩:=pH I.aY e;refine wpAny_notIn_of (nr ry) hd dd.mapOf ?_;rw[<- (rel.val k).dG,<- l];exact h _ (I.tok _)
 . subst ey;cases(show u=Vo b from ry);obtain⟨z,hd,xs,rel,dd⟩:=uA I.aY e;refine wpAny_notIn_heap (Y0 hu) (ng I.aY eb) hd dd ?_;have q:=(rel.val k).dG;rw[aan] at q;rw[<- q,<- l];exact h _ (I.tok _)
theorem wc(I:Inv X pins σ H s)(mu:NQ (H a))(hs:ZZ a s.heap h')(he: ∃ q,h'.get? a=UU q)(new:bz X.prog X.w (upd H a ob) h' a ob) :
  Inv X pins σ (upd H a ob) { s with heap:=h',toks:=t'} :=
 I.write (x:=a) (e:=a) mu (.inl rfl) (λb q hb z=>(hs.2 b hb).trans z) he new
theorem Kr(z:kvs.length<=Vj)(hd:(a == Xa)=false)(rel:KV kvs vs)(dd:h'.DictOf (bR P w) a vs) :
  bz P w H' h' a (.dK kvs):=⟨z,hd,vs,rel,dd⟩
theorem yo{H':Hp}{Q:Unit->U5->Prop}(hu:A.units+1 < Zh)(I:Inv X pins σ H s)(g:uW H a y v H')(ry:RelV y u)(rv:RelV v r)(h: ∀ s',Inv X pins σ H' s'->Q () s') :
  Vs (Vv X.prog X.w) A (setItem (.ref a) u r) Q E s:=by
 rcases g with⟨kvs,k,e,ey,l,eH⟩ | ⟨kvs,k,b,e,ey,eb,l,eH⟩
 . subst ey eH;obtain⟨z,hd,vs,rel,dd⟩:=HL I.aY e;have hz:vs.length<=Vj:=by rw[<- rel.length];exact z
   have hl:(putK kvs k v).length<=Vj:=by have:=kS kvs k v;omega
   refine wpAny_setItem_pairs (hsz:=hz) (nr ry) dd λh' dd' hs=>h _ ?_;have he: ∃ q,h'.get? a=UU q:=by obtain⟨q,_,_,hq,_⟩:=dd';exact⟨q,hq⟩
   exact wc I (by rw[e];exact X3) hs he (Kr hl hd (rel.put k rv) dd')
 . subst ey eH;cases(show u=Vo b from ry);obtain⟨z,hd,xs,rel,dd⟩:=Oj I.aY e;have hz:xs.length<=Vj:=by rw[<- YF rel];exact z
   have hl:(putK kvs k v).length<=Vj:=by have:=kS kvs k v;omega
   refine wpAny_setItem_heap (hsz:=hz) (Y0 hu) (ng I.aY eb) dd λh' dd' hs=>h _ ?_;obtain⟨q,es,ep,hq,h2,h3,h4,_,h5⟩:=dd';refine wc I (by rw[e];exact X3) hs ⟨q,hq⟩ ⟨hl,hd,_,(rel.put k eb rv).keeps λc ys ec=>?_,q,es,ep,hq,h2,h3,h4,h5⟩;rw[aw (pA ec e (λz=>by cases z))];exact ec
end
section
variable{X:Cx}{pins:List (U9 × Obj)}{σ :St}{H:Hp}{s:U5}{a:U9}{kvs:List (Key × V)}{k:Key}{u:U1}{A:V6}{E:U1->U5->Prop}
theorem Oc{Q:U1->U5->Prop}(I:Inv X pins σ H s)(e:Rd H a (.dK kvs))(h: ∀ t s',Inv X pins σ H s'->Q (.int kvs.length t) s'):Vs (Vv X.prog X.w) A (call (.builtin "len") [.ref a]) Q E s:=by
 obtain⟨z,hd,vs,rel,dd⟩:=pH I.aY e;refine call_len_dict hd dd (by rw[<- rel.length];rw[abm] at z;omega) ?_;rw[<- rel.length];exact h _ _ (I.tok _)
end
theorem sJ{σ :St}(I:Inv X pins σ H s)(g:ko H a y o):s.TypeIs (.ref a) "dict" :=by
 rcases g with⟨kvs,k,e,_,_⟩ | ⟨kvs,k,b,e,_,_,_⟩
 . obtain⟨_,_,vs,_,dd⟩:=pH I.aY e;exact dd.typeIs
 . obtain⟨_,_,xs,_,dd⟩:=uA I.aY e;exact dd.typeIs
def m7:List (TE × TE)->St->Hp->(List (V × V)->Hp->Prop)->Prop
 | [],_,H,Q=>Q [] H
 | (tk,tv)::r, σ,H,Q=>tk σ H λx H1=>tv σ H1 λy H2=>m7 r σ H2 λps H3=>Q ((x,y)::ps) H3
abbrev VV:List (V × V)->List (U1 × U1)->Prop:=Ws λp q=>RelV p.1 q.1∧RelV p.2 q.2
def UE X pos (keys:List (Option VN)) (values:List VN) (trs:List (TE × TE)) :=
 ∀ pins s(σ :St) H Q,Inv X pins σ H s->m7 trs σ H Q ->
  Vs (Vv X.prog X.w) X.A (evalPairs (pairTrees keys values X.env pos)) (λvs s'=> ∃ ps H',Inv X pins σ H' s'/\VV ps vs/\Q ps H') X.xe s
structure M1(X:Cx)(o:VN)(m:Str)(apos:Pos)(e:VN)(cpos:Pos):Prop where
 base:Xq o m X.env (WT o X.env)=WT o X.env
 oX:((YX cpos (VR [e] X.env)).all (λx=> !x.1)&&(backToKw cpos (acT [] X.env)).all (λx=>x.1.isSome)
  && decide (([e]:List VN).length+([]:List abG).length+(if ([]:List abG).isEmpty then 0 else 1) < 30))=true
 line:(apos.endLine == cpos.line)=true
 trees:YX cpos (VR [e] X.env)=[(false,WT e X.env)]
structure M2(X:Cx)(o:VN)(m:Str)(apos:Pos)(e f:VN)(cpos:Pos):Prop where
 base:Xq o m X.env (WT o X.env)=WT o X.env
 oX:((YX cpos (VR [e,f] X.env)).all (λx=> !x.1)&&(backToKw cpos (acT [] X.env)).all (λx=>x.1.isSome)
  && decide (([e,f]:List VN).length+([]:List abG).length+(if ([]:List abG).isEmpty then 0 else 1) < 30))=true
 line:(apos.endLine == cpos.line)=true
 trees:YX cpos (VR [e,f] X.env)=[(false,WT e X.env),(false,WT f X.env)]
section
variable{X:Cx}
theorem yN:aU X (.builtin "len") (λxs H Q=> ∃ a kvs,xs=[V.ref a]/\H a=UU (.dK kvs)/\Q (.int kvs.length) H):=by
 intro pins s σ H xs us Q I r h;obtain⟨a,kvs,rfl,ha,q⟩:=h;obtain⟨u,rfl,ru⟩:=vals1 r;cases ru;exact Oc I (.inl ha) λt s' I'=>⟨.int kvs.length,H,I',⟨t,rfl⟩,q⟩
end
def AQ(n:Nat)(H:Hp)(h:Wb)(x C dx:U9):Prop:= ∃ oe vs,h.get? x=UU oe/\oe.cls= .ref C/\oe.dict=UU dx/\oe.data= .fields vs/\n<=x/\H x=UX /\
 (vs[1]?=UU .none\/ ∃ T oT ts fl,vs[1]?=UU (.ref T)/\T≠x/\n<=T/\H T=UX/\h.get? T=UU oT/\oT.data= .fields ts/\ts[3]?=UU fl)
def lM(n:Nat)(H:Hp)(h:Wb)(x C dx:U9):Prop:= ∃ oe vs,h.get? x=UU oe/\oe.cls= .ref C/\oe.dict=UU dx/\oe.data= .fields vs/\n<=x/\H x=UX /\
 ∃ T oT ts fl,vs[1]?=UU (.ref T)/\T≠x/\n<=T/\H T=UX/\h.get? T=UU oT/\oT.data= .fields ts/\ts[3]?=UU fl
theorem lM.Su{n:Nat}{H:Hp}{h:Wb}{x C dx:U9}(F:lM n H h x C dx):AQ n H h x C dx:=let ⟨oe,vs,e1,e2,e3,e4,e5,e6,e7⟩:=F;⟨oe,vs,e1,e2,e3,e4,e5,e6,.inr e7⟩
structure hJ(n:Nat)(H:Hp)(fs:List U9)(h h':Wb):Prop where
 keep: ∀ b o,h.get? b=UU o->(b < n\/H b≠UX)->b ∉ fs->h'.get? b=UU o
 slot: ∀ b o,h.get? b=UU o->b∈fs-> ∃ sl,h'.get? b=UU { o with slots:=sl}
 size:h.objs.size<=h'.objs.size
theorem hJ.trans{n:Nat}{H:Hp}{fs:List U9}{h h1 h2:Wb}(a:hJ n H fs h h1)(b:hJ n H fs h1 h2):hJ n H fs h h2 :=
 ⟨λc o e p m=>b.keep c o (a.keep c o e p m) p m,λc o e m=>by
  obtain⟨_,e1⟩:=a.slot c o e m;obtain⟨sl,e2⟩:=b.slot c _ e1 m;exact⟨sl,e2⟩,Vn a.size b.size⟩
section
variable{M:Model}{A:V6}{E:U1->U5->Prop}{s:U5}{env:Env}{outer:List Env}{base:Wb}{L x C dx:U9}{n:Nat}{H:Hp}
theorem jY{h:Wb}{fs:List U9}{T:U9}{o:Obj}{ts:Array U1}{i:Nat}{v:U1}(e:h.get? T=UU o)(d:o.data= .fields ts)(hn:n<=T)(hH:H T=UX)(hf:T ∉ fs) :
  hJ n H fs h (h.update T (Yg (·.setIfInBounds i v))):=by
 have ne: ∀ b,b≠T->(h.update T (Yg (·.setIfInBounds i v))).get? b=h.get? b:=λb z=>Wn _ _ (Xf z)
 refine⟨λb q e1 p _=>?_,λb q e1 m=>⟨q.slots,?_⟩,by rw[Zj];exact Vb _⟩
 . refine(ne b λz=>?_).trans e1;subst z;rcases p with p | p
   . exact absurd p (XR.mpr hn)
   . exact p hH
 . exact(ne b λz=>hf (z ▸ m)).trans e1
theorem zh{env':Env}{Q:U1->U5->Prop}(hfr:A.frames=UU (env::outer))(hl:s.heap.FunFrames base (env::outer))(hf:env.frame=UU L)(hf':env'.frame=UU L)(h: ∀ g,Heap.SlotsOnly (gI (env::outer)) s.heap g->Q (.ref L) { s with heap:=g}):Vs M A (frameOf env') Q E s:=by
 unfold PySem.frameOf frameObject;refine UY (wpAny_frameEnvs hfr ?_);rw[show((env::outer).dropWhile λy=>y.frame !=env'.frame)=env::outer from by simp[List.dropWhile,hf,hf']];refine UY (UY (wpAny_readyFrames_fun hl λg so=>Vf ?_));rw[hf];exact Vf (h g so)
theorem uK{env':Env}{head:U1}{hadNext:Bool}{oe:Obj}{vs:Array U1}{Q:Unit->U5->Prop}(hfr:A.frames=UU (env::outer))(hl:s.heap.FunFrames base (env::outer))(hf:env.frame=UU L)(hf':env'.frame=UU L)
  (hx:s.heap.get? x=UU oe) (c1:oe.cls= .ref C) (c2:oe.dict=UU dx) (c3:oe.data= .fields vs) (h1:1 < vs.size) (hn:n<=x) (hz:n<=s.heap.objs.size) (hH:H x=UX) (hfree: ∀ a,s.heap.objs.size<=a->H a=UX)
  (h: ∀ h',hJ n H (gI (env::outer)) s.heap h'->lM n H h' x C dx->Q () { s with heap:=h'}) :
  Vs M A (do setField (.ref x) 1 (<- abL head (<- frameOf env') .none (aar L) .none (<- entryPlaceOf L hadNext))) Q E s:=by
 have nx:x ∉ gI (env::outer):=λm=>by
  obtain⟨_,o,ho,hnf⟩:=hl.mem m;rw[hx] at ho;cases ho;exact hnf vs c3
 refine UY (zh hfr hl hf hf' λg so=>?_);refine UY (wpAny_entryPlaceOf λpl hpl=>?_);unfold abL newFields;refine UY (Ww ?_ (hpl.sizeOk5 _ _ _ _ _));have gx:g.get? x=UU oe:=(so.2.1 x nx).trans hx;generalize hto:({ cls:=Yn "traceback",dict:=UX,data:=Data.fields ([head,Vo L,Wc,aar L,Wc]++(if pl.isEmpty then U8 6 Wc else pl)).toArray}:Obj)=to;have td:to.data= .fields ([head,Vo L,Wc,aar L,Wc]++(if pl.isEmpty then U8 6 Wc else pl)).toArray:=by rw[<- hto]
 have px:(g.push to).get? x=UU oe:=U4 _ gx;have sz:g.objs.size=s.heap.objs.size:=so.1;have ltx:x < g.objs.size:=Vh gx;refine Zk px c3 h1 (h _ ?_ ?_)
 . have p1:hJ n H (gI (env::outer)) s.heap (g.push to):=by
    refine⟨λb o e _ m=>U4 _ ((so.2.1 b m).trans e),λb o e _=>?_,by rw[V1,sz];exact Yr _⟩;obtain⟨sl,e2⟩:=so.2.2 b o e;exact⟨sl,U4 _ e2⟩
   exact p1.trans (jY px c3 hn hH nx)
 . have d3:=X6 c3 (·.setIfInBounds 1 (Vo g.objs.size))
   refine⟨_,_,W9 _ px (XB d3),by rw[acr];exact c1,?_,d3,hn,hH,⟨g.objs.size,to,_,aar L,by simp[h1],Xm ltx,by rw[sz];exact hz,hfree _ (by rw[sz];exact Vb _),?_,td,by simp⟩⟩
   . have:(Yg (·.setIfInBounds 1 (Vo g.objs.size)) oe).dict=oe.dict:=by
      obtain⟨_,_,dt,_⟩:=oe;cases dt<;>rfl
     rw[this];exact c2
   . rw[Wn _ _ (Vy ltx)];exact Vq _ (XB td)
theorem oh{env':Env}{Q:Unit->U5->Prop}(hfr:A.frames=UU (env::outer))(hl:s.heap.FunFrames base (env::outer))(hf:env.frame=UU L)(hf':env'.frame=UU L)(F:AQ n H s.heap x C dx)(hz:n<=s.heap.objs.size)(hfree: ∀ a,s.heap.objs.size<=a->H a=UX)
  (h: ∀ h',hJ n H (gI (env::outer)) s.heap h'->lM n H h' x C dx->Q () { s with heap:=h'}):Vs M A (aaI (.ref x) env') Q E s:=by
 obtain⟨oe,vs,hx,c1,c2,c3,hn,hH,v1 | ⟨T,oT,ts,fl,v1,nT,hnT,hHT,eT,dT,t3⟩⟩:=F
 . unfold aaI;simp only[hf'];refine UY (Wa hx c3 v1 ?_);rw[if_neg (by decide)];exact uK hfr hl hf hf' hx c1 c2 c3 (Wi.mp v1).1 hn hz hH hfree h
 . unfold aaI;simp only[hf'];refine UY (Wa hx c3 v1 ?_);rw[if_pos (show(Vo T !=Wc)=true from by simp)];refine UY (Wa eT dT t3 ?_);by_cases fe:(fl == aar L)=true
   . rw[if_pos fe];exact Vf (h s.heap ⟨λ_ _ e _ _=>e,λ_ o e _=>⟨o.slots,e⟩,Vb _⟩ ⟨oe,vs,hx,c1,c2,c3,hn,hH,T,oT,ts,fl,v1,nT,hnT,hHT,eT,dT,t3⟩)
   rw[if_neg fe];refine UY (Zk eT dT (Wi.mp t3).1 ?_);have nfT:T ∉ gI (env::outer):=λm=>by
    obtain⟨_,o,ho,hnf⟩:=hl.mem m;rw[eT] at ho;cases ho;exact hnf ts dT
   have p1:hJ n H (gI (env::outer)) s.heap (s.heap.update T (Yg (·.setIfInBounds 3 Wc))):=jY eT dT hnT hHT nfT
   have zz:(s.heap.update T (Yg (·.setIfInBounds 3 Wc))).objs.size=s.heap.objs.size:=Zj ..
   refine uK (s:={ s with heap:=s.heap.update T (Yg (·.setIfInBounds 3 Wc))}) hfr (hl.of_keeps λb o hb hnf=>⟨o,(Wn _ _ λz=>?_).trans hb,rfl⟩) hf hf' ((Wn _ _ nT).trans hx) c1 c2 c3 (Wi.mp v1).1 hn (by rw[zz];exact hz) hH (λa ha=>hfree a (by rw[zz] at ha;exact ha)) λh' p f=>h h' (p1.trans p) f
   subst z;rw[eT] at hb;cases hb;exact hnf ts dT
theorem mH{Q:Unit->U5->Prop}{fs:List U9}(hfs: ∀ b∈fs,∃ o,s.heap.get? b=UU o/\ ∀ vs,o.data≠ .fields vs)(F:AQ n H s.heap x C dx)
  (h: ∀ h',hJ n H fs s.heap h'->AQ n H h' x C dx->Q () { s with heap:=h'}):Vs M A (Z7 (.ref x) UX) Q E s:=by
 obtain⟨oe,vs,hx,c1,c2,c3,hn,hH,v1 | ⟨T,oT,ts,fl,v1,nT,hnT,hHT,eT,dT,t3⟩⟩:=F
 . unfold Z7;refine UY (Wa hx c3 v1 ?_);rw[if_neg (by decide)];exact Vf (h s.heap ⟨λ_ _ e _ _=>e,λ_ o e _=>⟨o.slots,e⟩,Vb _⟩ ⟨oe,vs,hx,c1,c2,c3,hn,hH,.inl v1⟩)
 . refine wpAny_setFlight_none hx c3 v1 eT dT (Wi.mp t3).1 (h _ (jY eT dT hnT hHT λm=>?_) ?_)
   . obtain⟨o,ho,hnf⟩:=hfs T m;rw[eT] at ho;cases ho;exact hnf ts dT
   . have d3:=X6 dT (·.setIfInBounds 3 Wc)
     exact⟨oe,vs,(Wn _ _ nT).trans hx,c1,c2,c3,hn,hH,.inr ⟨T,_,_,_,v1,nT,hnT,hHT,W9 _ eT (XB d3),d3,XE (by simpa using(Wi.mp t3).1)⟩⟩
theorem BL{Q:Unit->U5->Prop}{fs:List U9}{fr:Option U9}(hfs: ∀ b∈fs,∃ o,s.heap.get? b=UU o/\ ∀ vs,o.data≠ .fields vs)(F:lM n H s.heap x C dx)
  (h: ∀ h',hJ n H fs s.heap h'->lM n H h' x C dx->Q () { s with heap:=h'}):Vs M A (Z7 (.ref x) fr) Q E s:=by
 obtain⟨oe,vs,hx,c1,c2,c3,hn,hH,T,oT,ts,fl,v1,nT,hnT,hHT,eT,dT,t3⟩:=F;unfold Z7;refine UY (Wa hx c3 v1 ?_);rw[if_pos (show(Vo T !=Wc)=true from by simp)];have t3':=(Wi.mp t3).1;refine Zk eT dT t3' (h _ (jY eT dT hnT hHT λm=>?_) ?_)
 . obtain⟨o,ho,hnf⟩:=hfs T m;rw[eT] at ho;cases ho;exact hnf ts dT
 . have d3:=X6 dT (·.setIfInBounds 3 (fr.elim Wc λf=>aar f))
   exact⟨oe,vs,(Wn _ _ nT).trans hx,c1,c2,c3,hn,hH,T,_,_,_,v1,nT,hnT,hHT,W9 _ eT (XB d3),d3,XE (by simpa using t3')⟩
end
theorem AQ.mono{n m:Nat}{H:Hp}{h:Wb}{x C dx:U9}(F:AQ m H h x C dx)(hn:n<=m):AQ n H h x C dx:=by
 obtain⟨oe,vs,e1,e2,e3,e4,e5,e6,e7⟩:=F;exact⟨oe,vs,e1,e2,e3,e4,Vn hn e5,e6,e7.imp id λ⟨T,oT,ts,fl,a1,a2,a3,a4⟩=>⟨T,oT,ts,fl,a1,a2,Vn hn a3,a4⟩⟩
theorem lM.mono{n m:Nat}{H:Hp}{h:Wb}{x C dx:U9}(F:lM m H h x C dx)(hn:n<=m):lM n H h x C dx:=by
 obtain⟨oe,vs,e1,e2,e3,e4,e5,e6,T,oT,ts,fl,a1,a2,a3,a4⟩:=F;exact⟨oe,vs,e1,e2,e3,e4,Vn hn e5,e6,T,oT,ts,fl,a1,a2,Vn hn a3,a4⟩
theorem hJ.un{n:Nat}{H₀ H:Hp}{fs fs' ex:List U9}{h₀ h h':Wb}(P:hJ n H fs' h h')(u:Un fs ex H₀ H h₀ h)(hn:h₀.objs.size<=n)(h1: ∀ b∈fs',b∈fs\/h₀.objs.size<=b)(h2: ∀ b∈fs,b∈fs'):Un fs ex H₀ H h₀ h':=by
 have lt: ∀{b o},h₀.get? b=UU o->b < n:=λe=>Vg (Vh e) hn;have nf: ∀{b o},h₀.get? b=UU o->b ∉ fs->b ∉ fs':=λ{b o} e nb hb=>(h1 b hb).elim nb λz=>absurd (Vh e) (XR.mpr z);refine⟨λb o e n' nb hx=>P.keep b o (u.keep b o e n' nb hx) (.inl (lt e)) (nf e nb),λb o e n' hb hx=>?_,u.free,λb o e hx=>?_,u.gM,u.ik,u.jw⟩
 . obtain⟨_,e1⟩:=u.slot b o e n' hb hx;obtain⟨sl',e2⟩:=P.slot b _ e1 (h2 b hb);exact⟨sl',e2⟩
 . obtain⟨o',e1⟩:=u.there b o e hx;by_cases hb:b∈fs'
   . obtain⟨sl,e2⟩:=P.slot b _ e1 hb;exact⟨_,e2⟩
   . exact⟨o',P.keep b o' e1 (.inl (lt e)) hb⟩
theorem hJ.aY{P:VE}{w:VY}{n:Nat}{H:Hp}{fs:List U9}{h h':Wb}(p:hJ n H fs h h')(free: ∀ b∈fs,H b=UX)(k:hI P w H h):hI P w H h':=λb u e=>by
 refine(k b u e).jl (λd w' hd q=>p.keep d w' q (.inr ?_) λhb=>?_) (λ_ q=>q) λ_ _ q=>q
 . rcases hd with z | z
   . rw[z,e];simp
   . rw[z];simp
 . have:=free d hb;rcases hd with z | z
   . rw[z,e] at this;cases this
   . rw[z] at this;cases this
noncomputable def CS:List U1:=[.type "ValueError",.type "Exception",.type "BaseException",.type "object"]
def Cf(l:List U1):Bool:=l == (l.filterMap λv=>match v with | .ref a=>UU a | _=>UX).map Vo++CS
theorem pJ(self:U1): ∀(rs:List U9),refuseLoop self "__setattr__" (rs.map Vo++CS)=pure ()
 | []=>PySem.F.store_ValueError.passes self
 | c::r=>by rw[U2,WQ,refuseLoop_ref];exact pJ self r
structure jO(K:UW)(C:U9):Prop where
 mro: ∃ cd,aau K C=UU cd/\Cf cd.mro=true
 hd:Ze K C=true
 ob:Wq K C (.type "object")=UU true
 bx:Wq K C (.type "BaseException")=UU true
 sa:Vw K (.ref C) "__setattr__" =UU (UU (.builtin "object.__setattr__"))
 ga:Vw K (.ref C) "__getattribute__" =UU (UU (.builtin "BaseException.__getattribute__"))
 gt:Vw K (.ref C) "__getattr__" =UU UX
section
variable{prog:VE}{w:VY}{A:V6}{E:U1->U5->Prop}{s:U5}{K:UW}{x dx C:U9}{name:Str}{v:U1}{ox:Obj}{od:Option Obj}{R:Result->U5->Prop}
theorem uE{tk:Tok}(X:K.In s.heap)(I:Xw s.heap x ox C od)(c:jO K C)(ht:Vw K (.ref C) name=UU UX)
  (h:Vs (Vv prog w) A.in1 (aci (.ref x) (.ref C) (.str name tk) name v false)
   (λfin s'=>match fin with | .done f=>R (.ok f) s' | .again c'=>c'.quiet=true/\Z0 (Vv prog w) A c' R s') (λe s'=>R (.error e) s') s) :
  Z0 (Vv prog w) A (.call (.builtin "object.__setattr__") ⟨[.ref x,.str name tk,v],[]⟩) R s:=by
 have SF:=PySem.F.store_object;obtain⟨cd,hc,ho⟩:=c.mro;have isO:aav (Vv prog w) s.heap (aca (.ref x) (.type "object")) true:=I.type.andThen (XW X c.ob);refine ZK SF.slot.plain SF.entry (@aad (Vv prog w) _ _ s "object.__setattr__" "object" "__setattr__" (.ref x) [.str name tk,v] [] _ SF.kind SF.split isO (SF.args (.ref x) (.str name tk) v) ?_);rw[PySem.W.osa_eq,refuse_eq];refine UY (UY (I.type.here (UY (((ZX X hc).andThen .now:aav (Vv prog w) s.heap (mroOf (.ref C)) cd.mro).here ?_))));rw[show cd.mro=_ from beq_iff_eq.mp ho,pJ];exact Vf (UY (I.type.here (UY ((Xc X ht).here (UY (Vf h))))))
theorem CD{vs:Array U1}{sl:Array (Option U1)}{Q:Unit->U5->Prop}(X:K.In s.heap)(hx:s.heap.get? x=UU ⟨.ref C,UX,.fields vs,sl⟩)(c:jO K C)(ht:Vw K (.ref C) name=UU UX)
  (h: ∀ h' tk',h'.get? x=UU ⟨.ref C,UU s.heap.objs.size,.fields vs,sl⟩->h'.Ns1 s.heap.objs.size (λy=>if y=name then UU v else UX)->(∀ b o,b≠x->s.heap.get? b=UU o->h'.get? b=UU o)->h'.objs.size=s.heap.objs.size+1->Q () { s with heap:=h',toks:=tk'}) :
  Vs (Vv prog w) A (setAttr (.ref x) name v) Q E s:=by
 have I:Xw s.heap x ⟨.ref C,UX,.fields vs,sl⟩ C UX:=⟨hx,rfl,rfl,trivial⟩
 refine acs X I c.sa (uE (s:={ s with toks:=s.toks+1}) X I c ht ?_);obtain⟨cd,hc,hd'⟩:=Yy c.hd;refine UY (Vf (UY (UY (abn hx (UY (V8 (s:={ s with toks:=s.toks+1}) (ZX X hc) ?_))))));rw[hd'];have hx1:(s.heap.push { cls:= .type "dict",data:= .dict #[]}).get? x=UU ⟨.ref C,UX,.fields vs,sl⟩:=U4 _ hx;have nxs:x≠s.heap.objs.size:=Vy (Vh hx);refine UY (wpAny_alloc' (UY (wpAny_update' hx1 ?_)));refine Vf ?_;generalize hg:(s.heap.push { cls:= .type "dict",data:= .dict #[]}).update x _=g;have gd:g.get? s.heap.objs.size=UU { cls:= .type "dict",data:= .dict #[]}:=by
  rw [<- hg];exact (abM _ _ _ _ nxs.symm).trans (Vq _ rfl)
 have gx:g.get? x=UU ⟨.ref C,UU s.heap.objs.size,.fields vs,sl⟩:=by
  rw [<- hg];exact W9 _ hx1 rfl
 have gn:g.Ns1 s.heap.objs.size (λ_=>UX):=acn ⟨_, #[],_,gd,rfl,(λe he=>absurd he (by simp)),λ_=>rfl⟩;have gk: ∀ b o,b≠x->s.heap.get? b=UU o->g.get? b=UU o:=λb o nb e=>by
  rw [<- hg];exact (abM _ _ _ _ nb).trans (U4 _ e)
 have gs:g.objs.size=s.heap.objs.size+1:=by rw [<- hg,Zj,V1]
 refine UY (Vf (UY (wpAny_nsSet1 gn λh' hn sb=>?_)));obtain⟨oD,esD,epD,hoD,hdD,hcD⟩:=hn.count (acu name v PySem.Within.nil);refine UY (wpAny_lookBehind hoD (by rw[hdD];exact pastItsLine_dict (Vn hcD (by rw[UZ,U6,abm];omega))) ?_);exact Vf (h h' _ ((sb.2 x nxs).trans gx) hn (λb o nb e=>(sb.2 b (Vy (Vh e))).trans (gk b o nb e)) (sb.1.trans gs))
theorem zp{vs:Array U1}{sl:Array (Option U1)}{mA:Str->Option U1}{ns:List Str}{Q:Unit->U5->Prop}(X:K.In s.heap)(hx:s.heap.get? x=UU ⟨.ref C,UU dx,.fields vs,sl⟩)(hn:s.heap.Ns1 dx mA)(c:jO K C)(ht:Vw K (.ref C) name=UU UX)
  (hw:Zc mA ns) (hsz:ns.length<=Vj)
  (h: ∀ h' tk',h'.Ns1 dx (λy=>if y=name then UU v else mA y)->ZZ dx s.heap h'->Q () { s with heap:=h',toks:=tk'}) :
  Vs (Vv prog w) A (setAttr (.ref x) name v) Q E s:=by
 obtain⟨oD,_,_,eD,_⟩:=id hn;have I:Xw s.heap x ⟨.ref C,UU dx,.fields vs,sl⟩ C (UU oD):=⟨hx,rfl,rfl,eD⟩
 refine acs X I c.sa (uE (s:={ s with toks:=s.toks+1}) X I c ht ?_);obtain⟨cd,hc,hd'⟩:=Yy c.hd;refine UY (Vf (UY (UY (abn hx (UY (V8 (s:={ s with toks:=s.toks+1}) (ZX X hc) ?_))))));rw[hd'];refine Vf (a:=UU dx) (UY (Vf (UY (wpAny_nsSet1 (s:={ s with toks:=s.toks+1}) hn λh' hn2 sb=>?_))));obtain⟨oE,esD,epD,hoD,hdD,hcD⟩:=hn2.count (acu name v hw);refine UY (wpAny_lookBehind hoD (by rw[hdD];exact pastItsLine_dict (Vn hcD (by rw[UZ];omega))) ?_);exact Vf (h h' _ hn2 sb)
theorem R3{vs:Array U1}{sl:Array (Option U1)}{mA:Str->Option U1}{b:Bool}{Q:U1->U5->Prop}(X:K.In s.heap)(hx:s.heap.get? x=UU ⟨.ref C,UU dx,.fields vs,sl⟩)(hn:s.heap.Ns1 dx mA)(c:jO K C)(ht:Vw K (.ref C) name=UU UX)
  (hv:mA name=UU v) (hv':acE v=true) (h:Q v { s with toks:=s.toks+1}):Vs (Vv prog w) A (getAttr (.ref x) name b) Q E s:=by
 obtain⟨oD,eD,lD⟩:=pP hn;have I:Xw s.heap x ⟨.ref C,UU dx,.fields vs,sl⟩ C (UU oD):=⟨hx,rfl,rfl,eD⟩
 have f:=PySem.W.findObj_own c.hd ht rfl (show Z9 name oD=UU (UU v) by rw[lD,hv]);unfold getAttr getAttrBy;refine UY (wpAny_mkText (WU (UY (V8 (s:={ s with toks:=s.toks+1}) I.type (UY (V8 (s:={ s with toks:=s.toks+1}) (Xc X c.ga) ?_))))));show Vs _ _ (if (acI (Vo C)&&Xs "BaseException.__getattribute__" == Xs "object.__getattribute__")=true then _ else _) _ _ _;rw[if_neg (by rw[show(Xs "BaseException.__getattribute__" == Xs "object.__getattribute__")=false from by decide +kernel,WX];decide)];unfold getAttrByItsOwn hookBefore;rw[if_pos (show acI (Vo C)=true from rfl)];refine UY (V8 (s:={ s with toks:=s.toks+1}) (Xc X c.gt) (UY (ZF (WU ?_))));unfold callGetattribute;rw[if_neg (by cases b<;>decide)];unfold boundAndCalled;rw[XY.ga.bind];have isB:aav (Vv prog w) s.heap (aca (.ref x) (.type "BaseException")) true:=I.type.andThen (XW X c.bx);refine UY (Vf (aaa ?_));refine ZK XY.ga.plain abf (@aad (Vv prog w) _ _ { s with toks:=s.toks+1} "BaseException.__getattribute__" "BaseException" "__getattribute__" (.ref x) [.str name s.toks] [] _ (by decide +kernel) (by decide +kernel) isB (abo _ _) ?_);unfold ZG.«object.__getattribute__»;refine UY (Vf (UY (Vf (UY (V8 (s:={ s with toks:=s.toks+1}) I.type (UY (V8 (s:={ s with toks:=s.toks+1}) (acb X I f) ?_)))))));refine Vf ?_;show Vs _ _ (handedOut v) _ _ _;rw[abp hv'];exact Vf h
end
def iX(K:UW)(C:U9):Bool:=match K.lookup C with
 | some ⟨.type "type",_,.cls cd,sl⟩=>(match cd.mro,sl.toList with
  | .ref C'::bm,[_,_,_,_,UU (.builtin n),_]=>C' == C&&n == "ValueError.__new__" && !cd.hasDel&&Zm K CS bm
  | _,_=>false)
 | _=>false
theorem A9{K:UW}{h:Wb}{C:U9}(X:K.In h)(q:iX K C=true): ∃ nm qn N bs bm hdct sn sub ab col dd k0 k1 k2 k3 k5,
  h.get? C=UU (excClassObj nm qn C N bs bm hdct sn sub ab col dd k0 k1 k2 k3 k5 "ValueError.__new__")/\OwnTail h CS bm:=by
 unfold iX at q;split at q
 . rename_i dd cd sl ho;split at q
   . rename_i C' bm k0 k1 k2 k3 n k5 hm hs;simp only[Vc,beq_iff_eq,Xg] at q;obtain⟨⟨⟨rfl,rfl⟩,z⟩,ht⟩:=q;obtain⟨nm,bs,mro,ns,qn,hdt,sn,sub,ab,col,del⟩:=cd;obtain⟨l⟩:=sl;dsimp only at hm z hs;subst hm z hs;exact⟨nm,qn,ns,bs,bm,hdt,sn,sub,ab,col,dd,k0,k1,k2,k3,k5,X _ _ ho,PySem.W.tail_of_in X ht⟩
   . cases q
 . cases q
section
variable{prog:VE}{w:VY}{A:V6}{E:U1->U5->Prop}{s:U5}{K:UW}{C fI:U9}{us:List U1}
theorem Qg{Q:U1->U5->Prop}(X:K.In s.heap)(hm:iX K C=true)(hi:Vw K (.ref C) "__init__" =UU (UU (.ref fI)))(hf:ac9 K (.ref fI)=UU (.type "function"))(hz:us.length<=Vj)
  (h:Vs (Vv prog w) (A.under (.builtin "type.__call__" ⟨.ref C::us,[]⟩)) (call (.ref fI) (.ref (s.heap.objs.size+1)::us)) (λr s'=>r= .none/\Q (.ref (s.heap.objs.size+1)) s') E
   { s with heap:=(s.heap.push { cls:= .type "tuple",data:= .seq us.toArray}).push { cls:= .ref C,data:= .fields #[.ref s.heap.objs.size,.none,.none,.none,.bool false,.none]}}) :
  Vs (Vv prog w) A (call (.ref C) us) Q E s:=by
 obtain⟨nm,qn,N,bs,bm,hdct,sn,sub,ab,col,dd,k0,k1,k2,k3,k5,hC,T⟩:=A9 X hm;have F:=PySem.F.excBase_ValueError;have f1:=tc_lookup;have f2:=tc_bind (.ref C);obtain⟨hh,g,d,t,os⟩:=s;have hT:(⟨hh,g,d,t,os⟩:U5).TypeIs (.ref C) "type" :=⟨_,hC,rfl⟩
 refine aaa (codeAny_of_tree ?_);show Vs _ _ (callAny (.ref C) _) _ _ _
 repeat (any_goals (first | assumption | with_reducible refine Xh hC ?_ | wp_step))
 refine⟨rfl,codeAny_call_builtin_at (acd _ (by decide +kernel)) entry_typeCall (wpAny_check_type_call_sub hC ?_)⟩
 repeat (first | with_reducible refine Xh hC ?_ | with_reducible refine wpAny_madeBy_exc hC ?_ | wp_step)
 refine codeAny_call_builtin_code (acd _ F.quiet) (wpAny_check_new_subT F T hC (codeAny_exc_new_subT F T hC ?_ hz));show Vs _ _ _ _ _ ⟨(hh.push { cls:= .type "tuple",data:= .seq us.toArray}).push { cls:= .ref C,data:= .fields #[.ref hh.objs.size,.none,.none,.none,.bool false,.none]},g,d,t,os⟩;dsimp only at h;generalize hg':(hh.push { cls:= .type "tuple",data:= .seq us.toArray}).push { cls:= .ref C,data:= .fields #[.ref hh.objs.size,.none,.none,.none,.bool false,.none]}=h2 at h ⊢;have k2: ∀ b o,hh.get? b=UU o->h2.get? b=UU o:=λb o e=>by rw[<- hg'];exact U4 _ (U4 _ e)
 have x2:h2.get? (hh.objs.size+1)=UU { cls:= .ref C,data:= .fields #[.ref hh.objs.size,.none,.none,.none,.bool false,.none]}:=by
  rw[<- hg'];exact acv (by rw[V1]) rfl
 have X2:K.In h2:=X.keeps k2;have hC2:=k2 _ _ hC;have cc:(Vo C::bm).contains (.ref C)=true:=by simp
 unfold aca
 repeat (first | with_reducible refine Xh x2 ?_ | (with_reducible refine abN hC2 ?_;rw[cc]) | wp_step)
 show Vs _ _ (typeLookup (.ref C) _) _ _ _;refine(Xc X2 hi).at (WU (UY ((PySem.W.bind_fn X2 _ hf).at ?_)));refine UY (VA h (λr s' ⟨e,q⟩=>?_) λ_ _ z=>z);subst e
 wp_walk
 exact q
end
def XO(X:Cx)(H:Hp)(h:Wb)(x C:U9)(vs:Array U1)(fs:List (Str × V)):Prop:= ∃ sl,(fs=[]/\h.get? x=UU ⟨.ref C,UX,.fields vs,sl⟩) \/
 ∃ dx mA,h.get? x=UU ⟨.ref C,UU dx,.fields vs,sl⟩/\h.Ns1 dx mA/\(∀ f,gF (fs.lookup f) (mA f))/\Zc mA (fs.map (·.1))/\X.s₀.heap.objs.size<=dx/\dx≠x/\H dx=UX/\dx≠X.env.locals/\dx ∉ X.fs/\ ∀ y c,X.env.cells.lookup y=UU c->c≠dx
theorem tQ{fs:List (Str × V)}{mA:Str->Option U1}{f:Str}{y:V}{u:U1}(r: ∀ g,gF (fs.lookup g) (mA g))(ry:RelV y u)(g:Str):gF ((fW f y fs).lookup g) (if g=f then UU u else mA g):=by
 rw[kR];by_cases q:g=f
 . rw[if_pos q,if_pos q];exact ry
 . rw[if_neg q,if_neg q];exact r g
theorem lr{fs:List (Str × V)}{mA:Str->Option U1}{f:Str}{y:V}{u:U1}(wi:Zc mA (fs.map (·.1))):Zc (λg=>if g=f then UU u else mA g) ((fW f y fs).map (·.1)):=λg hg=>by
 by_cases q:g=f
 . rw[q];exact(kg f y fs).1
 . refine(kg f y fs).2 g (wi g λz=>hg ?_);show(if g=f then UU u else mA g)=UX;rw[if_neg q];exact z
section
variable{X:Cx}{σ :St}{H:Hp}{s:U5}{x C:U9}{vs:Array U1}{fs:List (Str × V)}
def Pg(X:Cx)(st:WV)(f:Str)(j:Nat):Prop:= ∃ xs xf p1 p2 p3 p4,st= .Assign [.Attribute (.Name xs p1) f p2] (.Name xf p3) p4/\PE X (.Name xs p1) (yj 0)/\PE X (.Name xf p3) (yj j)/\WI (.Name xf p3) (UU (.Attribute (.Name xs p1) f p2)) p4.line X.env=pure false/\Vw X.K (.ref C) f=UU UX
theorem Ng{st:WV}{f:Str}{j:Nat}{v:V}(I:Inv X [] σ H s)(hX:x∈X.ex)(hH:H x=UX)(ne0:X.pn=[])(hF:x ∉ X.fs)(c:jO X.K C)(O:XO X H s.heap x C vs fs)(hl:fs.length < 1000)
  (w:Pg (C:=C) X st f j) (h0: σ[0]?=UU (UU (.ref x))) (hv: σ[j]?=UU (UU v)) :
  Vs (Vv X.prog X.w) X.A (exec st X.env) (λfl s'=>fl= .next/\Inv X [] σ H s'/\XO X H s'.heap x C vs (fW f v fs)) X.xe s:=by
 obtain⟨xs,xf,p1,p2,p3,p4,rfl,e1,e2,sw,na⟩:=w;have xL:x≠X.env.locals:=(I.ok.M9 x hX).1;have xC: ∀ y c,X.env.cells.lookup y=UU c->c≠x:=(I.ok.M9 x hX).2;obtain⟨sl,⟨rfl,hx⟩ | ⟨dx,mA,hx,ns,re,wi,ndx,nex,hdx,dL,dF,dC⟩⟩:=O
 . have I1:Inv X [(x,⟨.ref C,UX,.fields vs,sl⟩)] σ H s:=I.dJ λp hp=>by
    rw[Vm.mp hp];exact⟨hx,hH,xL,hF,λv z=>acJ z⟩
   refine Zt (gE (e2 _ s σ H (λy H1=>y=v/\H1=H) I1 ⟨v,hv,rfl,rfl⟩) λu s1 ⟨y,H1,J1,ry,q1⟩=>?_) sw;obtain⟨rfl,rfl⟩:=q1;refine gE (e1 _ s1 σ H1 (λy H2=>y= .ref x/\H2=H1) J1 ⟨_,h0,rfl,rfl⟩) λov s2 ⟨y2,H2,J2,ry2,q2⟩=>?_;obtain⟨rfl,rfl⟩:=q2;obtain rfl:ov=Vo x:=ry2;have hx2:=(J2.pin _ (Vi _ Ve)).1;refine CD J2.gU hx2 c na λh' tk' a1 a2 a3 a4=>⟨rfl,?_,sl,.inr ⟨s2.heap.objs.size,_,a1,a2,tQ (fs:=[]) (mA:=λ_=>UX) (λ_=>trivial) ry,lr (fs:=[]) (mA:=λ_=>UX) (λy z=>absurd rfl z),J2.sz,Xm (Vh hx2),J2.aY.fresh (Vb _),Xm J2.lt,J2.DJ (Vb _),λy c e=>Vy (let ⟨_,z⟩:=J2.cell y c e;z.lt)⟩⟩
   have J3:Inv X [] σ H2 s2:=J2.dJ λp hp=>absurd hp (by simp);have Dh: ∀ b u,H2 b=UU u->b≠x:=λb u e z=>by rw[z,hH] at e;cases e
   refine J3.step (ch:=[x]) (g':=s2.gens) (d':=s2.drawn) (λb hb=>?_) (λb o _ _ hc e _=>a3 b o (λz=>hc (by simp[z])) e) (λb o _ _ hc e _=>⟨o.slots,a3 b o (λz=>hc (by simp[z])) e⟩) (λ_ _ _ _ n=>n) (λb o hc e=>⟨o,a3 b o (λz=>hc (by simp[z])) e⟩)
    (λ_ _ e=>e) (λ_ _ _ e=>e) (λb ps e=>⟨#[],by rw[e];simp⟩) (λm hm=>?_) (λb u e=>?_) J3.bare
   . rw[Vm.mp hb];exact⟨.inl hX,xL,xC,λp hp=>by rw[ne0] at hp;exact absurd hp (by simp)⟩
   . obtain⟨o,es,ep,ho,r⟩:=hm;exact⟨o,es,ep,a3 _ o (Xf xL) ho,r⟩
   . refine(J3.aY b u e).jl (λd w' hd q=>a3 d w' ?_ q) (λ_ q=>q) λ_ _ q=>q;rcases hd with z | z
     . rw[z];exact Dh b u e
     . exact Dh d _ z
 . obtain⟨od,es,ep,ed,dd,dr⟩:=id ns;have I1:Inv X [(x,⟨.ref C,UU dx,.fields vs,sl⟩),(dx,od)] σ H s:=I.dJ λp hp=>by
    rcases Vt.mp hp with z | z
    . rw[z];exact⟨hx,hH,xL,hF,λv z=>acJ z⟩
    . rw[Vm.mp z];exact⟨ed,hdx,dL,dF,λv z=>by dsimp only at z;rw[dd] at z;cases z⟩
   refine Zt (gE (e2 _ s σ H (λy H1=>y=v/\H1=H) I1 ⟨v,hv,rfl,rfl⟩) λu s1 ⟨y,H1,J1,ry,q1⟩=>?_) sw;obtain⟨rfl,rfl⟩:=q1;refine gE (e1 _ s1 σ H1 (λy H2=>y= .ref x/\H2=H1) J1 ⟨_,h0,rfl,rfl⟩) λov s2 ⟨y2,H2,J2,ry2,q2⟩=>?_;obtain⟨rfl,rfl⟩:=q2;obtain rfl:ov=Vo x:=ry2;have hx2:=(J2.pin _ (Vi _ Ve)).1;have hd2:=(J2.pin _ (Vi _ (Vl _ Ve))).1;refine zp J2.gU hx2 ⟨od,es,ep,hd2,dd,dr⟩ c na wi (by rw[U3,abm];omega) λh' tk' a2 sb=>⟨rfl,?_,sl,.inr ⟨dx,_,(sb.2 x (Xf nex)).trans hx2,a2,tQ re ry,lr wi,ndx,nex,hdx,dL,dF,dC⟩⟩
   have J3:Inv X [] σ H2 s2:=J2.dJ λp hp=>absurd hp (by simp);have a3: ∀ b o,b≠dx->s2.heap.get? b=UU o->h'.get? b=UU o:=λb o nb e=>(sb.2 b nb).trans e;have Dh: ∀ b u,H2 b=UU u->b≠dx:=λb u e z=>by rw[z,hdx] at e;cases e
   refine J3.step (ch:=[dx]) (g':=s2.gens) (d':=s2.drawn) (λb hb=>?_) (λb o _ _ hc e _=>a3 b o (λz=>hc (by simp[z])) e) (λb o _ _ hc e _=>⟨o.slots,a3 b o (λz=>hc (by simp[z])) e⟩) (λ_ _ _ _ n=>n) (λb o hc e=>⟨o,a3 b o (λz=>hc (by simp[z])) e⟩)
    (λ_ _ e=>e) (λ_ _ _ e=>e) (λb ps e=>⟨#[],by rw[e];simp⟩) (λm hm=>?_) (λb u e=>?_) J3.bare
   . rw[Vm.mp hb];exact⟨.inr ndx,dL,dC,λp hp=>by rw[ne0] at hp;exact absurd hp (by simp)⟩
   . obtain⟨o,es,ep,ho,r⟩:=hm;exact⟨o,es,ep,a3 _ o (Xf dL) ho,r⟩
   . refine(J3.aY b u e).jl (λd w' hd q=>a3 d w' ?_ q) (λ_ q=>q) λ_ _ q=>q;rcases hd with z | z
     . rw[z];exact Dh b u e
     . exact Dh d _ z
theorem ER{sts:List WV}{gs:List (Str × Nat)}(hX:x∈X.ex)(hH:H x=UX)(hp:X.pn=[])(hF:x ∉ X.fs)(c:jO X.K C)(h0: σ[0]?=UU (UU (.ref x)))(pr:Ws (λst (g:Str × Nat)=>Pg (C:=C) X st g.1 g.2) sts gs) :
  ∀{ws:List V}{s:U5}{fs:List (Str × V)},Inv X [] σ H s->XO X H s.heap x C vs fs->fs.length+gs.length < 1000->Ws (λ(g:Str × Nat) w=> σ[g.2]?=UU (UU w)) gs ws ->
  Vs (Vv X.prog X.w) X.A (execs sts X.env) (λfl s'=>fl= .next/\Inv X [] σ H s'/\XO X H s'.heap x C vs ((gs.zip ws).foldl (λa q=>fW q.1.1 q.2 a) fs)) X.xe s:=by
 induction pr with
 | nil=>intro ws s fs I O _ _;exact YO ⟨rfl,I,O⟩
 | cons w pr ih =>
  intro ws s fs I O hl pw
  cases pw with
  | cons hv pw =>
   refine aaE (gE (Ng I hX hH hp hF c O (by simp only[UZ] at hl;omega) w h0 hv) λfl s' ⟨e,I',O'⟩=>?_)
   subst e
   exact ih I' O' (ab8 (Nat.add_le_add_right (kM _ _ fs) _) (by simp only[UZ] at hl;omega)) pw
end
abbrev NJ(P:VE)(w:VY)(K:UW)(mg:Str->Option U1)(base:Wb)(N:List Str)(qual:Str)(scope:YD)(f:U9)(cd:U1)(A:V6)(outer:List Env)(s:U5)(H:Hp)(x:U9):Cx :=
 { (dm (λ_ _ _ _ _ _=>False) P w K mg base N qual scope f cd A outer s H (λ_ _ _=>False)).dw with ex:=[x]}
theorem tX{f:Str}{v:V}: ∀{fs:List (Str × V)},f ∉ fs.map (·.1)->fW f v fs=fs++[(f,v)]
 | [],_=>rfl
 | (g,y)::r,h=>by
  rw[U2,Vt,not_or] at h;rw[show fW f v ((g,y)::r)=(if g=f then(g,v)::r else(g,y)::fW f v r) from rfl,if_neg (λz=>h.1 z.symm),tX h.2];rfl
theorem sZ: ∀{gs:List (Str × Nat)}{ws:List V}{fs:List (Str × V)},(fs.map (·.1)++gs.map (·.1)).Nodup->gs.length=ws.length->(gs.zip ws).foldl (λa q=>fW q.1.1 q.2 a) fs=fs++(gs.map (·.1)).zip ws
 | [],ws,fs,_,_=>by simp
 | g::gs,[],fs,_,z=>nomatch z
 | g::gs,v::ws,fs,n,z=>by
  rw[U2] at n;have n1:g.1 ∉ fs.map (·.1):=λm=>(List.nodup_append.mp n).2.2 _ m _ Ve rfl
  rw[aae,YT,tX n1,sZ (by simpa using n) (adl z)];simp
section
variable{P:VE}{w:VY}{K:UW}{mg:Str->Option U1}{base:Wb}
theorem PJ{qual:Str}{st:WV}{f x C:U9}{fd:Xx}{N ps:List Str}{gs:List (Str × Nat)}{A:V6}{outer:List Env}{s:U5}{H:Hp}{us:List U1}{ws:List V}{av:Array U1}{sl:Array (Option U1)}
  (F:qD K "__init__" qual st f fd) (S:bO N ps (ag st)) (c:jO K C) (hdp:A.depth < Zg) (hhd:A.handled=UX) (e0:nP P w K mg base A outer s H)
  (hb: ∀(kV doc pm:U1)(an:Option U9)(cdv ct:U1)(us:List U1),us.length=ps.length->W8 (VX "__init__" qual (br st) (aE st) (ag st) .none kV doc pm an cdv ct) ⟨us,[]⟩=pure (ps.zip us))
  (hs: ∀ cdv,Ws (λst' (g:Str × Nat)=>Pg (C:=C) (NJ P w K mg base N qual (ag st) f cdv A outer s H x) st' g.1 g.2) (aE st) gs) (hg:gs.length < 1000) (g0:gs≠[]) (nd:(gs.map (·.1)).Nodup)
  (hl:(ws.length+1)=ps.length) (r:Vals ws us) (hx:s.heap.get? x=UU ⟨.ref C,UX,.fields av,sl⟩) (hH:H x=UX) (hbx:base.get? x=UX) (pw:Ws (λ(g:Str × Nat) v=>(start N (.ref x::ws))[g.2]?=UU (UU v)) gs ws) :
  Z0 (Vv P w) A (.call (.ref f) ⟨.ref x::us,[]⟩) (λrr s'=> ∃ dx mA sl',rr= .ok (.ret .none)/\s'.os=s.os/\Yx s'.gens/\Un (gI outer) [x] H H s.heap s'.heap/\hI P w H s'.heap /\
   s'.heap.get? x=UU ⟨.ref C,UU dx,.fields av,sl'⟩/\s'.heap.Ns1 dx mA/\(∀ f,gF (((gs.map (·.1)).zip ws).lookup f) (mA f))/\s.heap.objs.size<=dx/\dx≠x/\H dx=UX) s:=by
 obtain⟨oc,od,kV,doc,pm,an,cdv,ct,osl,rfl,lk,hcd⟩:=F.ex;have KX:K.In s.heap:=e0.mod.QM.keeps λb o e=>(e0.bs b o e).1;have lim:s.heap.NoLimit:=e0.mod.nolimit.keeps λb o e=>(e0.bs b o e).1;have vl:(V.ref x::ws).length=ps.length:=hl;have rv:Vals (V.ref x::ws) (Vo x::us):= .cons rfl r;have ul:(Vo x::us).length=ps.length:=by rw[<- rv.length];exact vl
 have hkind: ∀ y∈ps.zip (Vo x::us),(ag st).names.lookup y.1=UU .local\/((ag st).names.lookup y.1=UU .cell/\((Xu (s.heap.objs.size+1) (ag st).names []).lookup y.1).isSome=true):=λ⟨n,v⟩ hy=>by
  rcases S.par n (YS hy).1 with q | q
  . exact .inl q
  . exact .inr ⟨q,X5 _ _ _ (.inl q)⟩
 have hbb:aak s (VX "__init__" qual (br st) (aE st) (ag st) .none kV doc pm an cdv ct) ⟨.ref x::us,[]⟩ (ps.zip (.ref x::us)):= .of_eq (hb kV doc pm an cdv ct _ ul);refine abe hdp (KX _ _ lk) rfl S.co S.gen rfl (ab4 KX hcd) (hbb _ _ _ _ ?_);refine aab S.kind hkind λenv he s1 ic=>?_;subst he;refine⟨lim.keeps ic.toInCall.keep,codeAny_func ?_⟩;have I0:Inv (dm (λ_ _ _ _ _ _=>False) P w K mg base N qual (ag st) f cdv A outer s H (λ_ _ _=>False)).dw [] (start N (.ref x::ws)) H s1:=(pD S hhd e0 vl rv ic).bu _;have ltx:x < s.heap.objs.size:=Vh hx;have xfs:x ∉ gI outer:=λz=>by
  obtain⟨_,o,ho,hnf⟩:=e0.gZ.mem z;rw[hx] at ho;cases ho;exact hnf _ rfl
 have ok:(NJ P w K mg base N qual (ag st) f cdv A outer s H x).Ok:=by
  have o:=I0.ok;refine⟨o.mod,o.kind,o.glob,o.blt,o.above,o.inj,o.has,o.C9,o.hd,o.frames,o.H9,λb hb=>?_,o.bs,o.xA,λb o' e hb=>?_,λb hb=>?_,o.gZ,o.zE⟩
  . rw[Vm.mp hb];refine⟨Vy ltx,λy c' e z=>?_⟩;have:=o.C9 y c' rfl e;rw[z] at this;exact absurd ltx (XR.mpr this)
  . have e':base.get? b=UU o':=e;rw[Vm.mp hb,hbx] at e';cases e'
  . rw[Vm.mp hb];exact xfs
 have b0:=I0.base;have nn: ∀ b:U9,b ∉ (dm (λ_ _ _ _ _ _=>False) P w K mg base N qual (ag st) f cdv A outer s H (λ_ _ _=>False)).dw.ex:=λb z=>absurd (show b∈([]:List U9) from z) (by simp);have I:Inv (NJ P w K mg base N qual (ag st) f cdv A outer s H x) [] (start N (.ref x::ws)) H s1 :=
  ⟨ok,I0.os,I0.bare,⟨λb o e n h1 _=>b0.keep b o e n h1 (nn b),λb o e n h1 _=>b0.slot b o e n h1 (nn b),λb o e n _=>b0.free b o e n (nn b),λb o e _=>b0.there b o e (nn b),b0.gM,b0.ik,b0.jw⟩,I0.loc,I0.cell,I0.free,I0.dW,I0.pin,I0.aY,I0.len⟩
 have hx1:s1.heap.get? x=UU ⟨.ref C,UX,.fields av,sl⟩:=ic.toInCall.keep x _ hx;refine VA (ER (X:=NJ P w K mg base N qual (ag st) f cdv A outer s H x) Ve hH rfl xfs c rfl (hs cdv) I ⟨sl,.inl ⟨rfl,hx1⟩⟩ (by simpa using hg) pw) (λfl s' ⟨e,J,O⟩=>?_) λe s' z=>z.elim;subst e;have jb:=J.base;rw[sZ (by simpa using nd) (YF pw),VW] at O;obtain⟨sl',⟨z,_⟩ | ⟨dx,mA,q1,q2,q3,_,q5,q6,q7,_⟩⟩:=O
 . exfalso;cases pw with
   | nil=>exact g0 rfl
   | cons _ _=>nomatch z
 . exact⟨dx,mA,sl',rfl,J.os,J.bare,jb,J.aY,q1,q2,q3,q5,q6,q7⟩
end
abbrev S2(P:VE)(w:VY)(ch:List U9):Di:=λouter H s E e s'=> ∃ x C dx H',e= .ref x/\s'.os=s.os/\Yx s'.gens/\Un (gI outer) ch H H' s.heap s'.heap/\hI P w H' s'.heap/\AQ s.heap.objs.size H' s'.heap x C dx/\E (.ref C) (UU dx) H'
abbrev i8(P:VE)(w:VY):Di:=S2 P w []
theorem Hf{P:VE}{w:VY}{X:Cx}:Passes (i8 P w) X E0:=λ_ _ _ _ _ _ _ ⟨_,_,_,_,_,_,_,_,_,_,z⟩=>z.elim
def gy(X:Cx)(E:XK):Prop:= ∀(pins:List (U9 × Obj))(σ :St)(H:Hp)(s:U5)(e:U1)(s':U5)(ch:List U9),Inv X pins σ H s->(∀ b∈ch,(b∈X.ex\/X.s₀.heap.objs.size<=b)/\b≠X.env.locals/\(∀ x c,X.env.cells.lookup x=UU c->c≠b)/\ ∀ p∈X.pn++pins,p.1≠b) ->
 S2 X.prog X.w ch X.stack H s E e s'->X.xe e s'
theorem gy.pass{X:Cx}{E:XK}(p:gy X E):Passes (i8 X.prog X.w) X E:=λpins σ H s e s' I h=>p pins σ H s e s' [] I (λb z=>absurd z (by simp)) h
theorem AQ.sz{n:Nat}{H:Hp}{h:Wb}{x C dx:U9}(F:AQ n H h x C dx):n<=h.objs.size:=let ⟨_,_,e1,_,_,_,e5,_⟩:=F;Vn e5 (ZY (Vh e1))
theorem CY{P:VE}{w:VY}{K:UW}{mg:Str->Option U1}{base:Wb}{N:List Str}{qual:Str}{scope:YD}{f:U9}{cd:U1}{A:V6}{outer:List Env}{s₀ :U5}{H₀ :Hp}{E:XK} :
  gy (dm (i8 P w) P w K mg base N qual scope f cd A outer s₀ H₀ E) E:=by
 rintro pins σ H s e s' ch I hch ⟨x,C,dx,H',rfl,os,bare,un,aY,F,hE⟩;have J:Inv (dm (i8 P w) P w K mg base N qual scope f cd A outer s₀ H₀ E) pins σ H' s':=I.p5 os un aY bare hch;have hn:s₀.heap.objs.size<=s.heap.objs.size:=I.sz;have hfr:(A.deeper (Yo qual scope s₀.heap.objs.size f cd)).frames=UU (Yo qual scope s₀.heap.objs.size f cd::outer):=J.ok.frames;have hl:s'.heap.FunFrames base (Yo qual scope s₀.heap.objs.size f cd::outer):=J.stack;show Vs _ _ (leaving _ _) _ _ s';unfold leaving;refine UY (oh hfr hl rfl rfl (F.mono hn) J.sz (λa ha=>J.aY.fresh ha) λh1 p1 F1=>?_);refine mH (s:={ s' with heap:=h1}) (fs:=gI (Yo qual scope s₀.heap.objs.size f cd::outer)) (λb hb=>?_) F1.Su λh2 p2 F2=>?_
 . obtain⟨_,o,ho,hnf⟩:=hl.mem hb;obtain⟨sl,e⟩:=p1.slot b o ho hb;exact⟨_,e,hnf⟩
 have p:=p1.trans p2;refine⟨x,C,dx,H',rfl,J.os,J.bare,p.un J.base (Vb _) (λb hb=>?_) λb hb=>Vl _ hb,p.aY J.jP J.aY,F2,hE⟩;rcases Vt.mp (show b∈s₀.heap.objs.size::gI outer from hb) with z | z
 . exact .inr (aaR z.symm)
 . exact .inl z
theorem qD.NG{P:VE}{w:VY}{K:UW}{mg:Str->Option U1}{base:Wb}{x qual:Str}{st:WV}{f:U9}{fd:Xx}{N ps:List Str}{k:Nat}{sp:Sp}(F:qD K x qual st f fd)(S:bO N ps (ag st))(len: ∀ vs H Q E,sp vs H Q E->vs.length=ps.length)
  (hbody: ∀(cdv:U1)(A:V6)(outer:List Env)(s:U5)(H:Hp)(vs:List V)(Q:VK)(E:XK),cG k (A.deeper (Yo qual (ag st) s.heap.objs.size f cdv))->sp vs H Q E ->
   ∃ t,oO (dm (i8 P w) P w K mg base N qual (ag st) f cdv A outer s H E) (aE st) t/\t { nx:=λ_ H'=>Q .non H',rt:=Q} (start N vs) H):ig P w K mg base (i8 P w) (k+1) f fd ps sp:=by
 obtain⟨oc,od,kV,doc,pm,an,cdv,ct,osl,rfl,lk,hcd⟩:=F.ex;exact HF lk hcd S len λA outer s H vs Q E hr hsp=>hbody cdv A outer s H vs Q E hr hsp
theorem qD.SD{P:VE}{w:VY}{K:UW}{mg:Str->Option U1}{base:Wb}{x qual:Str}{st:WV}{f:U9}{fd:Xx}{N ps:List Str}{k:Nat}{sp:Sp}(F:qD K x qual st f fd)(S:bO N ps (ag st))(len: ∀ vs H Q E,sp vs H Q E->vs.length=ps.length)
  (hbody: ∀(cdv:U1)(A:V6)(outer:List Env)(s:U5)(H:Hp)(vs:List V)(Q:VK)(E:XK),cG k (A.deeper (Yo qual (ag st) s.heap.objs.size f cdv))->sp vs H Q E ->
   ∃ t,oO (dm (i8 P w) P w K mg base N qual (ag st) f cdv A outer s H E).dw (aE st) t/\t { nx:=λ_ H'=>Q .non H',rt:=Q} (start N vs) H):ig P w K mg base (i8 P w) (k+1) f fd ps sp :=
 F.NG S len λcdv A outer s H vs Q E hr h=>let ⟨t,q,z⟩:=hbody cdv A outer s H vs Q E hr h;⟨t,q.dw,z⟩
structure NB(P:VE)(w:VY)(K:UW)(mg:Str->Option U1)(xn:Str)(C:U9)(names:List Str):Prop where
 cl:jO K C
 Tu:iX K C=true
 kp:Wh K (.ref C)=true
 gl:mg xn=UU (.ref C)
 na: ∀ f∈names,Vw K (.ref C) f=UU UX
 init: ∃(qual:Str)(st:WV)(f:U9)(fd:Xx)(N ps:List Str),qD K "__init__" qual st f fd/\bO N ps (ag st)/\Vw K (.ref C) "__init__" =UU (UU (.ref f))/\ac9 K (.ref f)=UU (.type "function") /\
  (∀(kV doc pm:U1)(an:Option U9)(cdv ct:U1)(us:List U1),us.length=ps.length->W8 (VX "__init__" qual (br st) (aE st) (ag st) .none kV doc pm an cdv ct) ⟨us,[]⟩=pure (ps.zip us)) /\
  names.length+1=ps.length/\ ∀ base cdv A outer s H x,Ws (λst' (g:Str × Nat)=>Pg (C:=C) (NJ P w K mg base N qual (ag st) f cdv A outer s H x) st' g.1 g.2) (aE st) (names.zipIdx 1)
 n0:names≠[]
 nd:names.Nodup
 nl:names.length < 1000
theorem B5{N:List Str}{vs:List V}{i:Nat}{v:V}(h:vs[i]?=UU v):(start N vs)[i]?=UU (UU v):=by
 unfold start;rw[Vx (by simpa using(Vk.mp h).1),VI,h];rfl
theorem tE{N:List Str}{x:V}: ∀{names:List Str}{pre ws:List V},names.length=ws.length->Ws (λ(g:Str × Nat) v=>(start N (x::(pre++ws)))[g.2]?=UU (UU v)) (names.zipIdx (pre.length+1)) ws
 | [],pre,[],_=> .nil
 | [],pre,_::_,h=>nomatch h
 | _::_,pre,[],h=>nomatch h
 | n::r,pre,v::ws,h=>by
  rw[List.zipIdx_cons];refine .cons (B5 (by simp)) ?_;have:=tE (N:=N) (x:=x) (names:=r) (pre:=pre++[v]) (ws:=ws) (adl h);simpa using this
section
variable{X:Cx}{E:XK}{xn:Str}{C:U9}{names:List Str}{p pos:Pos}{e:VN}{es:List VN}{t:TA}
theorem Et{pins:List (U9 × Obj)}{σ :St}{H:Hp}{s:U5}{us:List U1}{vs:List V}{Q:U1->U5->Prop}{E':U1->U5->Prop}(M:NB X.prog X.w X.K X.mg xn C names)(hd:X.A.depth+5 < Zg)(hh:X.A.handled=UX)(I:Inv X pins σ H s)(r:Vals vs us)(hl:vs.length=names.length)
  (h: ∀ x dx od H' s',H dx=UX->H'=upd H dx (.ef od (.xd (names.zip vs)))->s'.os=s.os->Yx s'.gens->Un (gI X.stack) [] H H' s.heap s'.heap->hI X.prog X.w H' s'.heap->AQ s.heap.objs.size H' s'.heap x C dx->(∃ od av sl,s'.heap.get? x=UU ⟨.ref C,od,.fields av,sl⟩/\av[1]?=UU .none)->Q (.ref x) s') :
  Vs (Vv X.prog X.w) X.A (call (.ref C) us) Q E' s:=by
 obtain⟨qual,st,f,fd,N,ps,F,S,fi,ty,hb,hps,hs⟩:=M.init;have zl:us.length<=Vj:=by rw[<- r.length,hl,abm];have:=M.nl;omega
 refine Qg I.gU M.Tu fi ty zl ?_;generalize hg:(s.heap.push { cls:= .type "tuple",data:= .seq us.toArray}).push { cls:= .ref C,data:= .fields #[.ref s.heap.objs.size,.none,.none,.none,.bool false,.none]}=g;have k2: ∀ b o,s.heap.get? b=UU o->g.get? b=UU o:=λb o e=>by rw [<- hg];exact U4 _ (U4 _ e)
 have gx:g.get? (s.heap.objs.size+1)=UU ⟨.ref C,UX,.fields #[.ref s.heap.objs.size,.none,.none,.none,.bool false,.none], #[]⟩:=by
  rw [<- hg];exact acv (by rw [V1]) rfl
 have gs:g.objs.size=s.heap.objs.size+2:=by rw [<- hg,V1,V1]
 have I2:Inv X pins σ H { s with heap:=g}:=I.kept (h':=g) (t':=s.toks) k2;have hx0:H (s.heap.objs.size+1)=UX:=I.aY.fresh (Yr _);have bx:X.base.get? (s.heap.objs.size+1)=UX:=by
  cases q:X.base.get? (s.heap.objs.size+1) with
  | none=>rfl
  | some o=>exact absurd (Vh (I.bk _ _ q)) (XR.mpr (Yr _))
 refine aaa (aaS (PJ (gs:=names.zipIdx 1) (ws:=vs) (us:=us) (s:={ s with heap:=g}) F S M.cl (by rw[vy];omega) hh (I2.kE.make C us []) hb (λcdv=>hs X.base cdv _ _ _ _ _) (by rw[List.length_zipIdx];exact M.nl) (λz=>M.n0 (by simpa using z)) (by rw[abO];exact M.nd) (by rw[hl];exact hps) r gx hx0 bx (tE (pre:=[]) hl.symm)) λrr s' hq=>?_);obtain⟨dx,mA,sl',rfl,os,bare,un,aY,ex,nsd,rel,ld,ned,hdx⟩:=hq;obtain⟨od,es',ep',eo,dr⟩:=id nsd;refine⟨rfl,h _ dx od _ s' hdx rfl os bare ⟨λb o e n nb _=>un.keep b o (k2 b o e) n nb ?_,λb o e n hb _=>un.slot b o (k2 b o e) n hb ?_,λb o e n _=>?_,λb o e _=>un.there b o (k2 b o e) ?_,λb xs q=>?_,λb o u q=>?_,λb ps' q=>?_⟩ (λb u q=>?_) ?_ ⟨_,_,_,ex,rfl⟩⟩
 . exact λz=>absurd (Vh e) (by rw[Vm.mp z];exact XR.mpr (Yr _))
 . exact λz=>absurd (Vh e) (by rw[Vm.mp z];exact XR.mpr (Yr _))
 . rw[aw (Vy (Vg (Vh (k2 b o e)) ld))];exact n
 . exact λz=>absurd (Vh e) (by rw[Vm.mp z];exact XR.mpr (Yr _))
 . rw[aw (aq q hdx)];exact q
 . rw[aw (aq q hdx)];exact q
 . exact⟨#[],by rw[aw (aq q hdx),q];simp⟩
 . by_cases z:b=dx
   . subst z;rw[bb] at q;cases q;refine⟨eo,mA,nsd,?_⟩;rw[abO] at rel;exact rel
   . rw[aw z] at q;exact(aY b u q).jl (λ_ _ _ q'=>q') (λc q'=>by rw[aw (aq q' hdx)];exact q') λc xs q'=>by rw[aw (aq q' hdx)];exact q'
 . refine⟨_,_,ex,rfl,rfl,rfl,Yr _,by rw[aw (Xf ned)];exact hx0,.inl rfl⟩
def Kk(C:U9)(names:List Str)(E:XK)(t:TA):TS:=λ_ σ H=>t σ H λvs H1=>vs.length=names.length/\ ∀ dx od,H1 dx=UX->E (.ref C) (UU dx) (upd H1 dx (.ef od (.xd (names.zip vs))))
theorem BF{M:Model}{A:V6}{K:UW}{env:Env}{E':U1->U5->Prop}{s:U5}{Q:Flow->U5->Prop}{m:Sem U1}(hh:A.handled=UX)(mk:iX K C=true)
  (hm:Vs M A m (λv s'=> ∃ x od av sl,v= .ref x/\K.In s'.heap/\s'.heap.get? x=UU ⟨.ref C,od,.fields av,sl⟩/\av[1]?=UU .none/\E' (.ref x) s') E' s):Vs M A (raiseStmt env (UU m) UX) Q E' s:=by
 unfold raiseStmt;refine UY (VA hm (λv s' ⟨x,od,av,sl,e1,X,ho,h1,h⟩=>?_) λ_ _ z=>z);subst e1;obtain⟨nm,qn,N,bs,bm,hdct,sn,sub,ab,col,dd,k0,k1,k2,k3,k5,hC,T⟩:=A9 X mk;have cb:(Vo C::bm).contains (.type "BaseException")=true:=by rw[List.contains_cons,T.hasType (show CS.contains (.type "BaseException")=true by decide),Yz]
 obtain⟨hp,g,d,tk,os⟩:=s'
 repeat (first | with_reducible refine Xh ho ?_ | with_reducible refine Xh hC ?_ | (with_reducible refine abN hC ?_;rw[cb]) | wp_step)
 rw[h1];refine Vf ?_;rw[if_neg (by decide)];exact Vf (wpAny_raiseNew_none hh h)
theorem B1{rpos:Pos}(M:NB X.prog X.w X.K X.mg xn C names)(hd:X.A.depth+5 < Zg)(hh:X.A.handled=UX)(hx:Passes (i8 X.prog X.w) X E)(hg:Gl X xn)(ha:PA X (e::es) t)
  (hdb:(xn == ("__debug__" :Str))=false:=by decide) (he:VR (e::es) X.env=(false,WT e X.env)::VR es X.env:=by rfl) (hpl:(YX pos (VR es X.env)).any (·.1)=false:=by rfl) :
  PS X (.Raise (UU (.Call (.Name xn p) (e::es) [] pos)) UX rpos) (Kk C names E t):=by
 intro pins s σ H D I h;rw[arm_exec_Raise];refine UY (ZE (BF hh M.Tu ?_));refine UY (gE (Q:=λv s'=> ∃ x od av sl,v= .ref x/\X.K.In s'.heap/\s'.heap.get? x=UU ⟨.ref C,od,.fields av,sl⟩/\av[1]?=UU .none/\X.xe (.ref x) s') ?_ λv s' q=>UY (ZE (Vf q)));refine X4 (jM I hg M.gl ?_ hdb);refine ab3 (h₀ :=X.base) I.ok.mod.QM M.kp (gE (ha pos pins s σ H _ I h) λus s1 ⟨vs,H1,I1,r,hl,q⟩=>⟨I1.gU,?_⟩) he hpl;refine Et M hd hh I1 r hl λx dx od H' s' n1 eH os bare un aY F ⟨odd,av,osl,e1,e2⟩=>?_;have J:=I1.p5 os un aY bare λb z=>absurd z (by simp);exact⟨x,odd,av,osl,rfl,J.gU,e1,e2,hx pins σ H1 s1 _ s' I1 ⟨x,C,dx,H',rfl,os,bare,un,aY,F,by rw[eH];exact q dx od n1⟩⟩
end
abbrev hand(X:Cx)(x:U9):Cx:={ X with A:=X.A.mark (UU (.ref x)),calm:=false,xe:=λ_ _=>False}
abbrev oV(X:Cx)(pn:List (U9 × Obj))(E:U1->U5->Prop):Cx:={ X with pn:=pn,xe:=E}
section
variable{X:Cx}{pins:List (U9 × Obj)}{σ :St}{H:Hp}{s:U5}
theorem Inv.hand(I:Inv X pins σ H s)(x:U9):Inv (hand X x) pins σ H s :=
 ⟨⟨I.ok.mod,I.ok.kind,I.ok.glob,I.ok.blt,I.ok.above,I.ok.inj,I.ok.has,I.ok.C9,λz=>Bool.noConfusion z,I.ok.frames,I.ok.H9,I.ok.M9,I.ok.bs,I.ok.xA,I.ok.ui,I.ok.uZ,I.ok.gZ,I.ok.zE⟩,I.os,I.bare,I.base,I.loc,I.cell,I.free,I.dW,I.pin,I.aY,I.len⟩
theorem Inv.rK(ok:X.Ok){x:U9}(I:Inv (L2.hand X x) pins σ H s):Inv X pins σ H s:=⟨ok,I.os,I.bare,I.base,I.loc,I.cell,I.free,I.dW,I.pin,I.aY,I.len⟩
theorem Inv.oV{E:U1->U5->Prop}(I:Inv X pins σ H s):Inv (oV X (X.pn++pins) E) [] σ H s :=
 ⟨⟨I.ok.mod,I.ok.kind,I.ok.glob,I.ok.blt,I.ok.above,I.ok.inj,I.ok.has,I.ok.C9,I.ok.hd,I.ok.frames,I.ok.H9,I.ok.M9,I.ok.bs,I.ok.xA,I.ok.ui,I.ok.uZ,I.ok.gZ,I.ok.zE⟩,I.os,I.bare,I.base,I.loc,I.cell,I.free,I.dW,λp hp=>I.pin p (by rw[VM] at hp;exact hp),I.aY,I.len⟩
theorem Inv.ou(ok:X.Ok){E:U1->U5->Prop}{pins':List (U9 × Obj)}(I:Inv (L2.oV X (X.pn++pins) E) pins' σ H s):Inv X pins σ H s:=⟨ok,I.os,I.bare,I.base,I.loc,I.cell,I.free,I.dW,λp hp=>I.pin p (VO _ hp),I.aY,I.len⟩
theorem Inv.past{n:Nat}{h':Wb}(I:Inv X pins σ H s)(hn:X.s₀.heap.objs.size<=n)(hL:X.env.locals < n)(hc: ∀ x c,X.env.cells.lookup x=UU c->c < n)(hp: ∀ p∈X.pn++pins,p.1 < n)(P:hJ n H (gI X.stack) s.heap h'):Inv X pins σ H { s with heap:=h'}:=by
 refine I.p5 (ch:=(XQ s.heap.objs.size).filter λb=>decide (n<=b)) rfl ⟨λb o e q nb hx=>P.keep b o e (.inl ?_) nb,λb o e q hb _=>P.slot b o e hb,λ_ _ _ q _=>q,λb o e hx=>?_,λ_ _ q=>q,λ_ _ _ q=>q,λb ps q=>⟨#[],by rw[q];simp⟩⟩ (λb u e=>?_) I.bare λb hb=>?_
 . rcases X7 b n with z | z
   . exact z
   . exact absurd (W2.mpr ⟨Zd.mpr (Vh e),decide_eq_true z⟩) hx
 . by_cases hb:b∈gI X.stack
   . obtain⟨sl,e2⟩:=P.slot b o e hb;exact⟨_,e2⟩
   . rcases X7 b n with z | z
     . exact⟨o,P.keep b o e (.inl z) hb⟩
     . exact absurd (W2.mpr ⟨Zd.mpr (Vh e),decide_eq_true z⟩) hx
 . refine(I.aY b u e).jl (λd w' hd q=>P.keep d w' q (.inr ?_) λhb=>?_) (λ_ q=>q) λ_ _ q=>q
   . rcases hd with z | z
     . rw[z,e];simp
     . rw[z];simp
   . have:=I.jP d hb;rcases hd with z | z
     . rw[z,e] at this;cases this
     . rw[z] at this;cases this
 . have z:n<=b:=of_decide_eq_true (W2.mp hb).2;exact⟨.inr (Vn hn z),Xm (Vg hL z),λx c e=>Vy (Vg (hc x c e) z),λp q=>Vy (Vg (hp p q) z)⟩
end
structure FJ(K:UW)(L:U9):Prop where
 cls: ∃ dd cd sl,K.lookup L=UU ⟨.type "type",dd,.cls cd,sl⟩
 bx:Wq K L (.type "BaseException")=UU true
theorem uY{M:Model}{A:V6}{K:UW}{E:U1->U5->Prop}{s:U5}{x C L:U9}{oe:Obj}{Q:Bool->U5->Prop}{b:Bool}(X:K.In s.heap)(S:FJ K L)(hx:s.heap.get? x=UU oe)(hc:oe.cls= .ref C)(hm:Wq K C (.ref L)=UU b)(h:Q b s) :
  Vs M A (excMatches (.ref x) (.ref L)) Q E s:=by
 obtain⟨dd,cd,sl,lk⟩:=S.cls;have hL:=X _ _ lk;have f:=tc_notTuple;obtain⟨hh,g,d,t,os⟩:=s;unfold excMatches
 repeat (first | (with_reducible refine Xh hx ?_;rw[hc]) | with_reducible refine Xh hL ?_ | with_reducible refine PySem.W.Looks.at (XW X S.bx) ?_ | with_reducible refine PySem.W.Looks.at (XW X hm) ?_ | wp_step)
 cases b<;>(wp_walk;exact h)
def Pl(H:Hp)(x C:U9)(fs:List (Str × V)):Prop:= ∃ oe dx od av,H x=UU (.ef oe (.ext λ_=>True))/\oe.cls= .ref C/\oe.dict=UU dx/\oe.data= .fields av/\H dx=UU (.ef od (.xd fs))
def Pa(K:UW)(L:U9)(i n:Nat)(tb:XK->TS)(th:TS):TS:=λD σ H=> ∃ E:XK,tb E D σ H/\ ∀ c d H',E c d H'-> ∃ C dx od fs,c= .ref C/\d=UU dx/\Wq K C (.ref L)=UU true/\H' dx=UU (.ef od (.xd fs)) /\
 ∀ x oe av,H' x=UX->oe.cls= .ref C->oe.dict=UU dx->oe.data= .fields av->th { nx:=fun σ2 H2=>D.nx (σ2.set i UX) H2,rt:=D.rt,bk:=fun σ2 H2=>D.bk (σ2.set i UX) H2,ct:=fun σ2 H2=>D.ct (σ2.set i UX) H2} ((U8 n UX).set i (UU (.ref x))) (upd H' x (.ef oe (.ext λ_=>True)))
section
variable{X:Cx}{cn n:Str}{L:U9}{i:Nat}{np hpos pos:Pos}{body suite:List WV}{b₀ :WV}{tb:XK->TS}{th:TS}
theorem j9{σ :St}{i j:Nat}{v:V}(h:(σ.set i UX)[j]?=UU (UU v)): σ[j]?=UU (UU v)/\j≠i:=by
 by_cases z:j=i
 . subst z;rcases X7 j σ.length with y | y
   . rw[VL y] at h;cases h
   . rw[XC (by simpa using y)] at h;cases h
 . rw[Vp (Xf z)] at h;exact⟨h,z⟩
theorem name_goes{pins:List (U9 × Obj)}{σ :St}{H:Hp}{s:U5}{Q:Unit->U5->Prop}{A:V6}{E':U1->U5->Prop}(I:Inv X pins σ H s)(hN:X.N.Nodup)(hi:X.N[i]?=UU n)(hl:X.env.kindOf n=UU .local)
  (h: ∀ s',Inv X pins (σ.set i UX) H s'->Q () s'):Vs (Vv X.prog X.w) A (do bindName X.env n .none;unbindBehindTheSuite X.env n hpos) Q E' s:=by
 obtain⟨m,hn,lo⟩:=id I.loc;obtain⟨oL,_,_,hoL,_⟩:=id hn;refine wpAny_nameGoes_keeps hl hn (by rw[I.ok.kind];rfl) λh' v hn' sb=>h _ ?_;have Cu:=I.Cu;have I1:Inv X pins (σ.set i UX) H s:=I.weak (by simp) λj v e=>(j9 e).1;refine⟨I.ok,I.os,I.bare,⟨λb o e n' hb hx=>?_,λb o e n' hb hx=>?_,I.base.free,λb o e hx=>?_,I.base.gM,I.base.ik,I.base.jw⟩,⟨_,hn',λj y w e1 e2 e3=>?_⟩,λy c e=>?_,I.free,I.dW,λp hp=>?_,λb u e=>?_,I1.len⟩
 . exact(sb.2 b (Vy (Vg (Vh e) I.ok.above))).trans (I.base.keep b o e n' hb hx)
 . obtain⟨sl,e1⟩:=I.base.slot b o e n' hb hx;exact⟨sl,(sb.2 b (Vy (Vg (Vh e) I.ok.above))).trans e1⟩
 . obtain⟨o',e1⟩:=I.base.there b o e hx;exact⟨o',(sb.2 b (Vy (Vg (Vh e) I.ok.above))).trans e1⟩
 . obtain⟨q,nj⟩:=j9 e2;obtain⟨u,r,l⟩:=lo j y w e1 q e3;refine⟨u,r,?_⟩;rcases l with⟨k,z⟩ | ⟨k,c,e,z⟩
   . refine .inl ⟨k,?_⟩;have:y≠n:=λe=>nj (nL hN e1 (e ▸ hi));simp[this,z]
   . exact .inr ⟨k,c,e,z.sameBut sb (Cu y c e)⟩
 . obtain⟨w,z⟩:=I.cell y c e;exact⟨w,z.sameBut sb (Cu y c e)⟩
 . obtain⟨e,n',ne,nf,d⟩:=I.pin p hp;exact⟨(sb.2 p.1 ne).trans e,n',ne,nf,d⟩
 . refine(I.aY b u e).jl (λd w' hd q=>(sb.2 d ?_).trans q) (λ_ q=>q) λ_ _ q=>q;rintro rfl;rcases hd with z | z
   . rw[<- z,I.free] at e;cases e
   . rw[I.free] at z;cases z
theorem SP.ou(ok:X.Ok){pins:List (U9 × Obj)}{E':U1->U5->Prop}{D:Ends}{f:Flow}{s':U5}(h:SP (oV X (X.pn++pins) E') [] D f s'):SP X pins D f s':=by
 cases f with
 | next=>obtain ⟨σ',H',I,q⟩:=h;exact ⟨σ',H',I.ou ok,q⟩
 | brk=>obtain ⟨σ',H',I,q⟩:=h;exact ⟨σ',H',I.ou ok,q⟩
 | cont=>obtain ⟨σ',H',I,q⟩:=h;exact ⟨σ',H',I.ou ok,q⟩
 | ret u=>obtain ⟨v, σ',H',I,r,q⟩:=h;exact ⟨v, σ',H',I.ou ok,r,q⟩
theorem Ju{pins:List (U9 × Obj)}{D:Ends}{E:XK}(ok:X.Ok)(hl0:X.stack=X.env::X.outer)(hf0:X.env.frame=UU X.env.locals)(hN:X.N.Nodup)(hi:X.N[i]?=UU n)(hk:X.env.kindOf n=UU .local)(hg:Gl X cn)(hm:X.mg cn=UU (.ref L))(S:FJ X.K L)(hh: ∀ x,oO (hand X x) (b₀ ::suite) th)
  (hE: ∀ c d H',E c d H'-> ∃ C dx od fs,c= .ref C∧d=UU dx∧Wq X.K C (.ref L)=UU true∧H' dx=UU (.ef od (.xd fs))∧ ∀ x oe av,H' x=UX->oe.cls= .ref C->oe.dict=UU dx->oe.data= .fields av ->
   th { nx:=fun σ2 H2=>D.nx (σ2.set i UX) H2,rt:=D.rt,bk:=fun σ2 H2=>D.bk (σ2.set i UX) H2,ct:=fun σ2 H2=>D.ct (σ2.set i UX) H2} ((U8 X.N.length UX).set i (UU (.ref x))) (upd H' x (.ef oe (.ext λ_=>True))))
  (hdb:(cn == ("__debug__" :Str))=false) (E':U1->U5->Prop) {e:U1} {s s':U5} {σ :St} {H:Hp} {pins':List (U9 × Obj)} {ch:List U9} (I:Inv (oV X (X.pn++pins) E') pins' σ H s) (hch: ∀ b∈ch,(b∈X.ex\/X.s₀.heap.objs.size<=b)/\b≠X.env.locals/\(∀ x c,X.env.cells.lookup x=UU c->c≠b)/\ ∀ p∈(X.pn++pins)++pins',p.1≠b) (hc:S2 X.prog X.w ch X.stack H s E e s') :
  Vs (Vv X.prog X.w) X.A (aaI e X.env) (λ_ s₂ =>Vs (Vv X.prog X.w) X.A (Z7 e UX) (λ_ s₃ =>Vs (Vv X.prog X.w) X.A (handleBy e X.env [.ExceptHandler (UU (.Name cn np)) (UU n) (b₀ ::suite) hpos]) (SP X pins D) X.xe s₃) X.xe s₂) X.xe s':=by
 obtain⟨x,C,dx,H',rfl,os,bare,un,aY,F,hx⟩:=hc;obtain⟨C',dx',od,fs,e1,e2,mr,hd,hth⟩:=hE _ _ _ hx;cases e1;cases e2;have I0:Inv X pins σ H s:=I.ou ok;have J:Inv X pins σ H' s':=I0.p5 os un aY bare λb hb=>let ⟨a1,a2,a3,a4⟩:=hch b hb;⟨a1,a2,a3,λp hp=>a4 p (VO _ hp)⟩
 have hfr:X.A.frames=UU (X.env::X.outer):=by rw[<- hl0];exact ok.frames
 have pst: ∀{s1:U5}{h':Wb},Inv X pins σ H' s1->hJ s.heap.objs.size H' (gI X.stack) s1.heap h'->Inv X pins σ H' { s1 with heap:=h'}:=λK1 P=>K1.past I0.sz I0.lt (λy c e=>let ⟨_,z⟩:=I0.cell y c e;z.lt) (λp hp=>Vh (I0.pin p hp).1) P;have frd: ∀{s1:U5},Inv X pins σ H' s1-> ∀ b∈gI X.stack,∃ o,s1.heap.get? b=UU o/\ ∀ vs,o.data≠ .fields vs:=λK1 b hb=>(K1.stack.mem hb).2;refine oh hfr (by rw[<- hl0];exact J.stack) hf0 hf0 F F.sz (λa ha=>J.aY.fresh ha) λh1 p1 F1=>?_;rw[<- hl0] at p1;have J1:=pst J p1;refine mH (s:={ s' with heap:=h1}) (frd J1) F1.Su λh2 p2 F2=>?_;have J2:=pst J1 p2;refine wpAny_handleBy_cons (codeAny_handlers_test (jM (X:=hand X x) (J2.hand x) hg hm ?_ hdb)) (by intro q;cases q);obtain⟨oe,av,x1,x2,x3,x4,x5,x6,x7⟩:=id F2;refine uY J2.gU S x1 x2 mr (codeAny_handlers_suite_as ?_);refine mH (s:={ s' with heap:=h2}) (frd J2) F2 λh3 p3 F3=>?_;have J3:=(pst J2 p3).hand x;obtain⟨oe,av,x1,x2,x3,x4,x5,x6,x7⟩:=id F3;have J4:Inv (hand X x) pins (U8 X.N.length UX) (upd H' x (.ef oe (.ext λ_=>True))) { s' with heap:=h3}:=by
  have W:Inv (hand X x) pins (U8 X.N.length UX) H' { s' with heap:=h3}:=J3.weak (by rw[Zu];exact J3.len.symm) λj v e=>by
   rw[WJ] at e;split at e<;>cases e
  have xl: ∀{b:U9},b < s.heap.objs.size->b≠x:=λz=>Vy (Vg z x5);refine Inv.step (s:={ s' with heap:=h3}) (H':=upd H' x (.ef oe (.ext λ_=>True))) W (ch:=[x]) (g':=s'.gens) (d':=s'.drawn) (h':=h3) (t':=s'.toks) (λb hb=>?_) (λb o _ _ _ e _=>e) (λb o _ _ _ e _=>⟨o.slots,e⟩) (λb o hc e n'=>?_) (λb o _ e=>⟨o,e⟩) (λb xs e=>?_) (λb o u e=>?_) (λb ps e=>⟨#[],?_⟩) (λ_ z=>z) (λb u e=>?_) W.bare
  . rw[Vm.mp hb];exact⟨.inr (Vn I0.sz x5),Xf (xl I0.lt),λy c e=>xl (let ⟨_,z⟩:=I0.cell y c e;z.lt),λp hp=>xl (Vh (I0.pin p hp).1)⟩
  . rw[aw (λz=>hc (by simp[z]))];exact n'
  . rw[aw (aq e x6)];exact e
  . rw[aw (aq e x6)];exact e
  . rw[aw (aq e x6),e];simp
  . by_cases z:b=x
    . subst z;rw[bb] at e;cases e;exact⟨x1,trivial,⟨_,x1⟩,λ_ _ _ _=>trivial⟩
    . rw[aw z] at e;exact(W.aY b u e).jl (λ_ _ _ q=>q) (λc q=>by rw[aw (aq q x6)];exact q) λc xs q=>by rw[aw (aq q x6)];exact q
 refine mM (X:=hand X x) (v:= .ref x) J4 hN hi (.inl hk) rfl (λs5 J5=>?_) (.inr hk);refine VA (hh x pins s5 _ _ _ J5 (hth x oe av x6 x2 x3 x4)) (λf s6 q=>?_) λ_ _ z=>z.elim;cases f with
 | next=>obtain ⟨σ',H6,I6,q⟩:=q;exact name_goes (I6.rK ok) hN hi hk λs7 I7=>⟨_,H6,I7,q⟩
 | brk=>obtain ⟨σ',H6,I6,q⟩:=q;exact name_goes (I6.rK ok) hN hi hk λs7 I7=>⟨_,H6,I7,q⟩
 | cont=>obtain ⟨σ',H6,I6,q⟩:=q;exact name_goes (I6.rK ok) hN hi hk λs7 I7=>⟨_,H6,I7,q⟩
 | ret u=>obtain ⟨v, σ',H6,I6,r,q⟩:=q;exact name_goes (I6.rK ok) hN hi hk λs7 I7=>⟨v,_,H6,I7,r,q⟩
theorem El(hl0:X.stack=X.env::X.outer)(hf0:X.env.frame=UU X.env.locals)(hN:X.N.Nodup)(hi:X.N[i]?=UU n)(hk:X.env.kindOf n=UU .local)(hg:Gl X cn)(hm:X.mg cn=UU (.ref L))(S:FJ X.K L)(hh: ∀ x,oO (hand X x) (b₀ ::suite) th)
  (hb: ∀ pn E' E,gy (oV X pn E') E->abF (Vv X.prog X.w) X.A X.env E'->oO (oV X pn E') body (tb E)) (hdb:(cn == ("__debug__" :Str))=false:=by decide) :
  PS X (.Try body [.ExceptHandler (UU (.Name cn np)) (UU n) (b₀ ::suite) hpos] [] [] pos) (Pa X.K L i X.N.length tb th):=by
 rintro pins s σ H D I ⟨E,w,hE⟩;refine wpAny_Try_except (VA (hb (X.pn++pins) (λe s₁ =>Vs (Vv X.prog X.w) X.A (aaI e X.env) (λ_ s₂ =>Vs (Vv X.prog X.w) X.A (Z7 e UX) (λ_ s₃ =>Vs (Vv X.prog X.w) X.A (handleBy e X.env [.ExceptHandler (UU (.Name cn np)) (UU n) (b₀ ::suite) hpos]) (SP X pins D) X.xe s₃) X.xe s₂) X.xe s₁) E
  (λpins' σ' H' s' e s'' ch I' hch hc=>Ju I.ok hl0 hf0 hN hi hk hg hm S hh hE hdb _ I' hch hc) PassesOwn.looking [] s σ H D I.oV w) (λf s1 q=>?_) λe s1 z=>z)
 have q':=q.ou I.ok;cases f with
 | next=>exact YO q'
 | _=>exact q'
end
noncomputable def mask(n:Str):Str:=⟨n.cps.push 0⟩
def eF(sc fn:List (Str × ZI))(N vars:List Str) :=
 sc.all (λp=>(p.2 != .cell||sc.lookup p.1 == UU .cell)&&(p.2 != .free||(fn.lookup p.1 == UU .cell||fn.lookup p.1 == UU .free))&&(p.2 != .local||sc.lookup p.1 == UU .local)) &&
 N.all (λn=>vars.contains n||(sc.lookup n !=UU .local&&sc.lookup n !=UU .cell))&&vars.all (λv=>sc.lookup (mask v) == UX)
def kW(N vars:List Str):=N.map (λn=>if vars.contains n then mask n else n)++vars
def cD(X:Cx)(vars:List Str)(scope:YD)(cl:List (Str × U9))(C:U9)(s₀ :U5)(H₀ :Hp)(ex:List U9)(pn:List (U9 × Obj)):Cx :=
 { X with N:=kW X.N vars,env:=WE scope cl C X.env,s₀ :=s₀,H₀ :=H₀,outer:=X.stack,ex:=ex,fn:=λx=>scope.names.lookup x == UU .cell,pn:=pn}
theorem je(f:Str->ZI->ZI) x: ∀ names:List (Str × ZI),(names.map λp=>(p.1,f p.1 p.2)).lookup x=(names.lookup x).map (f x)
 | []=>rfl
 | p::r=>by
  have ih:=je f x r;rw[U2,Wz,Wz,ih];cases q:x == p.1 with
  | true=>simp_all
  | false=>rfl
theorem iC{env:Env}{names:List (Str × ZI)} :
  (names.map λ(n,k)=>if (k == XS&&env.scope.kind == .function&&env.kindOf n == UU .cell) then(n,XT) else(n,k)).lookup x =
   (names.lookup x).map λk=>if (k == XS&&env.scope.kind == .function&&env.kindOf x == UU .cell) then XT else k:=by
 rw[<- je (λn k=>if (k == XS&&env.scope.kind == .function&&env.kindOf n == UU .cell) then XT else k) x names];congr 2
 funext p
 show(if _ then _ else _)=_;split<;>rename_i z<;>simp[z]
theorem lookup_mem{β :Type}{c}: ∀{l:List (Str × β)},l.lookup x=UU c->(x,c)∈l
 | [],h=>by simp at h
 | p::r,h=>by
  rw[Wz] at h;cases q:x == p.1 with
  | true =>
   rw[q] at h
   obtain rfl:x=p.1:=by simpa using q
   obtain rfl:p.2=c:=by simpa using h
   exact Ve
  | false=>rw[q] at h;exact Vl _ (lookup_mem h)
theorem fm{β :Type}{c}: ∀{l:List (Str × β)},(x,c)∈l-> ∃ d,l.lookup x=UU d
 | [],h=>by cases h
 | (n,k)::r,h=>by
  cases hx:x == n with
  | true=>exact⟨k,by simp only[Wz,hx]⟩
  | false =>
   have h':(x,c)∈r:=by
    simp_all
   obtain⟨d,q⟩:=fm h'
   exact⟨d,by simp only[Wz,hx];exact q⟩
theorem jy: ∀(names:List (Str × ZI)) acc,(∀ p∈names,p.2= .free-> ∃ c,env.cells.lookup p.1=UU c) ->
  ∃ cl,(forIn names acc λ(x:Str × ZI) (r)=>(match x with | (name,kind)=>if (kind == XS)=true then do let a <- cellOf env name;pure (Yd ((name,a)::r)) else pure (Yd r)))=pure cl /\
   (∀ p∈cl,p∈acc\/env.cells.lookup p.1=UU p.2)/\(∀ p∈acc,p∈cl)/\ ∀ p∈names,p.2= .free-> ∃ c,(p.1,c)∈cl
 | [],acc,_=>⟨acc,rfl,λp h=> .inl h,λp h=>h,λp h=>by cases h⟩
 | (n,k)::r,acc,h=>by
  by_cases hk:(k == XS)=true
  . obtain⟨c,hc⟩:=h (n,k) Ve (by simpa using hk);obtain⟨cl,e,h1,h2,h3⟩:=jy r ((n,c)::acc) λp hp=>h p (Vl _ hp);refine⟨cl,?_,λp hp=>?_,λp hp=>h2 p (Vl _ hp),λp hp hf=>?_⟩
    . rw[Ye];have z:cellOf env n=pure c:=by unfold cellOf;have hc':=hc;rw[hc']
      simp only[hk,z];exact e
    . rcases h1 p hp with q | q
      . rcases Vt.mp q with q | q
        . exact .inr (by rw[q];exact hc)
        . exact .inl q
      . exact .inr q
    . rcases Vt.mp hp with q | q
      . exact⟨c,by rw[q];exact h2 _ Ve⟩
      . exact h3 p q hf
  . obtain⟨cl,e,h1,h2,h3⟩:=jy r acc λp hp=>h p (Vl _ hp);refine⟨cl,?_,h1,h2,λp hp hf=>?_⟩
    . rw[Ye];simp only[if_neg hk];exact e
    . rcases Vt.mp hp with q | q
      . rw[q] at hf;exact absurd (by simpa using hf) hk
      . exact h3 p q hf
theorem nW(h: ∀ p∈scope.names,p.2= .free-> ∃ c,env.cells.lookup p.1=UU c) :
  ∃ cl,closureFor scope env=pure cl/\(∀ x c,cl.lookup x=UU c->env.cells.lookup x=UU c)/\ ∀ x,scope.names.lookup x=UU .free-> ∃ c,cl.lookup x=UU c:=by
 obtain⟨cl,e,h1,_,h3⟩:=jy scope.names [] h;refine⟨cl,?_,λx c q=>?_,λx q=>?_⟩
 . show(forIn scope.names ([]) _ >>= λr=>pure r)=_
   erw [e]
   rfl
 . rcases h1 _ (lookup_mem q) with z | z
   . cases z
   . exact z
 . obtain⟨c,q'⟩:=h3 _ (lookup_mem q) rfl;exact fm q'
theorem vj: ∀ names(h:Wb) acc x c,(Xu h.objs.size names acc).lookup x=UU c ->
  ((x,XT) ∉ names/\acc.lookup x=UU c)\/((x,XT)∈names/\h.objs.size<=c/\(aaJ h names).IsCell c UX)
 | [],_,_,_,_,e=> .inl ⟨λz=>(by cases z),e⟩
 | (name,kind)::r,h,acc,x,c,e=>by
  unfold Xu at e;unfold aaJ;split at e
  . rename_i hk;have hk':kind= .cell:=by simpa using hk
    subst hk';have hz:(h.push { cls:= .type "cell",data:= .cell UX}).objs.size=h.objs.size+1:=V1 ..;rw[<- hz] at e;rcases vj r _ _ x c e with⟨n,q⟩ | ⟨m,le,q⟩
    . rw[Wz] at q;cases hx:x == name with
      | true =>
       rw[hx] at q
       cases q
       rw[show x=name by simpa using hx]
       exact .inr ⟨Ve,Vb _,_,aa9 _ _ _ _ (Vq _ rfl),rfl⟩
      | false =>
       simp_all
    . exact .inr ⟨Vl _ m,by rw[hz] at le;exact Nat.le_of_succ_le le,q⟩
  . rename_i hk;rw[if_neg hk];rcases vj r h acc x c e with⟨n,q⟩ | ⟨m,q⟩
    . refine .inl ⟨λz=>?_,q⟩;rcases Vt.mp z with w | w
      . simp_all
      . exact n w
    . exact .inr ⟨Vl _ m,q⟩
theorem u9{lo:Nat}: ∀ names(n:Nat)(acc:List (Str × U9)),(∀ x y c,acc.lookup x=UU c->acc.lookup y=UU c->lo<=c->x=y)->(∀ x c,acc.lookup x=UU c->c < n) ->
  ∀ x y c,(Xu n names acc).lookup x=UU c->(Xu n names acc).lookup y=UU c->lo<=c->x=y
 | [],_,_,h,_=>h
 | (name,kind)::r,n,acc,h,hn=>by
  unfold Xu;split
  . have at_: ∀ z d,((name,n)::acc).lookup z=UU d->(z=name/\d=n)\/acc.lookup z=UU d:=λz d e=>by
     rw[Wz] at e;cases hz:z == name with
     | true=>simp_all
     | false=>rw[hz] at e;exact .inr e
    refine u9 r (n+1) _ (λx y c e1 e2 hl=>?_) λx c e=>?_
    . rcases at_ x c e1 with⟨a,b⟩ | a<;>rcases at_ y c e2 with⟨a',b'⟩ | a'
      . rw[a,a']
      . exact absurd (hn y c a') (by rw[b];exact Wf _)
      . exact absurd (hn x c a) (by rw[b'];exact Wf _)
      . exact h x y c a a' hl
    . rcases at_ x c e with⟨_,b⟩ | a
      . simp_all
      . exact Nat.lt_succ_of_lt (hn x c a)
  . exact u9 r n acc h hn
theorem oF{M:Model}{A:V6}{E:U1->U5->Prop}{s:U5}{scope:YD}{globals:U9}{cl:List (Str × U9)}{qual:Str}{outer:Env}{Q:Env->U5->Prop}
  (h:Q { scope:=scope,locals:=s.heap.objs.size,globals:=globals,cells:=Xu (s.heap.objs.size+1) scope.names cl,qual:=qual,func:=UX,code:=outer.code,frame:=outer.frame,builtins:=outer.builtins}
   { s with heap:=aaJ (s.heap.push { cls:= .type "dict",data:= .dict #[]}) scope.names}):Vs M A (abq scope globals cl [] qual UX .none (UU outer)) Q E s:=by
 simp only[abq,ab9,if_true];refine UY (wpAny_alloc (UY (wpAny_layCells _ (λname kind cells=>by rfl) _ _ _ _ ?_)));rw[show({ s with heap:=s.heap.push { cls:= .type "dict",data:= .dict #[]}}:U5).heap.objs.size=s.heap.objs.size+1 from V1 ..];exact UY (by exact Vf (Vf h))
noncomputable def Ds(cs:List VN) v :=
 forIn cs true λc r=>if r=true then(ab1 c v (WT c v) >>= λok=>pure (Yd ok)) else pure (Yd r)
def vd M A v e acc (X:U1->U5->Prop) (D:U5->Prop):=λok u=>if ok=true then
  Vs M A (WT e v) (λx u1=>Vs M A (call (.builtin "list.append") [acc,x]) (λ_ u2=>D u2) X u1) X u
 else D u
def IW(M:Model)(A:V6) v tg e (cs:List VN) (it acc:U1) (X:U1->U5->Prop) (D:U5->Prop) (i:U1) (u:U5) :=
 Vs M A (aa7 tg it i) (λ_ u1=>Vs M A (Zw tg v i) (λ_ u2=>Vs M A (Ds cs v) (vd M A v e acc X D) X u2) X u1) X u
theorem nY{prog:VE}{w:VY}{A:V6}{R:Result->U5->Prop}{s:U5}{elt target iter:VN}{ifs:List VN}{scope:YD}{pos:Pos}{it acc:U1}{env:Env}(I:Nat->U5->Prop)
  (turn: ∀ k u,I k u->Vs (Vv prog w) A (pyNext it) (λr u1=>match r with
   | none=>R (.ok .next) u1
   | some i=>IW (Vv prog w) A env target elt ifs it acc (aaX (Vv prog w) A env λe s'=>R (.error e) s') (λu2=> ∃ m,m < k/\I m u2) i u1) (aaX (Vv prog w) A env λe s'=>R (.error e) s') u)
  (n:Nat) (h:I n s):Z0 (Vv prog w) A (.compLoop (.ListComp elt [⟨target,iter,ifs,0⟩] scope pos) 0 it acc env) R s:=by
 refine codeAny_loop rfl I (λk u hu=>wpAny_noted (m:=compTurn (.ListComp elt [⟨target,iter,ifs,0⟩] scope pos) 0 it acc env) ?_) n h;rw[compTurn_list];refine UY (ZE (UY (VA (turn k u hu) (λr u1 g=>?_) λ_ _ z=>z)))
 match r,g with
 | none,g=>exact Vf g
 | some i,g =>
  refine UY (VA g (λ_ _ g=>UY (VA g (λ_ _ g=>UY (VA g (λok u4 g=>?_) λ_ _ z=>z)) λ_ _ z=>z)) λ_ _ z=>z)
  match ok,g with
  | false,g=>exact Vf (Zz rfl g)
  | true,g=>exact UY (UY (VA g (λ_ _ g=>UY (VA g (λ_ _ g=>Vf (Vf (Zz rfl g))) λ_ _ z=>z)) λ_ _ z=>z))
def PF X (ifs:List VN) (t:TT) :=
 ∀ pins s(σ :St) H Q,Inv X pins σ H s->t σ H Q ->
  Vs (Vv X.prog X.w) X.A (forIn ifs true λc r=>if r=true then do let ok <- ab1 c X.env (WT c X.env);pure (Yd ok) else pure (Yd r)) (TP X pins σ Q) X.xe s
noncomputable def Hs:TT:=λ_ H Q=>Q true H
theorem K0:PF X [] Hs:=λ_ _ σ H Q I h=>wpAny_tests_nil ⟨H,I,h⟩
theorem LC(h:PT X c t):PF X [c] t:=λpins s σ H Q I q=>wpAny_tests_one (h pins s σ H Q I q)
def Nt(k:Nat)(wi:TI)(g:TG)(tt:TT)(te:TE):TE:=fun σ H Q=>wi σ H λJ H1=> ∃ W:Nat->Nat->List V->Hp->Prop,(∃ m,W 0 m [] H1)/\ ∀ i m ys H,W i m ys H ->
 (J.stop i H/\ ∀ p,H p=UX->Q (.ref p) (upd H p (.lst ys))) \/
 (J.go i H/\ys.length < Vj/\ ∀ x H',J.NI i H x H'->g x (σ ++U8 k UX) H' fun σ2 H2=>tt σ2 H2 λb H3 =>
  if b=true then te σ2 H3 λy H4=> ∃ m',m' < m/\W (i+1) m' (ys++[y]) H4 else ∃ m',m' < m/\W (i+1) m' ys H3)
section
variable{X:Cx}{pins:List (U9 × Obj)}{σ :St}{H:Hp}{s:U5}{scope:YD}{vars:List Str}{cl:List (Str × U9)}
theorem iT(h:eF scope.names X.env.scope.names X.N vars=true): ∀ p∈scope.names,(p.2= .cell->scope.names.lookup p.1=UU .cell)/\(p.2= .free->X.env.kindOf p.1=UU .cell\/X.env.kindOf p.1=UU .free)/\(p.2= .local->scope.names.lookup p.1=UU .local):=by
 intro p hp;unfold eF at h;simp only[Vc,VT] at h;obtain⟨⟨h1,_⟩,_⟩:=h;have q:=h1 p hp;simp only[YU,bne_iff_ne,beq_iff_eq] at q;obtain⟨⟨q1,q2⟩,q3⟩:=q;refine⟨λe=>?_,λe=>?_,λe=>?_⟩
 . rcases q1 with z | z
   . exact absurd e z
   . exact z
 . rcases q2 with z | z
   . exact absurd e z
   . exact z
 . rcases q3 with z | z
   . exact absurd e z
   . exact z
theorem M6(h:eF scope.names X.env.scope.names X.N vars=true): ∀ n∈X.N,¬ n∈vars->scope.names.lookup n≠UU .local/\scope.names.lookup n≠UU .cell:=by
 intro n hn hv;unfold eF at h;simp only[Vc,VT] at h;obtain⟨⟨_,h2⟩,_⟩:=h;have q:=h2 n hn;simp only[YU,Vc,bne_iff_ne,List.contains_iff_mem] at q;exact q.resolve_left hv
theorem ze(h:eF scope.names X.env.scope.names X.N vars=true): ∀ n∈vars,scope.names.lookup (mask n)=UX:=by
 intro n hn;unfold eF at h;simp only[Vc,VT] at h;simpa using h.2 n hn
theorem Inv.cD{C:U9}(I:Inv X pins σ H s)(hkind:scope.kind= .function)(hlc:eF scope.names X.env.scope.names X.N vars=true)
  (hc1: ∀ x c,cl.lookup x=UU c->(scope.names.lookup x≠UU .cell/\X.env.cells.lookup x=UU c)\/(scope.names.lookup x=UU .cell/\s.heap.objs.size<=c/\h'.IsCell c UX)) (hc2: ∀ x,scope.names.lookup x=UU .free\/scope.names.lookup x=UU .cell-> ∃ c,cl.lookup x=UU c)
  (hci: ∀ x y c,cl.lookup x=UU c->cl.lookup y=UU c->s.heap.objs.size<=c->x=y)
  (hfp: ∀ b∈fp,kq X pins H b) (hfo: ∀ b∈fp,∃ o,s.heap.get? b=UU o) (hC:s.heap.objs.size<=C) (hn:h'.Ns C m') (k: ∀ b o,s.heap.get? b=UU o->h'.get? b=UU o) :
  Inv (cD X vars scope cl C s H fp (X.pn++pins)) [] (σ ++U8 vars.length UX) H { s with heap:=h',toks:=t'}:=by
 have hHC:=I.aY.fresh hC;have lt: ∀ x c,X.env.cells.lookup x=UU c->c < s.heap.objs.size:=λx c e=>by obtain⟨v,q⟩:=I.cell x c e;exact q.lt
 refine⟨?ok,rfl,I.bare,Un.kept k,⟨m',hn,?loc⟩,λx c e=>?cell,hHC,λx c e=>(hc1 x c e).elim (λz=>I.dW x c z.2) (λz=>I.aY.fresh z.2.1),?pin,I.aY.kept k,?len⟩
 case ok =>
  refine{ mod:=I.ok.mod,kind:=?_,glob:=I.ok.glob,blt:=I.ok.blt,above:=hC,inj:=?_,has:=?_,C9:=?_,hd:=I.ok.hd,frames:=I.ok.frames,H9:= .inl rfl,M9:=?_,bs:=I.bs,xA:=Vn I.ok.xA I.sz,ui:=?_,uZ:=?_,gZ:=I.stack,zE:=I.jP}
  . exact hkind
  . intro x y c e1 e2;rcases hc1 x c e1 with z | z
    . rcases hc1 y c e2 with w | w
      . exact I.ok.inj x y c z.2 w.2
      . exact absurd (Vg (lt x c z.2) w.2.1) (Wf _)
    . exact hci x y c e1 e2 z.2.1
  . intro x hx;have hx':(WE scope cl C X.env).kindOf x=UU .cell\/(WE scope cl C X.env).kindOf x=UU .free:=hx;have e:(WE scope cl C X.env).kindOf x=(scope.names.lookup x).map λk=>if (k == XS&&X.env.scope.kind == .function&&X.env.kindOf x == UU .cell) then XT else k:=iC
    rw[e] at hx';cases q:scope.names.lookup x with
    | none=>rw[q] at hx';simp at hx'
    | some kd =>
     by_cases hf:kd= .free
     . subst hf;exact hc2 x (.inl q)
     . rw[q] at hx';have hf':(kd == XS)=false:=by simpa using hf
       simp only[ZR,hf',Wj,VS,if_false,Zn] at hx';rcases hx' with z | z
       . exact hc2 x (.inr (by rw[q,z]))
       . exact absurd z hf
  . intro x c hx e;have hx':(scope.names.lookup x == UU XT)=true:=hx;rcases hc1 x c e with z | z
    . exact absurd (by simpa using hx') z.1
    . exact z.2.1
  . intro b hb;have f:=hfp b hb;obtain⟨o,e⟩:=hfo b hb;exact⟨Vy (Vg (Vh e) hC),λx c e z=>(hc1 x c e).elim (λw=>f.2.2.2.2.1 x c w.2 z) (λw=>absurd (Vg (Vh (z ▸ ‹_› :s.heap.get? c=UU o)) w.2.1) (Wf _))⟩
  . intro b o e hb;have f:=hfp b hb;rcases f.2.2.2.1 with z | z
    . exact I.ok.ui b o e z
    . exact absurd (Vg (Vh (I.ok.bs b o e).1) z) (Wf _)
  . intro b hb z;have f:=hfp b hb;rcases Vt.mp (I.jq b z) with q | q
    . exact f.2.1 q
    . exact f.2.2.1 q
 case loc =>
  intro i x v e1 e2 e3
  have e1':(kW X.N vars)[i]?=UU x:=e1
  have e:(WE scope cl C X.env).scope.names.lookup x=(scope.names.lookup x).map λk=>if (k == XS&&X.env.scope.kind == .function&&X.env.kindOf x == UU .cell) then XT else k:=iC
  by_cases hi:i < σ.length
  . rw[Vx hi] at e2;unfold kW at e1';rw[Vx (by rw[U3,<- I.len];exact hi),VI] at e1';cases q:X.N[i]? with
    | none=>rw[q] at e1';cases e1'
    | some n =>
     rw[q] at e1'
     have e1'':(if vars.contains n=true then mask n else n)=x:=V4 e1'
     have vis:(scope.names.lookup x).isSome=true:=by
      unfold Ic at e3;have e3':(WE scope cl C X.env).scope.names.lookup x=UU .local\/(WE scope cl C X.env).scope.names.lookup x=UU .cell\/(WE scope cl C X.env).scope.names.lookup x=UU .free:=e3;rw[e] at e3';cases z:scope.names.lookup x with
      | none=>rw[z] at e3';simp at e3'
      | some _=>rfl
     by_cases hv:n∈vars
     . rw[if_pos (by simpa using hv)] at e1'';have:=ze (X:=X) hlc n hv;rw[e1''] at this;rw[this] at vis;cases vis
     . rw[if_neg (by simpa using hv)] at e1'';subst e1'';have nl:=M6 (X:=X) hlc n (VU q) hv;cases z:scope.names.lookup n with
       | none=>rw[z] at vis;cases vis
       | some kd =>
        have hm:=iT (X:=X) hlc _ (lookup_mem z)
        have hkd:kd= .free:=by
         unfold Ic at e3;have e3':(WE scope cl C X.env).scope.names.lookup n=UU .local\/(WE scope cl C X.env).scope.names.lookup n=UU .cell\/(WE scope cl C X.env).scope.names.lookup n=UU .free:=e3;rw[e,z] at e3';by_cases hf:kd= .free
         . exact hf
         . simp_all
        subst hkd
        have kk:=hm.2.1 rfl
        obtain⟨m,_,hl⟩:=I.loc
        obtain⟨u,r,look⟩:=hl i n v q e2 (.inr kk)
        obtain⟨c,hcl⟩:=hc2 n (.inl z)
        have hco:=(hc1 n c hcl).elim (·.2) (λw=>by rw[z] at w;cases w.1)
        have look': ∃ c,X.env.cells.lookup n=UU c/\s.heap.IsCell c (UU u):=by
         rcases look with⟨y,_⟩ | ⟨_,y⟩
         . rcases kk with w | w<;>(rw[w] at y;cases y)
         . exact y
        obtain⟨c',hc',⟨o,ho,hd⟩⟩:=look'
        have ec:=V4 (hco.symm.trans hc')
        subst ec
        refine⟨u,r,.inr ⟨?_,c,hcl,o,k c o ho,hd⟩⟩
        show(WE scope cl C X.env).scope.names.lookup n=UU .cell\/(WE scope cl C X.env).scope.names.lookup n=UU .free
        rw[e,z]
        simp only[ZR]
        split
        . exact .inl rfl
        . exact .inr rfl
  . rw[VJ (XR.mp hi),WJ] at e2;split at e2<;>cases e2
 case cell =>
  rcases hc1 x c e with z | z
  . obtain⟨v,o,ho,hd⟩:=I.cell x c z.2;exact⟨v,o,k c o ho,hd⟩
  . exact⟨UX,z.2.2⟩
 case pin =>
  intro p hp
  have hp':p∈X.pn++pins:=by simpa [L2.cD] using hp
  obtain⟨e,n,ne,nf,d⟩:=I.pin p hp'
  refine⟨k _ _ e,n,Vy (Vg (Vh e) hC),λz=>?_,d⟩
  rcases Vt.mp (I.jq p.1 z) with q | q
  . exact ne q
  . exact nf q
 case len =>
  show(σ ++U8 vars.length UX).length=(kW X.N vars).length
  unfold kW
  rw[U7,U7,U3,Zu,I.len]
end
def GK(n:Nat)(g:TG):= ∀ x σ H Q,g x σ H Q->g x σ H fun σ2 H2=>Q σ2 H2/\ ∀ j,j < n-> σ2[j]?= σ[j]?
def Py(n:Nat)(g:Dc):= ∀ xs σ H Q,g xs σ H Q->g xs σ H fun σ2 H2=>Q σ2 H2/\ ∀ j,j < n-> σ2[j]?= σ[j]?
def vk(g:TG):= ∀ x σ H Q Q',(∀ σ2 H2,Q σ2 H2->Q' σ2 H2)->g x σ H Q->g x σ H Q'
theorem DF(h:n<=i):GK n (dz i):=λx σ H Q q=>⟨q,λj hj=>Vp (by omega)⟩
theorem uM:vk (dz i):=λx σ H Q Q' f q=>f _ _ q
theorem Mf:Py n yX:=λxs σ H Q q=>⟨q.1,q.2,λ_ _=>rfl⟩
theorem Fp(h:GK n g)(hm:vk g)(hs:Py n gs):Py n (kX g gs):=λxs σ H Q q=>by
 obtain⟨v,r,e,z⟩:=q;refine⟨v,r,e,hm _ _ _ _ _ (fun σ2 H2 y=>?_) (h _ _ _ _ z)⟩;have y':=hs _ _ _ _ y.1;have:(fun σ3 H3=>(Q σ3 H3/\ ∀ j,j < n-> σ3[j]?= σ2[j]?))=fun σ3 H3=>(Q σ3 H3/\ ∀ j,j < n-> σ3[j]?= σ[j]?):=by
  simp_all
 rw[this] at y';exact y'
theorem Ld{K}(hs:Py n gs):GK n (vq K m gs):=λx σ H Q q=>by
 obtain⟨a,xs,e,h1,h2,h3⟩:=q;exact⟨a,xs,e,h1,h2,hs _ _ _ _ h3⟩
section
variable{X:Cx}{scope:YD}{vars:List Str}{elt tg iter:VN}{ifs:List VN}{pos:Pos}{wi:TI}{g:TG}{tt:TT}{te:TE}
theorem nQ{pins:List (U9 × Obj)}{σ :St}{H2:Hp}{s2:U5}{cl:List (Str × U9)}{it:U9}{fp:List U9}{tn:Nat->Wb->Prop}{J:It}{RR:U1->U9->Result->U5->Prop}{Q:VK}{E:U1->U5->Prop}
  (hc:X.calm=true) {EX:XK} (hst:(∀ c d H,¬ EX c d H)\/ ∃ kE out0 L,X.stack=kE::out0/\kE.frame=UU L/\X.env.frame=UU L) (hkind:scope.kind= .function) (hlc:eF scope.names X.env.scope.names X.N vars=true)
  (hb: ∀ cl C s₀ H₀ ex pn E',gy ((cD X vars scope cl C s₀ H₀ ex pn).bu E') EX->PG ((cD X vars scope cl C s₀ H₀ ex pn).bu E') tg g/\PF ((cD X vars scope cl C s₀ H₀ ex pn).bu E') ifs tt/\PE ((cD X vars scope cl C s₀ H₀ ex pn).bu E') elt te) (hgk:GK X.N.length g)
  (hc1: ∀ x c,cl.lookup x=UU c->X.env.cells.lookup x=UU c) (hc2: ∀ x,scope.names.lookup x=UU .free-> ∃ c,cl.lookup x=UU c)
  (I2:Inv X pins σ H2 s2) (T:Turn X.prog X.w X.K tg J fp it tn) (st2:tn 0 s2.heap) (f2: ∀ b∈fp,kq X pins H2 b)
  {W:Nat->Nat->List V->Hp->Prop} {m0:Nat} (w0:W 0 m0 [] H2)
  (turn: ∀ i m ys H,W i m ys H->(J.stop i H/\ ∀ p,H p=UX->Q (.ref p) (upd H p (.lst ys))) \/
   (J.go i H/\ys.length < Vj/\ ∀ x H',J.NI i H x H'->g x (σ ++U8 vars.length UX) H' fun σ2 H2=>tt σ2 H2 λb H3 =>
    if b=true then te σ2 H3 λy H4=> ∃ m',m' < m/\W (i+1) m' (ys++[y]) H4 else ∃ m',m' < m/\W (i+1) m' ys H3))
  (hRR: ∀ D C s4 H4 ys m,Inv X pins σ (upd H4 D (.lst ys)) s4->s4.heap.Ns C m->H4 D=UX->(upd H4 D (.lst ys)) C=UX->C≠X.env.locals->X.s₀.heap.objs.size<=C->(∀ x c,X.env.cells.lookup x=UU c->c≠C)->(∀ p∈X.pn++pins,p.1≠C) ->
   Q (.ref D) (upd H4 D (.lst ys))->RR (.ref D) C (.ok .next) s4)
  (hRE: ∀ D C s4 H4 x Cc dx m,s4.os=s2.os->Yx s4.gens->Un (gI X.stack) fp H2 H4 s2.heap s4.heap->hI X.prog X.w H4 s4.heap->(∀ b∈gI X.stack,H4 b=UX/\ ∃ o,s4.heap.get? b=UU o/\ ∀ vs,o.data≠ .fields vs)->lM s2.heap.objs.size H4 s4.heap x Cc dx->EX (.ref Cc) (UU dx) H4->s4.heap.Ns C m->H4 C=UX->s2.heap.objs.size<=C->C ∉ gI X.stack->RR (.ref D) C (.error (.ref x)) s4) :
  Vs (Vv X.prog X.w) X.A (newList []) (λacc s₃ =>Vs (Vv X.prog X.w) X.A (abq scope X.env.globals cl [] X.env.qual UX .none (UU X.env)) (λcenv s₄ =>
   Z0 (Vv X.prog X.w) X.A (.compStart (.ListComp elt [⟨tg,iter,ifs,0⟩] scope pos) 0 (.ref it) acc { cenv with scope:=relabel scope X.env}) (RR acc cenv.locals) s₄) E s₃) E s2:=by
 refine Ww (oF ?_);dsimp only;generalize hH2:s2.heap.push { cls:= .type "list",dict:=UX,data:= .seq ([]:List U1).toArray}=P2;have hC:P2.objs.size=s2.heap.objs.size+1:=by rw[<- hH2,V1]
 have hDC:s2.heap.objs.size≠P2.objs.size:=by rw[hC];exact Vy (aaG _)
 have hCle:s2.heap.objs.size<=P2.objs.size:=by rw[hC];exact Yr _
 have hz:(P2.push { cls:= .type "dict",data:= .dict #[]}).objs.size=P2.objs.size+1:=V1 ..;have cn:=vj scope.names (P2.push { cls:= .type "dict",data:= .dict #[]}) cl;rw[hz] at cn;have ci: ∀ x y c,(Xu (P2.objs.size+1) scope.names cl).lookup x=UU c->(Xu (P2.objs.size+1) scope.names cl).lookup y=UU c->s2.heap.objs.size<=c->x=y:=u9 scope.names (P2.objs.size+1) cl (λx y c e1 _ hl=>absurd (Vg (I2.cell x c (hc1 x c e1)).choose_spec.lt hl) (Wf _)) (λx c e=>Vg (I2.cell x c (hc1 x c e)).choose_spec.lt (Yl hCle));have cs: ∀ x,scope.names.lookup x=UU .free\/scope.names.lookup x=UU .cell-> ∃ c,(Xu (P2.objs.size+1) scope.names cl).lookup x=UU c:=λx h=>YG.mp (X5 _ _ _ (h.elim (λz=> .inr (YG.mpr (hc2 x z))) .inl));have hns₁ :(aaJ (P2.push { cls:= .type "dict",data:= .dict #[]}) scope.names).Ns P2.objs.size (λ_=>UX):=(Heap.Ns.new P2 (.type "dict")).keeps (aa9 _ _);have kp: ∀ b o,P2.get? b=UU o->(aaJ (P2.push { cls:= .type "dict",data:= .dict #[]}) scope.names).get? b=UU o:=λb o e=>aa9 _ _ b o (U4 _ e);generalize hh₁ :aaJ (P2.push { cls:= .type "dict",data:= .dict #[]}) scope.names=h₁ at *;generalize hcl':Xu (P2.objs.size+1) scope.names cl=cl' at *;have c1: ∀ x c,cl'.lookup x=UU c->(scope.names.lookup x≠UU .cell/\X.env.cells.lookup x=UU c)\/(scope.names.lookup x=UU .cell/\P2.objs.size+1<=c/\h₁.IsCell c UX):=λx c e=>by
  rcases cn x c e with⟨n,q⟩ | ⟨m,q⟩
  . exact .inl ⟨λz=>n (lookup_mem z),hc1 x c q⟩
  . exact .inr ⟨(iT (X:=X) hlc _ m).1 rfl,q⟩
 have old: ∀ b o,s2.heap.get? b=UU o->h₁.get? b=UU o:=λb o e=>kp b o (hH2 ▸ U4 _ e);have hacc:h₁.get? s2.heap.objs.size=UU { cls:= .type "list",data:= .seq ([]:List U1).toArray 0}:=kp _ _ (hH2 ▸ Vq _ rfl);have c1': ∀ x c,cl'.lookup x=UU c->(scope.names.lookup x≠UU .cell/\X.env.cells.lookup x=UU c)\/(scope.names.lookup x=UU .cell/\s2.heap.objs.size<=c/\h₁.IsCell c UX):=λx c e=>(c1 x c e).imp id λz=>⟨z.1,Vn (Yl hCle) z.2.1,z.2.2⟩
 generalize hDe:s2.heap.objs.size=D at *;generalize hCe:P2.objs.size=C at *;have fo: ∀ b∈fp,∃ o,s2.heap.get? b=UU o:=λb hb=>let ⟨o,e,_⟩:=T.obj _ _ st2 b hb;⟨o,e⟩
 have fpD: ∀ b∈fp,b < D:=λb hb=>by obtain⟨o,e⟩:=fo b hb;rw[<- hDe];exact Vh e
 have pnlt: ∀ p∈X.pn++pins,p.1 < D:=λp hp=>by rw[<- hDe];exact Vh (I2.pin p hp).1
 have cllt: ∀ x c,X.env.cells.lookup x=UU c->c < D:=λx c e=>by obtain⟨v,q⟩:=I2.cell x c e;rw[<- hDe];exact q.lt
 have hLD:X.env.locals < D:=by rw[<- hDe];exact I2.lt
 have hD0:X.s₀.heap.objs.size<=D:=by rw[<- hDe];exact I2.sz
 have IY0:Inv (cD X vars scope cl' C s2 H2 fp (X.pn++pins)) [] (σ ++U8 vars.length UX) H2 { s2 with heap:=h₁,toks:=s2.toks} :=
  I2.cD hkind hlc (by rw[hDe];exact c1') cs (by rw[hDe];exact ci) f2 fo (by rw[hDe];exact hCle) hns₁ old
 have st1:tn 0 h₁ :=T.keep _ _ _ st2 λb _ o e=>old b o e;have Dn:s2.heap.objs.size<=C:=by rw[hDe];exact hCle
 obtain⟨hg,hf,he⟩:=hb cl' C s2 H2 fp (X.pn++pins) (aaX (Vv X.prog X.w) X.A (WE scope cl' C X.env) λe s'=>RR (.ref D) C (.error e) s') (by
  rintro pi σ' H s e s' ch I hch ⟨x,Cc,dx,H',rfl,os,bare,un,aY,F,hE⟩;have J:=I.p5 os un aY bare hch;have J0:=J.bK;obtain⟨kE,out0,L,st0,f0,fX⟩:=hst.resolve_left λz=>z _ _ _ hE;have nz:D<=s.heap.objs.size:=by rw[<- hDe];exact I.sz
  obtain⟨m,hnC,_⟩:=id J0.loc;have hfr:X.A.frames=UU (kE::out0):=by rw[<- st0];exact J0.ok.frames
  have hl:s'.heap.FunFrames X.base (kE::out0):=by rw[<- st0];exact J0.stack
  have free: ∀ b∈gI (kE::out0),H' b=UX:=by rw[<- st0];exact J0.jP
  have CF:C ∉ gI (kE::out0):=λhb=>by
   rw[<- st0] at hb;exact I2.DJ (s:=s2) (a:=C) Dn (by
    rcases Vt.mp (I2.jq C hb) with z | z
    . exact absurd I2.lt (by rw[<- z];exact XR.mpr Dn)
    . exact z)
  show Vs _ _ (aaI _ _) _ _ _;refine oh hfr hl f0 (show(WE scope cl' C X.env).frame=UU L from fX) F F.sz (λa ha=>J0.aY.fresh ha) λh1 p1 F1=>?_;refine hRE D C { s' with heap:=h1} H' x Cc dx m J0.os J0.bare ?_ (p1.aY free J0.aY) (λb hb=>?_) (F1.mono nz) hE ?_ J0.free hCle (by rw[st0];exact CF)
  . rw[st0];exact p1.un (by have:=J0.base;rw[<- st0];exact this) (by rw[hDe];exact nz) (λb hb=> .inl hb) λb hb=>hb
  . rw[st0] at hb;obtain⟨_,o,ho,hnf⟩:=hl.mem hb;obtain⟨sl,e⟩:=p1.slot b o ho hb;exact⟨free b hb,_,e,hnf⟩
  . obtain⟨o,es,ep,ho,r⟩:=hnC;exact⟨o,es,ep,p1.keep _ o ho (.inl I.bK.lt) CF,r⟩)
 have IY0:=IY0.bu (aaX (Vv X.prog X.w) X.A (WE scope cl' C X.env) λe s'=>RR (.ref D) C (.error e) s');generalize hY:(cD X vars scope cl' C s2 H2 fp (X.pn++pins)).bu (aaX (Vv X.prog X.w) X.A (WE scope cl' C X.env) λe s'=>RR (.ref D) C (.error e) s')=Y at *;have Yprog:Y.prog=X.prog:=by rw[<- hY];rfl
 have Yw:Y.w=X.w:=by rw[<- hY];rfl
 have YK:Y.K=X.K:=by rw[<- hY];rfl
 have YA:Y.A=X.A:=by rw[<- hY];rfl
 have Ycalm:Y.calm=true:=by rw[<- hY];exact hc
 have Yenv:Y.env=WE scope cl' C X.env:=by rw[<- hY];rfl
 have Yloc:Y.env.locals=C:=by rw[Yenv];rfl
 have Yex:Y.ex=fp:=by rw[<- hY];rfl
 have Yfs:Y.fs=gI X.stack:=by rw[<- hY];rfl
 have Ys0:Y.s₀ =s2:=by rw[<- hY];rfl
 have YH0:Y.H₀ =H2:=by rw[<- hY];rfl
 have Ypn:Y.pn=X.pn++pins:=by rw[<- hY];rfl
 have YN:Y.N=kW X.N vars:=by rw[<- hY];rfl
 have noE: ∀{v:U1}{s:U5},Y.xe v s->aaX (Vv X.prog X.w) X.A (WE scope cl' C X.env) (λe s'=>RR (.ref D) C (.error e) s') v s:=λ{v s} h=>by rw[<- hY] at h;exact h
 have Ycell: ∀ x c,Y.env.cells.lookup x=UU c->c≠D:=λx c e=>by
  rw[Yenv] at e;exact(c1 x c e).elim (λz=>Vy (cllt x c z.2)) (λz=>Xm (Vg (Nat.lt_succ_of_le hCle) z.2.1))
 have fpY: ∀{H':Hp}{pl:List (U9 × Obj)},(∀ b∈fp,H' b=UX)->(∀ p∈pl,D<=p.1)-> ∀ b∈fp,kq Y pl H' b:=λ{H' pl} hn hp b hb=>by
  refine⟨hn b hb,?_,?_,.inl (by rw[Yex];exact hb),?_,?_⟩
  . rw[Yloc];exact Vy (Vg (fpD b hb) hCle)
  . rw[Yfs];intro z;rcases Vt.mp (I2.jq b z) with q | q
    . exact(f2 b hb).2.1 q
    . exact(f2 b hb).2.2.1 q
  . intro x c e z;rw[Yenv] at e;exact(c1 x c e).elim (λw=>(f2 b hb).2.2.2.2.1 x c w.2 z) (λw=>absurd (Vg (fpD b hb) (Vn (Yl hCle) (z ▸ w.2.1))) (Wf _))
  . intro p hp';rcases Vz.mp hp' with q | q
    . rw[Ypn] at q;exact(f2 b hb).2.2.2.2.2 p q
    . intro z;have:=hp p q;rw[z] at this;exact absurd (Vg (fpD b hb) this) (Wf _)
 have Dfs:D ∉ Y.fs:=by
  rw[Yfs];intro z;rcases Vt.mp (I2.jq D z) with q | q
  . exact absurd hLD (by rw[q];exact Wf _)
  . exact I2.DJ (by rw[hDe];exact Vb _) q
 have loop:Z0 (Vv X.prog X.w) X.A (.compLoop (.ListComp elt [⟨tg,iter,ifs,0⟩] scope pos) 0 (.ref it) (.ref D) (WE scope cl' C X.env)) (RR (.ref D) C) { s2 with heap:=h₁,toks:=s2.toks}:=by
  refine nY (λn s'=> ∃ i ys H' ar k,Inv Y [(D,{ cls:= .type "list",data:= .seq ar k})] (σ ++U8 vars.length UX) H' s'/\tn i s'.heap/\(∀ b∈fp,H' b=UX)/\W i n ys H'/\Vals ys ar.toList/\ys.length<=Vj) ?_ m0
   ⟨0,[],H2,_,0,IY0.dJ (λp hp=>?_),st1,λb hb=>(f2 b hb).1,w0,.nil,V2 _⟩
  . rintro n s3 ⟨i,ys,H3,ar,k,I3,st3,fr3,w3,hv,hlen⟩;rcases turn i n ys H3 w3 with⟨stop,q⟩ | ⟨go,hlt,step⟩
    . have d:=T.done Y Yprog Yw YK Ycalm i _ s3 _ H3 (aaX (Vv X.prog X.w) X.A (WE scope cl' C X.env) λe s'=>RR (.ref D) C (.error e) s') I3 (fpY fr3 (by intro p hp;rw[Vm.mp hp];exact Vb _)) st3 stop;rw[YA] at d;refine VA d (λr s4 hr=>?_) λ_ _ z=>z;obtain⟨rfl,I4⟩:=hr;obtain⟨eD,nD,_,_,_⟩:=I4.pin (D,_) (Vi _ Ve);dsimp only at eD nD;obtain⟨m,hnC,_⟩:=I4.loc;rw[Yloc] at hnC;have hb4:=I4.base;rw[Yfs,Yex,YH0,Ys0] at hb4;have hok4:=I4.aY;rw[Yprog,Yw] at hok4;have hCf:=I4.free;rw[Yloc] at hCf;have neD: ∀ b o,s2.heap.get? b=UU o->b≠D:=λb o e=>by rw[<- hDe];exact Vy (Vh e)
      have IX:Inv X pins σ (upd H3 D (.lst ys)) s4:=by
       refine I2.p5 (ch:=fp) (I4.os.trans (by rw[Ys0])) ⟨hb4.keep,hb4.slot,λb o e n hx'=>?_,hb4.there,λb xs e=>?_,λb o u e=>?_,λb ps e=>?_⟩ (λb u e=>?_) I4.bare (λb hb'=>?_)
       . rw[aw (neD b o e)];exact hb4.free b o e n hx'
       . rw[aw (aq (hb4.gM b xs e) nD)];exact hb4.gM b xs e
       . rw[aw (aq (hb4.ik b o u e) nD)];exact hb4.ik b o u e
       . obtain⟨more,e'⟩:=hb4.jw b ps e;exact⟨more,by rw[aw (aq e' nD)];exact e'⟩
       . by_cases hbD:b=D
         . subst hbD;rw[bb] at e;cases e;exact⟨hlen,ar.toList,k,hv,by simpa using eD⟩
         . rw[aw hbD] at e;exact(hok4 b u e).jl (λc v _ z=>z) (λc z=>by rw[aw (aq z nD)];exact z) λc xs z=>by rw[aw (aq z nD)];exact z
       . have f:=f2 b hb';exact⟨f.2.2.2.1,f.2.1,f.2.2.2.2.1,f.2.2.2.2.2⟩
      refine hRR D C s4 H3 ys m IX hnC nD (by rw[aw (Xf hDC)];exact hCf) (Xm (Vg hLD hCle)) (Vn hD0 hCle) (λx c e=>Vy (Vg (cllt x c e) hCle)) (λp hp=>Vy (Vg (pnlt p hp) hCle)) (q D nD)
    . have d:=T.item Y Yprog Yw YK Ycalm i _ s3 _ H3 (aaX (Vv X.prog X.w) X.A (WE scope cl' C X.env) λe s'=>RR (.ref D) C (.error e) s') I3 (fpY fr3 (by intro p hp;rw[Vm.mp hp];exact Vb _)) st3 go;rw[YA] at d;refine VA d (λr s4 hr=>?_) λ_ _ z=>z;obtain⟨u,rfl,h4⟩:=hr;refine VA h4 (λ_ s5 h5=>?_) λ_ _ z=>z;obtain⟨x,H5,I5,r5,y5,st5,fr5⟩:=h5;have I5':=I5.pinned (fpY fr5 (by intro p hp;rw[Vm.mp hp];exact Vb _)) (T.obj _ _ st5);have a1:=hg _ s5 _ H5 x u _ I5' r5 (hgk _ _ _ _ (step x H5 y5));rw[Yprog,Yw,YA,Yenv] at a1;refine VA a1 (λ_ s6 h6=>?_) λ_ _ z=>noE z;obtain⟨σ6,H6,I6,q6,k6⟩:=h6;have a2:=hf _ s6 σ6 H6 _ I6 q6;rw[Yprog,Yw,YA,Yenv] at a2;have back: ∀{pl:List (U9 × Obj)}{H':Hp}{s':U5},Inv Y pl σ6 H' s'->Inv Y pl (σ ++U8 vars.length UX) H' s':=λ{pl H' s'} I'=>by
       refine I'.weak ?_ λj v e=>?_
       . rw[I'.len,<- I3.len]
       . by_cases hj:j < σ.length
         . rw[k6 j (by rw[<- I2.len];exact hj)];exact e
         . rw[VJ (XR.mp hj),WJ] at e;split at e<;>cases e
      refine VA a2 (λok s7 h7=>?_) λ_ _ z=>noE z;obtain⟨H7,I7,q7⟩:=h7;cases ok with
      | false =>
       rw[if_neg Vr] at q7
       unfold vd
       rw[if_neg (show ¬ false=true from Vr)]
       obtain⟨m',hm',w7⟩:=q7
       refine⟨m',hm',i+1,ys,H7,ar,k,(back I7).dJ (λp hp=>I7.pin p (Vi _ (VO _ hp))),T.keep _ _ _ st5 λb hb' o e=>(I7.pin (b,o) (Vi _ (Vi _ (dE hb' e)))).1,λb hb'=>?_,w7,hv,hlen⟩
       obtain⟨o,e,_⟩:=T.obj _ _ st5 b hb'
       exact(I7.pin (b,o) (Vi _ (Vi _ (dE hb' e)))).2.1
      | true =>
       rw[if_pos rfl] at q7
       unfold vd
       rw[if_pos (show true=true from rfl)]
       have a3:=he _ s7 σ6 H7 _ I7 q7
       rw[Yprog,Yw,YA,Yenv] at a3
       refine VA a3 (λy s8 h8=>?_) λ_ _ z=>noE z
       obtain⟨v,H8,I8,r8,m',hm',w8⟩:=h8
       obtain⟨eD,nD,neL,nfD,dD⟩:=I8.pin (D,_) (Vi _ (VO _ Ve))
       dsimp only at eD nD neL nfD dD
       refine append_at (hsz:=by have:=hv.length;simp at this;omega) eD λh9 hs9 e9=>?_
       have st8:tn (i+1) s8.heap:=T.keep _ _ _ st5 λb hb' o e=>(I8.pin (b,o) (Vi _ (Vi _ (dE hb' e)))).1
       have fr8: ∀ b∈fp,H8 b=UX:=λb hb'=>by
        obtain⟨o,e,_⟩:=T.obj _ _ st5 b hb';exact(I8.pin (b,o) (Vi _ (Vi _ (dE hb' e)))).2.1
       have I8':Inv Y [] (σ ++U8 vars.length UX) H8 s8:=(back I8).dJ λp hp=>nomatch hp
       have I9:=I8'.turned (it:=D) (h':=h9) (t':=s8.toks) (λb o hb' e=>hs9.extBut b o hb' e) nD neL (.inr (by rw[Ys0,hDe];exact Vb _)) (λx c e=>Ycell x c e) (λp hp=>by
        rw[VM,Ypn] at hp;exact Vy (pnlt p hp))
       refine⟨m',hm',i+1,ys++[v],H8,ar.push y,k+1,I9.dJ (λp hp=>?_),T.keep _ _ _ st8 λb hb' o e=>hs9.extBut b o (Vy (fpD b hb')) e,fr8,w8,?_,?_⟩
       . obtain rfl:=Vm.mp hp;exact⟨e9,nD,neL,nfD,λv=>by simp⟩
       . rw[Array.toList_push];exact Vals.append hv (.cons r8 .nil)
       . rw[U7,Yi];exact hlt
  . obtain rfl:=Vm.mp hp;refine⟨hacc,I2.aY.fresh (by rw[hDe];exact Vb _),?_,Dfs,λv=>by simp⟩;rw[Yloc];exact hDC
 exact codeAny_compStart_list loop (T.self _ 0 _ _ _ st1 loop)
end
section
variable {X:Cx} {scope:YD} {vars:List Str} {elt tg iter:VN} {ifs:List VN} {pos spos py:Pos} {wi:TI} {g:TG} {tt:TT} {te:TE} {i:Nat} {y:Str}
theorem tW{pins : List (U9 × Obj)}{σ : St}{H2 H4 : Hp}{s2 s4 : U5}{fp : List U9}{x C Cc dx : U9}{m : Str -> Option U1}{EX : XK}{use : Option (U1 -> Sem Unit)}{Q : U1 -> U5 -> Prop}{acc : U1}(hp : gy X EX)(I2 : Inv X pins σ H2 s2)(f2 : ∀ b ∈ fp, kq X pins H2 b)
    (os : s4.os = s2.os) (bare : Yx s4.gens) (un : Un (gI X.stack) fp H2 H4 s2.heap s4.heap) (aY : hI X.prog X.w H4 s4.heap) (fr : ∀ b ∈ gI X.stack, H4 b = UX /\ ∃ o, s4.heap.get? b = UU o /\ ∀ vs, o.data ≠ .fields vs) (F : lM s2.heap.objs.size H4 s4.heap x Cc dx) (hE : EX (.ref Cc) (UU dx) H4)
    (hn : s4.heap.Ns C m) (nC : H4 C = UX) (hC : s2.heap.objs.size <= C) (CF : C ∉ gI X.stack) : compPost (Vv X.prog X.w) X.A X.xe use Q acc C (.error (.ref x)) s4 := by
  refine ⟨m, hn, λh' sb cenv _ => ?_⟩;obtain ⟨oC, eC, _, hoC, hdC, _⟩ := id hn;obtain ⟨oe, vs, e1, e2, e3, e4, e5, e6, T, oT, ts, fl, a1, a2, a3, a4, a5, a6, a7⟩ := id F;have xC : x ≠ C := λz => by rw [z, hoC] at e1; cases e1; rw [hdC] at e4; cases e4
  have TC : T ≠ C := λz => by rw [z, hoC] at a5; cases a5; rw [hdC] at a6; cases a6
  have p0 : hJ s2.heap.objs.size H4 (gI X.stack) s4.heap h' := ⟨λb o e p nb => (sb.2 b λz => by subst z; exact p.elim (λq => absurd q (XR.mpr hC)) λq => q nC).trans e, λb o e hb => ⟨o.slots, (sb.2 b λz => CF (z ▸ hb)).trans e⟩, aaR sb.1.symm⟩
  have ex := (sb.2 x xC).trans e1;have F' : lM s2.heap.objs.size H4 h' x Cc dx := ⟨oe, vs, ex, e2, e3, e4, e5, e6, T, oT, ts, fl, a1, a2, a3, a4, (sb.2 T TC).trans a5, a6, a7⟩
  unfold PySem.passOn;refine UY (Wa ex e4 a1 ?_);rw [if_neg (show ¬ ((Vo T == Wc) = true) from by simp)];have go : Vs (Vv X.prog X.w) X.A (Z7 (.ref x) cenv.frame) (λ_ s5 => Vs (Vv X.prog X.w) X.A (throw (.ref x) : Sem U1) (λ_ _ => False) X.xe s5) X.xe { s4 with heap := h'} := by
    refine BL (s := { s4 with heap := h'}) (fs := gI X.stack) (λb hb => ?_) F' λh2 p2 F2 => wpAny_throw ?_
    . obtain ⟨_, o, ho, hnf⟩ := fr b hb;exact ⟨o, (sb.2 b λz => CF (z ▸ hb)).trans ho, hnf⟩
    have p := p0.trans p2;exact hp pins σ H2 s2 _ _ fp I2 (λb hb => let f := f2 b hb; ⟨f.2.2.2.1, f.2.1, f.2.2.2.2.1, f.2.2.2.2.2⟩) ⟨x, Cc, dx, H4, rfl, os, bare, p.un un (Vb _) (λb hb => .inl hb) λb hb => hb, p.aY (λb hb => (fr b hb).1) aY, F2.Su, hE⟩
  first
    | exact UY (Vf (UY go))
    | exact UY go
def Cg(X:Cx)(EX:XK):Prop:=(∀ c d H,¬ EX c d H)\/ ∃ kE out0 L,X.stack=kE::out0/\kE.frame=UU L/\X.env.frame=UU L
theorem qi(vars:List Str)(hc:X.calm=true){EX:XK}(hp:gy X EX)(hst:Cg X EX)(hkind:scope.kind= .function)(hlc:eF scope.names X.env.scope.names X.N vars=true)(hi:PI X tg iter wi)
  (hb: ∀ cl C s₀ H₀ ex pn E',gy ((cD X vars scope cl C s₀ H₀ ex pn).bu E') EX->PG ((cD X vars scope cl C s₀ H₀ ex pn).bu E') tg g/\PF ((cD X vars scope cl C s₀ H₀ ex pn).bu E') ifs tt/\PE ((cD X vars scope cl C s₀ H₀ ex pn).bu E') elt te) (hgk:GK X.N.length g)
  (hs: ∀ x,VH iter X.env x=pure x:=by intro _;rfl):PE X (.ListComp elt [⟨tg,iter,ifs,0⟩] scope pos) (Nt vars.length wi g tt te):=by
 intro pins s σ H Q I h;obtain⟨cl,hcl,hc1,hc2⟩:=nW (env:=X.env) (scope:=scope) λp hp hf=>I.ok.has p.1 ((iT (X:=X) hlc p hp).2.1 hf);rw[eval_ListComp];refine aaw (use:=UX) rfl hs hcl hkind (λp hp=>(iT (X:=X) hlc p hp).2.2) ?_;refine VA (hi pins s σ H _ I h) (λv s1 h1=>VA h1 (λitv s2 h2=>?_) λ_ _ z=>z) λ_ _ z=>z;obtain⟨it,fp,tn,J,H2,rfl,I2,T,st2,f2,W,⟨m0,w0⟩,turn⟩:=h2;refine nQ (Q:=Q) (RR:=λacc C=>compPost (Vv X.prog X.w) X.A X.xe UX (EP X pins σ Q) acc C) hc hst hkind hlc hb hgk hc1 hc2 I2 T st2 f2 w0 turn ?_ λD C s4 H4 x Cc dx m h1 h2 h3 h4 h5 h6 h7 h8 h9 ha hb'=>tW hp I2 f2 h1 h2 h3 h4 h5 h6 h7 h8 h9 ha hb';intro D C s4 H4 ys m I4 hn nD nC neL hsz hcell hpin q;refine⟨m,hn,λh' hs'=>⟨.ref D,_,I4.turned (it:=C) (t':=s4.toks) (λb o hb e=>hs'.extBut b o hb e) nC neL (.inr hsz) hcell hpin,rfl,q⟩⟩
theorem PE.any{e:VN}{t:TE}{E:U1->U5->Prop}(hx: ∀ v s,¬ X.xe v s)(h:PE X e t):PE (X.bu E) e t:=λpins s σ H Q I q=>VA (h pins s σ H Q I.bK q) (λu s' ⟨v,H',J,r,z⟩=>⟨v,H',J.bu E,r,z⟩) λv s z=>(hx v s z).elim
theorem PF.any{ifs:List VN}{t:TT}{E:U1->U5->Prop}(hx: ∀ v s,¬ X.xe v s)(h:PF X ifs t):PF (X.bu E) ifs t:=λpins s σ H Q I q=>VA (h pins s σ H Q I.bK q) (λu s' ⟨H',J,z⟩=>⟨H',J.bu E,z⟩) λv s z=>(hx v s z).elim
theorem PG.any{tg:VN}{g:TG}{E:U1->U5->Prop}(hx: ∀ v s,¬ X.xe v s)(h:PG X tg g):PG (X.bu E) tg g:=λpins s σ H x u Q I r q=>VA (h pins s σ H x u Q I.bK r q) (λ_ s' ⟨σ',H',J,z⟩=>⟨σ',H',J.bu E,z⟩) λv s z=>(hx v s z).elim
theorem zX:gy X E0:=λ_ _ _ _ _ _ _ _ _ ⟨_,_,_,_,_,_,_,_,_,_,z⟩=>z.elim
theorem Bc(vars:List Str)(hc:X.calm=true)(hx: ∀ v s,¬ X.xe v s)(hkind:scope.kind= .function)(hlc:eF scope.names X.env.scope.names X.N vars=true)(hi:PI X tg iter wi)
  (hb: ∀ cl C s₀ H₀ ex pn,PG (cD X vars scope cl C s₀ H₀ ex pn) tg g/\PF (cD X vars scope cl C s₀ H₀ ex pn) ifs tt/\PE (cD X vars scope cl C s₀ H₀ ex pn) elt te) (hgk:GK X.N.length g)
  (hs: ∀ x,VH iter X.env x=pure x:=by intro _;rfl):PE X (.ListComp elt [⟨tg,iter,ifs,0⟩] scope pos) (Nt vars.length wi g tt te) :=
 qi vars hc zX (.inl λ_ _ _ z=>z) hkind hlc hi (λcl C s₀ H₀ ex pn E' _=>let ⟨a,b,c⟩:=hb cl C s₀ H₀ ex pn;⟨a.any hx,b.any hx,c.any hx⟩) hgk hs
def vX(k i:Nat)(wi:TI)(g:TG)(tt:TT)(te:TE):TS:=λD σ H=>Nt k wi g tt te σ H λv H1=>D.nx (σ.set i (UU v)) H1
theorem pK(vars:List Str)(i:Nat)(hc:X.calm=true){EX:XK}(hp:gy X EX)(hst:Cg X EX)(hkind:scope.kind= .function)(hlc:eF scope.names X.env.scope.names X.N vars=true)(hN:X.N.Nodup)(hiy:X.N[i]?=UU y)(hy:Loc X.env.scope y)
  (hi:PI X tg iter wi)
  (hb: ∀ cl C s₀ H₀ ex pn E',gy ((cD X vars scope cl C s₀ H₀ ex pn).bu E') EX->PG ((cD X vars scope cl C s₀ H₀ ex pn).bu E') tg g/\PF ((cD X vars scope cl C s₀ H₀ ex pn).bu E') ifs tt/\PE ((cD X vars scope cl C s₀ H₀ ex pn).bu E') elt te) (hgk:GK X.N.length g)
  (hsw:WI (.ListComp elt [⟨tg,iter,ifs,0⟩] scope pos) (UU (.Name y py)) spos.line X.env=pure true:=by rfl)
  (hs: ∀ x,VH iter X.env x=pure x:=by intro _;rfl)
  (hf:X.fn y=true\/X.env.scope.names.lookup y=UU .local:=by first | exact .inl rfl | exact .inr rfl | assumption) :
  PS X (.Assign [.Name y py] (.ListComp elt [⟨tg,iter,ifs,0⟩] scope pos) spos) (vX vars.length i wi g tt te):=by
 intro pins s σ H Dn I h;obtain⟨cl,hcl,hc1,hc2⟩:=nW (env:=X.env) (scope:=scope) λp hp hf=>I.ok.has p.1 ((iT (X:=X) hlc p hp).2.1 hf);rw[exec_Assign_Name_used _ _ _ _ hsw];refine UY (ZE (UY ?_));show Vs _ X.A (do let _ <- comprehension (.ListComp elt [⟨tg,iter,ifs,0⟩] scope pos) scope X.env _ (newList []) false (WT iter X.env) (UU (Zw (.Name y py) X.env))) _ _ s;refine UY (VA (aaw (use:=UU (Zw (.Name y py) X.env)) (Q:=λ_ s'=>SP X pins Dn .next s') rfl hs hcl hkind (λp hp=>(iT (X:=X) hlc p hp).2.2) ?_) (λ_ s' hq=>Vf (Vf hq)) λ_ _ e=>e);refine VA (hi pins s σ H _ I h) (λv s1 h1=>VA h1 (λitv s2 h2=>?_) λ_ _ z=>z) λ_ _ z=>z;obtain⟨it,fp,tn,J,H2,rfl,I2,T,st2,f2,W,⟨m0,w0⟩,turn⟩:=h2;refine nQ (Q:=λv H1=>Dn.nx (σ.set i (UU v)) H1) (RR:=λacc C=>compPost (Vv X.prog X.w) X.A X.xe (UU (Zw (.Name y py) X.env)) (λ_ s'=>SP X pins Dn .next s') acc C) hc hst hkind hlc hb hgk hc1 hc2 I2 T st2 f2 w0 turn ?_ λD C s4 H4 x Cc dx m h1 h2 h3 h4 h5 h6 h7 h8 h9 ha hb'=>tW hp I2 f2 h1 h2 h3 h4 h5 h6 h7 h8 h9 ha hb';intro D C s4 H4 ys m I4 hn nD nC neL hsz hcell hpin q;show Vs _ X.A (Zw (.Name y py) X.env (.ref D)) _ _ s4;refine wpAny_assign_Name (pZ I4 hN hiy hy (v:= .ref D) rfl (λs5 I5 ⟨a,hsb,ha⟩=>?_) hf);have hCa:C≠a:=by
  rcases ha with z | z
  . rw[z];exact neL
  . exact Xf (hcell _ _ z)
 refine⟨m,hn.sameBut hsb hCa,λh' hs'=>?_⟩;exact⟨_,_,I5.turned (it:=C) (t':=s5.toks) (λb o hb e=>hs'.extBut b o hb e) nC neL (.inr hsz) hcell hpin,q⟩
theorem zM(vars:List Str)(i:Nat)(hc:X.calm=true)(hx: ∀ v s,¬ X.xe v s)(hkind:scope.kind= .function)(hlc:eF scope.names X.env.scope.names X.N vars=true)(hN:X.N.Nodup)(hiy:X.N[i]?=UU y)(hy:Loc X.env.scope y)
  (hi:PI X tg iter wi)
  (hb: ∀ cl C s₀ H₀ ex pn,PG (cD X vars scope cl C s₀ H₀ ex pn) tg g/\PF (cD X vars scope cl C s₀ H₀ ex pn) ifs tt/\PE (cD X vars scope cl C s₀ H₀ ex pn) elt te) (hgk:GK X.N.length g)
  (hsw:WI (.ListComp elt [⟨tg,iter,ifs,0⟩] scope pos) (UU (.Name y py)) spos.line X.env=pure true:=by rfl)
  (hs: ∀ x,VH iter X.env x=pure x:=by intro _;rfl)
  (hf:X.fn y=true\/X.env.scope.names.lookup y=UU .local:=by first | exact .inl rfl | exact .inr rfl | assumption) :
  PS X (.Assign [.Name y py] (.ListComp elt [⟨tg,iter,ifs,0⟩] scope pos) spos) (vX vars.length i wi g tt te) :=
 pK vars i hc zX (.inl λ_ _ _ z=>z) hkind hlc hN hiy hy hi (λcl C s₀ H₀ ex pn E' _=>let ⟨a,b,c⟩:=hb cl C s₀ H₀ ex pn;⟨a.any hx,b.any hx,c.any hx⟩) hgk hsw hs hf
end
theorem sf:aU X (.builtin "isinstance") (λxs H Q=> ∃ x T t b,xs=[x,.ty T]/\iV X.K H x t/\Zf X.K t (.type T)=UU b/\Q (.bl b) H):=by
 intro pins s σ H xs us Q I r h;obtain⟨x,T,t,b,rfl,ty,k,q⟩:=h;obtain⟨u,c,rfl,ru,rc⟩:=vals2 r;cases(show c=Yn T from rc);exact xY I ru ty k λtk=>⟨.bl b,H,I.tok tk,rfl,q⟩
theorem bz.get(x:bz P w H h a o): ∃ ob,h.get? a=UU ob:=by
 induction o with
 | lst xs=>obtain⟨_,ar,n,_,e⟩:=x;exact⟨_,e⟩
 | tup xs=>obtain⟨_,ar,_,ob,e,_⟩:=x;exact⟨_,e⟩
 | dK kvs=>obtain⟨_,_,vs,_,ob,es,ep,e,_⟩:=x;exact⟨_,e⟩
 | dT kvs=>obtain⟨_,_,xs,_,ob,es,ep,e,_⟩:=x;exact⟨_,e⟩
 | set S n=>obtain⟨ob,es,ep,t,e,_⟩:=x;exact⟨_,e⟩
 | ins C dx fs=>obtain⟨_,_,_,e,_⟩:=x;exact⟨_,e⟩
 | own y=>exact x
 | xd fs=>obtain⟨mA,⟨od,es,ep,e,_⟩,_⟩:=x;exact⟨_,e⟩
 | rng lo hi=>obtain⟨t,u,v,e⟩:=x;exact⟨_,e⟩
 | ef ob u ih=>obtain⟨e,_⟩:=x;exact⟨_,e⟩
 | tbl ps=>exact⟨_,x⟩
 | met f y=>exact⟨_,x⟩
 | ext φ =>obtain⟨_,e,_⟩:=x;exact e
structure Pb(K:UW)(C:U9):Prop where
 cl:jO K C
 ca:Vw K (.ref C) "__class__" =UU (UU (.builtin "object.__class__"))
theorem Js{prog:VE}{w:VY}{A:V6}{E:U1->U5->Prop}{s:U5}{K:UW}{x C:U9}{ox od:Obj}{Q:Option U1->U5->Prop}(c:Pb K C)(X:K.In s.heap)(I:Xw s.heap x ox C (UU od))(h:Q (UU (.ref C)) { s with toks:=s.toks+1}) :
  Vs (Vv prog w) A (getAttr? (.ref x) "__class__") Q E s:=by
 have f:PySem.W.findObj K C (UU od) "__class__" =UU (.bind (.builtin "getset_descriptor.__get__") (.builtin "object.__class__")):=PySem.W.findObj_data (by obtain⟨cd,hc,_⟩:=Yy c.cl.hd;rw[hc];rfl) c.ca rfl rfl;have isB:aav (Vv prog w) s.heap (aca (.ref x) (.type "BaseException")) true:=I.type.andThen (XW X c.cl.bx);unfold getAttr? getAttrBy? getAttrBy;refine UY (wpAny_mkText (UY (ZF (WU (UY (V8 (s:={ s with toks:=s.toks+1}) I.type (UY (V8 (s:={ s with toks:=s.toks+1}) (Xc X c.cl.ga) ?_))))))));show Vs _ _ (if (acI (Vo C)&&Xs "BaseException.__getattribute__" == Xs "object.__getattribute__")=true then _ else _) _ _ _;rw[if_neg (by rw[show(Xs "BaseException.__getattribute__" == Xs "object.__getattribute__")=false from by decide +kernel,WX];decide)];unfold getAttrByItsOwn hookBefore;rw[if_pos (show acI (Vo C)=true from rfl)];refine UY (V8 (s:={ s with toks:=s.toks+1}) (Xc X c.cl.gt) (UY (ZF (WU ?_))));unfold callGetattribute;rw[if_neg (by decide)];unfold boundAndCalled;rw[XY.ga.bind];refine UY (Vf (aaa ?_));refine ZK XY.ga.plain abf (@aad (Vv prog w) _ _ { s with toks:=s.toks+1} "BaseException.__getattribute__" "BaseException" "__getattribute__" (.ref x) [.str "__class__" s.toks] [] _ (by decide +kernel) (by decide +kernel) isB (abo _ _) ?_);unfold ZG.«object.__getattribute__»;refine UY (Vf (UY (Vf (UY (V8 (s:={ s with toks:=s.toks+1}) I.type (UY (V8 (s:={ s with toks:=s.toks+1}) (acb X I f) ?_)))))));show Vs _ _ (ZD [Xs "object.__class__"] (call (.builtin "getset_descriptor.__get__") [.builtin "object.__class__",.ref x,.ref C]) >>= ret) _ _ _;refine UY (WU (aaa (PySem.W.class_get (s:={ s with toks:=s.toks+1}) (ox:=ox) (od:=UU od) X I c.cl.ob (Vf ?_))));show Vs _ _ (handedOut (.ref C)) _ _ _;rw[abp rfl];exact Vf (Vf h)
theorem uD{K:UW}{x C:U9}{ox od:Obj}(c:Pb K C):PySem.W.KitX K (.ref x) (.ref C) (λh=>Xw h x ox C (UU od)):=by
 obtain⟨cd,hc,_⟩:=Yy c.cl.hd;unfold aau at hc;split at hc
 . rename_i ho;refine⟨λ_ _ _ I=>I.type,λ_ _ X _ A' Q' E' s' k q=>?_,λh tp dd ar n sl X htp=>acw.mpr λq=>?_,λX I k=>Js c X I k⟩
   . unfold isType loadHead;exact UY (abn (k _ _ (X _ _ ho)) (Vf q))
   . cases(Value.ref.inj (beq_iff_eq.mp q):C=tp);have z:=(X _ _ ho).symm.trans htp;cases z
 . cases hc
theorem nV{X:Cx}{pins:List (U9 × Obj)}{σ :St}{H:Hp}{s:U5}{x C:U9}{fs:List (Str × V)}(I:Inv X pins σ H s)(t:Pl H x C fs): ∃ dx od av sl mA,s.heap.get? x=UU ⟨.ref C,UU dx,.fields av,sl⟩/\s.heap.get? dx=UU od/\s.heap.Ns1 dx mA/\(∀ f,gF (fs.lookup f) (mA f))/\Xw s.heap x ⟨.ref C,UU dx,.fields av,sl⟩ C (UU od):=by
 obtain⟨oe,dx,od,av,h1,h2,h3,h4,h5⟩:=t;obtain⟨oc,odd,odt,osl⟩:=oe;dsimp only at h2 h3 h4;subst h2 h3 h4;obtain⟨e1,_⟩:=I.aY x _ h1;obtain⟨e2,mA,ns,r⟩:=I.aY dx _ h5;exact⟨dx,od,av,osl,mA,e1,e2,ns,r,e1,rfl,rfl,e2⟩
section
variable{X:Cx}{e ce:VN}{es:List VN}{te:TE}{t:TA}{p pos:Pos}{f:Str}
noncomputable def HV(K:UW)(te:TE)(f:Str):TE:=fun σ H Q=>te σ H λv H1=> ∃ x C fs y,v= .ref x/\Pl H1 x C fs/\jO K C/\Vw K (.ref C) f=UU UX/\fs.lookup f=UU y/\Q y H1
theorem Dr(he:PE X e te)(hb:Xq e f X.env (WT e X.env)=WT e X.env):PE X (.Attribute e f pos) (HV X.K te f):=by
 intro pins s σ H Q I h;refine GV hb (gE (he pins s σ H _ I h) λu s1 ⟨v,H1,I1,r,x,C,fs,y,ev,t,c,na,l,q⟩=>?_);subst ev;obtain rfl:u=Vo x:=r;obtain⟨dx,od,av,sl,mA,e1,e2,ns,rl,_⟩:=nV I1 t;obtain⟨w,hw,rw'⟩:=gF.some_of (v:=y) (o:=mA f) (by rw[<- l];exact rl f);exact R3 I1.gU e1 ns c na hw (xR rw') ⟨y,H1,I1.tok _,rw',q⟩
def Kd(K:UW)(H:Hp)(cs:List U1)(v:V)(b:Bool):Prop:= ∃ x C fs,v= .ref x/\Pl H x C fs/\Pb K C/\WG K (.ref C) cs=UU b
theorem DE{K:UW}{t c:U1}{b:Bool}(h:WG K t [c]=UU b):Zf K t c=UU b:=by
 unfold WG at h;split at h
 . rename_i z;rw[z];exact h
 . rename_i z;rw[z];exact h
 . cases h
def Qa(K:UW)(cv:V)(c:U1):List V->Hp->VK->Prop:=λxs H Q=> ∃ v b,xs=[v,cv]/\Kd K H [c] v b/\Q (.bl b) H
theorem pL{cv:V}{c:U1}(hc: ∀ u,RelV cv u->u=c):aU X (.builtin "isinstance") (Qa X.K cv c):=by
 rintro pins s σ H xs us Q I r ⟨v,b,rfl,⟨x,C,fs,rfl,t,ci,k⟩,q⟩;obtain⟨u,u2,rfl,ru,ru2⟩:=vals2 r;obtain rfl:u=Vo x:=ru;rw[hc _ ru2];obtain⟨dx,od,av,sl,mA,e1,e2,ns,rl,J⟩:=nV I t;exact Wo (uD ci) I.gU J (DE k) (λz=>nomatch z) λtk=>⟨.bl b,H,I.tok tk,rfl,q⟩
def Hv(K:UW)(cvs:List V)(cs:List U1):List V->Hp->VK->Prop:=λxs H Q=> ∃ v tp b,xs=[v,.ref tp]/\H tp=UU (.tup cvs)/\Kd K H cs v b/\Q (.bl b) H
theorem yt{cvs:List V}{cs:List U1}(hc: ∀ us,Vals cvs us->us=cs):aU X (.builtin "isinstance") (Hv X.K cvs cs):=by
 rintro pins s σ H xs us Q I r ⟨v,tp,b,rfl,ht,⟨x,C,fs,rfl,t,ci,k⟩,q⟩;obtain⟨u,u2,rfl,ru,ru2⟩:=vals2 r;obtain rfl:u=Vo x:=ru;obtain rfl:u2=Vo tp:=ru2;obtain⟨dx,od,av,sl,mA,e1,e2,ns,rl,J⟩:=nV I t;obtain⟨_,ar,hv,o,ho,hoc,n,hod,hdd⟩:=I.aY tp _ ht;obtain⟨oc,odd,odt,osl⟩:=o;dsimp only at hoc hod hdd;subst hoc hod hdd;exact Y7 (uD ci) I.gU J ho (by rw[hc ar hv];exact k) (λz=>nomatch z) λtk=>⟨.bl b,H,I.tok tk,rfl,q⟩
end
section
variable{prog:VE}{w:VY}{A:V6}{E:U1->U5->Prop}{s:U5}
theorem TH[Decidable c](hc:c)(h:Vs M A m Q E s):Vs M A (if c then m else m') Q E s:=by rw[if_pos hc];exact h
def uX(prog:VE)(w:VY)(h:Wb)(v:U1)(kv:Key × U1):= ∃ b o kx n,v= .ref b/\h.get? b=UU o/\o.cls= .type "tuple" /\o.data= .seq #[kx,kv.2] n/\(bR prog w).is kv.1 kx=true
theorem uX.keeps(x:uX prog w h v kv)(k: ∀ b o,h.get? b=UU o->o.cls= .type "tuple" ->h'.get? b=UU o):uX prog w h' v kv :=
 by obtain⟨b,o,kx,n,e,g,c,d,r⟩:=x;exact⟨b,o,kx,n,e,k b o g c,c,d,r⟩
end
section
variable{X:Cx}
def P9(H:Hp)(y:V)(kv:Key × V):= ∃ b,y= .ref b/\H b=UU (.tup [kV kv.1,kv.2])
end
def hZ(P:VE)(w:VY)(K:UW)(mg:Str->Option U1)(base:Wb)(x:Str)(k:Nat)(ps:List Str)(sp:Sp):Prop :=
 ∃(f:U9)(fd:Xx),ig P w K mg base (i8 P w) k f fd ps sp/\mg x=UU (.ref f)/\Wh K (.ref f)=true/\Binds K fd ps []/\ ∀ us:List U1,us.length=ps.length->W8 fd ⟨us,[]⟩=pure (ps.zip us)
theorem qD.args{K st}{ps:List Str}(F:qD K x qual st f fd)
  (h: ∀ kV doc pm an cdv ct us,us.length=ps.length->W8 (VX x qual (br st) (aE st) (ag st) .none kV doc pm an cdv ct) ⟨us,[]⟩=pure (ps.zip us)): ∀ us ,us.length=ps.length->W8 fd ⟨us,[]⟩=pure (ps.zip us):=by
 obtain⟨oc,od,kV,doc,pm,an,cdv,ct,osl,rfl,lk,hcd⟩:=F.ex;exact h kV doc pm an cdv ct
def At(K:UW)(mg:Str->Option U1) x st:= ∃(f:U9)(fd:Xx),qD K x x st f fd/\mg x=UU (.ref f)
section
variable{P:VE}{w:VY}{K:UW}{mg:Str->Option U1}{base:Wb}
theorem At.ok{x:Str}{st:WV}{N ps:List Str}{k:Nat}{sp:Sp}(a:At K mg x st)(S:bO N ps (ag st))
  (hb: ∀(kV doc pm:U1)(an:Option U9)(cdv ct:U1)(us:List U1),us.length=ps.length->W8 (VX x x (br st) (aE st) (ag st) .none kV doc pm an cdv ct) ⟨us,[]⟩=pure (ps.zip us))
  (len: ∀ vs H Q E,sp vs H Q E->vs.length=ps.length)
  (hbody: ∀(f:U9)(cdv:U1)(A:V6)(outer:List Env)(s:U5)(H:Hp)(vs:List V)(Q:VK)(E:XK),cG k (A.deeper (Yo x (ag st) s.heap.objs.size f cdv))->sp vs H Q E ->
   ∃ t,oO (dm (i8 P w) P w K mg base N x (ag st) f cdv A outer s H E).dw (aE st) t/\t { nx:=λ_ H'=>Q .non H',rt:=Q} (start N vs) H):hZ P w K mg base x (k+1) ps sp:=by
 obtain⟨f,fd,F,hm⟩:=a;exact⟨f,fd,F.SD S len λcdv A outer s H vs Q E=>hbody f cdv A outer s H vs Q E,hm,F.kp,F.binds hb,F.args hb⟩
theorem At.NG{x:Str}{st:WV}{N ps:List Str}{k:Nat}{sp:Sp}(a:At K mg x st)(S:bO N ps (ag st))
  (hb: ∀(kV doc pm:U1)(an:Option U9)(cdv ct:U1)(us:List U1),us.length=ps.length->W8 (VX x x (br st) (aE st) (ag st) .none kV doc pm an cdv ct) ⟨us,[]⟩=pure (ps.zip us))
  (len: ∀ vs H Q E,sp vs H Q E->vs.length=ps.length)
  (hbody: ∀(f:U9)(cdv:U1)(A:V6)(outer:List Env)(s:U5)(H:Hp)(vs:List V)(Q:VK)(E:XK),cG k (A.deeper (Yo x (ag st) s.heap.objs.size f cdv))->sp vs H Q E ->
   ∃ t,oO (dm (i8 P w) P w K mg base N x (ag st) f cdv A outer s H E) (aE st) t/\t { nx:=λ_ H'=>Q .non H',rt:=Q} (start N vs) H):hZ P w K mg base x (k+1) ps sp:=by
 obtain⟨f,fd,F,hm⟩:=a;exact⟨f,fd,F.NG S len λcdv A outer s H vs Q E=>hbody f cdv A outer s H vs Q E,hm,F.kp,F.binds hb,F.args hb⟩
theorem At.yW{st}(a:At K mg x st)(hb: ∀ (kV doc pm) (an) (cdv ct) (us),us.length=ps.length->W8 (VX x x (br st) (aE st) (ag st) .none kV doc pm an cdv ct) ⟨us,[]⟩=pure (ps.zip us))
  (no: ∀ vs H Q E,¬ sp vs H Q E):hZ P w K mg base x 0 ps sp:=by
 obtain⟨f,fd,F,hm⟩:=a;exact⟨f,fd,⟨λvs H Q E h=>absurd h (no vs H Q E),λA outer s H args us vs Q E _ _ _ _ h=>absurd h (no vs H Q E)⟩,hm,F.kp,F.binds hb,F.args hb⟩
end
section
variable{X:Cx}{x:Str}{k j:Nat}{ps:List Str}{sp:Sp}{e:VN}{es:List VN}{t:TA}{p pos:Pos}
theorem RW(D:hZ X.prog X.w X.K X.mg X.base x j ps sp)(hr:cG k X.A)(hg:Gl X x)(hj:j<=k)(ha:PA X (e::es) t)(hdb:(x == ("__debug__" :Str))=false:=by decide)
  (he:VR (e::es) X.env=(false,WT e X.env)::VR es X.env:=by rfl) (hpl:(YX pos (VR es X.env)).any (·.1)=false:=by rfl):PE X (.Call (.Name x p) (e::es) [] pos) (lj sp [] E0 t):=by
 obtain⟨f,fd,F,hm,kp,bd,_⟩:=D;exact wY F (hr.mono hj) hg hm kp bd .nil Hf ha hdb he hpl
theorem OG{E:XK}(hx:Passes (i8 X.prog X.w) X E)(D:hZ X.prog X.w X.K X.mg X.base x j ps sp)(hr:cG k X.A)(hg:Gl X x)(hj:j<=k)(ha:PA X (e::es) t)(hdb:(x == ("__debug__" :Str))=false:=by decide)
  (he:VR (e::es) X.env=(false,WT e X.env)::VR es X.env:=by rfl) (hpl:(YX pos (VR es X.env)).any (·.1)=false:=by rfl):PE X (.Call (.Name x p) (e::es) [] pos) (lj sp [] E t):=by
 obtain⟨f,fd,F,hm,kp,bd,_⟩:=D;exact wY F (hr.mono hj) hg hm kp bd .nil hx ha hdb he hpl
theorem N7(D:hZ X.prog X.w X.K X.mg X.base x j ps sp)(hr:cG k X.A)(hg:Gl X x)(hj:j<=k)(hdb:(x == ("__debug__" :Str))=false:=by decide):PE X (.Call (.Name x p) [] [] pos) (lj sp [] E0 uC):=by
 obtain⟨f,fd,F,hm,kp,bd,_⟩:=D;exact C2 F (hr.mono hj) hg hm kp bd .nil Hf hdb
end
theorem Pc{K st kV}(X:K.In h)(G:h.Ns VB mg)
  (a:VZ K VB x=UU (UU (.ref f))) (l:K.lookup f=UU ⟨oc,od,.func (VX x x (br st) (aE st) (ag st) .none kV doc pm an cdv ct),osl⟩) (c:ZQ K cdv x=true) (k:Wh K (.ref f)=true):At K mg x st :=
 ⟨f,_,BE l c k,V0 X G a⟩
structure Bl(mg:Str->Option U1):Prop where
 len:mg "len" =UX
 range:mg "range" =UX
 isinstance:mg "isinstance" =UX
 int:mg "int" =UX
 bool:mg "bool" =UX
 tuple:mg "tuple" =UX
 dict:mg "dict" =UX
 sorted:mg "sorted" =UX
 min:mg "min" =UX
 max:mg "max" =UX
 abs:mg "abs" =UX
def Kp a (H H':Hp):= ∀ b o,b≠a->H b=UU o->H' b=UU o
theorem Kp.trans(x:Kp a H H1)(y:Kp a H1 H2):Kp a H H2:=λb o n h=>y b o n (x b o n h)
theorem jG.kp(x:jG H H'):Kp a H H':=λb o _ h=>x b o h
theorem Kp.st:Kp a H (upd H a o):=λb u n q=>by rw[aw n];exact q
theorem Kp.lst{a b H H' K xs kvs}(x:Kp a H H')(ha:H a=UU (.dK kvs))(h:gP K H b xs):gP K H' b xs:=by
 rcases h with(h | ⟨o,h⟩) | h
 . exact .inl (.inl (x _ _ (pA h ha (by simp_all)) h))
 . exact .inl (.inr ⟨o,x _ _ (pA h ha (by simp_all)) h⟩)
 . exact .inr h
theorem Kp.tup{a b H H' xs kvs}(x:Kp a H H')(ha:H a=UU (.dK kvs))(h:H b=UU (.tup xs)):H' b=UU (.tup xs):=x _ _ (pA h ha (by simp_all)) h
class Hb (t:TE):Prop where
 m: ∀ σ H Q Q',(∀ x H1,Q x H1->Q' x H1)->t σ H Q->t σ H Q'
class Hq (t:TT):Prop where
 m: ∀ σ H Q Q',(∀ x H1,Q x H1->Q' x H1)->t σ H Q->t σ H Q'
class Ub (t:TA):Prop where
 m: ∀ σ H Q Q',(∀ x H1,Q x H1->Q' x H1)->t σ H Q->t σ H Q'
class TU (t:TO):Prop where
 m: ∀ σ H Q Q',(∀ x H1,Q x H1->Q' x H1)->t σ H Q->t σ H Q'
class Tp (t:TI):Prop where
 m: ∀ σ H Q Q',(∀ x H1,Q x H1->Q' x H1)->t σ H Q->t σ H Q'
class Tf (r:R2):Prop where
 m: ∀ x y H Q Q',(∀ x H1,Q x H1->Q' x H1)->r x y H Q->r x y H Q'
class TM (r:V->Hp->VK->Prop):Prop where
 m: ∀ x H Q Q',(∀ x H1,Q x H1->Q' x H1)->r x H Q->r x H Q'
class TR (r:List V->Hp->VK->Prop):Prop where
 m: ∀ x H Q Q',(∀ x H1,Q x H1->Q' x H1)->r x H Q->r x H Q'
class TV (r:V->List V->Hp->VK->Prop):Prop where
 m: ∀ x xs H Q Q',(∀ x H1,Q x H1->Q' x H1)->r x xs H Q->r x xs H Q'
class Um (r:V->Option Int->Option Int->Hp->VK->Prop):Prop where
 m: ∀ x l u H Q Q',(∀ x H1,Q x H1->Q' x H1)->r x l u H Q->r x l u H Q'
class R4 (sp:Sp):Prop where
 m: ∀ vs H Q Q' E,(∀ x H1,Q x H1->Q' x H1)->sp vs H Q E->sp vs H Q' E
section
variable{X:Cx}
def OT(K:UW):List V->Hp->VK->Prop:=λxs H Q=> ∃ p ys,xs=[.ref p]/\(gP K H p ys\/fU K H p ys)/\Q (.int ys.length) H
def OO:List V->Hp->VK->Prop:=λxs H Q=> ∃ z,xs=[.str z]/\z.length<=Vj/\Q (.int z.length) H
theorem D1:aU X (.builtin "len") (λxs H Q=>OT X.K xs H Q\/OO xs H Q):=qW.or rT
def Pf(K:UW):List V->Hp->VK->Prop:=λxs H Q=> ∃ x T t b,xs=[x,.ty T]/\iV K H x t/\Zf K t (.type T)=UU b/\Q (.bl b) H
theorem EW:aU X (.builtin "isinstance") (Pf X.K):=sf
def QJ:List V->Hp->VK->Prop:=λxs H Q=>(∃ i,xs=[.int i]/\Q (.int i) H)\/ ∃ k,xs=[.bl k]/\Q (.int (if k then 1 else 0)) H
def Ks(K:UW):List V->Hp->VK->Prop:=λxs H Q=> ∃ p ys,xs=[.ref p]/\((gP K H p ys/\ ∀ l,H l=UX->Q (.ref l) (upd H l (.tup ys)))\/(fU K H p ys/\Q (.ref p) H))
theorem GB:aU X (.type "int") QJ:=zu
theorem E2:aU X (.type "tuple") (Ks X.K):=oG
end
structure KN(D D':Ends):Prop where
 nx: ∀ σ H,D.nx σ H->D'.nx σ H
 rt: ∀ v H,D.rt v H->D'.rt v H
 bk: ∀ σ H,D.bk σ H->D'.bk σ H
 ct: ∀ σ H,D.ct σ H->D'.ct σ H
class Ui (t:TS):Prop where
 m: ∀ D D' σ H,KN D D'->t D σ H->t D' σ H
class Ho (g:TG):Prop where
 m: ∀ x σ H Q Q',(∀ σ2 H2,Q σ2 H2->Q' σ2 H2)->g x σ H Q->g x σ H Q'
class Se (g:Dc):Prop where
 m: ∀ x σ H Q Q',(∀ σ2 H2,Q σ2 H2->Q' σ2 H2)->g x σ H Q->g x σ H Q'
noncomputable def stK(a:U9)(k:Int)(l:Option Int):List (Key × V):=match l with
 | none=>[(.inr "script",.ref a),(.inr "k",.int k)]
 | some l=>[(.inr "script",.ref a),(.inr "k",.int k),(.inr "left",.int l)]
def wB(K:UW)(H:Hp) a (xs:List V):=(∃ o,H a=UU (.ef o (.lst xs))) \/
 ∃(o:Obj)(ar:Array U1)(n:Nat),K.lookup a=UU o/\o.cls= .type "list" /\o.dict=UX/\o.data= .seq ar n/\ar.size<=Vj/\Vals xs ar.toList
theorem wB.sq{K}(h:wB K H a xs):gP K H a xs:=by
 rcases h with⟨o,h⟩ | h
 . exact .inl (.inr ⟨o,h⟩)
 . exact .inr h
theorem wB.upd{K}(h:wB K H a xs)(hc:H c=UU u)(hu: ∀ o w,u≠ .ef o w):wB K (upd H c o') a xs:=by
 rcases h with⟨o,h⟩ | h
 . exact .inl ⟨o,by rw[aw (pA h hc λz=>hu _ _ z.symm)];exact h⟩
 . exact .inr h
theorem Kp.ef{st a H H' K xs kvs}(x:Kp st H H')(ha:H st=UU (.dK kvs))(h:wB K H a xs):wB K H' a xs:=by
 rcases h with⟨o,h⟩ | h
 . exact .inl ⟨o,x _ _ (pA h ha (by simp_all)) h⟩
 . exact .inr h
theorem jG.ef{a H H' K xs}(x:jG H H')(h:wB K H a xs):wB K H' a xs:=by
 rcases h with⟨o,h⟩ | h
 . exact .inl ⟨o,x _ _ h⟩
 . exact .inr h
def jS(K:UW) H st k (l:Option Int):= ∃(a:U9)(ns:List Int),H st=UU (.dK (stK a k l))/\wB K H a (ns.map V.int)/\ns.length<=63/\0<=k
theorem jS.keep{K st}(x:jS K H st k l)(y:Kp st H H')(e:H' st=H st):jS K H' st k l :=
 by obtain⟨a,ns,h1,h2,h3,h4⟩:=x;exact⟨a,ns,e.trans h1,y.ef h1 h2,h3,h4⟩
theorem jS.same{K:UW}{H H':Hp}{st:U9}{k:Int}{l:Option Int}(x:jS K H st k l)(y:jG H H'):jS K H' st k l :=
 let ⟨a,ns,h1,h2,h3,h4⟩:=x;jS.keep ⟨a,ns,h1,h2,h3,h4⟩ y.kp ((y _ _ h1).trans h1.symm)
theorem jS.upd{K st}(x:jS K H st k l)(hc:H c=UU u)(hu: ∀ o w,u≠ .ef o w)(hn:c≠st):jS K (upd H c o) st k l :=
 by obtain⟨a,ns,h1,h2,h3,h4⟩:=x;exact⟨a,ns,by rw[aw (Xf hn)];exact h1,h2.upd hc hu,h3,h4⟩
theorem jS.at{K st}(x:jS K H st k l): ∃ kvs,H st=UU (.dK kvs):=by obtain⟨a,ns,h1,_⟩:=x;exact⟨_,h1⟩
theorem jS.pos{K st}(x:jS K H st k l):0<=k:=by obtain⟨a,ns,h1,_,_,h⟩:=x;exact h
noncomputable def noStar:VN->Bool
 | .Starred _ _=>false
 | _=>true
theorem aR(h:noStar e=true):VR (e::es) env=(false,WT e env)::VR es env:=by
 cases e<;>first | rfl | cases h
theorem gq: ∀{es},es.all noStar=true->(YX pos (VR es env)).any (·.1)=false
 | [],_=>rfl
 | e::es,h=>by
  have h:=abr.mp (Yf ▸ h);rw[aR h.1];have:=gq (pos:=pos) (env:=env) h.2;exact this
section
variable{X:Cx}{e:VN}{es:List VN}{te:TE}{t:TA}
theorem pk(ha:PE X e te)(hr:PA X es t)(hs:noStar e=true:=by rfl):PA X (e::es) (kJ te t):=dI ha hr (aR hs)
variable{x:Str}{k j:Nat}{ps:List Str}{sp:Sp}{p pos:Pos}{id T:String}{r:List V->Hp->VK->Prop}
theorem kd(D:hZ X.prog X.w X.K X.mg X.base x j ps sp)(hr:cG k X.A)(hg:Gl X x)(hj:j<=k)(ha:PA X (e::es) t)(hdb:(x == ("__debug__"))=false:=by decide)(he:noStar e=true:=by rfl)(hpl:es.all noStar=true:=by rfl) :
  PE X (.Call (.Name x p) (e::es) [] pos) (lj sp [] E0 t):=RW D hr hg hj ha hdb (aR he) (gq hpl)
theorem kB(hc:aU X (.builtin id) r)(hg:Gl X x)(hm:X.mg x=UX)(hv:Wm x=UU (.builtin id))(ha:PA X (e::es) t)(hn:x≠ "__name__" :=by decide)(hdb:(x == ("__debug__"))=false:=by decide)(he:noStar e=true:=by rfl)(hpl:es.all noStar=true:=by rfl) :
  PE X (.Call (.Name x p) (e::es) [] pos) (F6 r t):=j2 hc hg hm hv ha hn hdb (aR he) (gq hpl)
theorem kT(hc:aU X (.type T) r)(hg:Gl X x)(hm:X.mg x=UX)(hv:Wm x=UU (.type T))(ha:PA X (e::es) t)(hn:x≠ "__name__" :=by decide)(hdb:(x == ("__debug__"))=false:=by decide)(he:noStar e=true:=by rfl)(hpl:es.all noStar=true:=by rfl) :
  PE X (.Call (.Name x p) (e::es) [] pos) (F6 r t):=yi hc hg hm hv ha hn hdb (aR he) (gq hpl)
end
structure QE(X:Cx)(e:VN)(t:TE):Prop where h:PE X e t
structure QT(X:Cx)(e:VN)(t:TT):Prop where h:PT X e t
structure QW(X:Cx)(e:VN)(t:TT):Prop where h:PW X e t
structure QA(X:Cx)(es:List VN)(t:TA):Prop where h:PA X es t
structure QO(X:Cx)(e:Option VN)(t:TO):Prop where h:PO X e t
structure QS(X:Cx)(s:WV)(t:TS):Prop where h:PS X s t
structure Cr(X:Cx)(s:List WV)(t:TS):Prop where h:oO X s t
structure QG(X:Cx)(e:VN)(t:TG):Prop where h:PG X e t
structure Ir(X:Cx)(e:List VN)(t:Dc):Prop where h:Oe X e t
structure QI(X:Cx)(tg e:VN)(t:TI):Prop where h:PI X tg e t
structure QF(X:Cx)(es:List VN)(t:TT):Prop where h:PF X es t
structure QP(X:Cx)(pos:Pos)(ks:List (Option VN))(vs:List VN)(t:List (TE × TE)):Prop where h:UE X pos ks vs t
section
variable{X:Cx}{a b c e o i:VN}{es:List VN}{ta tb tc te td ty tx tv to ti:TE}{t t':TT}{tr:TA}{pos p p2 pos' apos cpos:Pos}{x y:Str}
theorem qv i (hN:X.N[i]?=UU x:=by rfl) (hv:Ic X.env.scope x:=by first | exact YZ rfl | exact Yq (YZ rfl) | exact Yq (Yq rfl)) (hd:(x == ("__debug__"))=false:=by decide)
  (hcd:(x == ("__classdict__"))=false:=by decide):QE X (.Name x pos) (yj i):=⟨mR hN hv hd hcd⟩
theorem JY:QE X (.Constant (.int n) j pos) (tC (.int n)):=⟨Lw⟩
theorem OP:QE X (.Constant (.bool n) j pos) (tC (.bl n)):=⟨NO⟩
theorem IF:QE X (.Constant .none j pos) (tC .non):=⟨Mv⟩
theorem Aq:QE X (.Constant (.str n) j pos) (tC (.str n)):=⟨Im⟩
theorem Ed(hg:Gl X x)(hm:X.mg x=UU u)(r:RelV v u)(hd:(x == ("__debug__"))=false:=by decide):QE X (.Name x pos) (tC v):=⟨lW hg hm r hd⟩
theorem FR(hg:Gl X x)(hm:X.mg x=UX)(hv:Wm x=UU u)(r:RelV v u)(hn:x≠ "__name__" :=by decide)(hd:(x == ("__debug__"))=false:=by decide):QE X (.Name x pos) (tC v):=⟨wW hg hm hv r hn hd⟩
theorem Ra(ho:cI X (Wv op) r)(ha:QE X a ta)(hb:QE X b tb):QE X (.BinOp a op b pos) (Ej r ta tb):=⟨PN ho ha.h hb.h⟩
theorem P7{op:UnaryOp}{r:V->Hp->VK->Prop}(ho:Nw X (ac1 op) r)(ha:QE X a ta):QE X (.UnaryOp op a pos) (Tg r ta):=⟨N2 ho ha.h⟩
theorem Lo(ha:QE X a ta):QE X (.UnaryOp .Not a pos) (Hr ta):=⟨IJ ha.h⟩
theorem JD(h:QE X a ta):QE X (.BoolOp op [a] pos) ta:=⟨Nk h.h⟩
theorem Ml{rest}(ha:QE X a ta)(hb:QE X (.BoolOp .And (b::rest) pos) tb):QE X (.BoolOp .And (a::b::rest) pos) (HA ta tb):=⟨Lx ha.h hb.h⟩
theorem O4{rest}(ha:QE X a ta)(hb:QE X (.BoolOp .Or (b::rest) pos) tb):QE X (.BoolOp .Or (a::b::rest) pos) (Pu ta tb):=⟨Pn ha.h hb.h⟩
theorem uh(hc:QT X c t)(ha:QE X a ta)(hb:QE X b tb):QE X (.IfExp c a b pos) (Uk t ta tb):=⟨AX hc.h ha.h hb.h⟩
theorem vH(h:QA X es tr):QE X (.Tuple es x1 pos) (F9 tr):=⟨BS h.h⟩
theorem IM(h:QA X es tr):QE X (.List es pos) (Qh tr):=⟨Jt h.h⟩
theorem GH:QO X UX v5:=⟨Fz⟩
theorem EG(h:QE X e te):QO X (UU e) (Hy te):=⟨FH h.h⟩
theorem Be{lo}(hr:De X r)(he:QE X e te)(hl:QO X lo tl)(hu:QO X hi th):QE X (.Subscript e (.Slice lo hi UX p2) pos) (Us r te tl th):=⟨CN hr he.h hl.h hu.h⟩
theorem Px(hr:y4 X r)(ha:QE X a ta)(hb:QE X b tb)(hs:qm b):QE X (.Subscript a b pos) (Ej r ta tb):=⟨OS hr ha.h hb.h hs⟩
theorem B9:QA X [] uC:=⟨jm⟩
theorem qk(ha:QE X e te)(hr:QA X es tr)(hs:noStar e=true:=by rfl):QA X (e::es) (kJ te tr):=⟨pk ha.h hr.h hs⟩
variable{k j:Nat}{ps:List Str}{sp:Sp}{id T:String}{r:List V->Hp->VK->Prop}
theorem qd(D:hZ X.prog X.w X.K X.mg X.base x j ps sp)(hr:cG k X.A)(hg:Gl X x)(hj:j<=k)(ha:QA X (e::es) tr)(hdb:(x == ("__debug__"))=false:=by decide)(he:noStar e=true:=by rfl)(hpl:es.all noStar=true:=by rfl) :
  QE X (.Call (.Name x p) (e::es) [] pos) (lj sp [] E0 tr):=⟨kd D hr hg hj ha.h hdb he hpl⟩
theorem UI(D:hZ X.prog X.w X.K X.mg X.base x j ps sp)(hr:cG k X.A)(hg:Gl X x)(hj:j<=k)(hdb:(x == ("__debug__" :Str))=false:=by decide):QE X (.Call (.Name x p) [] [] pos) (lj sp [] E0 uC):=⟨N7 D hr hg hj hdb⟩
theorem qB(hc:aU X (.builtin id) r)(hg:Gl X x)(hm:X.mg x=UX)(hv:Wm x=UU (.builtin id))(ha:QA X (e::es) tr)(hn:x≠ "__name__" :=by decide)(hdb:(x == ("__debug__"))=false:=by decide)(he:noStar e=true:=by rfl)(hpl:es.all noStar=true:=by rfl) :
  QE X (.Call (.Name x p) (e::es) [] pos) (F6 r tr):=⟨kB hc hg hm hv ha.h hn hdb he hpl⟩
theorem qT(hc:aU X (.type T) r)(hg:Gl X x)(hm:X.mg x=UX)(hv:Wm x=UU (.type T))(ha:QA X (e::es) tr)(hn:x≠ "__name__" :=by decide)(hdb:(x == ("__debug__"))=false:=by decide)(he:noStar e=true:=by rfl)(hpl:es.all noStar=true:=by rfl) :
  QE X (.Call (.Name x p) (e::es) [] pos) (F6 r tr):=⟨kT hc hg hm hv ha.h hn hdb he hpl⟩
theorem Hu(pa:ab7 T)(slot:Slot T name id)(hty:typeOf (.builtin id)=pure (.type "method_descriptor"))(hm:xc X id rm)(ho:QE X o to)(ha:QA X [e] tr)
  (hbase:Xq o name X.env (WT o X.env)=WT o X.env:=by rfl) (hline:(apos.endLine == cpos.line)=true:=by rfl) (hs:noStar e=true:=by rfl) :
  QE X (.Call (.Attribute o name apos) [e] [] cpos) (T9 X.K T rm to tr):=⟨Oo pa slot hty hm ho.h ha.h hbase (by rw[aR hs];rfl) hline (aR hs) rfl⟩
theorem GZ{r}(ho:cI X (VF op) r)(ha:QE X a ta)(hb:QE X b tb)(hm:Wg op b=false):QE X (.Compare a [op] [b] pos) (Ej r ta tb):=⟨Gs ho ha.h hb.h hm⟩
theorem Eh{r}(ho:cI X (VF op) r)(ha:QE X a ta)(hb:QE X b tb)(hm:Wg op b=false):QT X (.Compare a [op] [b] pos) (uc (Ej r ta tb)):=⟨D6 ho ha.h hb.h hm⟩
theorem BI{r}(ho:cI X (VF op) r)(ho':cI X (VF op') r')(ha:QE X a ta)(hb:QE X b tb)(hc:QE X c tc)(hm:aaF [op,op'] [b,c]=false:=by with_unfolding_all rfl):QE X (.Compare a [op,op'] [b,c] pos) (nN r r' ta tb tc):=⟨CM ho ho' ha.h hb.h hc.h hm⟩
theorem Cp{op op':CmpOp}{r r':R2}(ho:cI X (VF op) r)(ho':cI X (VF op') r')(ha:QE X a ta)(hb:QE X b tb)(hc:QE X c tc)(hm:aaF [op,op'] [b,c]=false:=by with_unfolding_all rfl):QT X (.Compare a [op,op'] [b,c] pos) (uc (nN r r' ta tb tc)):=⟨Cy ho ho' ha.h hb.h hc.h hm⟩
theorem Ke(ha:QE X a ta):QT X (.Compare a [.Is] [.Constant .none j pos'] pos) (tB (NW ta)):=⟨B8 (Lg ha.h)⟩
theorem xD(ha:QT X a t):QW X (.BoolOp .And [a] pos) t:=⟨pw_and1 ha.h⟩
theorem M8(ha:QT X a t):QW X (.BoolOp .Or [a] pos) t:=⟨pw_or1 ha.h⟩
theorem Cj{rest}(ha:QT X a t)(hb:QW X (.BoolOp .And (b::rest) pos) t'):QW X (.BoolOp .And (a::b::rest) pos) (Pr t t'):=⟨pw_and ha.h hb.h⟩
theorem NS{rest}(ha:QT X a t)(hb:QW X (.BoolOp .Or (b::rest) pos) t'):QW X (.BoolOp .Or (a::b::rest) pos) (Ti t t'):=⟨pw_or ha.h hb.h⟩
theorem QW.pt(h:QW X e t):QT X e t:=⟨h.h.pt⟩
theorem zL(ha:QT X a t):QT X (.UnaryOp .Not a pos) (Oq t):=⟨JC ha.h⟩
theorem AM(h:QE X e te)(he: ∀ whole,ab1 e X.env whole=(do let v <- whole;acj e.pos;ZD [v] (truthy v)):=by intro _;rfl):QT X e (tB te):=⟨M5 h.h he⟩
theorem xg{i}(hN:X.N.Nodup)(hi:X.N[i]?=UU x)(hx:Loc X.env.scope x)(hf:X.fn x=true\/X.env.scope.names.lookup x=UU .local:=by first | exact .inl rfl | exact .inr rfl | assumption):QG X (.Name x pos) (dz i):=⟨FN hN hi hx hf⟩
theorem wD:Ir X [] yX:=⟨D8⟩
theorem tS{t}(h1:QG X e t)(h2:Ir X es u)(hs:(Wx (e::es) X.env).map (·.2)=Zw e X.env::(Wx es X.env).map (·.2):=by rfl):Ir X (e::es) (kX t u):=⟨BB h1.h h2.h hs⟩
theorem Am{t}(hc:X.calm=true)(h:Ir X es t)(hn:(Wx es X.env).length=n:=by rfl)(hst:(Wx es X.env).findIdx? (·.1)=UX:=by rfl):QG X (.Tuple es k pos) (vq X.K n t):=⟨IP hc h.h hn hst⟩
variable{tg iter l:VN}{wi:TI}{g:TG}{ta':TA}
theorem MN:QF X [] Hs:=⟨K0⟩
theorem Kb(h:QT X c t):QF X [c] t:=⟨LC h.h⟩
variable{scope:YD}{ifs:List VN}{body rest:List WV}{spos py:Pos}{tb' ts us:TS}{st:WV}
theorem AS vars (hc:X.calm=true) (hx: ∀ v s,¬ X.xe v s) (hkind:scope.kind= .function) (hlc:eF scope.names X.env.scope.names X.N vars=true) (hi:QI X tg iter wi)
  (hb: ∀ cl C s₀ H₀ ex pn,QG (cD X vars scope cl C s₀ H₀ ex pn) tg g/\QF (cD X vars scope cl C s₀ H₀ ex pn) ifs t/\QE (cD X vars scope cl C s₀ H₀ ex pn) e te) (hgk:GK X.N.length g)
  (hs: ∀ x,VH iter X.env x=pure x:=by intro _;rfl):QE X (.ListComp e [⟨tg,iter,ifs,0⟩] scope pos) (Nt vars.length wi g t te) :=
 ⟨Bc vars hc hx hkind hlc hi.h (λcl C s₀ H₀ ex pn=>by obtain⟨h1,h2,h3⟩:=hb cl C s₀ H₀ ex pn;exact⟨h1.h,h2.h,h3.h⟩) hgk hs⟩
theorem BU vars i (hc:X.calm=true) (hx: ∀ v s,¬ X.xe v s) (hkind:scope.kind= .function) (hlc:eF scope.names X.env.scope.names X.N vars=true) (hN:X.N.Nodup) (hiy:X.N[i]?=UU y) (hy:Loc X.env.scope y) (hi:QI X tg iter wi)
  (hb: ∀ cl C s₀ H₀ ex pn,QG (cD X vars scope cl C s₀ H₀ ex pn) tg g/\QF (cD X vars scope cl C s₀ H₀ ex pn) ifs t/\QE (cD X vars scope cl C s₀ H₀ ex pn) e te) (hgk:GK X.N.length g)
  (hsw:WI (.ListComp e [⟨tg,iter,ifs,0⟩] scope pos) (UU (.Name y py)) spos.line X.env=pure true:=by rfl) (hs: ∀ x,VH iter X.env x=pure x:=by intro _;rfl)
  (hf:X.fn y=true\/X.env.scope.names.lookup y=UU .local:=by first | exact .inl rfl | exact .inr rfl | assumption) :
  QS X (.Assign [.Name y py] (.ListComp e [⟨tg,iter,ifs,0⟩] scope pos) spos) (vX vars.length i wi g t te) :=
 ⟨zM vars i hc hx hkind hlc hN hiy hy hi.h (λcl C s₀ H₀ ex pn=>by obtain⟨h1,h2,h3⟩:=hb cl C s₀ H₀ ex pn;exact⟨h1.h,h2.h,h3.h⟩) hgk hsw hs hf⟩
theorem vb{i}(hN:X.N.Nodup)(hi:X.N[i]?=UU x)(hx:Loc X.env.scope x)(he:QE X e te)(hs:WI e (UU (.Name x pos')) pos.line X.env=pure false:=by rfl)(hf:X.fn x=true\/X.env.scope.names.lookup x=UU .local:=by first | exact .inl rfl | exact .inr rfl | assumption) :
  QS X (.Assign [.Name x pos'] e pos) (Ab te (dz i)):=⟨LM hN hi hx he.h hs hf⟩
theorem JX(he:QE X e te)(hg:QG X tg g)(hs:abS [tg] e pos.line X.env=pure false:=by rfl)(hw:abT [tg] e X.env=pure UX:=by rfl)(h1:(Wx [tg] X.env).map (·.2)=[Zw tg X.env]:=by rfl):QS X (.Assign [tg] e pos) (Ab te g):=⟨Mm he.h hg.h hs hw h1⟩
theorem Cd(hc:QT X c t)(ha:Cr X A ts)(hb:Cr X B us):QS X (.If c A B pos) (OE t ts us):=⟨NR hc.h ha.h hb.h⟩
theorem Ag(hp:abF (Vv X.prog X.w) X.A X.env X.xe)(hc:X.calm=true)(hi:QI X tg iter wi)(hg:QG X tg g)(hb:Cr X body tb')(hs: ∀ x,VH iter X.env x=pure x:=by intro _;rfl):QS X (.For tg iter body [] pos) (OR wi g tb'):=⟨Lf hp hc hi.h hg.h hb.h hs⟩
theorem wI(he:QE X e te)(hs:WI e UX pos.line X.env=pure false:=by rfl):QS X (.Expr e pos) (HD te):=⟨Ge he.h hs⟩
theorem Ct(he:QE X e te):QS X (.Return (UU e) pos) (Ob te):=⟨Ip he.h⟩
theorem qK:Cr X [] A8:=⟨D4⟩
theorem nF(h1:QS X st ts)(h2:Cr X rest us):Cr X (st::rest) (Kl ts us):=⟨zW h1.h h2.h⟩
theorem qI(h1:QS X st ts):Cr X [st] ts:=⟨F7 h1.h⟩
end
theorem gh(h:0<=r):lF xs (UU r) UX=xs.drop r.toNat:=by
 have e:r=((r.toNat)):=by omega
 unfold lF;rw[e,HT.lV,HT.jU];simp only[V7];rcases aaY r.toNat xs.length with z | z
 . grind
 . rw[ZA z,V5 z];simp
theorem qR(h:0<=r):lF xs UX (UU r)=xs.take r.toNat:=by
 have e:r=((r.toNat)):=by omega
 unfold lF;rw[e,HT.lV,HT.jU];simp only[V7,Zo,acx];rcases aaY r.toNat xs.length with z | z
 . rw[aba z]
 . rw[ZA z,X8 (Vb _),X8 z]
def UC k (g:TG) (tt:TT) (te:TE) (σ :St) (Q:VK) (J:It) H1:= ∃ W:Nat->Nat->List V->Hp->Prop,(∃ m,W 0 m [] H1)/\ ∀ i m ys H,W i m ys H ->
 (J.stop i H/\ ∀ p,H p=UX->Q (.ref p) (upd H p (.lst ys))) \/
 (J.go i H/\ys.length < Vj/\ ∀ x H',J.NI i H x H'->g x (σ ++U8 k UX) H' fun σ2 H2=>tt σ2 H2 λb H3 =>
  if b=true then te σ2 H3 λy H4=> ∃ m',m' < m/\W (i+1) m' (ys++[y]) H4 else ∃ m',m' < m/\W (i+1) m' ys H3)
class SV (trs:List (TE × TE)):Prop where
 m: ∀ σ H Q Q',(∀ ps H1,Q ps H1->Q' ps H1)->m7 trs σ H Q->m7 trs σ H Q'
theorem Iw{K}(o:zV H)(h:gP K H a xs):wB K H a xs:=by
 rcases h with(h | ⟨u,h⟩) | h
 . rcases o a with z | ⟨u,ys,z⟩<;>(rw[h] at z;cases z)
 . exact .inl ⟨u,h⟩
 . exact .inr h
def KD(P:VE)(w:VY)(K:UW) a (kvs:List (Key × V)):=(a == Xa)=false /\
 ∃(o:Obj)(es:Array acH)(ep:Nat)(vs:List (Key × U1)),K.lookup a=UU o/\o.ExactDict/\o.data= .dict es ep/\PySem.KeysOf (bR P w) es/\Pairs (bR P w) es.toList vs/\(vs.map (·.1)).Nodup/\KV kvs vs
theorem Inv.kd{σ :St}(I:Inv X pins σ H s)(h:KD X.prog X.w X.K a kvs): ∃ vs,KV kvs vs/\s.heap.DictOf (bR X.prog X.w) a vs:=by
 obtain⟨_,o,es,ep,vs,h1,h2,h3,h4,h5,h6,h7⟩:=h;exact⟨vs,h7,o,es,ep,I.gU a o h1,h2,h3,h4,h5,h6⟩
def Q6(kvs:List (Key × V))(ty:TE):TE:=fun σ H Q=>ty σ H λy H2=> ∃ k,y=kV k/\Q (.bl (fE kvs k).isSome) H2
def wM(kvs:List (Key × V))(ty:TE):TE:=fun σ H Q=>ty σ H λy H2=> ∃ k,y=kV k/\Q (.bl (!(fE kvs k).isSome)) H2
section
variable{X:Cx}{o i:VN}{pos:Pos}{ty:TE}{a:U9}{kvs:List (Key × V)}
theorem JZ(hk:KD X.prog X.w X.K a kvs)(hi:PE X i ty)(ho:PE X o (tC (.ref a))):PC X .In i o (Q6 kvs ty):=by
 intro pins s σ H Q I h;refine gE (hi pins s σ H _ I h) λiv s1 ⟨y,H1,I1,ry,k,ey,q⟩=>gE (ho pins s1 σ H1 (λx H2=>x= .ref a/\H2=H1) I1 ⟨rfl,rfl⟩) λu s2 ⟨x,H2,I2,rx,ex,eH⟩=>?_;subst ex eH ey;obtain rfl:u=Vo a:=rx;obtain⟨vs,rel,dd⟩:=I2.kd hk;refine wpAny_in_of (nr ry) hk.1 dd.mapOf ?_;rw[<- (rel.val k).dG];exact⟨.bl (fE kvs k).isSome,H2,I2.tok _,rfl,q⟩
theorem La(hk:KD X.prog X.w X.K a kvs)(hi:QE X i ty)(ho:QE X o (tC (.ref a)))(hm:Wg .In o=false:=by rfl):QE X (.Compare i [.In] [o] pos) (Q6 kvs ty):=⟨Jz (JZ hk hi.h ho.h) hm⟩
end
noncomputable def NM(w:VY)(p:Str × Tok × U1):acH:={ hash:=VD w.params p.1,key:= .str p.1 p.2.1,val:=p.2.2}
theorem Q4{K}{ls:List (Str × Tok × U1)}{kvs:List (Key × V)}(hl:K.lookup a=UU { cls:= .type "dict",data:= .dict (ls.map (NM w)).toArray ep})(ha:(a == Xa)=false)
  (hn:(ls.map λp=>(ZC p.1:Key)).Nodup) (hk:KV kvs (ls.map λp=>((ZC p.1),p.2.2))):KD P w K a kvs:=by
 refine⟨ha,_,_,ep,ls.map λp=>((ZC p.1),p.2.2),hl,⟨rfl,rfl,rfl⟩,rfl,?_,?_,by rw[WY];exact hn,hk⟩
 . intro e he;have he':=List.mem_toArray.mp he;obtain⟨p,_,rfl⟩:=WA.mp he';exact⟨.inr p.1,ku p.1 p.2.1,rfl⟩
 . clear hl hn hk
   induction ls with
   | nil=>exact .nil
   | cons p r ih=>exact .cons (ku p.1 p.2.1) rfl ih
theorem lx: ∀{us},Vals (bs.map V.bl) us->LSm.BoolsAre us bs:=by
 induction bs with
 | nil=>intro us h;cases h;exact .nil
 | cons b r ih =>
  intro us h
  cases h with
  | cons hx ht =>
   cases(show _=YW b from hx)
   exact .cons _ (ih ht)
theorem qc{s:U5}{h':Wb}(hk: ∀ b x,b ∉ [s.heap.objs.size]->(s.heap.push o).get? b=UU x->h'.get? b=UU x): ∀ b x,s.heap.get? b=UU x->h'.get? b=UU x :=
 λb x e=>hk b x (by intro z;rw[Vm.mp z] at e;exact absurd (Vh e) (Wf _)) (U4 _ e)
section
variable{X:Cx}
def R0(K:UW):List V->Hp->VK->Prop:=λxs H Q=> ∃(p:U9)(bs:List Bool),xs=[.ref p]/\gP K H p (bs.map V.bl)/\Q (.bl (bs.all id)) H
def S5(K:UW):List V->Hp->VK->Prop:=λxs H Q=> ∃(p:U9)(bs:List Bool),xs=[.ref p]/\gP K H p (bs.map V.bl)/\Q (.bl (bs.any id)) H
theorem Fs(hc:X.calm=true):aU X (.builtin "all") (R0 X.K):=by
 intro pins s σ H xs us Q I r h;obtain⟨p,bs,rfl,hS,q⟩:=h;obtain⟨u,rfl,ru⟩:=vals1 r;cases(show u=Vo p from ru);obtain⟨ar,hv,pl,hz⟩:=I.list hS;have hl:=pl.isList;have hb:=lx hv;have hlt:p < s.heap.objs.size:=by obtain⟨_,e,_⟩:=hl;exact Vh e
 refine call_all_walk (aao (items:=ar.toArray) hl ?_);refine⟨s.heap.objs.size,[s.heap.objs.size,p],[s.heap.objs.size],ar.toArray.size,_,_,λi=>(bs[i]?).getD true,rfl,Walks.list (A:=X.A.in1) (I.ok.hd hc) _ p (Vy hlt) ar.toArray,⟨⟨_,Vq _ rfl,rfl,rfl⟩,hl.push _⟩,?_,?_⟩
 . intro i v s' Q' E' hP hQ;obtain⟨b,e,rfl⟩:=hb.get i v (by simpa using hP);simp only[e] at hQ;exact Wk hQ
 . intro h' tk hk;rw[show((XQ ar.toArray.size).all λi=>(bs[i]?).getD true)=bs.all id by rw[VC,hb.length];exact LSm.range_all bs];exact⟨.bl (bs.all id),H,I.kept (qc hk),rfl,q⟩
theorem callAny(hc:X.calm=true):aU X (.builtin "any") (S5 X.K):=by
 intro pins s σ H xs us Q I r h;obtain⟨p,bs,rfl,hS,q⟩:=h;obtain⟨u,rfl,ru⟩:=vals1 r;cases(show u=Vo p from ru);obtain⟨ar,hv,pl,hz⟩:=I.list hS;have hl:=pl.isList;have hb:=lx hv;have hlt:p < s.heap.objs.size:=by obtain⟨_,e,_⟩:=hl;exact Vh e
 refine call_any_walk (aao (items:=ar.toArray) hl ?_);refine⟨s.heap.objs.size,[s.heap.objs.size,p],[s.heap.objs.size],ar.toArray.size,_,_,λi=>(bs[i]?).getD false,rfl,Walks.list (A:=X.A.in1) (I.ok.hd hc) _ p (Vy hlt) ar.toArray,⟨⟨_,Vq _ rfl,rfl,rfl⟩,hl.push _⟩,?_,?_⟩
 . intro i v s' Q' E' hP hQ;obtain⟨b,e,rfl⟩:=hb.get i v (by simpa using hP);simp only[Option.getD_some,e] at hQ;exact Wk hQ
 . intro h' tk hk;rw[show((XQ ar.toArray.size).any λi=>(bs[i]?).getD false)=bs.any id by rw[VC,hb.length];exact LSm.range_any bs];exact⟨.bl (bs.any id),H,I.kept (qc hk),rfl,q⟩
end
noncomputable def Ri(x:Str):It:=⟨λi _=>i < x.cps.size,λi H v H'=>H'=H∧ ∃ c,x.cps[i]?=UU c∧v= .str ⟨#[c]⟩,λi _=>i=x.cps.size⟩
theorem t9{K} x t it (hty:["enumerate", "zip", "dict_itemiterator", "dict_reverseitemiterator", "odict_iterator", "itertools.zip_longest", "itertools.pairwise"].contains ty=false)
  (W: ∀ A ,A.handled=UX->Walks P w A it [it] [it] x.cps.size (SignAt x) (λi h=>h.IsStrIter it ty x t i)) (S: ∀ A i s Q E,s.heap.IsStrIter it ty x t i->Q (.ref it) s->Vs (Vv P w) A (acD (.ref it)) Q E s) :
  Turn P w K tg (Ri x) [it] it (λi h=>h.IsStrIter it ty x t i) where
 mem:=by simp
 obj:=λi h st b hb=>by
  have e:b=it:=by simpa using hb
  subst e;obtain⟨o,e,c,d⟩:=st;exact⟨o,e,λv z=>by simp_all⟩
 keep:=λi h h' st k=>by obtain⟨o,e,r⟩:=st;exact⟨o,k it (by simp) o e,r⟩
 item:=by
  intro X hP hw hK hc i pins s σ H E I hf st hg;subst hP hw hK;obtain⟨f0,f1,f2,f3,f4,f5⟩:=hf it (by simp);refine(W X.A (I.ok.hd hc)).item i s _ _ hg st λv h' tk hv st' hk=>?_;obtain⟨c,u,hx,rfl⟩:=hv;have I1:=I.turned (t':=tk) (λb o hb e=>hk b o (by simpa using hb) e) f0 f1 f3 f4 f5;obtain⟨o,e,cc,d⟩:=id st';exact⟨_,rfl,xb (s:={ s with heap:=h',toks:=tk}) e cc d hty ⟨.str ⟨#[c]⟩,H,I1,⟨_,rfl⟩,⟨rfl,c,hx,rfl⟩,st',λb hb=>(hf b hb).1⟩⟩
 done:=by
  intro X hP hw hK hc i pins s σ H E I hf st hg;subst hP hw hK;obtain⟨f0,f1,f2,f3,f4,f5⟩:=hf it (by simp);have hi:=hg;subst hi;exact(W X.A (I.ok.hd hc)).done s _ _ st λh' tk hk=>⟨rfl,I.turned (t':=tk) (λb o hb e=>hk b o (by simpa using hb) e) f0 f1 f3 f4 f5⟩
 self:=λA i s Q E st h=>S A i s Q E st h
theorem hU{x:Str}{k:Nat}{g:TG}{tt:TT}{te:TE}[Ho g][Hq tt][Hb te]{σ :St}{H:Hp}{Q:VK}(Pv:Nat->List V->Hp->Prop)(h0:Pv 0 [] H)(hl: ∀ i ys H,i<=x.cps.size->Pv i ys H->ys.length<=i)(hz:x.cps.size<=Vj)
  (hs: ∀ i c ys H,x.cps[i]?=UU c->Pv i ys H->g (.str ⟨#[c]⟩) (σ ++U8 k UX) H fun σ2 H2=>tt σ2 H2 λb H3=>if b=true then te σ2 H3 λy H4=>Pv (i+1) (ys++[y]) H4 else Pv (i+1) ys H3)
  (hd: ∀ ys H,Pv x.cps.size ys H-> ∀ p,H p=UX->Q (.ref p) (upd H p (.lst ys))):UC k g tt te σ Q (Ri x) H:=by
 refine⟨λi m ys H=>m=x.cps.size - i/\i<=x.cps.size/\Pv i ys H,⟨x.cps.size,by simp,V2 _,h0⟩,?_⟩;rintro i m ys H ⟨rfl,hi,p⟩;have hy:=hl i ys H hi p;by_cases hlt:i < x.cps.size
 . refine .inr ⟨hlt,by omega,λv H' y=>?_⟩;obtain⟨e,c,hc,rfl⟩:=y;subst e;refine Ho.m (g:=g) _ _ _ _ _ (fun σ2 H2 z=>Hq.m (t:=tt) _ _ _ _ (λb H3 z=>?_) z) (hs i c ys _ hc p);cases b with
   | true =>
    exact Hb.m (t:=te) _ _ _ _ (λv H4 w=>⟨x.cps.size - (i+1),by omega,rfl,hlt,w⟩) z
   | false =>
    exact⟨x.cps.size - (i+1),by omega,rfl,hlt,z⟩
 . have e:i=x.cps.size:=by omega
   subst e;exact .inl ⟨rfl,hd ys H p⟩
theorem xr(hg:Gl X x)(hm:X.mg x=UU (.ref a))(hd:(x == ("__debug__"))=false:=by decide):QE X (.Name x pos) (tC (.ref a)):=⟨lW hg hm rfl hd⟩
theorem ph l o b u :
  Meets (ZG.«dict.__eq__» ⟨[.ref l,.str b u],[]⟩) (λ_ R s=>s.heap.get? l=UU o/\R (.ok (.ret .notImplemented)) s) :=
 .of_wp λprog w A R s h=>by
  obtain⟨hl,h⟩:=h;have f1:=abt;wp_walk;exact⟨_,rfl,h⟩
theorem rN b u l c es ep dd sl :
  Meets (ZG.«str.__eq__» ⟨[.str b u,.ref l],[]⟩) (λ_ R s=>s.heap.get? l=UU { cls:=c,dict:=dd,data:= .dict es ep,slots:=sl}/\R (.ok (.ret .notImplemented)) s) :=
 .of_wp λprog w A R s h=>by obtain⟨hl,h⟩:=h;wp_walk using Wr hl,YY hl;exact⟨_,rfl,h⟩
theorem sk b u (hl:s.heap.get? l=UU o) (hx:o.ExactDict) (hd:o.data= .dict es ep) (hu:A.units < Zh):SeqAt.RcAt A s (.ref l) (.str b u) false:=λprog w E Q h=>by
 obtain⟨cls,dd,data,sl⟩:=o;have hc:=hx.1;subst hc hd;exact SeqAt.rc_eq_decline_or (k:=false) ⟨_,hl,rfl⟩ (Zy s b u) (by decide) abt abu aax
  (λ_ hq=>Xj abu ⟨_,hl,rfl⟩ PySem.F.entry_dict_eq (PySem.F.args_dict_eq_2 _ _) (ph l _ b u) ⟨hl,hq⟩)
  (λ_ hq=>Xj aax (Zy s b u) PySem.F.entry_str_eq (PySem.F.args_str_eq_2 _ _) (rN b u l (.type "dict") es ep dd sl) ⟨hl,hq⟩)
  (λ_ z=>wpAny_of_eq (show isSame (.ref l) (.str b u)=pure false from rfl) z) (.inr hu) h
noncomputable def Pt(K:UW):R2:=λx y H Q=> ∃ p z,x= .ref p/\y= .str z/\((∃ xs,gP K H p xs)\/(∃ xs,fU K H p xs)\/ ∃ kvs,H p=UU (.dK kvs))/\Q (.bl false) H
def OY(K:UW):V->Option Int->Option Int->Hp->VK->Prop:=λx lo hi H Q=> ∃ a xs,x= .ref a/\fU K H a xs/\(HT.dj xs.length 0 lo=0/\HT.dj xs.length xs.length hi=xs.length)/\Q (.ref a) H
noncomputable def HX(K:UW):R2:=λx y H Q=> ∃ a b ys,x= .ref a/\y= .ref b/\fU K H a []/\fU K H b ys/\Q (.ref b) H
noncomputable def Ih:R2:=λx y H Q=> ∃ a b,x= .str a/\y= .str b/\a.length+b.length<=Vj/\Q (.str (a++b)) H
theorem kj:fillsNumberSlot (.type "tuple") "mul" =pure false :=
 PySem.fillsNumberSlot_seq (id:= "tuple.__mul__") (r:=UU (.builtin "tuple.__rmul__")) Xo.lookup (by rfl) aaK.lookup (by rfl)
theorem qx:seqRepeat? (.type "tuple")=pure (UU (.builtin "tuple.__mul__")):=by
 unfold seqRepeat?;rw[acK (T:= "tuple") (name:= "__mul__") (id:= "tuple.__mul__") Xo.lookup (by rfl),acK (T:= "tuple") (name:= "__rmul__") (id:= "tuple.__rmul__") aaK.lookup (by rfl)];rfl
theorem nJ a t l items n dd sl :
  Meets (ZG.«int.__rmul__» ⟨[.int a t,.ref l],[]⟩) (λ_ R s=>s.heap.get? l=UU { cls:= .type "tuple",dict:=dd,data:= .seq items n,slots:=sl}/\R (.ok (.ret Value.notImplemented)) s) :=
 .of_wp λprog w A R s h=>by obtain⟨hl,h⟩:=h;wp_walk using Wr hl,YY hl;exact⟨_,rfl,h⟩
theorem oK{prog:VE}{w:VY}{A:V6}{E:U1->U5->Prop}{s:U5}{t sl:U9}{items:Array U1}{vl vu:U1}{lo hi:Option Int}{Q:U1->U5->Prop}(ht:IsTup s.heap t items)(hs:s.heap.IsSliceOf sl vl vu .none)(pl:aaT vl lo)(pu:aaT vu hi)
  (hw:HT.dj items.size 0 lo=0/\HT.dj items.size items.size hi=items.size) (h:Q (.ref t) s):Vs (Vv prog w) A (aaU (.ref t) (.ref sl)) Q E s:=by
 obtain⟨os,hos,hcs,hds⟩:=id hs;have hTs:s.TypeIs (.ref sl) "slice" :=⟨os,hos,hcs⟩
 unfold aaU
 try with_reducible refine WU ?_
 refine UY (wpAny_sequenceKey ht.typeIs (by decide) ?_);refine UY (WN (name:=U0 "__getitem__") ht.typeIs V9
  (XX V9 ht.typeIs abJ ?_ (ab5 _ _)))
 show Vs _ _ (aac (.ref t) >>= _) _ _ s;refine UY (tupleItemsOf_ ht ?_);refine UY (acp hTs ?_);refine UY (HT.gA hs pl pu ?_);show Vs _ _ (if (((HT.dj items.size 0 lo):Int) == 0&&(1) == 1&&(HT.dj items.size items.size hi - HT.dj items.size 0 lo) == items.size)=true then _ else _) _ _ s;rw[if_pos (by simp_all)];refine UY (m:=Builtin.Tuple.tupleIsExact _) (UY (acp ht.typeIs (Vf ?_)));exact UY (ace (Vf ⟨_,rfl,Vf h⟩))
section
variable{X:Cx}
theorem GD(hu:X.A.units < Zh):cI X (VF .Eq) (Pt X.K):=by
 intro pins s σ H x y v u Q I rx ry h;obtain⟨p,z,rfl,rfl,hp,hQ⟩:=h;cases(show v=Vo p from rx);obtain⟨t,rfl⟩:=ry;have fin:EP X pins σ Q (.bool false) s:=⟨.bl false,H,I,rfl,hQ⟩
 rcases hp with⟨xs,hp⟩ | ⟨xs,hp⟩ | ⟨kvs,hp⟩
 . obtain⟨ar,hv,pl,hz⟩:=I.list hp;exact SeqAt.RcAt.list_str z t pl.isList hu _ _ _ _ fin
 . obtain⟨ar,hv,pl,hz⟩:=I.tuple hp;exact SeqAt.RcAt.tuple_str z t pl hu _ _ _ _ fin
 . obtain⟨_,_,vs,_,o,es,ep,e,hx,hd,_⟩:=HL I.aY hp;exact sk z t e hx hd hu _ _ _ _ fin
theorem Dt:De X (OY X.K):=by
 intro pins s σ H x v vl vu lo hi sl Q I rx hs pl pu h;obtain⟨a,xs,rfl,hx,hw,q⟩:=h;cases rx;obtain⟨ar,r,ht,hz⟩:=I.tuple hx;have hlen:ar.toArray.size=xs.length:=by exact r.length.symm
 refine⟨"tuple",_,V9.lookup,ht.typeIs,?_⟩;exact oK ht hs pl pu (by rw[hlen];exact hw) ⟨.ref a,H,I,rfl,q⟩
theorem Fg:cI X (Wv .Add) (HX X.K):=by
 intro pins s σ H x y v u Q I rx ry h;obtain⟨a,b,ys,rfl,rfl,ha,hb,q⟩:=h;cases(show v=Vo a from rx);cases(show u=Vo b from ry);obtain⟨ar,r1,p1,_⟩:=I.tuple ha;obtain⟨its2,r2,p2,_⟩:=I.tuple hb;have e1:ar=[]:=by cases r1;rfl
 subst e1;obtain⟨⟨cls,dd,data,sl⟩,ho,hc,n,hd⟩:=id p1;obtain⟨⟨cls2,dd2,data2,sl2⟩,ho2,hc2,n2,hd2⟩:=id p2;simp only at hc hd hc2 hd2;subst hc hd hc2 hd2;exact aco ⟨_,ho,rfl⟩ ⟨_,ho2,rfl⟩ aaH abU Zi Y6 (YH _ _)
  (tuple_addW0 a b _ _ n n2 dd dd2 sl sl2 rfl) ⟨ho,ho2,⟨.ref b,H,I,rfl,q⟩⟩
theorem DG:cI X (Wv .Add) Ih:=by
 intro pins s σ H x y v u Q I rx ry h;obtain⟨a,b,rfl,rfl,hz,q⟩:=h;obtain⟨t,rfl⟩:=rx;obtain⟨t',rfl⟩:=ry;exact PyProof.Rows.add_str (λt' tk=>⟨.str (a++b),H,I.tok _,⟨_,rfl⟩,q⟩) hz
theorem JU:cI X (Wv .Add) (λx y H Q=>(FG λi j=> .int (i+j)) x y H Q\/(QB x y H Q\/(Hh X.K x y H Q\/(HX X.K x y H Q\/Ih x y H Q)))):=Kf.or (Ll.or (Gn.or (Fg.or DG)))
theorem Uw:De X (λx lo hi H Q=>NL X.K x lo hi H Q\/(ON X.K x lo hi H Q\/OY X.K x lo hi H Q)):=GN.or (Mo.or Dt)
end
section
variable{X:Cx}{o i:VN}{pos:Pos}{ty:TE}{a:U9}{kvs:List (Key × V)}
theorem yJ(hk:KD X.prog X.w X.K a kvs)(hi:PE X i ty)(ho:PE X o (tC (.ref a))):PC X .NotIn i o (wM kvs ty):=by
 intro pins s σ H Q I h;refine gE (hi pins s σ H _ I h) λiv s1 ⟨y,H1,I1,ry,k,ey,q⟩=>gE (ho pins s1 σ H1 (λx H2=>x= .ref a/\H2=H1) I1 ⟨rfl,rfl⟩) λu s2 ⟨x,H2,I2,rx,ex,eH⟩=>?_;subst ex eH ey;obtain rfl:u=Vo a:=rx;obtain⟨vs,rel,dd⟩:=I2.kd hk;refine wpAny_notIn_of (nr ry) hk.1 dd.mapOf ?_;rw[<- (rel.val k).dG];exact⟨.bl (!(fE kvs k).isSome),H2,I2.tok _,rfl,q⟩
theorem yk(hk:KD X.prog X.w X.K a kvs)(hi:QE X i ty)(ho:QE X o (tC (.ref a)))(hm:Wg .NotIn o=false:=by rfl):QT X (.Compare i [.NotIn] [o] pos) (tB (wM kvs ty)):=⟨B8 (yJ hk hi.h ho.h) hm⟩
end
noncomputable def T7{α}(c:Nat->Nat->Bool):KasT α -> α
 | .ret a=>a
 | .ask i j k=>T7 c (k (c i j))
noncomputable def RI{α}(n:Nat)(c:Nat->Nat->Bool):KasT α ->Bool
 | .ret _=>true
 | .ask i j k=>decide (i < n)&&decide (j < n)&& !decide (i=j)&&RI n c (k (c i j))
def BO{α} n (c:Nat->Nat->Bool) (t:KasT α) (Q: α ->Prop):=RI n c t=true/\Q (T7 c t)
theorem BO.ret{α :Type}{n:Nat}{c:Nat->Nat->Bool}{a: α}{Q: α ->Prop}(h:Q a):BO n c (.ret a) Q:=⟨rfl,h⟩
theorem BO.ask{α :Type}{n:Nat}{c:Nat->Nat->Bool}{i j:Nat}{k:Bool->KasT α}{Q: α ->Prop}(hi:i < n)(hj:j < n)(hij:i≠j)(h:BO n c (k (c i j)) Q):BO n c (.ask i j k) Q :=
 ⟨by simp only[RI,hi,hj,hij,h.1,decide_true,decide_false,ada,Xt],h.2⟩
theorem BO.bind: ∀{t},BO n c t (λa=>BO n c (f a) Q)->BO n c (t.bind f) Q
 | .ret a,h=>h.2
 | .ask i j k,h=>by
  have e:=h.1;simp only[RI,Vc,decide_eq_true_eq,Xg,decide_eq_false_iff_not] at e;exact BO.ask e.1.1.1 e.1.1.2 e.1.2 (BO.bind (t:=k (c i j)) ⟨e.2,h.2⟩)
structure qF(n:Nat)(p:Array Nat):Prop where
 perm:p.toList.Perm (XQ n)
theorem qF.size(h:qF n p):p.size=n:=by simpa using h.perm.length_eq
theorem qF.lt(h:qF n p)(hi:i < n):p.getD i 0 < n:=by
 have hi':=h.size ▸ hi;have:p.getD i 0∈p.toList:=by
  simp_all
 exact Zd.mp (h.perm.mem_iff.mp this)
theorem qF.ne(h:qF n p)(hi:i < n)(hj:j < n)(hij:i≠j):p.getD i 0≠p.getD j 0:=λe=>by
 have hi':=h.size ▸ hi;have hj':=h.size ▸ hj;have nd:=h.perm.nodup_iff.mpr List.nodup_range;rw[Z4,Z4,XE hi',XE hj'] at e;exact hij ((List.getElem?_inj (by omega) nd).mp (by simp_all))
theorem qF.of(h:qF n p)(pm:q.Perm p):qF n q:=⟨(Array.perm_iff_toList_perm.mp pm).trans h.perm⟩
section
variable{n:Nat}{r:Nat->Nat}
noncomputable def rk(r:Nat->Nat)(p:Array Nat) i:=r (p.getD i 0)
end
def UD(a b:Str):=a.cps.toList < b.cps.toList
instance (a b:Str):Decidable (UD a b):=inferInstanceAs (Decidable (a.cps.toList < b.cps.toList))
theorem gO{ b:Str}(h:a.cps.toList=b.cps.toList):a=b:=by
 cases a;simp only at h;rw[acL.mp h]
section
variable{prog:VE}{w:VY}{A:V6}{E:U1->U5->Prop}{s:U5}
theorem oX{vs:List U1}(h:vs.length < 64):vs.length<=Vj:=Vn (ZY h) (by decide)
end
def tP(H:Hp)(y:V)(q:Str × Int):= ∃ b,y= .ref b/\H b=UU (.tup [.str q.1,.int q.2])
theorem tP.v(h:tP H y q):P9 H y (.inr q.1,.int q.2):=h
theorem tP.same{H H':Hp}{y:V}{q:Str × Int}(h:tP H y q)(s:jG H H'):tP H' y q:=let ⟨b,e,h⟩:=h;⟨b,e,s _ _ h⟩
def SO(h:Wb)(v:U1)(q:Str × Int):= ∃ b o k t u,v= .ref b/\h.get? b=UU o/\o.cls= .type "tuple" /\o.data= .seq #[.str q.1 t,.int q.2 u] k
theorem SO.kept(k: ∀ b o,h.get? b=UU o->h'.get? b=UU o)(x:SO h v q):SO h' v q:=by obtain⟨b,o,n,t,u,e1,e2,e3,e4⟩:=x;exact⟨b,o,n,t,u,e1,k _ _ e2,e3,e4⟩
def Hj(K:UW):List V->Hp->VK->Prop:=λxs H Q=> ∃ x p Ts T b,xs=[x,.ref p]/\H p=UU (.tup (abv V.ty Ts))/\iV K H x (.type T)/\WG K (.type T) (abv Yn Ts)=UU b/\Q (.bl b) H
theorem xq: ∀{Ts:List String}{us},Vals (Ts.map V.ty) us->us=Ts.map Yn
 | [],_,.nil=>rfl
 | T::r,u::us,.cons h t=>by rw[xq t,show u=Yn T from h];rfl
section
variable{X:Cx}
theorem rE:aU X (.builtin "isinstance") (Hj X.K):=by
 intro pins s σ H xs us Q I r h;obtain⟨x,p,Ts,T,b,rfl,hp,ty,e,q⟩:=h;obtain⟨u,c,rfl,ru,rc⟩:=vals2 r;cases(show c=Vo p from rc);obtain⟨_,ar,hv,⟨oc,dd,dat,sl⟩,e1,e2,n,e3,_⟩:=(show bz X.prog X.w H s.heap p (.tup (Ts.map V.ty)) from I.aY p _ hp)
 simp only at e2 e3;subst e2 e3;obtain rfl:=xq hv;have fin: ∀ tk,EP X pins σ Q (.bool b) { s with toks:=tk}:=λtk=>⟨.bl b,H,I.tok tk,rfl,q⟩
 generalize hT:Yn T=t at ty e;cases ty with
 | non=>cases(show u=Wc from ru);exact Y7 kitx_none I.gU trivial e1 e nofun fin
 | bl y=>cases(show u=YW y from ru);exact Y7 kitx_bool I.gU trivial e1 e nofun fin
 | int i=>obtain⟨_,rfl⟩:=(show ∃ t,u=Z5 i t from ru);exact Y7 kitx_int I.gU trivial e1 e nofun fin
 | str y=>obtain⟨_,rfl⟩:=(show ∃ t,u=Z6 y t from ru);exact Y7 kitx_str I.gU trivial e1 e nofun fin
 | flt y=>obtain⟨_,rfl⟩:=(show ∃ t,u=abl y t from ru);exact Y7 ac5 I.gU trivial e1 e nofun fin
 | @lst a xs ea =>
  cases(show u=Vo a from ru)
  obtain⟨_,_,_,_,g⟩:=(show bz X.prog X.w H s.heap a (.lst xs) from I.aY a _ ea)
  exact Y7 aas I.gU ⟨_,g,rfl⟩ e1 e nofun fin
 | @ef a ob xs ea =>
  cases(show u=Vo a from ru)
  obtain⟨_,_,_,_,_,g⟩:=(show bz X.prog X.w H s.heap a (.ef ob (.lst xs)) from I.aY a _ ea)
  exact Y7 aas I.gU ⟨_,g,rfl⟩ e1 e nofun fin
 | @tup a xs ea =>
  cases(show u=Vo a from ru)
  obtain⟨_,_,_,o,g1,g2,_⟩:=(show bz X.prog X.w H s.heap a (.tup xs) from I.aY a _ ea)
  exact Y7 ac6 I.gU ⟨o,g1,g2⟩ e1 e nofun fin
 | @dK a kvs ea =>
  cases(show u=Vo a from ru)
  obtain⟨_,_,_,_,o,_,_,g1,g2,_⟩:=(show bz X.prog X.w H s.heap a (.dK kvs) from I.aY a _ ea)
  exact Y7 aat I.gU ⟨o,g1,g2.1⟩ e1 e nofun fin
 | @dT a kvs ea =>
  cases(show u=Vo a from ru)
  obtain⟨_,_,_,_,o,_,_,g1,g2,_⟩:=(show bz X.prog X.w H s.heap a (.dT kvs) from I.aY a _ ea)
  exact Y7 aat I.gU ⟨o,g1,g2.1⟩ e1 e nofun fin
 | ins=>cases hT
theorem AE:aU X (.builtin "isinstance") (λxs H Q=>Pf X.K xs H Q\/Hj X.K xs H Q):=EW.or rE
end
section
variable{prog:VE}{w:VY}{A:V6}{E:U1->U5->Prop}{s:U5}
theorem Uh[Decidable c](hc: ¬ c)(h:Vs M A m' Q E s):Vs M A (if c then m else m') Q E s:=by rw[if_neg hc];exact h
theorem ji{it t:U9}{i:Nat}{items:Array U1}{x:U1}{Q:U1->U5->Prop}(hit:s.heap.IsTupleIter it t i)(ht:s.heap.IsTuple t items)(hx:items[i]?=UU x)
  (q: ∀ h',h'.IsTupleIter it t (i+1)->ZZ it s.heap h'->Q x { s with heap:=h'}):Vs (Vv prog w) A (Wl (.ref it)) Q E s:=by
 obtain⟨oi,g1,c1,d1⟩:=id hit;obtain⟨ot,g2,_,k,d2⟩:=id ht;have new:(s.heap.update it (Yg (·.setIfInBounds 1 (aar ((i:Int)+1))))).IsTupleIter it t (i+1):=⟨_,W9 _ g1 (XB (X6 d1 _)),(acr ..).trans c1,(X6 d1 _).trans (by rfl)⟩
 refine UY (WN (name:=U0 "__next__") hit.typeIs WZ (XX WZ hit.typeIs Zb ?_ (Y1 (.ref it))));refine UY (m:=abw (.ref it) 0) (Wa g1 d1 (x:= .ref t) rfl (Uh (λz=>by cases z) (UY (m:=abw (.ref it) 1) (Wa g1 d1 (x:= .int i 0) rfl (UY (m:=seqItems? (.ref t)) (Xy g2 d2 ?_))))));dsimp only;rw[V7,hx];exact UY (Zk g1 d1 (by simp) (Vf ⟨x,rfl,Vf (q _ new (abP ..))⟩))
theorem qb{it t:U9}{i:Nat}{items:Array U1}{Q:U1->U5->Prop}(hh:A.handled=UX)(hit:s.heap.IsTupleIter it t i)(ht:s.heap.IsTuple t items)(hx:items[i]?=UX)
  (q: ∀ h' e,Heap.ExtBut it s.heap h'->(∃ o,h'.get? e=UU o/\o.cls= .type "StopIteration")->E (.ref e) { s with heap:=h'}):Vs (Vv prog w) A (Wl (.ref it)) Q E s:=by
 obtain⟨oi,g1,c1,d1⟩:=id hit;obtain⟨ot,g2,_,k,d2⟩:=id ht;refine UY (WN (name:=U0 "__next__") hit.typeIs WZ (XX WZ hit.typeIs Zb ?_ (Y1 (.ref it))));refine UY (m:=abw (.ref it) 0) (Wa g1 d1 (x:= .ref t) rfl (Uh (λz=>by cases z) (UY (m:=abw (.ref it) 1) (Wa g1 d1 (x:= .int i 0) rfl (UY (m:=seqItems? (.ref t)) (Xy g2 d2 ?_))))));dsimp only;rw[V7,hx];refine UY (ace (UY (Zk g1 d1 (by simp) (UY (m:=newExc (.type "StopIteration") []) (UY (m:=newTuple []) (Ww ?_ (by size_fits)))))));refine UY (m:=firstArgMember _ _) (wpAny_of_eq (a:=Wc) (by rfl) (Ww ?_ (by size_fits)));refine UY (wpAny_handled ?_);rw[show A.in1.handled=UX from hh];exact UY (Vf (wpAny_throw (q _ _ (((abP ..).extBut.push _).push _) ⟨_,Vq _ rfl,rfl⟩)))
structure sU(h:Wb)(z TI TO i1 i2 l1 l2:U9)(k:Nat):Prop where
 yn:IsZip h z TI TO .none
 ar:aay h TI (.ref i1) (.ref i2)
 old: ∃ a b,aay h TO a b
 one:h.IsTupleIter i1 l1 k
 two:h.IsTupleIter i2 l2 k
theorem yH{z TI TO i1 i2 l1 l2:U9}{k:Nat}{xs ys:Array U1}{x y:U1}{Q:U1->U5->Prop}(D:acy z TI TO i1 i2 l1 l2)(Z:sU s.heap z TI TO i1 i2 l1 l2 k)(t1:s.heap.IsTuple l1 xs)(t2:s.heap.IsTuple l2 ys)(hx:xs[k]?=UU x)(hy:ys[k]?=UU y)
  (q: ∀ h',IsZip h' z TI TO (aar s.heap.objs.size)->aay h' TI (.ref i1) (.ref i2)->aay h' TO x y->h'.IsTupleIter i1 l1 (k+1)->h'.IsTupleIter i2 l2 (k+1)->aay h' s.heap.objs.size x y ->
   (∀ c o,c≠z->c≠TO->c≠i1->c≠i2->s.heap.get? c=UU o->h'.get? c=UU o)->Q (.ref s.heap.objs.size) { s with heap:=h'}):Vs (Vv prog w) A (ZG.«zip.__next__» ⟨[.ref z],[]⟩) (λr u=> ∃ v,r= .done (.ret v)/\Q v u) E s:=by
 obtain⟨hz,hTI,⟨a,b,hTO⟩,o1,o2⟩:=Z;refine UY (m:=abw (.ref z) 2) (Wa hz rfl (x:= .bool false) rfl ?_);refine UY (m:=abw (.ref z) 3) (Wa hz rfl (x:= .ref TI) rfl (UY (Xy hTI rfl ?_)));refine UY (m:=YJ (.ref z)) (UY (m:=abw (.ref z) 0) (Wa hz rfl (x:= .none) rfl (Vf (TH rfl (UY (ace ?_))))));refine UY (m:=abw (.ref z) 4) (Wa hz rfl (x:= .ref TO) rfl (UY (Xz hz (by simp) λu1 z1 b1=>?_)))
 replace z1:=z1
 refine UY ?_;rw[show(#[Vo i1,Vo i2]).toList.zipIdx=[(Vo i1,0),(Vo i2,1)] from rfl,Ye];refine UY (UY (ZH (UY (m:=Wl (.ref i1)) (ji (o1.at λo e=>b1.extBut _ _ D.i1z e) (t1.at λo e=>b1.extBut _ _ D.l1z e) hx λu2 p1 b2=>Vf ?_))));have T2:=b2.extBut _ _ D.TOi1 (b1.extBut _ _ D.TOz hTO);refine UY (Xy T2 rfl (UY (ZL T2 λu3 T3 b3=>UY (acV (Vf ?_)))))
 replace T3:=T3
 have k3: ∀ c o,c≠z->c≠TO->c≠i1->s.heap.get? c=UU o->u3.get? c=UU o:=λc o n1 n2 n3 e=>b3.extBut _ _ n2 (b2.extBut _ _ n3 (b1.extBut _ _ n1 e));dsimp only;rw[Ye];refine UY (UY (ZH (UY (m:=Wl (.ref i2)) (ji (o2.at λo e=>k3 _ o D.i2z D.TOi2.symm D.i12.symm e) (t2.at λo e=>k3 _ o D.l2z D.l2TO D.l2i1 e) hy λu4 p2 b4=>Vf ?_))));have T4:=b4.extBut _ _ D.TOi2 T3;refine UY (Xy T4 rfl (UY (ZL T4 λu5 T5 b5=>UY (acV (Vf ?_)))))
 replace T5:aay u5 TO x y:=T5
 have k5:=λc o n1 n2 n3 n4 e=>b5.extBut _ _ n2 (b4.extBut _ _ n4 (k3 c o n1 n2 n3 e));have sz:=b5.1.trans (b4.1.trans (b3.1.trans (b2.1.trans b1.1)));have z5:=b5.extBut _ _ D.TOz.symm (b4.extBut _ _ D.i2z.symm (b3.extBut _ _ D.TOz.symm (b2.extBut _ _ D.i1z.symm z1)));have p15:=p1.at λo e=>b5.extBut _ _ D.TOi1.symm (b4.extBut _ _ D.i12 (b3.extBut _ _ D.TOi1.symm e));have p25:=p2.at λo e=>b5.extBut _ _ D.TOi2.symm e;have lz:=Vh z5;dsimp only;rw[List.forIn_nil];refine Vf (UY (Xy T5 rfl (UY (wpAny_newTuple ?_ (by show 2<=Vj;decide)))));have z6:IsZip (u5.push { cls:= .type "tuple",data:= .seq #[x,y]}) z TI TO .ellipsis:=U4 _ z5;refine UY (m:=abQ (.ref z) (.ref u5.objs.size)) (UY (Xz z6 (by simp) λu7 z7 b7=>Xz (show IsZip u7 z TI TO (aar u5.objs.size) from z7) (by simp) λu8 z8 b8=>Vf ⟨_,rfl,?_⟩));have up: ∀ c o,c≠z->u5.get? c=UU o->u8.get? c=UU o:=λc o n e=>b8.extBut _ _ n (b7.extBut _ _ n (U4 _ e));have T8:=b8.extBut _ _ (Xm lz) (b7.extBut _ _ (Xm lz) (Vq _ rfl))
 replace z8:=z8
 rw[sz] at z8 T8 ⊢;exact q u8 z8 (up _ _ D.TIz (k5 _ _ D.TIz D.TITO D.TIi1 D.TIi2 hTI)) (up _ _ D.TOz T5) (p15.at λo e=>up _ o D.i1z e) (p25.at λo e=>up _ o D.i2z e) T8 λc o n1 n2 n3 n4 e=>up c o n1 (k5 c o n1 n2 n3 n4 e)
theorem BA{z TI TO i1 i2 l1 l2:U9}{k:Nat}{xs ys:Array U1}{Q:PySem.Fin->U5->Prop}(hh:A.handled=UX)(D:acy z TI TO i1 i2 l1 l2)(Z:sU s.heap z TI TO i1 i2 l1 l2 k)(t1:s.heap.IsTuple l1 xs)(t2:s.heap.IsTuple l2 ys)(he:xs[k]?=UX\/ys[k]?=UX)
  (q: ∀ h' e,(∀ c o,c≠z->c≠TO->c≠i1->c≠i2->s.heap.get? c=UU o->h'.get? c=UU o)->(∃ o,h'.get? e=UU o/\o.cls= .type "StopIteration")->E (.ref e) { s with heap:=h'}):Vs (Vv prog w) A (ZG.«zip.__next__» ⟨[.ref z],[]⟩) Q E s:=by
 obtain⟨hz,hTI,⟨a,b,hTO⟩,o1,o2⟩:=Z;have ap: ∀(h':Wb)(f0:U1)(e:U9)(o:Obj),IsZip h' z TI TO f0->h'.get? e=UU o->o.cls= .type "StopIteration" ->e≠z:=λh' f0 e o y g c n=>by grind
 refine UY (m:=abw (.ref z) 2) (Wa hz rfl (x:= .bool false) rfl ?_);refine UY (m:=abw (.ref z) 3) (Wa hz rfl (x:= .ref TI) rfl (UY (Xy hTI rfl ?_)));refine UY (m:=YJ (.ref z)) (UY (m:=abw (.ref z) 0) (Wa hz rfl (x:= .none) rfl (Vf (TH rfl (UY (ace ?_))))));refine UY (m:=abw (.ref z) 4) (Wa hz rfl (x:= .ref TO) rfl (UY (Xz hz (by simp) λu1 z1 b1=>?_)));refine UY ?_;rw[show(#[Vo i1,Vo i2]).toList.zipIdx=[(Vo i1,0),(Vo i2,1)] from rfl,Ye]
 match hx:xs[k]? with
 | none =>
  refine UY (UY (ZH (UY (m:=Wl (.ref i1)) (qb hh (o1.at λo e=>b1.extBut _ _ D.i1z e) (t1.at λo e=>b1.extBut _ _ D.l1z e) hx λu2 e b2 g=>?_))))
  obtain⟨oe,g1,g2⟩:=g
  have z2:=b2 _ _ D.i1z.symm z1
  exact Xz z2 (by simp) λu3 _ b3=>q u3 e (λc o n1 _ n3 _ y=>b3.extBut _ _ n1 (b2 _ _ n3 (b1.extBut _ _ n1 y))) ⟨oe,b3.extBut _ _ (ap u2 _ e oe z2 g1 g2) g1,g2⟩
 | some x =>
  have hy:=he.resolve_left (by simp_all)
  refine UY (UY (ZH (UY (m:=Wl (.ref i1)) (ji (o1.at λo e=>b1.extBut _ _ D.i1z e) (t1.at λo e=>b1.extBut _ _ D.l1z e) hx λu2 p1 b2=>Vf ?_))))
  have T2:=b2.extBut _ _ D.TOi1 (b1.extBut _ _ D.TOz hTO)
  refine UY (Xy T2 rfl (UY (ZL T2 λu3 T3 b3=>UY (acV (Vf ?_)))))
  have k3: ∀ c o,c≠z->c≠TO->c≠i1->s.heap.get? c=UU o->u3.get? c=UU o:=λc o n1 n2 n3 e=>b3.extBut _ _ n2 (b2.extBut _ _ n3 (b1.extBut _ _ n1 e))
  dsimp only
  rw[Ye]
  refine UY (UY (ZH (UY (m:=Wl (.ref i2)) (qb hh (o2.at λo e=>k3 _ o D.i2z D.TOi2.symm D.i12.symm e) (t2.at λo e=>k3 _ o D.l2z D.l2TO D.l2i1 e) hy λu4 e b4 g=>?_))))
  obtain⟨oe,g1,g2⟩:=g
  have z4:=b4 _ _ D.i2z.symm (b3.extBut _ _ D.TOz.symm (b2.extBut _ _ D.i1z.symm z1))
  exact Xz z4 (by simp) λu5 _ b5=>q u5 e (λc o n1 n2 n3 n4 y=>b5.extBut _ _ n1 (b4 _ _ n4 (k3 c o n1 n2 n3 y))) ⟨oe,b5.extBut _ _ (ap u4 _ e oe z4 g1 g2) g1,g2⟩
theorem nK{z TI TO i1 i2 l1 l2:U9}{k:Nat}{xs ys:Array U1}{x y:U1}{Q:Option U1->U5->Prop}(D:acy z TI TO i1 i2 l1 l2)(Z:sU s.heap z TI TO i1 i2 l1 l2 k)(t1:s.heap.IsTuple l1 xs)(t2:s.heap.IsTuple l2 ys)(hx:xs[k]?=UU x)(hy:ys[k]?=UU y)
  (q: ∀ h',IsZip h' z TI TO (aar s.heap.objs.size)->aay h' TI (.ref i1) (.ref i2)->aay h' TO x y->h'.IsTupleIter i1 l1 (k+1)->h'.IsTupleIter i2 l2 (k+1)->aay h' s.heap.objs.size x y ->
   (∀ c o,c≠z->c≠TO->c≠i1->c≠i2->s.heap.get? c=UU o->h'.get? c=UU o)->Q (UU (.ref s.heap.objs.size)) { s with heap:=h'}):Vs (Vv prog w) A (pyNext (.ref z)) Q E s :=
 have ty:=⟨_,Z.yn,rfl⟩
 UY (ZF (WN (name:=U0 "__next__") ty Yj (XX Yj ty aaZ (yH D Z t1 t2 hx hy λh' a1 a2 a3 a4 a5 a6 a7=>Vf (q h' a1 a2 a3 a4 a5 a6 a7)) (aaL (.ref z)))))
theorem oZ{z TI TO i1 i2 l1 l2:U9}{k:Nat}{xs ys:Array U1}{Q:Option U1->U5->Prop}(hh:A.handled=UX)(D:acy z TI TO i1 i2 l1 l2)(Z:sU s.heap z TI TO i1 i2 l1 l2 k)(t1:s.heap.IsTuple l1 xs)(t2:s.heap.IsTuple l2 ys)(he:xs[k]?=UX\/ys[k]?=UX)
  (q: ∀ h',(∀ c o,c≠z->c≠TO->c≠i1->c≠i2->s.heap.get? c=UU o->h'.get? c=UU o)->Q UX { s with heap:=h'}):Vs (Vv prog w) A (pyNext (.ref z)) Q E s :=
 have ty:=⟨_,Z.yn,rfl⟩
 UY (ZF (WN (name:=U0 "__next__") ty Yj (XX Yj ty aaZ (BA (A:=A.in1) hh D Z t1 t2 he λh' e a1 g =>
  by obtain⟨o,g1,g2⟩:=g;exact UY (wpAny_isInstance (T:= "StopIteration") (b:=true) ⟨o,g1,g2⟩ isSubtype_stop (Vf (q h' a1)))) (aaL (.ref z)))))
end
end L2
end
section
open PySem PySem.W PyProof.Rows
namespace P3
open PySem PySem.Spec PyProof.Rows L2
inductive PV where
 | non | bl (b:Bool) | int (i:Int) | str (x:Str) | tup (xs:List PV) | ktup (xs:List PV) | ref (n:Nat) | ty (n:String)
mutual
def PV.beq:PV->PV->Bool
 | .non,.non=>true
 | .bl a,.bl b=>decide (a=b)
 | .int a,.int b=>decide (a=b)
 | .str a,.str b=>decide (a=b)
 | .tup a,.tup b=>PV.Fj a b
 | .ktup a,.ktup b=>PV.Fj a b
 | .ref a,.ref b=>decide (a=b)
 | .ty a,.ty b=>decide (a=b)
 | _,_=>false
def PV.Fj:List PV->List PV->Bool
 | [],[]=>true
 | a::x,b::y=>PV.beq a b&&PV.Fj x y
 | _,_=>false
end
theorem fY{p:Prop}(h: ¬ p):false=true↔p:=⟨λe=>(by cases e),λe=>absurd e h⟩
mutual
theorem PV.beq_iff: ∀(a b:PV),PV.beq a b=true↔a=b
 | .non,b=>by cases b<;>first | exact iff_of_true rfl rfl | exact fY (by intro e;cases e)
 | .bl _,b=>by cases b<;>first | exact decide_eq_true_iff.trans (by simp) | exact fY (by intro e;cases e)
 | .int _,b=>by cases b<;>first | exact decide_eq_true_iff.trans (by simp) | exact fY (by intro e;cases e)
 | .str _,b=>by cases b<;>first | exact decide_eq_true_iff.trans (by simp) | exact fY (by intro e;cases e)
 | .ref _,b=>by cases b<;>first | exact decide_eq_true_iff.trans (by simp) | exact fY (by intro e;cases e)
 | .ty _,b=>by cases b<;>first | exact decide_eq_true_iff.trans (by simp) | exact fY (by intro e;cases e)
 | .tup a,b=>by cases b<;>first | exact(PV.mL a _).trans (by simp) | exact fY (by intro e;cases e)
 | .ktup a,b=>by cases b<;>first | exact(PV.mL a _).trans (by simp) | exact fY (by intro e;cases e)
theorem PV.mL: ∀(a b:List PV),PV.Fj a b=true↔a=b
 | [],b=>by cases b<;>first | exact iff_of_true rfl rfl | exact fY (by intro e;cases e)
 | a::x,b=>by
  cases b with
  | nil=>exact fY (by intro e;cases e)
  | cons b y=>exact(abr.trans (and_congr (PV.beq_iff a b) (PV.mL x y))).trans (by simp)
end
instance:DecidableEq PV:=λa b=>decidable_of_iff _ (PV.beq_iff a b)
mutual
def PV.flat:PV->Bool
 | .ref _=>false
 | .tup xs=>PV.c6 xs
 | .ktup xs=>PV.c6 xs
 | _=>true
def PV.c6:List PV->Bool
 | []=>true
 | x::r=>x.flat&&PV.c6 r
end
mutual
def PV.iF(n:Nat):PV->Bool
 | .ref m=>decide (m < n)
 | .tup xs=>PV.iG n xs
 | .ktup xs=>PV.iG n xs
 | _=>true
def PV.iG(n:Nat):List PV->Bool
 | []=>true
 | x::r=>x.iF n&&PV.iG n r
end
inductive PO where
 | lst (xs:List PV) | jA (xs:List PV) | dct (kvs:List (Key × PV)) | obj (C:Nat) (fs:List (Str × PV)) | exc (C:Nat) (fs:List (Str × PV))
 deriving DecidableEq
noncomputable def PO.fP:PO->Bool
 | .jA _=>false
 | .exc _ _=>false
 | _=>true
noncomputable def PO.iF(n:Nat):PO->Bool
 | .lst xs=>PV.iG n xs
 | .jA xs=>PV.iG n xs
 | .dct kvs=>PV.iG n (kvs.map (·.2))
 | .obj _ fs=>PV.iG n (fs.map (·.2))
 | .exc _ fs=>PV.iG n (fs.map (·.2))
abbrev PH:=List PO
abbrev aM:=List (Option PV)
def KT(K:UW) a (xs:List V):= ∃(o:Obj)(ar:Array U1)(n:Nat),K.lookup a=UU o/\o.cls= .type "tuple" /\o.data= .seq ar n/\ar.size<=Vj/\Vals xs ar.toList
mutual
def rel(K:UW)(ρ :List U9)(H:Hp):PV->V->Prop
 | .non,v=>v= .non
 | .bl b,v=>v= .bl b
 | .int i,v=>v= .int i
 | .str x,v=>v= .str x
 | .ty n,v=>v= .ty n
 | .ref n,v=> ∃ a, ρ[n]?=UU a∧v= .ref a
 | .tup xs,v=> ∃ a vs,v= .ref a∧H a=UU (.tup vs)∧ak K ρ H xs vs
 | .ktup xs,v=> ∃ a vs,v= .ref a∧KT K a vs∧ak K ρ H xs vs
def ak(K:UW)(ρ :List U9)(H:Hp):List PV->List V->Prop
 | [],vs=>vs=[]
 | x::r,vs=> ∃ v t,vs=v::t∧rel K ρ H x v∧ak K ρ H r t
end
structure Gr (ρ :List U9) (H:Hp) (ρ':List U9) (H':Hp):Prop where
 pre: ∀(n:Nat)(a:U9), ρ[n]?=UU a-> ρ'[n]?=UU a
 tup: ∀ a xs,H a=UU (.tup xs)->H' a=UU (.tup xs)
 ef: ∀ a o u,H a=UU (.ef o u)->H' a=UU (.ef o u)
theorem Gr.refl ρ H:Gr ρ H ρ H:=⟨λ_ _ h=>h,λ_ _ h=>h,λ_ _ _ h=>h⟩
theorem Gr.trans(a:Gr ρ H ρ1 H1)(b:Gr ρ1 H1 ρ2 H2):Gr ρ H ρ2 H2 :=
 ⟨λn x h=>b.pre n x (a.pre n x h),λx xs h=>b.tup x xs (a.tup x xs h),λx o u h=>b.ef x o u (a.ef x o u h)⟩
section
variable{K:UW}{ρ ρ':List U9}{H H':Hp}
theorem Gr.Mb(g:Gr ρ H ρ' H')(h:fU K H a xs):fU K H' a xs:=by
 rcases h with(h | ⟨o,h⟩) | h
 . exact .inl (.inl (g.tup _ _ h))
 . exact .inl (.inr ⟨o,g.ef _ _ _ h⟩)
 . exact .inr h
theorem Gr.UG(g:Gr ρ H ρ' H')(h:wB K H a xs):wB K H' a xs:=by
 rcases h with⟨o,h⟩ | h
 . exact .inl ⟨o,g.ef _ _ _ h⟩
 . exact .inr h
mutual
theorem rel.gr(g:Gr ρ H ρ' H'): ∀(x:PV)(v:V),rel K ρ H x v->rel K ρ' H' x v
 | .non,v,h=>by simpa only[rel] using h
 | .bl _,v,h=>by simpa only[rel] using h
 | .int _,v,h=>by simpa only[rel] using h
 | .str _,v,h=>by simpa only[rel] using h
 | .ty _,v,h=>by simpa only[rel] using h
 | .ref n,v,h=>by
  rw[rel] at h ⊢;obtain⟨a,e,h⟩:=h;exact⟨a,g.pre _ _ e,h⟩
 | .tup xs,v,h=>by
  rw[rel] at h ⊢;obtain⟨a,vs,e,s,r⟩:=h;exact⟨a,vs,e,g.tup _ _ s,ak.gr g xs vs r⟩
 | .ktup xs,v,h=>by
  rw[rel] at h ⊢;obtain⟨a,vs,e,s,r⟩:=h;exact⟨a,vs,e,s,ak.gr g xs vs r⟩
theorem ak.gr(g:Gr ρ H ρ' H'): ∀(xs:List PV)(vs:List V),ak K ρ H xs vs->ak K ρ' H' xs vs
 | [],vs,h=>by simpa only[ak] using h
 | x::r,vs,h=>by
  rw[ak] at h ⊢;obtain⟨v,t,e,h1,h2⟩:=h;exact⟨v,t,e,rel.gr g x v h1,ak.gr g r t h2⟩
end
noncomputable def PV.seq?:PV->Option (List PV)
 | .tup xs=>UU xs
 | .ktup xs=>UU xs
 | _=>UX
theorem rel.seq(e:x.seq?=UU xs)(h:rel K ρ H x v): ∃ a vs,v= .ref a/\fU K H a vs/\ak K ρ H xs vs:=by
 cases x<;>simp only[PV.seq?,reduceCtorEq,Zn] at e
 . subst e;obtain⟨a,vs,e,z,r⟩:=h;exact⟨a,vs,e,.of z,r⟩
 . subst e;obtain⟨a,vs,e,z,r⟩:=h;exact⟨a,vs,e,.inr z,r⟩
theorem bG:ak K ρ H [] vs↔vs=[]:=by rw[ak]
theorem aD:ak K ρ H (x::r) vs↔ ∃ v t,vs=v::t/\rel K ρ H x v/\ak K ρ H r t:=by rw[ak]
theorem ak.len: ∀{xs vs},ak K ρ H xs vs->xs.length=vs.length
 | [],vs,h=>by rw[h];rfl
 | x::r,vs,h=>by
  obtain⟨v,t,rfl,_,h2⟩:=aD.mp h;simp[ak.len h2]
theorem ak.get: ∀{xs vs}{i:Nat}{x},ak K ρ H xs vs->xs[i]?=UU x-> ∃ v,vs[i]?=UU v/\rel K ρ H x v
 | [],vs,i,x,h,e=>by simp at e
 | y::r,vs,i,x,h,e=>by
  obtain⟨v,t,rfl,h1,h2⟩:=aD.mp h;cases i with
  | zero=>simp at e;subst e;exact⟨v,rfl,h1⟩
  | succ i=>simpa using ak.get h2 (by simpa using e)
theorem ak.app: ∀{xs ys vs ws},ak K ρ H xs vs->ak K ρ H ys ws->ak K ρ H (xs++ys) (vs++ws)
 | [],ys,vs,ws,h,h'=>by subst h;exact h'
 | x::r,ys,vs,ws,h,h'=>by
  obtain⟨v,t,rfl,h1,h2⟩:=aD.mp h;exact aD.mpr ⟨v,t++ws,rfl,h1,ak.app h2 h'⟩
theorem ak.one(h:rel K ρ H x v):ak K ρ H [x] [v]:=aD.mpr ⟨v,[],rfl,h,bG.mpr rfl⟩
theorem ak.take: ∀{xs vs} n,ak K ρ H xs vs->ak K ρ H (xs.take n) (vs.take n)
 | xs,vs,0,h=>by rfl
 | [],vs,n+1,h=>by subst h;simp[bG]
 | x::r,vs,n+1,h=>by
  obtain⟨v,t,rfl,h1,h2⟩:=aD.mp h;exact aD.mpr ⟨v,t.take n,rfl,h1,ak.take n h2⟩
theorem ak.drop: ∀{xs vs} n,ak K ρ H xs vs->ak K ρ H (xs.drop n) (vs.drop n)
 | xs,vs,0,h=>h
 | [],vs,n+1,h=>by subst h;simp[bG]
 | x::r,vs,n+1,h=>by
  obtain⟨v,t,rfl,h1,h2⟩:=aD.mp h;exact ak.drop n h2
theorem ak.set: ∀{xs vs x v} i,ak K ρ H xs vs->rel K ρ H x v->ak K ρ H (xs.set i x) (vs.set i v)
 | [],vs,x,v,i,h,hv=>by subst h;simp[bG]
 | y::r,vs,x,v,i,h,hv=>by
  obtain⟨w,t,rfl,h1,h2⟩:=aD.mp h;cases i with
  | zero=>exact aD.mpr ⟨v,t,rfl,hv,h2⟩
  | succ i=>exact aD.mpr ⟨w,t.set i v,rfl,h1,ak.set i h2 hv⟩
theorem ak.ints: ∀(ns:List Int),ak K ρ H (ns.map PV.int) (ns.map V.int)
 | []=>bG.mpr rfl
 | n::r=>aD.mpr ⟨.int n,r.map V.int,rfl,by rw[rel],ak.ints r⟩
end
def kH(K:UW)(ρ :List U9)(H:Hp)(a:U9):PO->Prop
 | .lst xs=> ∃ vs,H a=UU (.lst vs)/\ak K ρ H xs vs
 | .jA xs=> ∃ vs,wB K H a vs/\ak K ρ H xs vs
 | .dct kvs=> ∃ kws,H a=UU (.dK kws)/\Ws (λ(p:Key × PV) (q:Key × V)=>p.1=q.1/\rel K ρ H p.2 q.2) kvs kws
 | .obj C fs=> ∃ dx fws,H a=UU (.ins C dx fws)/\Ws (λ(p:Str × PV) (q:Str × V)=>p.1=q.1/\rel K ρ H p.2 q.2) fs fws
 | .exc C fs=> ∃ fws,Pl H a C fws/\Ws (λ(p:Str × PV) (q:Str × V)=>p.1=q.1/\rel K ρ H p.2 q.2) fs fws
structure cj(K:UW)(ρ :List U9)(h:PH)(H:Hp):Prop where
 len: ρ.length=h.length
 nd: ∀(i j:Nat)(a:U9)(oi oj:PO),h[i]?=UU oi->h[j]?=UU oj->oi.fP=true->oj.fP=true-> ρ[i]?=UU a-> ρ[j]?=UU a->i=j
 ob: ∀(i:Nat)(o:PO)(a:U9),h[i]?=UU o-> ρ[i]?=UU a->kH K ρ H a o
section
variable {K:UW} {ρ ρ':List U9} {H H':Hp} {h:PH}
theorem cj.at(s:cj K ρ h H){i:Nat}(e:h[i]?=UU o): ∃ a, ρ[i]?=UU a∧kH K ρ H a o:=by
 have hi:i < ρ.length:=by rw [s.len];exact (Vk.mp e).1
 exact ⟨ρ[i],VG hi,s.ob i o _ e (VG hi)⟩
theorem Paired.gD{κ :Type}{kvs:List (κ × PV)}{kws:List (κ × V)}(g:Gr ρ H ρ' H')(h:Ws (λ(p: κ × PV) (q: κ × V)=>p.1=q.1∧rel K ρ H p.2 q.2) kvs kws) :
  Ws (λ(p: κ × PV) (q: κ × V)=>p.1=q.1/\rel K ρ' H' p.2 q.2) kvs kws:=Paired.DT h λ_ _ z=>⟨z.1,rel.gr g _ _ z.2⟩
def P6(H:Hp)(a:U9):Prop:= ∃ o,H a=UU o/\(∀ xs,o≠ .tup xs)/\ ∀ x u,o≠ .ef x u
theorem iD{a:U9}{o:PO}(m:o.fP=true)(r:kH K ρ H a o):P6 H a:=by
 cases o with
 | lst xs=>obtain⟨vs,e,_⟩:=r;exact⟨_,e,(λ_ z=>HO.noConfusion z),λ_ _ z=>HO.noConfusion z⟩
 | jA xs=>nomatch m
 | exc C fs=>nomatch m
 | dct kvs=>obtain⟨kws,e,_⟩:=r;exact⟨_,e,(λ_ z=>HO.noConfusion z),λ_ _ z=>HO.noConfusion z⟩
 | obj C fs=>obtain⟨dx,fws,e,_⟩:=r;exact⟨_,e,(λ_ z=>HO.noConfusion z),λ_ _ z=>HO.noConfusion z⟩
theorem ky{a:U9}{o:PO}(g:Gr ρ H ρ' H')(k:o.fP=true->H' a=H a)(r:kH K ρ H a o):kH K ρ' H' a o:=by
 cases o with
 | lst xs=>obtain⟨vs,e,r⟩:=r;exact⟨vs,(k rfl).trans e,ak.gr g _ _ r⟩
 | jA xs=>obtain⟨vs,e,r⟩:=r;exact⟨vs,g.UG e,ak.gr g _ _ r⟩
 | dct kvs=>obtain⟨kws,e,r⟩:=r;exact⟨kws,(k rfl).trans e,Paired.gD g r⟩
 | obj C fs=>obtain ⟨dx,fws,e,r⟩:=r;exact ⟨dx,fws,(k rfl).trans e,Paired.gD g r⟩
 | exc C fs=>obtain ⟨fws,⟨oe,dx,od,av,h1,h2,h3,h4,h5⟩,r⟩:=r;exact ⟨fws,⟨oe,dx,od,av,g.ef _ _ _ h1,h2,h3,h4,g.ef _ _ _ h5⟩,Paired.gD g r⟩
theorem Gr.new{p : U9}{o : HO}(hp : H p = UX)(l : List U9) : Gr ρ H (ρ ++ l) (upd H p o) :=
  ⟨λn a e => by rw [Vx (Vk.mp e).1]; exact e,
   λa xs e => by rw [aw (aq e hp)]; exact e, λa o u e => by rw [aw (aq e hp)]; exact e⟩
theorem Gr.kF{p:U9}{o:HO}(hp:H p=UX):Gr ρ H ρ (upd H p o):=by simpa using Gr.new (ρ := ρ) (o:=o) hp []
theorem cj.tup(s:cj K ρ h H){p:U9}{o:HO}(hp:H p=UX):cj K ρ h (upd H p o) :=
 ⟨s.len,s.nd,λi x a e1 e2=>ky (Gr.kF hp) (λm=>by
  have:=iD m (s.ob i x a e1 e2);refine aw ?_;obtain⟨_,z,_⟩:=this;exact aq z hp) (s.ob i x a e1 e2)⟩
theorem cj.new(s:cj K ρ h H){p:U9}{ho:HO}{o:PO}(hp:H p=UX)(r:kH K (ρ ++[p]) (upd H p ho) p o):cj K (ρ ++[p]) (h++[o]) (upd H p ho):=by
 have g:Gr ρ H (ρ ++[p]) (upd H p ho):=Gr.new hp [p];have old: ∀{i:Nat}{x:PO},(h++[o])[i]?=UU x->(i < h.length/\h[i]?=UU x)\/(i=h.length/\x=o):=λ{i x} e=>by
  rcases X7 i h.length with z | z
  . rw[Vx z] at e;exact .inl ⟨z,e⟩
  . rw[VJ z] at e;have:i - h.length=0:=by
     rcases Nat.eq_zero_or_pos (i - h.length) with y | y
     . exact y
     . rw[XC (by simp;omega)] at e;nomatch e
    rw[this] at e;exact .inr ⟨by omega,by simpa using e.symm⟩
 have oldρ : ∀{i:Nat}{a:U9},i < h.length->(ρ ++[p])[i]?=UU a-> ρ[i]?=UU a:=λ{i a} z e=>by
  rw[Vx (by rw[s.len];exact z)] at e;exact e
 have newρ : ∀{a:U9},(ρ ++[p])[h.length]?=UU a->a=p:=λ{a} e=>by
  rw[<- s.len,VJ (Vb _)] at e;simpa using e.symm
 refine⟨by simp[s.len],λi j a oi oj ei ej mi mj ri rj=>?_,λi x a e1 e2=>?_⟩
 . rcases old ei with⟨zi,ei⟩ | ⟨zi,ei⟩<;>rcases old ej with⟨zj,ej⟩ | ⟨zj,ej⟩
   . exact s.nd i j a oi oj ei ej mi mj (oldρ zi ri) (oldρ zj rj)
   . subst zj;have:=iD mi (s.ob i oi a ei (oldρ zi ri));rw[newρ rj] at this;obtain⟨_,z,_⟩:=this;rw[hp] at z;nomatch z
   . subst zi;have:=iD mj (s.ob j oj a ej (oldρ zj rj));rw[newρ ri] at this;obtain⟨_,z,_⟩:=this;rw[hp] at z;nomatch z
   . rw[zi,zj]
 . rcases old e1 with⟨z,e⟩ | ⟨z,e⟩
   . refine ky g (λm=>?_) (s.ob i x a e (oldρ z e2));have:=iD m (s.ob i x a e (oldρ z e2));refine aw ?_;obtain ⟨_,y,_⟩:=this;exact aq y hp
   . subst z;subst e;rw [newρ e2];exact r
theorem Gr.BD{a : U9}{ho : HO}(m : P6 H a) : Gr ρ H ρ (upd H a ho) := by
  obtain ⟨o, z, n1, n2⟩ := m;refine ⟨λ_ _ h => h, λb xs e => ?_, λb o u e => ?_⟩ <;> (rw [aw]; · exact e)
  . rintro rfl; rw [z] at e; exact n1 _ (V4 e)
  . rintro rfl; rw [z] at e; exact n2 _ _ (V4 e)
theorem Gr.write{a:U9}{ho:HO}(m:(∃ vs,H a=UU (.lst vs))∨ ∃ kws,H a=UU (.dK kws)):Gr ρ H ρ (upd H a ho) :=
 Gr.BD (m.elim (λ⟨_,z⟩=>⟨_,z,(λ_ z=>HO.noConfusion z),λ_ _ z=>HO.noConfusion z⟩) λ⟨_,z⟩=>⟨_,z,(λ_ z=>HO.noConfusion z),λ_ _ z=>HO.noConfusion z⟩)
theorem cj.write(s:cj K ρ h H){i:Nat}{a:U9}{ho:HO}{o o':PO}(e:h[i]?=UU o)(ea: ρ[i]?=UU a)(m:o.fP=true)(m':o'.fP=true)(r:kH K ρ (upd H a ho) a o') :
  cj K ρ (h.set i o') (upd H a ho):=by
 have ma:=iD m (s.ob i o a e ea);have g:Gr ρ H ρ (upd H a ho):=Gr.BD ma;have hi:i < h.length:=(Vk.mp e).1;have at_: ∀{j:Nat}{x:PO},(h.set i o')[j]?=UU x->(j=i/\x=o')\/(j≠i/\h[j]?=UU x):=λ{j x} q=>by
  by_cases z:j=i
  . subst z;rw[VL hi] at q;exact .inl ⟨rfl,by simpa using q.symm⟩
  . rw[Vp (Xf z)] at q;exact .inr ⟨z,q⟩
 refine⟨by simp[s.len],λj k b oj ok ej ek mj mk rj rk=>?_,λj x b e1 e2=>?_⟩
 . rcases at_ ej with⟨zj,_⟩ | ⟨_,ej2⟩<;>rcases at_ ek with⟨zk,_⟩ | ⟨_,Sr⟩
   . rw[zj,zk]
   . rw[zj] at rj ⊢; exact s.nd _ _ b o ok e Sr m mk rj rk
   . rw[zk] at rk ⊢; exact s.nd _ _ b oj o ej2 e mj m rj rk
   . exact s.nd j k b oj ok ej2 Sr mj mk rj rk
 . rcases at_ e1 with⟨rfl,rfl⟩ | ⟨z,e1⟩
   . rw[ea] at e2;cases e2;exact r
   . refine ky g (λmx=>aw λq=>z ?_) (s.ob j x b e1 e2);subst q;exact s.nd j i b x o e1 e mx m e2 ea
end
inductive RV(α :Type) where
 | ok (a: α) (h:PH) | ex (c:Nat) (vs:List (Str × PV)) (h:PH) | no
variable{α β :Type}
noncomputable def RV.bind:RV α ->(α ->PH->RV β)->RV β
 | .ok a h,f=>f a h
 | .ex c vs h,_=> .ex c vs h
 | .no,_=> .no
theorem iJ:(RV.ok a h).bind f=f a h:=rfl
theorem bind_eq{r:RV α}:r.bind f= .ok b h'↔ ∃ a h,r= .ok a h/\f a h= .ok b h':=by
 cases r with
 | ok a h=>exact⟨λe=>⟨a,h,rfl,e⟩,by rintro ⟨a',h2,e,q⟩;exact by cases e;exact q⟩
 | ex c vs h=>exact⟨λe=>(by cases e),by simp_all⟩
 | no=>exact⟨λe=>(by cases e),by simp_all⟩
theorem BJ[Decidable c]{ b:RV α}:(if c then a else b).bind f=if c then a.bind f else b.bind f:=by split<;>rfl
def Ok(r:RV α)(Q: α ->PH->Prop):= ∃ a h,r= .ok a h/\Q a h
abbrev CF:=String->List PV->PH->RV PV
abbrev ME:=CF->aM->PH->RV PV
abbrev MT:=CF->aM->PH->RV Bool
abbrev MA:=CF->aM->PH->RV (List PV)
inductive Fl where
 | nx (e:aM) | rt (v:PV) | bk (e:aM) | ct (e:aM)
abbrev MS:=CF->aM->PH->RV Fl
abbrev MG:=PV->aM->PH->RV aM
structure qw where
 gd:Option Nat
 items:List PV
abbrev MI:=CF->aM->PH->RV qw
structure Df where
 ps:List Str
 nl:Nat
 body:MS
structure Tb where
 fns:String->Option Df
 con:Str->Option PV
 sd:Str->Option (List (Key × PV))
 RE:String->Option (String × Str × Df)
 cls:String->Option (Nat × String)
 adr:String->Option (Nat × List Str)
 rz:String->Bool:=λ_=>false
noncomputable def Tb.df(pg:Tb)(f:String):Option Df:=match pg.fns f with
 | some d=>UU d
 | none=>(pg.RE f).map (·.2.2)
def bW(n:Nat):PH->PH->Bool
 | [],_=>true
 | _::_,[]=>false
 | o::h,o'::h'=>(decide (o=o')||(o'.iF n&&o.fP == o'.fP))&&bW n h h'
def settle(h:PH)(v:PV)(h':PH):RV PV:=if (v.flat&&bW h.length h h')=true then .ok v (h'.take h.length) else .ok v h'
def dg(h:PH)(C:Nat)(us:List (Str × PV))(h':PH):RV PV:=if (PV.c6 (us.map (·.2))&&bW h.length h h')=true then .ex C us (h'.take h.length) else .ex C us h'
theorem gQ n: ∀ h g,bW n h (h++g)=true
 | [],g=>rfl
 | o::h,g=>by rw[WQ,bW,gQ n h g];simp
theorem mO(hu:o'.iF n=true): ∀ h h' i o,bW n h h'=true->h[i]?=UU o->o.fP=o'.fP->bW n h (h'.set i o')=true
 | [],h',i,o,_,e,_=>by simp at e
 | a::h,[],i,o,q,_,_=>by simp[bW] at q
 | a::h,b::h',0,o,q,e,m=>by
  rw[bW,Vc] at q;simp at e;subst e;rw[Y2,bW,q.2,hu,m];simp
 | a::h,b::h',i+1,o,q,e,m=>by
  rw[bW,Vc] at q;rw[Y3,bW,mO hu h h' i o q.2 (by simpa using e) m,q.1];rfl
theorem mU: ∀{h h'},bW n h h'=true->h.length<=h'.length
 | [],h',_=>V2 _
 | o::h,[],e=>by simp[bW] at e
 | o::h,o'::h',e=>by
  rw[bW,Vc] at e;exact Nat.succ_le_succ (mU e.2)
theorem pU: ∀{h h'}{i:Nat}{o'},bW n h h'=true->(h'.take h.length)[i]?=UU o'-> ∃ o,h[i]?=UU o/\o.fP=o'.fP/\(o=o'\/o'.iF n=true)
 | [],h',i,o',_,e=>by simp at e
 | a::h,[],i,o',q,_=>by simp[bW] at q
 | a::h,b::h',0,o',q,e=>by
  rw[bW,Vc,YU,Vc] at q;simp at e;subst e;refine⟨a,rfl,?_,?_⟩
  . rcases q.1 with z | z
    . rw[of_decide_eq_true z]
    . simpa using z.2
  . rcases q.1 with z | z
    . exact .inl (of_decide_eq_true z)
    . exact .inr z.1
 | a::h,b::h',i+1,o',q,e=>by
  rw[bW,Vc] at q;simpa using pU q.2 (by simpa using e)
def run(pg:Tb):Nat->CF
 | 0,_,_,_=> .no
 | k+1,f,vs,h=>match pg.df f with
  | none=>(match pg.cls f with
   | some q=>(match run pg k q.2 (.ref h.length::vs) (h++[.obj q.1 []]) with
    | .ok .non h'=> .ok (.ref h.length) h'
    | _=> .no)
   | none=>(match pg.adr f with
    | some q=> .ok (.int q.1) h
    | none=> .no))
  | some d=>if vs.length=d.ps.length then
    (match d.body (run pg k) (vs.map UU++U8 d.nl UX) h with
    | .ok (.rt v) h'=>settle h v h'
    | .ok (.nx _) h'=>settle h .non h'
    | .ok _ _=> .no
    | .ex c us h'=>if pg.rz f=true then dg h c us h' else .no
    | .no=> .no)
   else .no
theorem nR{pg:Tb}{f:String}{d:Df}(h:pg.fns f=UU d):pg.df f=UU d:=by unfold Tb.df;rw[h]
def cL(K:UW)(ρ :List U9) H v h' (Q:VK):= ∀ v' ρ' H',Gr ρ H ρ' H'->cj K ρ' h' H'->rel K ρ' H' v v'->Q v' H'
def j0(K:UW)(ρ :List U9) H h' (Q:Hp->Prop):= ∀ ρ' H',Gr ρ H ρ' H'->cj K ρ' h' H'->Q H'
def HP(K:UW)(ρ :List U9) H (vs:List PV) h' (Q:List V->Hp->Prop):= ∀ us ρ' H',Gr ρ H ρ' H'->cj K ρ' h' H'->ak K ρ' H' vs us->Q us H'
def d8(K:UW)(ρ :List U9)(H:Hp)(C:Nat)(us:List (Str × PV))(h':PH)(E:XK):Prop:= ∀ dx od fws ρ' H',Gr ρ H ρ' H'->cj K ρ' h' H'->H' dx=UU (.ef od (.xd fws))->Ws (λ(p:Str × PV) (q:Str × V)=>p.1=q.1∧rel K ρ' H' p.2 q.2) us fws->E (.ref C) (UU dx) H'
structure cg (K:UW) (ρ :List U9) (H:Hp) (e:aM) (σ :L2.St):Prop where
 len:e.length= σ.length
 get: ∀(i:Nat)(v:PV),e[i]?=UU (UU v)-> ∃ v', σ[i]?=UU (UU v')∧rel K ρ H v v'
def gp(K:UW)(ρ :List U9) H e' h' (Q:L2.St->Hp->Prop):= ∀ σ' ρ' H',Gr ρ H ρ' H'->cj K ρ' h' H'->cg K ρ' H' e' σ'->Q σ' H'
def qf(K:UW)(ρ :List U9)(H:Hp)(D:Ends)(h':PH):Fl->Prop
 | .nx e=>gp K ρ H e h' D.nx
 | .bk e=>gp K ρ H e h' D.bk
 | .ct e=>gp K ρ H e h' D.ct
 | .rt v=>cL K ρ H v h' D.rt
section
variable{K:UW}{ρ ρ1:List U9}{H H1:Hp}{h':PH}
theorem cg.gr(r:cg K ρ H e σ)(g:Gr ρ H ρ1 H1):cg K ρ1 H1 e σ :=⟨r.len,λi v q=>by obtain⟨v',a,b⟩:=r.get i v q;exact⟨v',a,rel.gr g _ _ b⟩⟩
theorem cg.set(r:cg K ρ H e σ) i (h:rel K ρ H v v'):cg K ρ H (e.set i (UU v)) (σ.set i (UU v')):=by
 refine⟨by simp[r.len],λj x q=>?_⟩;by_cases z:j=i
 . subst z;have hj:j < e.length:=by
    have:=(Vk.mp q).1;simpa using this
   rw[VL hj] at q;cases q;exact⟨v',VL (by rw[<- r.len];exact hj),h⟩
 . rw[Vp (Xf z)] at q ⊢;exact r.get j x q
theorem cg.more(r:cg K ρ H e σ) k:cg K ρ H (e++U8 k UX) (σ ++U8 k UX):=by
 refine⟨by simp[r.len],λj x q=>?_⟩;rcases X7 j e.length with z | z
 . rw[Vx z] at q;rw[Vx (by rw[<- r.len];exact z)];exact r.get j x q
 . rw[VJ z,WJ] at q;split at q<;>nomatch q
theorem cL.gr(p:cL K ρ H v h' Q)(g:Gr ρ H ρ1 H1):cL K ρ1 H1 v h' Q:=λv' ρ' H' g'=>p v' ρ' H' (g.trans g')
theorem d8.gr{C:Nat}{us:List (Str × PV)}{E:XK}(p:d8 K ρ H C us h' E)(g:Gr ρ H ρ1 H1):d8 K ρ1 H1 C us h' E:=λdx od fws ρ' H' g'=>p dx od fws ρ' H' (g.trans g')
theorem j0.gr(p:j0 K ρ H h' Q)(g:Gr ρ H ρ1 H1):j0 K ρ1 H1 h' Q:=fun ρ' H' g'=>p ρ' H' (g.trans g')
theorem gp.gr(p:gp K ρ H e h' Q)(g:Gr ρ H ρ1 H1):gp K ρ1 H1 e h' Q:=λv' ρ' H' g'=>p v' ρ' H' (g.trans g')
theorem qf.gr(p:qf K ρ H D h' f)(g:Gr ρ H ρ1 H1):qf K ρ1 H1 D h' f:=by
 cases f with
 | nx e=>exact gp.gr p g
 | bk e=>exact gp.gr p g
 | ct e=>exact gp.gr p g
 | rt e=>exact cL.gr p g
end
def SE c (K:UW) (t:TE) (m:ME):= ∀ ρ h H e σ Q v h',cj K ρ h H->cg K ρ H e σ ->m c e h= .ok v h'->cL K ρ H v h' Q->t σ H Q
def ST c (K:UW) (t:TT) (m:MT):= ∀ ρ h H e σ Q b h',cj K ρ h H->cg K ρ H e σ ->m c e h= .ok b h'->j0 K ρ H h' (Q b)->t σ H Q
def SA c (K:UW) (t:TA) (m:MA):= ∀ ρ h H e σ Q vs h',cj K ρ h H->cg K ρ H e σ ->m c e h= .ok vs h'->HP K ρ H vs h' Q->t σ H Q
def SS c (K:UW) (t:TS) (m:MS):= ∀ ρ h H e σ D f h',cj K ρ h H->cg K ρ H e σ ->m c e h= .ok f h'->qf K ρ H D h' f->t D σ H
def SG(K:UW)(t:TG)(m:MG):= ∀ ρ h H e σ Q v v' e' h',cj K ρ h H->cg K ρ H e σ ->rel K ρ H v v'->m v e h= .ok e' h'->gp K ρ H e' h' Q->t v' σ H Q
noncomputable def qw.lC(it:qw)(h:PH):Bool:=match it.gd with
 | none=>true
 | some n=>decide (h[n]?=UU (.lst it.items)\/h[n]?=UU (.jA it.items))
def SX(K:UW)(ρ0:List U9) H0 (J:It) (it:qw):= ∀ i ρ h H,Gr ρ0 H0 ρ H->cj K ρ h H->it.lC h=true ->
 (∀ x,it.items[i]?=UU x->J.go i H∧ ∀ v H',J.NI i H v H'-> ∃ ρ',Gr ρ H ρ' H'∧cj K ρ' h H'∧rel K ρ' H' x v)∧(i=it.items.length->J.stop i H)
def SI c (K:UW) (t:TI) (m:MI):= ∀ ρ h H e σ R it h',cj K ρ h H->cg K ρ H e σ ->m c e h= .ok it h'->(∀ ρ' H' J,Gr ρ H ρ' H'->cj K ρ' h' H'->SX K ρ' H' J it->R J H')->t σ H R
def kb(K:UW)(pg:Tb)(k:Nat)(f:String):Sp:=λvs H Q E=>(∃ ρ h args v h',cj K ρ h H∧ak K ρ H args vs∧run pg k f args h= .ok v h'∧cL K ρ H v h' Q)∨ ∃ ρ h args C us h',cj K ρ h H∧ak K ρ H args vs∧run pg k f args h= .ex C us h'∧d8 K ρ H C us h' E
noncomputable def fk:List Str:=["len", "range", "isinstance", "int", "bool", "tuple", "dict", "sorted", "min", "max", "abs", "all", "any", "sum", "str", "list", "zip", "set", "repr", "enumerate"]
def xT(K:UW)(v:V):= ∀ a,v= .ref a-> ∃ o,K.lookup a=UU o∧o.cls= .type "tuple" ∧o.dict=UX
structure Oy (K:UW) (mg:Str->Option U1) (pg:Tb):Prop where
 adr: ∀ c q,pg.adr c=UU q->RP K q.1∧ ∀ f∈q.2,JV K q.1 f
 cls: ∀ x q,pg.cls x=UU q->mg (U0 x)=UU (.ref q.1)/\acX K q.1=true/\Wh K (.ref q.1)=true/\ ∃ c d l,pg.RE q.2=UU (c,("__init__" :Str),d)/\pg.adr c=UU (q.1,l)
def NK(P:VE)(w:VY)(K:UW)(mg:Str->Option U1)(base:Wb)(pg:Tb)(j:Nat):Prop :=
 ∀ fn c m d,pg.RE fn=UU (c,m,d)->pg.fns fn=UX/\ ∀ q,pg.adr c=UU q-> ∃ fa fd,Meth K q.1 m fa/\ig P w K mg base (i8 P w) j fa fd d.ps (kb K pg j fn)/\Binds K fd d.ps []
structure cm(X:Cx)(pg:Tb)(k:Nat):Prop where
 room:cG k X.A
 calm:X.calm=true
 dw: ∀ v s,¬ X.xe v s
 defs: ∀ f d,pg.fns f=UU d->hZ X.prog X.w X.K X.mg X.base (U0 f) k d.ps (kb X.K pg k f)
 blt: ∀ x∈fk,X.mg x=UX
 con: ∀ x v,pg.con x=UU v-> ∃ u v',X.mg x=UU u/\RelV v' u/\xT X.K v'/\ ∀ ρ H,rel X.K ρ H v v'
 sd: ∀ x kvs,pg.sd x=UU kvs-> ∃ a kws,X.mg x=UU (.ref a)/\KD X.prog X.w X.K a kws/\ ∀ ρ H,Ws (λ(p:Key × PV) (q:Key × V)=>p.1=q.1/\rel X.K ρ H p.2 q.2) kvs kws
 ct:Oy X.K X.mg pg
 mt: ∀ j,j<=k->NK X.prog X.w X.K X.mg X.base pg j
theorem cm.cD{X:Cx}{pg:Tb}{k:Nat}(a:cm X pg k)(vars:List Str)(scope:YD)(cl:List (Str × U9))(C:U9)(s₀ :U5)(H₀ :Hp)(ex:List U9)(pn:List (U9 × Obj)):cm (cD X vars scope cl C s₀ H₀ ex pn) pg k :=
 ⟨a.room,a.calm,a.dw,a.defs,a.blt,a.con,a.sd,a.ct,a.mt⟩
structure JE(X:Cx)(pg:Tb)(k:Nat)(e:VN)(m:ME):Prop where h:cm X pg k-> ∃ t,QE X e t/\SE (run pg k) X.K t m
structure JT(X:Cx)(pg:Tb)(k:Nat)(e:VN)(m:MT):Prop where h:cm X pg k-> ∃ t,QT X e t/\ST (run pg k) X.K t m
structure JW(X:Cx)(pg:Tb)(k:Nat)(e:VN)(m:MT):Prop where h:cm X pg k-> ∃ t,QW X e t/\ST (run pg k) X.K t m
structure JA(X:Cx)(pg:Tb)(k:Nat)(e:List VN)(m:MA):Prop where h:cm X pg k-> ∃ t,QA X e t/\SA (run pg k) X.K t m
structure JS(X:Cx)(pg:Tb)(k:Nat)(s:WV)(m:MS):Prop where h:cm X pg k-> ∃ t,QS X s t/\SS (run pg k) X.K t m
structure zG(X:Cx)(pg:Tb)(k:Nat)(s:List WV)(m:MS):Prop where h:cm X pg k-> ∃ t,Cr X s t/\SS (run pg k) X.K t m
structure JG(X:Cx)(pg:Tb)(k:Nat)(e:VN)(m:MG):Prop where h:cm X pg k-> ∃ t,QG X e t/\SG X.K t m
structure JI(X:Cx)(pg:Tb)(k:Nat)(tg e:VN)(m:MI):Prop where h:cm X pg k-> ∃ t,QI X tg e t/\SI (run pg k) X.K t m
structure JF(X:Cx)(pg:Tb)(k:Nat)(es:List VN)(m:MT):Prop where h:cm X pg k-> ∃ t,QF X es t/\ST (run pg k) X.K t m
def gz(K:UW)(ρ :List U9)(H:Hp)(Q:VK)(E:XK):RV PV->Prop
 | .ok v h'=>cL K ρ H v h' Q
 | .ex C us h'=>d8 K ρ H C us h' E
 | .no=>False
def P4(K:UW)(ρ :List U9)(H:Hp)(Q:List V->Hp->Prop)(E:XK):RV (List PV)->Prop
 | .ok v h'=>HP K ρ H v h' Q
 | .ex C us h'=>d8 K ρ H C us h' E
 | .no=>False
def gi(K:UW)(ρ :List U9)(H:Hp)(D:Ends)(E:XK):RV Fl->Prop
 | .ok f h'=>qf K ρ H D h' f
 | .ex C us h'=>d8 K ρ H C us h' E
 | .no=>False
def QH(E:XK)(c:CF)(K:UW)(t:TE)(m:ME):Prop:= ∀ ρ h H e σ Q,cj K ρ h H->cg K ρ H e σ ->gz K ρ H Q E (m c e h)->t σ H Q
def Tz(E:XK)(c:CF)(K:UW)(t:TA)(m:MA):Prop:= ∀ ρ h H e σ Q,cj K ρ h H->cg K ρ H e σ ->P4 K ρ H Q E (m c e h)->t σ H Q
def RC(E:XK)(c:CF)(K:UW)(t:TS)(m:MS):Prop:= ∀ ρ h H e σ D,cj K ρ h H->cg K ρ H e σ ->gi K ρ H D E (m c e h)->t D σ H
structure pe(X:Cx)(pg:Tb)(k:Nat)(E:XK):Prop where
 a:cm X.dw pg k
 pc:gy X E
 own:Cg X E
structure oy(X:Cx)(pg:Tb)(k:Nat)(E:XK)(e:VN)(m:ME):Prop where h:pe X pg k E-> ∃ t,QE X e t/\QH E (run pg k) X.K t m
structure GX(X:Cx)(pg:Tb)(k:Nat)(E:XK)(e:List VN)(m:MA):Prop where h:pe X pg k E-> ∃ t,QA X e t/\Tz E (run pg k) X.K t m
structure zI(X:Cx)(pg:Tb)(k:Nat)(E:XK)(s:WV)(m:MS):Prop where h:pe X pg k E-> ∃ t,QS X s t/\RC E (run pg k) X.K t m
structure nu(X:Cx)(pg:Tb)(k:Nat)(E:XK)(s:List WV)(m:MS):Prop where h:pe X pg k E-> ∃ t,Cr X s t/\RC E (run pg k) X.K t m
def JB(X:Cx)(pg:Tb)(k:Nat)(f:String)(E:XK)(s:List WV)(m:MS):Prop:=(pg.rz f=false/\zG X.dw pg k s m)\/nu X pg k E s m
def ke(K:UW)(r:R2)(f:PV->PV->PH->RV PV):= ∀ ρ h H x y x' y' Q v h',cj K ρ h H->rel K ρ H x x'->rel K ρ H y y'->f x y h= .ok v h'->cL K ρ H v h' Q->r x' y' H Q
def zC(K:UW)(r:List V->Hp->VK->Prop)(f:List PV->PH->RV PV):= ∀ ρ h H xs us Q v h',cj K ρ h H->ak K ρ H xs us->f xs h= .ok v h'->cL K ρ H v h' Q->r us H Q
def Nv(K:UW)(T:String)(r:V->List V->Hp->VK->Prop)(f:PV->List PV->PH->RV PV)(ty:PV->PH->Bool) :=
 (∀ ρ h H x x',cj K ρ h H->rel K ρ H x x'->ty x h=true->Qp K T x' H) /\
 ∀ ρ h H x x' xs us Q v h',cj K ρ h H->rel K ρ H x x'->ak K ρ H xs us->f x xs h= .ok v h'->cL K ρ H v h' Q->r x' us H Q
noncomputable def aa(i:Nat):ME:=λ_ e h=>match e[i]? with
 | some (UU v)=> .ok v h
 | _=> .no
noncomputable def eC(v:PV):ME:=λ_ _ h=> .ok v h
def ay(f:PV->PV->PH->RV PV)(a b:ME):ME:=λc e h=>(a c e h).bind λx h1=>(b c e h1).bind λy h2=>f x y h2
def jV(f:PV->PH->RV PV)(a:ME):ME:=λc e h=>(a c e h).bind f
noncomputable def rZ(v:PV)(h:PH):RV Bool:=match v with
 | .bl b=> .ok b h
 | _=> .no
def uo(a b:ME):ME:=λc e h=>((a c e h).bind rZ).bind λx h1=>if x=true then b c e h1 else .ok (.bl false) h1
def O6(a b:ME):ME:=λc e h=>((a c e h).bind rZ).bind λx h1=>if x=true then .ok (.bl true) h1 else b c e h1
def Nb(a:ME):ME:=λc e h=>((a c e h).bind rZ).bind λx h1=> .ok (.bl (!x)) h1
def yZ(t:MT)(a b:ME):ME:=λc e h=>(t c e h).bind λx h1=>if x=true then a c e h1 else b c e h1
def aC(a:ME):MT:=λc e h=>(a c e h).bind rZ
def iE(a b:MT):MT:=λc e h=>(a c e h).bind λx h1=>if x=true then b c e h1 else .ok false h1
def rF(a b:MT):MT:=λc e h=>(a c e h).bind λx h1=>if x=true then .ok true h1 else b c e h1
def fB(a:MT):MT:=λc e h=>(a c e h).bind λx h1=> .ok (!x) h1
noncomputable def bf:MT:=λ_ _ h=> .ok true h
noncomputable def aj:MA:=λ_ _ h=> .ok [] h
def ae(a:ME)(r:MA):MA:=λc e h=>(a c e h).bind λx h1=>(r c e h1).bind λxs h2=> .ok (x::xs) h2
noncomputable def oX n (r:RV α):=if n<=Vj then r else .no
def cU(r:MA):ME:=λc e h=>(r c e h).bind λxs h1=>oX xs.length (.ok (.tup xs) h1)
def bh(r:MA):ME:=λc e h=>(r c e h).bind λxs h1=>oX xs.length (.ok (.ref h1.length) (h1++[.lst xs]))
def ai(f:String)(r:MA):ME:=λc e h=>(r c e h).bind λxs h1=>c f xs h1
def eB(f:List PV->PH->RV PV)(r:MA):ME:=λc e h=>(r c e h).bind f
def eM(f:PV->List PV->PH->RV PV)(ty:PV->PH->Bool)(a:ME)(r:MA):ME:=λc e h=>(a c e h).bind λx h1=>if ty x h1=true then(r c e h1).bind λxs h2=>f x xs h2 else .no
def jk(f g:PV->PV->PH->RV PV)(a b d:ME):ME:=λc e h=>(a c e h).bind λx h1=>(b c e h1).bind λy h2=>((f x y h2).bind rZ).bind λk h3=>if k=true then(d c e h3).bind λz h4=>g y z h4 else .ok (.bl false) h3
theorem gR:oX n r= .ok a h↔n<=Vj/\r= .ok a h:=by
 unfold oX;split
 . exact⟨λe=>⟨by assumption,e⟩,λe=>e.2⟩
 . exact⟨λe=>(by cases e),λe=>absurd e.1 (by assumption)⟩
theorem nk:rZ v h= .ok b h'↔v= .bl b/\h'=h:=by
 cases v<;>simp[rZ,eq_comm]
section
variable{X:Cx}{pg:Tb}{k:Nat}{a b c d e:VN}{es:List VN}{ma mb mc md:ME}{mr:MA}{mt mt':MT}{pos p pos' apos cpos:Pos}{x:Str}
theorem KU i (hN:X.N[i]?=UU x:=by rfl) (hv:Ic X.env.scope x:=by first | exact YZ rfl | exact Yq (YZ rfl) | exact Yq (Yq rfl)) (hd:(x == ("__debug__"))=false:=by decide)
  (hcd:(x == ("__classdict__"))=false:=by decide):JE X pg k (.Name x pos) (aa i):=⟨λA=>⟨_,qv i hN hv hd hcd,fun ρ h H e σ Q v h' s r q P=>by
 unfold aa at q;split at q
 . cases q;obtain⟨v',e1,e2⟩:=r.get i v (by assumption);exact⟨v',e1,P v' ρ H (.refl _ _) s e2⟩
 . cases q⟩⟩
theorem vG{K}(hr: ∀ ρ H,rel K ρ H v v'):SE cf K (tC v') (eC v):=fun ρ h H e σ Q w h' s r q P=>by cases q;exact P v' ρ H (.refl _ _) s (hr ρ H)
theorem KQ:JE X pg k (.Constant (.int n) j pos) (eC (.int n)):=⟨λA=>⟨_,JY,vG fun ρ H=>by rw[rel]⟩⟩
theorem P5:JE X pg k (.Constant (.bool n) j pos) (eC (.bl n)):=⟨λA=>⟨_,OP,vG fun ρ H=>by rw[rel]⟩⟩
theorem Mu:JE X pg k (.Constant .none j pos) (eC .non):=⟨λA=>⟨_,IF,vG fun ρ H=>by rw[rel]⟩⟩
theorem Me:JE X pg k (.Constant (.str n) j pos) (eC (.str n)):=⟨λA=>⟨_,Aq,vG fun ρ H=>by rw[rel]⟩⟩
theorem IS(hc:pg.con x=UU v)(hg:Gl X x)(hd:(x == ("__debug__"))=false:=by decide):JE X pg k (.Name x pos) (eC v):=⟨λA=>by obtain⟨u,v',e1,e2,_,e3⟩:=A.con x v hc;exact⟨_,Ed hg e1 e2 hd,vG e3⟩⟩
theorem wq(hg:Gl X x)(hb:x∈fk)(hv:Wm x=UU (.type T))(hn:x≠ "__name__" :=by decide)(hd:(x == ("__debug__"))=false:=by decide):JE X pg k (.Name x pos) (eC (.ty T)) :=
 ⟨λA=>⟨_,FR (v:= .ty T) hg (A.blt x hb) hv rfl hn hd,vG fun ρ H=>by rw[rel]⟩⟩
theorem w5{K}(ho:ke K r f)(ha:SE cf K ta ma)(hb:SE cf K tb mb):SE cf K (Ej r ta tb) (ay f ma mb):=fun ρ h H e σ Q v h' s r q P=>by
 obtain⟨x,h1,e1,q⟩:=bind_eq.mp q;obtain⟨y,h2,e2,q⟩:=bind_eq.mp q;refine ha ρ h H e σ _ x h1 s r e1 λx' ρ1 H1 g1 s1 r1=>?_;refine hb ρ1 h1 H1 e σ _ y h2 s1 (r.gr g1) e2 λy' ρ2 H2 g2 s2 r2=>?_;exact ho ρ2 h2 H2 x y x' y' Q v h' s2 (rel.gr g2 _ _ r1) r2 q (P.gr (g1.trans g2))
theorem QX(ho:cm X pg k-> ∃ r,cI X (Wv op) r/\ke X.K r f)(ha:JE X pg k a ma)(hb:JE X pg k b mb):JE X pg k (.BinOp a op b pos) (ay f ma mb):=⟨λA =>
 let ⟨_,q1,s1⟩:=ha.h A;let ⟨_,q2,s2⟩:=hb.h A;by obtain⟨_,q,s⟩:=ho A;exact⟨_,Ra q q1 q2,w5 s s1 s2⟩⟩
theorem BK(ho:cm X pg k-> ∃ r,cI X (VF op) r/\ke X.K r f)(ha:JE X pg k a ma)(hb:JE X pg k b mb)(hm:Wg op b=false):JE X pg k (.Compare a [op] [b] pos) (ay f ma mb):=⟨λA =>
 let ⟨_,q1,s1⟩:=ha.h A;let ⟨_,q2,s2⟩:=hb.h A;by obtain⟨_,q,s⟩:=ho A;exact⟨_,GZ q q1 q2 hm,w5 s s1 s2⟩⟩
theorem kf{K}(ha:SE cf K ta ma):ST cf K (uc ta) (aC ma):=fun ρ h H e σ Q v h' s r q P=>by
 obtain⟨x,h1,e1,q⟩:=bind_eq.mp q;obtain⟨rfl,rfl⟩:=nk.mp q;refine ha ρ h H e σ _ _ _ s r e1 λx' ρ1 H1 g1 s1 r1=>?_;exact⟨v,r1,P ρ1 H1 g1 s1⟩
theorem AZ(ho:cm X pg k-> ∃ r,cI X (VF op) r/\ke X.K r f)(ha:JE X pg k a ma)(hb:JE X pg k b mb)(hm:Wg op b=false):JT X pg k (.Compare a [op] [b] pos) (aC (ay f ma mb)):=⟨λA =>
 let ⟨_,q1,s1⟩:=ha.h A;let ⟨_,q2,s2⟩:=hb.h A;by obtain⟨_,q,s⟩:=ho A;exact⟨_,Eh q q1 q2 hm,kf (w5 s s1 s2)⟩⟩
theorem Md(ha:JE X pg k e ma)(he: ∀ whole,ab1 e X.env whole=(do let v <- whole;acj e.pos;ZD [v] (truthy v)):=by intro _;rfl):JT X pg k e (aC ma):=⟨λA =>
 by obtain⟨_,q1,s1⟩:=ha.h A;exact⟨_,AM q1 he,kf s1⟩⟩
theorem Qx{op:UnaryOp}{f:PV->PH->RV PV}(ho:cm X pg k-> ∃ r,Nw X (ac1 op) r/\ ∀ ρ h H x x' Q v h',cj X.K ρ h H->rel X.K ρ H x x'->f x h= .ok v h'->cL X.K ρ H v h' Q->r x' H Q)(ha:JE X pg k a ma):JE X pg k (.UnaryOp op a pos) (jV f ma):=⟨λA =>
 let ⟨_,q1,s1⟩:=ha.h A;let ⟨_,q,s⟩:=ho A;⟨_,P7 q q1,fun ρ h H e σ Q v h' z r q P=>by
  obtain⟨x,h1,e1,q⟩:=bind_eq.mp q;exact s1 ρ h H e σ _ x h1 z r e1 λx' ρ1 H1 g1 z1 r1=>s ρ1 h1 H1 x x' Q v h' z1 r1 q (P.gr g1)⟩⟩
theorem IK(ha:JE X pg k a ma):JE X pg k (.UnaryOp .Not a pos) (Nb ma):=⟨λA =>
 by obtain⟨_,q1,s1⟩:=ha.h A;exact⟨_,Lo q1,fun ρ h H e σ Q v h' s r q P=>by
  obtain⟨x,h2,q2,q⟩:=bind_eq.mp q;obtain⟨y,h1,e1,q2⟩:=bind_eq.mp q2;obtain⟨rfl,rfl⟩:=nk.mp q2;cases q;refine s1 ρ h H e σ _ _ _ s r e1 λx' ρ1 H1 g1 z1 r1=>?_;exact⟨x,r1,P _ ρ1 H1 g1 z1 (by rw[rel])⟩⟩⟩
theorem K9(h:JE X pg k a ma):JE X pg k (.BoolOp op [a] pos) ma:=⟨λA=>by obtain⟨_,q1,s1⟩:=h.h A;exact⟨_,JD q1,s1⟩⟩
theorem Kj{rest}(ha:JE X pg k a ma)(hb:JE X pg k (.BoolOp .And (b::rest) pos) mb):JE X pg k (.BoolOp .And (a::b::rest) pos) (uo ma mb):=⟨λA =>
 by obtain⟨_,q1,s1⟩:=ha.h A;exact by obtain⟨_,q2,s2⟩:=hb.h A;exact⟨_,Ml q1 q2,fun ρ h H e σ Q v h' s r q P=>by
  obtain⟨x,h2,q2,q⟩:=bind_eq.mp q;obtain⟨y,h1,e1,q2⟩:=bind_eq.mp q2;obtain⟨rfl,rfl⟩:=nk.mp q2;refine s1 ρ h H e σ _ _ _ s r e1 λx' ρ1 H1 g1 z1 r1=>?_;refine⟨x,r1,?_⟩;cases x with
  | true=>exact s2 ρ1 _ H1 e σ _ _ _ z1 (r.gr g1) q (P.gr g1)
  | false=>cases q;exact P _ ρ1 H1 g1 z1 (by rw[rel])⟩⟩
theorem OC{rest}(ha:JE X pg k a ma)(hb:JE X pg k (.BoolOp .Or (b::rest) pos) mb):JE X pg k (.BoolOp .Or (a::b::rest) pos) (O6 ma mb):=⟨λA =>
 by obtain⟨_,q1,s1⟩:=ha.h A;exact by obtain⟨_,q2,s2⟩:=hb.h A;exact⟨_,O4 q1 q2,fun ρ h H e σ Q v h' s r q P=>by
  obtain⟨x,h2,q2,q⟩:=bind_eq.mp q;obtain⟨y,h1,e1,q2⟩:=bind_eq.mp q2;obtain⟨rfl,rfl⟩:=nk.mp q2;refine s1 ρ h H e σ _ _ _ s r e1 λx' ρ1 H1 g1 z1 r1=>?_;refine⟨x,r1,?_⟩;cases x with
  | false=>exact s2 ρ1 _ H1 e σ _ _ _ z1 (r.gr g1) q (P.gr g1)
  | true=>cases q;exact P _ ρ1 H1 g1 z1 (by rw[rel])⟩⟩
theorem BN(hc:JT X pg k c mt)(ha:JE X pg k a ma)(hb:JE X pg k b mb):JE X pg k (.IfExp c a b pos) (yZ mt ma mb):=⟨λA =>
 by obtain⟨_,q0,s0⟩:=hc.h A;exact let ⟨_,q1,s1⟩:=ha.h A;let ⟨_,q2,s2⟩:=hb.h A;⟨_,uh q0 q1 q2,fun ρ h H e σ Q v h' s r q P=>by
  obtain⟨x,h1,e1,q⟩:=bind_eq.mp q;refine s0 ρ h H e σ _ _ _ s r e1 fun ρ1 H1 g1 z1=>?_;cases x with
  | true=>exact s1 ρ1 _ H1 e σ _ _ _ z1 (r.gr g1) q (P.gr g1)
  | false=>exact s2 ρ1 _ H1 e σ _ _ _ z1 (r.gr g1) q (P.gr g1)⟩⟩
theorem FX(ha:JT X pg k a mt):JW X pg k (.BoolOp .And [a] pos) mt:=⟨λA=>by obtain⟨_,q1,s1⟩:=ha.h A;exact⟨_,xD q1,s1⟩⟩
theorem Il(ha:JT X pg k a mt):JW X pg k (.BoolOp .Or [a] pos) mt:=⟨λA=>by obtain⟨_,q1,s1⟩:=ha.h A;exact⟨_,M8 q1,s1⟩⟩
theorem AK{rest}(ha:JT X pg k a mt)(hb:JW X pg k (.BoolOp .And (b::rest) pos) mt'):JW X pg k (.BoolOp .And (a::b::rest) pos) (iE mt mt'):=⟨λA =>
 by obtain⟨_,q1,s1⟩:=ha.h A;exact by obtain⟨_,q2,s2⟩:=hb.h A;exact⟨_,Cj q1 q2,fun ρ h H e σ Q v h' s r q P=>by
  obtain⟨x,h1,e1,q⟩:=bind_eq.mp q;refine s1 ρ h H e σ _ _ _ s r e1 fun ρ1 H1 g1 z1=>?_;cases x with
  | true=>exact s2 ρ1 _ H1 e σ _ _ _ z1 (r.gr g1) q (P.gr g1)
  | false=>cases q;exact P ρ1 H1 g1 z1⟩⟩
theorem Hl{rest}(ha:JT X pg k a mt)(hb:JW X pg k (.BoolOp .Or (b::rest) pos) mt'):JW X pg k (.BoolOp .Or (a::b::rest) pos) (rF mt mt'):=⟨λA =>
 by obtain⟨_,q1,s1⟩:=ha.h A;exact by obtain⟨_,q2,s2⟩:=hb.h A;exact⟨_,NS q1 q2,fun ρ h H e σ Q v h' s r q P=>by
  obtain⟨x,h1,e1,q⟩:=bind_eq.mp q;refine s1 ρ h H e σ _ _ _ s r e1 fun ρ1 H1 g1 z1=>?_;cases x with
  | false=>exact s2 ρ1 _ H1 e σ _ _ _ z1 (r.gr g1) q (P.gr g1)
  | true=>cases q;exact P ρ1 H1 g1 z1⟩⟩
theorem JW.pt(h:JW X pg k e mt):JT X pg k e mt:=⟨λA=>by obtain⟨_,q1,s1⟩:=h.h A;exact⟨_,q1.pt,s1⟩⟩
theorem L8(ha:JT X pg k a mt):JT X pg k (.UnaryOp .Not a pos) (fB mt):=⟨λA=>by obtain⟨_,q1,s1⟩:=ha.h A;exact⟨_,zL q1,fun ρ h H e σ Q v h' s r q P=>by
  obtain⟨x,h1,e1,q⟩:=bind_eq.mp q;cases q;exact s1 ρ h H e σ _ _ _ s r e1 fun ρ1 H1 g1 z1=>P ρ1 H1 g1 z1⟩⟩
theorem MR:JF X pg k [] bf:=⟨λA=>⟨_,MN,fun ρ h H e σ Q v h' s r q P=>by cases q;exact P ρ H (.refl _ _) s⟩⟩
theorem Jw(h:JT X pg k c mt):JF X pg k [c] mt:=⟨λA=>by obtain⟨_,q1,s1⟩:=h.h A;exact⟨_,Kb q1,s1⟩⟩
theorem J7:JA X pg k [] aj:=⟨λA=>⟨_,B9,fun ρ h H e σ Q v h' s r q P=>by cases q;exact P [] ρ H (.refl _ _) s (bG.mpr rfl)⟩⟩
theorem DL(ha:JE X pg k e ma)(hr:JA X pg k es mr)(hs:noStar e=true:=by rfl):JA X pg k (e::es) (ae ma mr):=⟨λA =>
 by obtain⟨_,q1,s1⟩:=ha.h A;exact by obtain⟨_,q2,s2⟩:=hr.h A;exact⟨_,qk q1 q2 hs,fun ρ h H e σ Q v h' s r q P=>by
  obtain⟨x,h1,e1,q⟩:=bind_eq.mp q;obtain⟨xs,h2,e2,q⟩:=bind_eq.mp q;cases q;refine s1 ρ h H e σ _ _ _ s r e1 λx' ρ1 H1 g1 z1 r1=>?_;refine s2 ρ1 h1 H1 e σ _ _ _ z1 (r.gr g1) e2 λus ρ2 H2 g2 z2 r2=>?_;exact P _ ρ2 H2 (g1.trans g2) z2 (aD.mpr ⟨x',us,rfl,rel.gr g2 _ _ r1,r2⟩)⟩⟩
theorem LW(h:JA X pg k es mr):JE X pg k (.Tuple es x1 pos) (cU mr):=⟨λA =>
 by obtain⟨_,q1,s1⟩:=h.h A;exact⟨_,vH q1,fun ρ h H e σ Q v h' s r q P=>by
  obtain⟨xs,h1,e1,q⟩:=bind_eq.mp q;obtain⟨hl,q⟩:=gR.mp q;cases q;refine s1 ρ h H e σ _ _ _ s r e1 λus ρ1 H1 g1 z1 r1=>⟨by rw[<- r1.len];exact hl,λp hp=>?_⟩
  refine P _ ρ1 _ (g1.trans (Gr.kF hp)) (z1.tup hp) ?_;exact⟨p,us,rfl,bb,ak.gr (Gr.kF hp) _ _ r1⟩⟩⟩
theorem fJ{K}(s:cj K ρ h H)(r:ak K ρ H xs us)(P:cL K ρ H (.ref h.length) (h++[.lst xs]) Q) p (hp:H p=UX):Q (.ref p) (upd H p (.lst us)):=by
 refine P _ (ρ ++[p]) _ (Gr.new hp [p]) (s.new hp ⟨us,bb,ak.gr (Gr.new hp [p]) _ _ r⟩) ?_;exact⟨p,by rw[<- s.len,VJ (Vb _)];simp,rfl⟩
theorem L6(h:JA X pg k es mr):JE X pg k (.List es pos) (bh mr):=⟨λA =>
 by obtain⟨_,q1,s1⟩:=h.h A;exact⟨_,IM q1,fun ρ h H e σ Q v h' s r q P=>by
  obtain⟨xs,h1,e1,q⟩:=bind_eq.mp q;obtain⟨hl,q⟩:=gR.mp q;cases q;exact s1 ρ h H e σ _ _ _ s r e1 λus ρ1 H1 g1 z1 r1=>⟨by rw[<- r1.len];exact hl,λp hp=>fJ z1 r1 (P.gr g1) p hp⟩⟩⟩
theorem FD{f:String}{d:Df}(hf:pg.fns f=UU d)(hg:Gl X (U0 f))(ha:JA X pg k (e::es) mr)(hdb:(U0 f == ("__debug__" :Str))=false:=by decide)(he:noStar e=true:=by rfl)(hpl:es.all noStar=true:=by rfl) :
  JE X pg k (.Call (.Name (U0 f) p) (e::es) [] pos) (ai f mr):=⟨λA =>
 let ⟨_,q1,s1⟩:=ha.h A;⟨_,qd (A.defs f d hf) A.room hg (Vb _) q1 hdb he hpl,fun ρ h H e σ Q v h' s r q P=>by
  obtain⟨xs,h1,e1,q⟩:=bind_eq.mp q;refine s1 ρ h H e σ _ _ _ s r e1 λus ρ1 H1 g1 z1 r1=>?_;rw[VM];exact .inl ⟨ρ1,h1,xs,v,h',z1,r1,q,P.gr g1⟩⟩⟩
theorem B2{f:String}{d:Df}(hf:pg.fns f=UU d)(hg:Gl X (U0 f))(hdb:(U0 f == ("__debug__" :Str))=false:=by decide) :
  JE X pg k (.Call (.Name (U0 f) p) [] [] pos) (ai f aj):=⟨λA =>
 ⟨_,UI (A.defs f d hf) A.room hg (Vb _) hdb,fun ρ h H e σ Q v h' s r q P=> .inl ⟨ρ,h,[],v,h',s,bG.mpr rfl,q,P⟩⟩⟩
theorem Qv{K}(ho:zC K r f)(ha:SA cf K ta mr):SE cf K (F6 r ta) (eB f mr):=fun ρ h H e σ Q v h' s r q P=>by
 obtain⟨xs,h1,e1,q⟩:=bind_eq.mp q;exact ha ρ h H e σ _ _ _ s r e1 λus ρ1 H1 g1 z1 r1=>ho ρ1 h1 H1 xs us Q v h' z1 r1 q (P.gr g1)
theorem DY{id}(hc:cm X pg k-> ∃ r,aU X (.builtin id) r/\zC X.K r f)(hg:Gl X x)(hb:x∈fk)(hv:Wm x=UU (.builtin id))(ha:JA X pg k (e::es) mr)
  (hn:x≠ "__name__" :=by decide) (hdb:(x == ("__debug__"))=false:=by decide) (he:noStar e=true:=by rfl) (hpl:es.all noStar=true:=by rfl):JE X pg k (.Call (.Name x p) (e::es) [] pos) (eB f mr):=⟨λA =>
 by obtain⟨_,q1,s1⟩:=ha.h A;exact by obtain⟨_,q,s⟩:=hc A;exact⟨_,qB q hg (A.blt x hb) hv q1 hn hdb he hpl,Qv s s1⟩⟩
theorem D0(hc:cm X pg k-> ∃ r,aU X (.type T) r/\zC X.K r f)(hg:Gl X x)(hb:x∈fk)(hv:Wm x=UU (.type T))(ha:JA X pg k (e::es) mr)
  (hn:x≠ "__name__" :=by decide) (hdb:(x == ("__debug__"))=false:=by decide) (he:noStar e=true:=by rfl) (hpl:es.all noStar=true:=by rfl):JE X pg k (.Call (.Name x p) (e::es) [] pos) (eB f mr):=⟨λA =>
 by obtain⟨_,q1,s1⟩:=ha.h A;exact by obtain⟨_,q,s⟩:=hc A;exact⟨_,qT q hg (A.blt x hb) hv q1 hn hdb he hpl,Qv s s1⟩⟩
theorem Ez{id}(pa:ab7 T)(slot:Slot T name id)(hty:typeOf (.builtin id)=pure (.type "method_descriptor"))(hm:cm X pg k-> ∃ r,xc X id r/\Nv X.K T r f ty)
  (ho:JE X pg k d md) (ha:JA X pg k [e] mr) (hbase:Xq d name X.env (WT d X.env)=WT d X.env:=by rfl) (hline:(apos.endLine == cpos.line)=true:=by rfl) (hs:noStar e=true:=by rfl) :
  JE X pg k (.Call (.Attribute d name apos) [e] [] cpos) (eM f ty md mr):=⟨λA =>
 by obtain⟨_,q0,s0⟩:=ho.h A;exact by obtain⟨_,q1,s1⟩:=ha.h A;exact by obtain⟨_,q,s⟩:=hm A;exact⟨_,Hu pa slot hty q q0 q1 hbase hline hs,fun ρ h H e σ Q v h' z r q P=>by
  obtain⟨x,h1,e1,q⟩:=bind_eq.mp q;refine s0 ρ h H e σ _ _ _ z r e1 λx' ρ1 H1 g1 z1 r1=>?_;split at q
  . rename_i ht;obtain⟨xs,h2,e2,q⟩:=bind_eq.mp q;refine⟨s.1 ρ1 h1 H1 x x' z1 r1 ht,?_⟩;exact s1 ρ1 h1 H1 e σ _ _ _ z1 (r.gr g1) e2 λus ρ2 H2 g2 z2 r2=>s.2 ρ2 h2 H2 x x' xs us Q v h' z2 (rel.gr g2 _ _ r1) r2 q (P.gr (g1.trans g2))
  . simp_all⟩⟩
theorem uz{K}(ho:ke K r f)(ho':ke K r' g)(ha:SE cf K ta ma)(hb:SE cf K tb mb)(hc:SE cf K tc mc):SE cf K (nN r r' ta tb tc) (jk f g ma mb mc):=fun ρ h H e σ Q v h' s r q P=>by
 obtain⟨x,h1,e1,q⟩:=bind_eq.mp q;obtain⟨y,h2,e2,q⟩:=bind_eq.mp q;obtain⟨z,h3,e3,q⟩:=bind_eq.mp q;obtain⟨z0,h4,e4,e5⟩:=bind_eq.mp e3;obtain⟨rfl,rfl⟩:=nk.mp e5;refine ha ρ h H e σ _ x h1 s r e1 λx' ρ1 H1 g1 s1 r1=>?_;refine hb ρ1 h1 H1 e σ _ y h2 s1 (r.gr g1) e2 λy' ρ2 H2 g2 s2 r2=>?_;refine ho ρ2 h2 H2 x y x' y' _ _ _ s2 (rel.gr g2 _ _ r1) r2 e4 λz' ρ3 H3 g3 s3 r3=>?_;refine⟨z,r3,?_⟩;cases z with
 | true =>
  obtain⟨w,h5,e5,q⟩:=bind_eq.mp q
  refine hc ρ3 _ H3 e σ _ w h5 s3 (r.gr ((g1.trans g2).trans g3)) e5 λw' ρ4 H4 g4 s4 r4=>?_
  exact ho' ρ4 h5 H4 y w y' w' Q v h' s4 (rel.gr (g3.trans g4) _ _ r2) r4 q (P.gr (((g1.trans g2).trans g3).trans g4))
 | false=>cases q;exact P _ ρ3 H3 ((g1.trans g2).trans g3) s3 (by rw[rel])
theorem Bv(ho:cm X pg k-> ∃ r,cI X (VF op) r/\ke X.K r f)(ho':cm X pg k-> ∃ r,cI X (VF op') r/\ke X.K r g)(ha:JE X pg k a ma)(hb:JE X pg k b mb)(hc:JE X pg k c mc)
  (hm:aaF [op,op'] [b,c]=false:=by with_unfolding_all rfl):JE X pg k (.Compare a [op,op'] [b,c] pos) (jk f g ma mb mc):=⟨λA =>
 let ⟨_,q1,s1⟩:=ha.h A;let ⟨_,q2,s2⟩:=hb.h A;let ⟨_,q3,s3⟩:=hc.h A;let ⟨_,q,s⟩:=ho A;let ⟨_,q',s'⟩:=ho' A;⟨_,BI q q' q1 q2 q3 hm,uz s s' s1 s2 s3⟩⟩
theorem B7{op op':CmpOp}{f g:PV->PV->PH->RV PV}(ho:cm X pg k-> ∃ r,cI X (VF op) r/\ke X.K r f)(ho':cm X pg k-> ∃ r,cI X (VF op') r/\ke X.K r g)(ha:JE X pg k a ma)(hb:JE X pg k b mb)(hc:JE X pg k c mc)
  (hm:aaF [op,op'] [b,c]=false:=by with_unfolding_all rfl):JT X pg k (.Compare a [op,op'] [b,c] pos) (aC (jk f g ma mb mc)):=⟨λA =>
 let ⟨_,q1,s1⟩:=ha.h A;let ⟨_,q2,s2⟩:=hb.h A;let ⟨_,q3,s3⟩:=hc.h A;let ⟨_,q,s⟩:=ho A;let ⟨_,q',s'⟩:=ho' A;⟨_,Cp q q' q1 q2 q3 hm,kf (uz s s' s1 s2 s3)⟩⟩
end
noncomputable def dk:MS:=λ_ e h=> .ok (.nx e) h
def ah(a b:MS):MS:=λc e h=>(a c e h).bind λf h1=>match f with
 | .nx e1=>b c e1 h1
 | f=> .ok f h1
def bM(a:ME):MS:=λc e h=>(a c e h).bind λ_ h1=> .ok (.nx e) h1
def aK(a:ME):MS:=λc e h=>(a c e h).bind λv h1=> .ok (.rt v) h1
def cE(t:MT)(a b:MS):MS:=λc e h=>(t c e h).bind λx h1=>if x=true then a c e h1 else b c e h1
def aA(a:ME)(g:MG):MS:=λc e h=>(a c e h).bind λv h1=>(g v e h1).bind λe1 h2=> .ok (.nx e1) h2
noncomputable def gN(i:Nat):MG:=λv e h=> .ok (e.set i (UU v)) h
noncomputable def gT(n:Nat)(g:List PV->aM->PH->RV aM):MG:=λv e h=>match v.seq? with
 | some xs=>if xs.length=n then g xs e h else .no
 | none=> .no
noncomputable def ia:List PV->aM->PH->RV aM:=λvs e h=>match vs with
 | []=> .ok e h
 | _=> .no
def cA(g:MG)(r:List PV->aM->PH->RV aM):List PV->aM->PH->RV aM:=λvs e h=>match vs with
 | []=> .no
 | v::t=>(g v e h).bind λe1 h1=>r t e1 h1
def lK(f:PV->PV->PV->PH->RV Unit)(o i a:ME):MS:=λc e h=>(a c e h).bind λv h1=>(o c e h1).bind λx h2=>(i c e h2).bind λy h3=>(f x y v h3).bind λ_ h4=> .ok (.nx e) h4
def aS(it:qw)(step:PV->aM->PH->RV Fl):List PV->aM->PH->RV Fl
 | [],e,h=>if it.lC h=true then .ok (.nx e) h else .no
 | x::xs,e,h=>if it.lC h=true then(step x e h).bind (λf h1=>match f with
   | .nx e1=>aS it step xs e1 h1
   | .ct e1=>aS it step xs e1 h1
   | .bk e1=> .ok (.nx e1) h1
   | .rt v=> .ok (.rt v) h1) else .no
def gL(i:MI)(g:MG)(b:MS):MS:=λc e h=>(i c e h).bind λit h1=>aS it (λx e h=>(g x e h).bind λe1 h1=>b c e1 h1) it.items e h1
def hU(it:qw)(step:PV->PH->RV (Option PV)):List PV->List PV->PH->RV (List PV)
 | [],ys,h=>if it.lC h=true then .ok ys h else .no
 | x::xs,ys,h=>if it.lC h=true/\ys.length < Vj then(step x h).bind (λo h1=>match o with
   | some y=>hU it step xs (ys++[y]) h1
   | none=>hU it step xs ys h1) else .no
def bN k (g:MG) (t:MT) (a:ME) c (e:aM) x h:=(g x (e++U8 k UX) h).bind λe2 h2=>(t c e2 h2).bind λb h3=>if b=true then(a c e2 h3).bind (λy h4=> .ok (UU y) h4) else .ok UX h3
def fg(k:Nat)(i:MI)(g:MG)(t:MT)(a:ME):ME:=λc e h=>(i c e h).bind λit h1=>(hU it (bN k g t a c e) it.items [] h1).bind λys h2=> .ok (.ref h2.length) (h2++[.lst ys])
section
variable{X:Cx}{pg:Tb}{k:Nat}{a b c d e o i:VN}{es:List VN}{ma mb mc md mo mi:ME}{mr:MA}{mt mt':MT}{ms ms' mu:MS}{pos p pos' apos cpos spos:Pos}{x y:Str}{st:WV}{body rest:List WV}{g:MG}{mI:MI}{tg iter:VN}{gs:List PV->aM->PH->RV aM}
theorem He{c K}:SS c K A8 dk:=fun ρ h H e σ D f h' s r q P=>by cases q;exact P σ ρ H (.refl _ _) s r
theorem Bb{c K}(h1:SS c K t ms)(h2:SS c K u mu):SS c K (Kl t u) (ah ms mu):=fun ρ h H e σ D f h' s r q P=>by
 obtain⟨f1,h1',e1,q⟩:=bind_eq.mp q;refine h1 ρ h H e σ _ f1 h1' s r e1 ?_;cases f1 with
 | nx e'=>exact fun σ1 ρ1 H1 g1 s1 r1=>h2 ρ1 h1' H1 e' σ1 D f h' s1 r1 q (P.gr g1)
 | rt v=>cases q;exact P
 | bk e'=>cases q;exact P
 | ct e'=>cases q;exact P
theorem DN:zG X pg k [] dk:=⟨λA=>⟨_,qK,He⟩⟩
theorem Dx(h:JS X pg k st ms):zG X pg k [st] ms:=⟨λA=>by obtain⟨_,q,s⟩:=h.h A;exact⟨_,qI q,s⟩⟩
theorem CO(h1:JS X pg k st ms)(h2:zG X pg k rest mu):zG X pg k (st::rest) (ah ms mu):=⟨λA=>by obtain⟨_,q1,s1⟩:=h1.h A;exact by obtain⟨_,q2,s2⟩:=h2.h A;exact⟨_,nF q1 q2,Bb s1 s2⟩⟩
theorem DB(ha:JE X pg k e ma)(hs:WI e UX pos.line X.env=pure false:=by rfl):JS X pg k (.Expr e pos) (bM ma):=⟨λA=>by obtain⟨_,q1,s1⟩:=ha.h A;exact⟨_,wI q1 hs,fun ρ h H e σ D f h' s r q P=>by
 obtain⟨x,h1,e1,q⟩:=bind_eq.mp q;cases q;exact s1 ρ h H e σ _ x _ s r e1 λx' ρ1 H1 g1 z1 r1=>P σ ρ1 H1 g1 z1 (r.gr g1)⟩⟩
theorem LR(ha:JE X pg k e ma):JS X pg k (.Return (UU e) pos) (aK ma):=⟨λA=>by obtain⟨_,q1,s1⟩:=ha.h A;exact⟨_,Ct q1,fun ρ h H e σ D f h' s r q P=>by
 obtain⟨x,h1,e1,q⟩:=bind_eq.mp q;cases q;exact s1 ρ h H e σ _ x _ s r e1 P⟩⟩
theorem NT(hc:JT X pg k c mt)(ha:zG X pg k A ms)(hb:zG X pg k B mu):JS X pg k (.If c A B pos) (cE mt ms mu):=⟨λZ =>
 by obtain⟨_,q0,s0⟩:=hc.h Z;exact let ⟨_,q1,s1⟩:=ha.h Z;let ⟨_,q2,s2⟩:=hb.h Z;⟨_,Cd q0 q1 q2,fun ρ h H e σ D f h' s r q P=>by
  obtain⟨x,h1,e1,q⟩:=bind_eq.mp q;refine s0 ρ h H e σ _ _ _ s r e1 fun ρ1 H1 g1 z1=>?_;cases x with
  | true=>exact s1 ρ1 _ H1 e σ _ _ _ z1 (r.gr g1) q (P.gr g1)
  | false=>exact s2 ρ1 _ H1 e σ _ _ _ z1 (r.gr g1) q (P.gr g1)⟩⟩
theorem xu{K i}:SG K (dz i) (gN i):=fun ρ h H e σ Q v v' e' h' s r rv q P=>by cases q;exact P _ ρ H (.refl _ _) s (r.set i rv)
theorem Ec{i}(hN:X.N.Nodup)(hi:X.N[i]?=UU x)(hx:Loc X.env.scope x)(hf:X.fn x=true\/X.env.scope.names.lookup x=UU .local:=by first | exact .inl rfl | exact .inr rfl | assumption):JG X pg k (.Name x pos) (gN i):=⟨λA=>⟨_,xg hN hi hx hf,xu⟩⟩
structure Q9(X:Cx)(pg:Tb)(k:Nat)(e:List VN)(m:List PV->aM->PH->RV aM):Prop where
 h:cm X pg k-> ∃ t,Ir X e t/\ ∀ ρ h H e σ Q vs us e' h',cj X.K ρ h H->cg X.K ρ H e σ ->ak X.K ρ H vs us->m vs e h= .ok e' h'->gp X.K ρ H e' h' Q->t us σ H Q
theorem Gu:Q9 X pg k [] ia:=⟨λA=>⟨_,wD,fun ρ h H e σ Q vs us e' h' s r rv q P=>by
 cases vs with
 | nil=>cases q;exact⟨rv,P σ ρ H (.refl _ _) s r⟩
 | cons=>cases q⟩⟩
theorem Ar(h1:JG X pg k e g)(h2:Q9 X pg k es gs)(hs:(Wx (e::es) X.env).map (·.2)=Zw e X.env::(Wx es X.env).map (·.2):=by rfl):Q9 X pg k (e::es) (cA g gs):=⟨λA =>
 by obtain⟨_,q1,s1⟩:=h1.h A;exact by obtain⟨_,q2,s2⟩:=h2.h A;exact⟨_,tS q1 q2 hs,fun ρ h H e σ Q vs us e' h' s r rv q P=>by
 cases vs with
 | nil=>cases q
 | cons v t =>
  obtain⟨w,u,rfl,r1,r2⟩:=aD.mp rv
  obtain⟨e1,h1,e2,q⟩:=bind_eq.mp q
  refine⟨w,u,rfl,?_⟩
  exact s1 ρ h H e σ _ v w e1 h1 s r r1 e2 fun σ1 ρ1 H1 g1 z1 y1=>s2 ρ1 h1 H1 e1 σ1 Q t u e' h' z1 y1 (ak.gr g1 _ _ r2) q (P.gr g1)⟩⟩
theorem Nd{j}(h:Q9 X pg k es gs)(hn:(Wx es X.env).length=n:=by rfl)(hst:(Wx es X.env).findIdx? (·.1)=UX:=by rfl):JG X pg k (.Tuple es j pos) (gT n gs):=⟨λA =>
 by obtain⟨_,q1,s1⟩:=h.h A;exact⟨_,Am A.calm q1 hn hst,fun ρ h H e σ Q v v' e' h' s r rv q P=>by
 unfold gT at q
 split at q
 . rename_i xs ex;obtain⟨a,vs,rfl,z,rr⟩:=rel.seq ex rv;split at q
   . rename_i hl;exact⟨a,vs,rfl,z,by rw[<- rr.len];exact hl,s1 ρ h H e σ Q xs vs e' h' s r rr q P⟩
   . nomatch q
 . nomatch q⟩⟩
theorem KZ(hN:X.N.Nodup)(hi:X.N[j]?=UU x)(hx:Loc X.env.scope x)(he:JE X pg k e ma)(hs:WI e (UU (.Name x pos')) pos.line X.env=pure false:=by rfl)(hf:X.fn x=true\/X.env.scope.names.lookup x=UU .local:=by first | exact .inl rfl | exact .inr rfl | assumption) :
  JS X pg k (.Assign [.Name x pos'] e pos) (aA ma (gN j)):=⟨λA=>by obtain⟨_,q1,s1⟩:=he.h A;exact⟨_,vb hN hi hx q1 hs hf,fun ρ h H e σ D f h' s r q P=>by
 obtain⟨v,h1,e1,q⟩:=bind_eq.mp q;obtain⟨e2,h2,e3,q⟩:=bind_eq.mp q;cases q;cases e3;exact s1 ρ h H e σ _ v _ s r e1 λv' ρ1 H1 g1 z1 r1=>P _ ρ1 H1 g1 z1 ((r.gr g1).set j r1)⟩⟩
theorem KW(hp:cm X pg k-> ∃ t,pj X t/\ ∀ ρ h H x y v x' y' v' u h' Q,cj X.K ρ h H->rel X.K ρ H x x'->rel X.K ρ H y y'->rel X.K ρ H v v'->f x y v h= .ok u h'->j0 X.K ρ H h' Q->t x' y' v' H Q)
  (ho:JE X pg k o mo) (hi:JE X pg k i mi) (hv:JE X pg k e ma) (hs:abS [.Subscript o i pos'] e pos.line X.env=pure false:=by rfl) (hw:abT [.Subscript o i pos'] e X.env=pure UX:=by rfl) (h1:(Wx [.Subscript o i pos'] X.env).map (·.2)=[Zw (.Subscript o i pos') X.env]:=by rfl)
  (ha: ∀ v,Zw (.Subscript o i pos') X.env v=(do
   let ov <- ZD [v] (WT o X.env)
   let iv <- ZD [v,ov] (WT i X.env)
   acj pos'
   ZD [v,ov,iv] (setItem ov iv v)
   release [v,ov,iv] []):=by intro _;rfl):JS X pg k (.Assign [.Subscript o i pos'] e pos) (lK f mo mi ma):=⟨λA =>
 let ⟨_,q0,s0⟩:=hv.h A;let ⟨_,q1,s1⟩:=ho.h A;let ⟨_,q2,s2⟩:=hi.h A;by obtain⟨_,q3,s3⟩:=hp A;exact⟨_,JX q0 ⟨Jf q1.h q2.h q3 ha⟩ hs hw h1,fun ρ h H e σ D f' h' s r q P=>by
 obtain⟨v,h1,e1,q⟩:=bind_eq.mp q
 obtain⟨x,h2,e2,q⟩:=bind_eq.mp q
 obtain⟨y,h3,e3,q⟩:=bind_eq.mp q
 obtain⟨u,h4,e4,q⟩:=bind_eq.mp q
 cases q
 refine s0 ρ h H e σ _ v h1 s r e1 λv' ρ1 H1 g1 z1 r1=>?_
 refine s1 ρ1 h1 H1 e σ _ x h2 z1 (r.gr g1) e2 λx' ρ2 H2 g2 z2 r2=>?_
 refine s2 ρ2 h2 H2 e σ _ y h3 z2 (r.gr (g1.trans g2)) e3 λy' ρ3 H3 g3 z3 r3=>?_
 have g:=(g1.trans g2).trans g3
 exact s3 ρ3 h3 H3 x y v x' y' v' u _ _ z3 (rel.gr g3 _ _ r2) r3 (rel.gr (g2.trans g3) _ _ r1) e4 fun ρ4 H4 g4 z4=>P σ ρ4 H4 (g.trans g4) z4 (r.gr (g.trans g4))⟩⟩
theorem Ly(hi:JI X pg k tg iter mI)(hg:JG X pg k tg g)(hb:zG X pg k body ms)(hp:abF (Vv X.prog X.w) X.A X.env X.xe)(hs: ∀ x,VH iter X.env x=pure x:=by intro _;rfl):JS X pg k (.For tg iter body [] pos) (gL mI g ms):=⟨λA =>
 by obtain⟨_,q1,s1⟩:=hi.h A;exact by obtain⟨_,q2,s2⟩:=hg.h A;exact by obtain⟨_,q3,s3⟩:=hb.h A;exact⟨_,Ag hp A.calm q1 q2 q3 hs,fun ρ h H e σ D f h' s r q P=>by
 obtain ⟨it,h1,e1,q⟩:=bind_eq.mp q
 refine s1 ρ h H e σ _ it h1 s r e1 fun ρ1 H1 J g1 z1 w1=>?_
 let step:=λx e h=>(g x e h).bind λe1 h1=>ms (run pg k) e1 h1
 refine ⟨λi m σ' H'=> ∃ ρ' h2 e',Gr ρ1 H1 ρ' H'∧cj X.K ρ' h2 H'∧cg X.K ρ' H' e' σ'∧i<=it.items.length∧m=it.items.length - i∧aS it step (it.items.drop i) e' h2= .ok f h',⟨_, ρ1,h1,e,.refl _ _,z1,r.gr g1,V2 _,rfl,q⟩,?_⟩
 rintro i m σ2 H2 ⟨ρ2,h2,e2,g2,z2,r2,hi,rfl,q2⟩
 cases hx:it.items[i]? with
 | none =>
  have hl:=XG.mp hx
  rw[V5 hl,aS] at q2
  split at q2
  . rename_i hf;cases q2;exact .inl ⟨(w1 i ρ2 _ H2 g2 z2 hf).2 (by omega),P σ2 ρ2 H2 (g1.trans g2) z2 r2⟩
  . cases q2
 | some x =>
  have hlt:=(Vk.mp hx).1
  have hd:it.items.drop i=x::it.items.drop (i+1):=by
   rw[Wd hlt,(Vk.mp hx).2]
  rw[hd,aS] at q2
  split at q2
  . rename_i hf;obtain⟨go,yl⟩:=(w1 i ρ2 _ H2 g2 z2 hf).1 x hx;obtain⟨f3,h3,e3,q3⟩:=bind_eq.mp q2;obtain ⟨e4,h4,e5,q4⟩:=bind_eq.mp e3;refine .inr ⟨go,fun σ' H'=> ∃ ρ' h2 e',Gr ρ1 H1 ρ' H'∧cj X.K ρ' h2 H'∧cg X.K ρ' H' e' σ'∧aS it step (it.items.drop (i+1)) e' h2= .ok f h',?_,?_⟩
    . rintro σ' H' ⟨ρ',h2,e',a1,a2,a3,a4⟩;exact ⟨it.items.length - (i+1),by omega, ρ',h2,e',a1,a2,a3,hlt,rfl,a4⟩
    . intro v H3 hy;obtain ⟨ρ3,g3,z3,r3⟩:=yl v H3 hy;refine s2 ρ3 h2 H3 e2 σ2 _ x v e4 h4 z3 (r2.gr g3) r3 e5 fun σ4 ρ4 H4 g4 z4 r4=>?_;have gg:=(g2.trans g3).trans g4;refine s3 ρ4 h4 H4 e4 σ4 _ f3 h3 z4 r4 q4 ?_;cases f3 with
      | nx e6=>exact fun σ5 ρ5 H5 g5 z5 r5=>⟨ρ5,h3,e6,gg.trans g5,z5,r5,q3⟩
      | ct e6=>exact fun σ5 ρ5 H5 g5 z5 r5=>⟨ρ5,h3,e6,gg.trans g5,z5,r5,q3⟩
      | bk e6=>cases q3;exact gp.gr P (g1.trans gg)
      | rt v=>cases q3;exact cL.gr P (g1.trans gg)
  . simp_all⟩⟩
theorem HN{K tg}(s1:SI cf K wi mI)(s2:SG K tg g)(s3:ST cf K tt mt)(s4:SE cf K te ma):SE cf K (Nt n wi tg tt te) (fg n mI g mt ma):=fun ρ h H e σ Q v h' s r q P=>by
 obtain⟨it,h1,e1,q⟩:=bind_eq.mp q;obtain ⟨ys,h2,e2,q⟩:=bind_eq.mp q;cases q;refine s1 ρ h H e σ _ it h1 s r e1 fun ρ1 H1 J g1 z1 w1=>?_;refine ⟨λi m us H'=> ∃ ρ' h3 zs,Gr ρ1 H1 ρ' H'∧cj K ρ' h3 H'∧ak K ρ' H' zs us∧i<=it.items.length∧m=it.items.length - i∧hU it (bN n g mt ma cf e) (it.items.drop i) zs h3= .ok ys h2,⟨_, ρ1,h1,[],.refl _ _,z1,bG.mpr rfl,V2 _,rfl,e2⟩,?_⟩;rintro i m us H2 ⟨ρ2,h3,zs,g2,z2,r2,hi,rfl,q2⟩;cases hx:it.items[i]? with
 | none =>
  have hl:=XG.mp hx
  rw[V5 hl,hU] at q2
  split at q2
  . rename_i hf;cases q2;exact .inl ⟨(w1 i ρ2 _ H2 g2 z2 hf).2 (by omega),λp hp=>fJ z2 r2 (P.gr (g1.trans g2)) p hp⟩
  . cases q2
 | some x =>
  have hlt:=(Vk.mp hx).1
  have hd:it.items.drop i=x::it.items.drop (i+1):=by
   rw[Wd hlt,(Vk.mp hx).2]
  rw[hd,hU] at q2
  split at q2
  . rename_i hf;obtain⟨go,yl⟩:=(w1 i ρ2 _ H2 g2 z2 hf.1).1 x hx;obtain⟨o,h4,e3,q3⟩:=bind_eq.mp q2;obtain⟨e4,h5,e5,q4⟩:=bind_eq.mp e3;obtain⟨b,h6,e6,q5⟩:=bind_eq.mp q4;refine .inr ⟨go,by rw[<- r2.len];exact hf.2,λv H3 hy=>?_⟩;obtain⟨ρ3,g3,z3,r3⟩:=yl v H3 hy;refine s2 ρ3 h3 H3 _ _ _ x v e4 h5 z3 (((r.gr (g1.trans (g2.trans g3)))).more n) r3 e5 fun σ4 ρ4 H4 g4 z4 r4=>?_;refine s3 ρ4 h5 H4 e4 σ4 _ b h6 z4 r4 e6 fun ρ5 H5 g5 z5=>?_;have gg:=((g2.trans g3).trans g4).trans g5;cases b with
    | false=>cases q5;exact ⟨it.items.length - (i+1),by omega, ρ5,_,zs,gg,z5,ak.gr ((g3.trans g4).trans g5) _ _ r2,hlt,rfl,q3⟩
    | true =>
     obtain ⟨y,h7,e7,q6⟩:=bind_eq.mp q5
     cases q6
     refine s4 ρ5 h6 H5 e4 σ4 _ y _ z5 (r4.gr g5) e7 λy' ρ6 H6 g6 z6 r6=>?_
     exact ⟨it.items.length - (i+1),by omega, ρ6,_,zs++[y],gg.trans g6,z6,(ak.gr (((g3.trans g4).trans g5).trans g6) _ _ r2).app (ak.one r6),hlt,rfl,q3⟩
  . simp_all
end
noncomputable def Tw(c:CF)(K:UW)(m:ME):TE:=fun σ H Q=> ∃ ρ h e v h',cj K ρ h H∧cg K ρ H e σ ∧m c e h= .ok v h'∧cL K ρ H v h' Q
noncomputable def NC(c:CF)(K:UW)(m:MT):TT:=fun σ H Q=> ∃ ρ h e b h',cj K ρ h H/\cg K ρ H e σ /\m c e h= .ok b h'/\j0 K ρ H h' (Q b)
theorem Ib{K}:SE c K (Tw c K m) m:=fun ρ h H e σ Q v h' s r q P=>⟨ρ,h,e,v,h',s,r,q,P⟩
theorem wC{K}:ST c K (NC c K m) m:=fun ρ h H e σ Q v h' s r q P=>⟨ρ,h,e,v,h',s,r,q,P⟩
theorem JE.C5(j:JE X pg k e m)(A:cm X pg k):QE X e (Tw (run pg k) X.K m) :=
 by obtain⟨_,q,s⟩:=j.h A;exact⟨λpins st σ H Q I=>by rintro ⟨ρ,h,e,v,h',a,b,c,d⟩;exact q.h pins st σ H Q I (s ρ h H e σ Q v h' a b c d)⟩
theorem JF.C5(j:JF X pg k e m)(A:cm X pg k):QF X e (NC (run pg k) X.K m) :=
 by obtain⟨_,q,s⟩:=j.h A;exact⟨λpins st σ H Q I=>by rintro ⟨ρ,h,e,v,h',a,b,c,d⟩;exact q.h pins st σ H Q I (s ρ h H e σ Q v h' a b c d)⟩
structure GC(K:UW)(n:Nat)(t:TG)(m:MG):Prop where
 sg:SG K t m
 gk:GK n t
 mono:vk t
structure RQ(K:UW)(n:Nat)(t:Dc)(m:List PV->aM->PH->RV aM):Prop where
 sg: ∀ ρ h H e σ Q vs us e' h',cj K ρ h H->cg K ρ H e σ ->ak K ρ H vs us->m vs e h= .ok e' h'->gp K ρ H e' h' Q->t us σ H Q
 gk:Py n t
 mono: ∀ xs σ H Q Q',(∀ σ2 H2,Q σ2 H2->Q' σ2 H2)->t xs σ H Q->t xs σ H Q'
theorem D7{K}(h:n<=i):GC K n (dz i) (gN i):=⟨xu,DF h,uM⟩
theorem xa{K}:RQ K n yX ia:=⟨fun ρ h H e σ Q vs us e' h' s r rv q P=>by
 cases vs with
 | nil=>cases q;exact⟨rv,P σ ρ H (.refl _ _) s r⟩
 | cons=>exact(by cases q),Mf,λxs σ H Q Q' f q=>⟨q.1,f _ _ q.2⟩⟩
theorem jB{K}(a:GC K n t m)(b:RQ K n ts ms):RQ K n (kX t ts) (cA m ms):=⟨fun ρ h H e σ Q vs us e' h' s r rv q P=>by
 cases vs with
 | nil=>cases q
 | cons v t =>
  obtain⟨w,u,rfl,r1,r2⟩:=aD.mp rv
  obtain⟨e1,h1,e2,q⟩:=bind_eq.mp q
  refine⟨w,u,rfl,?_⟩
  exact a.sg ρ h H e σ _ v w e1 h1 s r r1 e2 fun σ1 ρ1 H1 g1 z1 y1=>b.sg ρ1 h1 H1 e1 σ1 Q t u e' h' z1 y1 (ak.gr g1 _ _ r2) q (P.gr g1),Fp a.gk a.mono b.gk,
 λxs σ H Q Q' f=>by rintro ⟨v,r,e,q⟩;exact⟨v,r,e,a.mono _ _ _ _ _ (fun σ2 H2 z=>b.mono _ _ _ _ _ f z) q⟩⟩
theorem B6{K}(b:RQ K n ts ms):GC K n (vq K j ts) (gT j ms):=⟨fun ρ h H e σ Q v v' e' h' s r rv q P=>by
 unfold gT at q;split at q
 . rename_i xs ex;obtain⟨a,vs,rfl,z,rr⟩:=rel.seq ex rv;split at q
   . rename_i hl;exact⟨a,vs,rfl,z,by rw[<- rr.len];exact hl,b.sg ρ h H e σ Q xs vs e' h' s r rr q P⟩
   . nomatch q
 . exact(nomatch q),Ld b.gk,λx σ H Q Q' f=>by rintro ⟨a,xs,e1,e2,e3,q⟩;exact⟨a,xs,e1,e2,e3,b.mono _ _ _ _ _ f q⟩⟩
section
variable{X:Cx}{pg:Tb}{k:Nat}{e tg iter:VN}{ma:ME}{mt:MT}{g:MG}{tG:TG}{mI:MI}{scope:YD}{ifs:List VN}{pos spos py:Pos}{y:Str}
theorem ud vars (hkind:scope.kind= .function) (hlc:eF scope.names X.env.scope.names X.N vars=true) (hi:JI X pg k tg iter mI)
  (hb: ∀ cl C s₀ H₀ ex pn,(cm X pg k->QG (cD X vars scope cl C s₀ H₀ ex pn) tg tG)/\JF (cD X vars scope cl C s₀ H₀ ex pn) pg k ifs mt/\JE (cD X vars scope cl C s₀ H₀ ex pn) pg k e ma) (hG:GC X.K X.N.length tG g)
  (hs: ∀ x,VH iter X.env x=pure x:=by intro _;rfl):JE X pg k (.ListComp e [⟨tg,iter,ifs,0⟩] scope pos) (fg vars.length mI g mt ma):=⟨λA =>
 by obtain⟨_,q1,s1⟩:=hi.h A;exact⟨_,AS vars A.calm A.dw hkind hlc q1 (λcl C s₀ H₀ ex pn=>by obtain⟨h1,h2,h3⟩:=hb cl C s₀ H₀ ex pn;exact⟨h1 A,h2.C5 (A.cD ..),h3.C5 (A.cD ..)⟩) hG.gk hs,HN s1 hG.sg wC Ib⟩⟩
theorem sj vars i (hkind:scope.kind= .function) (hlc:eF scope.names X.env.scope.names X.N vars=true) (hN:X.N.Nodup) (hiy:X.N[i]?=UU y) (hy:Loc X.env.scope y) (hi:JI X pg k tg iter mI)
  (hb: ∀ cl C s₀ H₀ ex pn,(cm X pg k->QG (cD X vars scope cl C s₀ H₀ ex pn) tg tG)/\JF (cD X vars scope cl C s₀ H₀ ex pn) pg k ifs mt/\JE (cD X vars scope cl C s₀ H₀ ex pn) pg k e ma) (hG:GC X.K X.N.length tG g)
  (hsw:WI (.ListComp e [⟨tg,iter,ifs,0⟩] scope pos) (UU (.Name y py)) spos.line X.env=pure true:=by rfl) (hs: ∀ x,VH iter X.env x=pure x:=by intro _;rfl)
  (hf:X.fn y=true\/X.env.scope.names.lookup y=UU .local:=by first | exact .inl rfl | exact .inr rfl | assumption) :
  JS X pg k (.Assign [.Name y py] (.ListComp e [⟨tg,iter,ifs,0⟩] scope pos) spos) (aA (fg vars.length mI g mt ma) (gN i)):=⟨λA =>
 by obtain⟨_,q1,s1⟩:=hi.h A;exact⟨_,BU vars i A.calm A.dw hkind hlc hN hiy hy q1 (λcl C s₀ H₀ ex pn=>let ⟨h1,h2,h3⟩:=hb cl C s₀ H₀ ex pn;⟨h1 A,h2.C5 (A.cD ..),h3.C5 (A.cD ..)⟩) hG.gk hsw hs hf,fun ρ h H e σ D f h' s r q P=>by
  obtain⟨v,h1,e1,q⟩:=bind_eq.mp q;obtain⟨e2,h2,e3,q⟩:=bind_eq.mp q;cases q;cases e3;exact HN s1 hG.sg wC Ib ρ h H e σ _ v _ s r e1 λv' ρ1 H1 g1 z1 r1=>P _ ρ1 H1 g1 z1 ((r.gr g1).set i r1)⟩⟩
end
section
variable{K:UW}{ρ ρ':List U9}{H H':Hp}{h h':PH}
mutual
theorem rel.flat: ∀(x:PV)(v:V),x.flat=true->rel K ρ' H' x v->rel K ρ H' x v
 | .non,v,_,h=>by simpa only[rel] using h
 | .bl _,v,_,h=>by simpa only[rel] using h
 | .int _,v,_,h=>by simpa only[rel] using h
 | .str _,v,_,h=>by simpa only[rel] using h
 | .ty _,v,_,h=>by simpa only[rel] using h
 | .ref n,v,f,h=>by simp[PV.flat] at f
 | .tup xs,v,f,h=>by
  rw[rel] at h ⊢;rw[PV.flat] at f;obtain⟨a,vs,e,s,r⟩:=h;exact⟨a,vs,e,s,ak.flat xs vs f r⟩
 | .ktup xs,v,f,h=>by
  rw[rel] at h ⊢;rw[PV.flat] at f;obtain⟨a,vs,e,s,r⟩:=h;exact⟨a,vs,e,s,ak.flat xs vs f r⟩
theorem ak.flat: ∀(xs:List PV)(vs:List V),PV.c6 xs=true->ak K ρ' H' xs vs->ak K ρ H' xs vs
 | [],vs,_,h=>by simpa only[ak] using h
 | x::r,vs,f,h=>by
  rw[ak] at h ⊢;rw[PV.c6,Vc] at f;obtain⟨v,t,e,h1,h2⟩:=h;exact ⟨v,t,e,rel.flat x v f.1 h1,ak.flat r t f.2 h2⟩
end
mutual
theorem rel.iF(g: ∀ (n:Nat) (a:U9), ρ[n]?=UU a-> ρ'[n]?=UU a): ∀(x:PV)(v:V),x.iF ρ.length=true->rel K ρ' H' x v->rel K ρ H' x v
 | .non,v,_,h=>by simpa only [rel] using h
 | .bl _,v,_,h=>by simpa only [rel] using h
 | .int _,v,_,h=>by simpa only [rel] using h
 | .str _,v,_,h=>by simpa only[rel] using h
 | .ty _,v,_,h=>by simpa only[rel] using h
 | .ref n,v,f,h=>by
  rw[rel] at h ⊢;rw[PV.iF,decide_eq_true_eq] at f;obtain⟨a,e,h⟩:=h;have:=g n _ (VG f);rw[e] at this;exact⟨a,by rw[VG f,<- V4 this],h⟩
 | .tup xs,v,f,h=>by
  rw[rel] at h ⊢;rw[PV.iF] at f;obtain⟨a,vs,e,s,r⟩:=h;exact⟨a,vs,e,s,ak.iF g xs vs f r⟩
 | .ktup xs,v,f,h=>by
  rw[rel] at h ⊢;rw [PV.iF] at f;obtain ⟨a,vs,e,s,r⟩:=h;exact ⟨a,vs,e,s,ak.iF g xs vs f r⟩
theorem ak.iF(g: ∀ (n:Nat) (a:U9), ρ[n]?=UU a-> ρ'[n]?=UU a): ∀(xs:List PV)(vs:List V),PV.iG ρ.length xs=true->ak K ρ' H' xs vs->ak K ρ H' xs vs
 | [],vs,_,h=>by simpa only [ak] using h
 | x::r,vs,f,h=>by
  rw [ak] at h ⊢;rw[PV.iG,Vc] at f;obtain⟨v,t,e,h1,h2⟩:=h;exact⟨v,t,e,rel.iF g x v f.1 h1,ak.iF g r t f.2 h2⟩
end
mutual
theorem rel.low: ∀(x:PV)(v:V),rel K ρ H x v->x.iF ρ.length=true
 | .non,v,_=>rfl
 | .bl _,v,_=>rfl
 | .int _,v,_=>rfl
 | .str _,v,_=>rfl
 | .ty _,v,_=>rfl
 | .ref n,v,h=>by
  rw[rel] at h;obtain⟨a,e,h⟩:=h;rw[PV.iF,decide_eq_true_eq];exact(Vk.mp e).1
 | .tup xs,v,h=>by
  rw[rel] at h;obtain⟨a,vs,e,s,r⟩:=h;rw[PV.iF];exact ak.low xs vs r
 | .ktup xs,v,h=>by
  rw[rel] at h;obtain⟨a,vs,e,s,r⟩:=h;rw[PV.iF];exact ak.low xs vs r
theorem ak.low: ∀(xs:List PV)(vs:List V),ak K ρ H xs vs->PV.iG ρ.length xs=true
 | [],vs,_=>rfl
 | x::r,vs,h=>by
  rw[ak] at h;obtain⟨v,t,e,h1,h2⟩:=h;rw[PV.iG,rel.low x v h1,ak.low r t h2];rfl
end
theorem Paired.low{κ :Type}: ∀{kvs:List (κ × PV)}{kws:List (κ × V)},Ws (λ(p: κ × PV) (q: κ × V)=>p.1=q.1/\rel K ρ H p.2 q.2) kvs kws->PV.iG ρ.length (kvs.map (·.2))=true
 | _,_,.nil=>rfl
 | _,_,.cons r t=>by rw[U2,PV.iG,rel.low _ _ r.2,Paired.low t];rfl
theorem kH.low{a:U9}: ∀{o:PO},kH K ρ H a o->o.iF ρ.length=true
 | .lst xs,⟨vs,_,r⟩=>ak.low _ _ r
 | .jA xs,⟨vs,_,r⟩=>ak.low _ _ r
 | .dct kvs,⟨kws,_,r⟩=>Paired.low r
 | .obj C fs,⟨dx,fws,_,r⟩=>Paired.low r
 | .exc C fs,⟨fws,_,r⟩=>Paired.low r
theorem Paired.iF{κ :Type}(g: ∀ (n:Nat) (a:U9), ρ[n]?=UU a-> ρ'[n]?=UU a): ∀{kvs:List (κ × PV)}{kws:List (κ × V)},PV.iG ρ.length (kvs.map (·.2))=true ->
  Ws (λ(p: κ × PV) (q: κ × V)=>p.1=q.1∧rel K ρ' H' p.2 q.2) kvs kws->Ws (λ(p: κ × PV) (q: κ × V)=>p.1=q.1∧rel K ρ H' p.2 q.2) kvs kws
 | _,_,_,.nil=> .nil
 | _,_,f,.cons r t=>by
  rw [U2,PV.iG,Vc] at f;exact .cons ⟨r.1,rel.iF g _ _ f.1 r.2⟩ (Paired.iF g f.2 t)
theorem kH.iF(g: ∀ (n:Nat) (a:U9), ρ[n]?=UU a-> ρ'[n]?=UU a){a:U9}: ∀{o:PO},o.iF ρ.length=true->kH K ρ' H' a o->kH K ρ H' a o
 | .lst xs,f,⟨vs,e,r⟩=>⟨vs,e,ak.iF g _ _ f r⟩
 | .jA xs,f,⟨vs,e,r⟩=>⟨vs,e,ak.iF g _ _ f r⟩
 | .dct kvs,f,⟨kws,e,r⟩=>⟨kws,e,Paired.iF g f r⟩
 | .obj C fs,f,⟨dx,fws,e,r⟩=>⟨dx,fws,e,Paired.iF g f r⟩
 | .exc C fs,f,⟨fws,e,r⟩=>⟨fws,e,Paired.iF g f r⟩
theorem cj.drop(s:cj K ρ h H)(g:Gr ρ H ρ' H')(s':cj K ρ' h' H')(ok:bW h.length h h'=true):cj K ρ (h'.take h.length) H':=by
 have old: ∀{i:Nat}{o:PO},(h'.take h.length)[i]?=UU o->i < h.length/\h'[i]?=UU o:=λ{i o} e=>by
  have hi:i < h.length:=by
   have:=(Vk.mp e).1;rw[We] at this;omega
  rw[List.getElem?_take,if_pos hi] at e;exact⟨hi,e⟩
 refine⟨by rw[We,s.len,aba (mU ok)],λi j a oi oj ei ej mi mj ri rj=>?_,λi o a e ea=>?_⟩
 . exact s'.nd i j a oi oj (old ei).2 (old ej).2 mi mj (g.pre _ _ ri) (g.pre _ _ rj)
 . have r:=s'.ob i o a (old e).2 (g.pre _ _ ea);obtain⟨o0,e0,_,z⟩:=pU ok e;refine kH.iF g.pre ?_ r;rcases z with z | z
   . subst z;exact(s.ob i o0 a e0 ea).low
   . rw[s.len];exact z
theorem Paired.flat{κ :Type}: ∀{kvs:List (κ × PV)}{kws:List (κ × V)},PV.c6 (kvs.map (·.2))=true->Ws (λ(p: κ × PV) (q: κ × V)=>p.1=q.1/\rel K ρ' H' p.2 q.2) kvs kws->Ws (λ(p: κ × PV) (q: κ × V)=>p.1=q.1/\rel K ρ H' p.2 q.2) kvs kws
 | _,_,_,.nil=> .nil
 | _,_,f,.cons r t=>by
  rw[U2,PV.c6,Vc] at f;exact .cons ⟨r.1,rel.flat _ _ f.1 r.2⟩ (Paired.flat f.2 t)
theorem fG(s:cj K ρ h H)(e:settle h v h'= .ok w h2)(P:cL K ρ H w h2 Q):cL K ρ H v h' Q:=by
 unfold settle at e;split at e
 . rename_i ok;rw[Vc] at ok;cases e;exact λv' ρ' H' g s' r=>P v' ρ H' ⟨λ_ _ z=>z,g.tup,g.ef⟩ (s.drop g s' ok.2) (rel.flat _ _ ok.1 r)
 . simp_all
end
theorem fu{K}: ∀{args vs},ak K ρ H args vs-> ∀ n,cg K ρ H (args.map UU++U8 n UX) (vs.map UU++U8 n UX)
 | args,vs,r,n=>by
  have:cg K ρ H (args.map UU) (vs.map UU):=⟨by simp[r.len],λi v e=>by
   rw[VI] at e;cases q:args[i]? with
   | none=>simp_all
   | some w =>
    rw[q] at e
    cases e
    obtain⟨v',e1,e2⟩:=r.get q
    exact⟨v',by simp_all,e2⟩⟩
  exact this.more n
structure iQ(P:VE)(w:VY)(K:UW)(mg:Str->Option U1)(base:Wb)(pg:Tb)(f:String)(d:Df):Prop where
 ex: ∃(st:WV)(N:List Str),At K mg (U0 f) st/\bO N d.ps (ag st)/\N.length=d.ps.length+d.nl /\
  (∀(kV doc pm:U1)(an:Option U9)(cdv ct:U1)(us:List U1),us.length=d.ps.length->W8 (VX (U0 f) (U0 f) (br st) (aE st) (ag st) .none kV doc pm an cdv ct) ⟨us,[]⟩=pure (d.ps.zip us)) /\
  ∀(fa:U9)(cdv:U1)(A:V6)(outer:List Env)(s:U5)(H:Hp)(E:XK)(k:Nat),JB (dm (i8 P w) P w K mg base N (U0 f) (ag st) fa cdv A outer s H E) pg k f E (aE st) d.body
structure MW(P:VE)(w:VY)(K:UW)(mg:Str->Option U1)(base:Wb)(pg:Tb)(fn c:String)(m:Str)(d:Df):Prop where
 no:pg.fns fn=UX
 ex: ∃(st:WV)(N:List Str),(∀ q,pg.adr c=UU q-> ∃ fa fd,qD K m (U0 fn) st fa fd/\Meth K q.1 m fa)/\bO N d.ps (ag st)/\N.length=d.ps.length+d.nl /\
  (∀(kV doc pm:U1)(an:Option U9)(cdv ct:U1)(us:List U1),us.length=d.ps.length->W8 (VX m (U0 fn) (br st) (aE st) (ag st) .none kV doc pm an cdv ct) ⟨us,[]⟩=pure (d.ps.zip us)) /\
  ∀(fa:U9)(cdv:U1)(A:V6)(outer:List Env)(s:U5)(H:Hp)(E:XK)(k:Nat),JB (dm (i8 P w) P w K mg base N (U0 fn) (ag st) fa cdv A outer s H E) pg k fn E (aE st) d.body
structure Top(P:VE)(w:VY)(K:UW)(mg:Str->Option U1)(pg:Tb):Prop where
 blt: ∀ x∈fk,mg x=UX
 con: ∀ x v,pg.con x=UU v-> ∃ u v',mg x=UU u/\RelV v' u/\xT K v'/\ ∀ ρ H,rel K ρ H v v'
 sd: ∀ x kvs,pg.sd x=UU kvs-> ∃ a kws,mg x=UU (.ref a)/\KD P w K a kws/\ ∀ ρ H,Ws (λ(p:Key × PV) (q:Key × V)=>p.1=q.1/\rel K ρ H p.2 q.2) kvs kws
 ct:Oy K mg pg
 mg: ∀ base fn c m d,pg.RE fn=UU (c,m,d)->MW P w K mg base pg fn c m d
section
variable {P:VE} {w:VY} {K:UW} {mg:Str->Option U1} {base:Wb} {pg:Tb}
theorem jQ{k : Nat}{f : String}{d : Df}(hf : pg.df f = UU d){args : List PV}{h h' : PH}{v : PV}(q : run pg (k + 1) f args h = .ok v h') : args.length = d.ps.length ∧
    ((∃ w h2, d.body (run pg k) (args.map UU ++ U8 d.nl UX) h = .ok (.rt w) h2 /\ settle h w h2 = .ok v h') ∨
     (∃ e h2, d.body (run pg k) (args.map UU ++ U8 d.nl UX) h = .ok (.nx e) h2 /\ settle h .non h2 = .ok v h')) := by
  rw [run, hf] at q;simp only at q;split at q
  . rename_i hn;refine ⟨hn, ?_⟩;split at q
    . rename_i w h2 e; exact .inl ⟨w, h2, e, q⟩
    . rename_i e' h2 e; exact .inr ⟨e', h2, e, q⟩
    . nomatch q
    . split at q
      . unfold dg at q;split at q <;> nomatch q
      . nomatch q
    . nomatch q
  . nomatch q
theorem iS{k:Nat}{f:String}{d:Df}(hf:pg.df f=UU d){args:List PV}{h h':PH}{C:Nat}{us:List (Str × PV)}(q:run pg (k+1) f args h= .ex C us h'):args.length=d.ps.length/\pg.rz f=true /\
  ∃ c vs h2,d.body (run pg k) (args.map UU++U8 d.nl UX) h= .ex c vs h2/\dg h c vs h2= .ex C us h':=by
 have st: ∀{v:PV}{h2:PH},settle h v h2≠ .ex C us h':=λ{v h2} z=>by unfold settle at z;split at z<;>nomatch z
 rw[run,hf] at q;simp only at q;split at q
 . rename_i hn;refine⟨hn,?_⟩;split at q
   . exact absurd q st
   . exact absurd q st
   . nomatch q
   . rename_i c vs h2 e;split at q
     . rename_i z;exact⟨z,c,vs,h2,e,q⟩
     . nomatch q
   . nomatch q
 . nomatch q
theorem rO{ρ :List U9}{H:Hp}{h h2 h':PH}{c C:Nat}{vs us:List (Str × PV)}{E:XK}(s:cj K ρ h H)(e:dg h c vs h2= .ex C us h')(P:d8 K ρ H C us h' E):d8 K ρ H c vs h2 E:=by
 unfold dg at e;split at e
 . rename_i ok;rw[Vc] at ok;cases e;exact λdx od fws ρ' H' g s' hd pr=>P dx od fws ρ H' ⟨λ_ _ z=>z,g.tup,g.ef⟩ (s.drop g s' ok.2) hd (Paired.flat ok.1 pr)
 . cases e;exact P
theorem zo{k:Nat}{f:String}{d:Df}(hf:pg.df f=UU d){N:List Str}(hl:N.length=d.ps.length+d.nl){t:TS}(st:SS (run pg k) K t d.body){vs:List V}{H:Hp}{Q:VK}{E:XK}(hz:pg.rz f=false)(h:kb K pg (k+1) f vs H Q E):t { nx:=λ_ H'=>Q .non H',rt:=Q} (L2.start N vs) H:=by
 rcases h with⟨ρ,h,args,v,h',sm,r,q,post⟩ | ⟨ρ,h,args,C,us,h',_,_,q,_⟩
 rotate_left
 . rw[(iS hf q).2.1] at hz;nomatch hz
 obtain⟨hn,q⟩:=jQ hf q;have he:L2.start N vs=vs.map UU++U8 d.nl UX:=by
  unfold L2.start;rw[hl,<- r.len,hn,aaM]
 rw[he];rcases q with⟨w,h2,e,q⟩ | ⟨e',h2,e,q⟩
 . exact st ρ h H _ _ _ _ h2 sm (fu r _) e (fG sm q post)
 . exact st ρ h H _ _ _ _ h2 sm (fu r _) e fun σ' ρ' H' g s' _=>fG sm q post .non ρ' H' g s' (by rw[rel])
theorem vR{k:Nat}{f:String}{d:Df}(hf:pg.df f=UU d){N:List Str}(hl:N.length=d.ps.length+d.nl){t:TS}{E:XK}(st:RC E (run pg k) K t d.body){vs:List V}{H:Hp}{Q:VK}(h:kb K pg (k+1) f vs H Q E):t { nx:=λ_ H'=>Q .non H',rt:=Q} (L2.start N vs) H:=by
 have he: ∀{ρ :List U9}{args:List PV},ak K ρ H args vs->args.length=d.ps.length->L2.start N vs=vs.map UU++U8 d.nl UX:=λ{ρ args} r hn=>by
  unfold L2.start;rw[hl,<- r.len,hn,aaM]
 rcases h with⟨ρ,h,args,v,h',sm,r,q,post⟩ | ⟨ρ,h,args,C,us,h',sm,r,q,post⟩
 . obtain⟨hn,q⟩:=jQ hf q;rw[he r hn];rcases q with⟨w,h2,e,q⟩ | ⟨e',h2,e,q⟩
   . exact st ρ h H _ _ _ sm (fu r _) (by rw[e];exact fG sm q post)
   . exact st ρ h H _ _ _ sm (fu r _) (by rw[e];exact fun σ' ρ' H' g s' _=>fG sm q post .non ρ' H' g s' (by rw[rel]))
 . obtain⟨hn,_,c,vs',h2,e,q⟩:=iS hf q;rw[he r hn];exact st ρ h H _ _ _ sm (fu r _) (by rw[e];exact rO sm q post)
theorem m4{k:Nat}{f:String}{d:Df}{N:List Str}{qual:Str}{scope:YD}{fa:U9}{cdv:U1}{A:V6}{outer:List Env}{s:U5}{H:Hp}{E:XK}{st:List WV}{vs:List V}{Q:VK}(amb:cm (dm (i8 P w) P w K mg base N qual scope fa cdv A outer s H E).dw pg k)(hr:cG k (A.deeper (Yo qual scope s.heap.objs.size fa cdv)))
  (hf:pg.df f=UU d) (hl:N.length=d.ps.length+d.nl) (b:JB (dm (i8 P w) P w K mg base N qual scope fa cdv A outer s H E) pg k f E st d.body) (h:kb K pg (k+1) f vs H Q E) :
  ∃ t,oO (dm (i8 P w) P w K mg base N qual scope fa cdv A outer s H E) st t/\t { nx:=λ_ H'=>Q .non H',rt:=Q} (L2.start N vs) H:=by
 rcases b with⟨hz,b⟩ | b
 . obtain⟨t,qt,st'⟩:=b.h amb;exact⟨t,qt.h.dw,zo hf hl st' hz h⟩
 . obtain⟨t,qt,st'⟩:=b.h ⟨amb,CY,.inr ⟨_,_,_,rfl,rfl,rfl⟩⟩;exact⟨t,qt.h,vR hf hl st' h⟩
theorem ym(T:Top P w K mg pg)(G: ∀ f d,pg.fns f=UU d->iQ P w K mg base pg f d): ∀ k,(∀ f d,pg.fns f=UU d->hZ P w K mg base (U0 f) k d.ps (kb K pg k f))/\ ∀ j,j<=k->NK P w K mg base pg j:=by
 have len: ∀{k:Nat}{f:String}{d:Df},pg.df f=UU d-> ∀ vs H Q E,kb K pg (k+1) f vs H Q E->vs.length=d.ps.length:=λhd vs H Q E hh=>by
  rcases hh with⟨ρ,h,args,v,h',_,r,q,_⟩ | ⟨ρ,h,args,C,us,h',_,r,q,_⟩
  . rw[<- r.len];exact(jQ hd q).1
  . rw[<- r.len];exact(iS hd q).1
 have no0: ∀ f vs H Q E,¬ kb K pg 0 f vs H Q E:=λf vs H Q E hh=>by
  rcases hh with⟨ρ,h,args,v,h',_,_,q,_⟩ | ⟨ρ,h,args,C,us,h',_,_,q,_⟩<;>nomatch q
 intro k
 induction k with
 | zero =>
  refine⟨λf d hf=>?_,λj hj fn c m d hm=>?_⟩
  . obtain⟨st,N,a,S,hl,hb,body⟩:=(G f d hf).ex;exact At.yW a hb (no0 f)
  . obtain⟨no,st,N,a,S,hl,hb,body⟩:=T.mg base fn c m d hm;refine⟨no,λq hq=>?_⟩;obtain⟨fa,fd,F,me⟩:=a q hq;cases Nat.le_zero.mp hj;exact⟨fa,fd,me,⟨λvs H Q E h=>absurd h (no0 fn vs H Q E),λA outer s H args us vs Q E _ _ _ _ h=>absurd h (no0 fn vs H Q E)⟩,F.binds hb⟩
 | succ k ih =>
  refine⟨λf d hf=>?_,λj hj fn c m d hm=>?_⟩
  . obtain⟨st,N,a,S,hl,hb,body⟩:=(G f d hf).ex;refine At.NG a S hb (len (nR hf)) ?_;intro fa cdv A outer s H vs Q E hr h;have amb:cm (dm (i8 P w) P w K mg base N (U0 f) (ag st) fa cdv A outer s H E).dw pg k:=⟨hr,rfl,λ_ _ z=>z,ih.1,T.blt,T.con,T.sd,T.ct,ih.2⟩
    exact m4 amb hr (nR hf) hl (body fa cdv A outer s H E k) h
  . rcases Nat.lt_or_eq_of_le hj with z | z
    . exact ih.2 j (Nat.le_of_lt_succ z) fn c m d hm
    . subst z;obtain⟨no,st,N,a,S,hl,hb,body⟩:=T.mg base fn c m d hm;refine⟨no,λq hq=>?_⟩;obtain⟨fa,fd,F,me⟩:=a q hq;have hd:pg.df fn=UU d:=by unfold Tb.df;rw[no,hm];rfl
      refine⟨fa,fd,me,qD.NG F S (len hd) λcdv A outer s H vs Q E hr h=>?_,F.binds hb⟩;have amb:cm (dm (i8 P w) P w K mg base N (U0 fn) (ag st) fa cdv A outer s H E).dw pg k:=⟨hr,rfl,λ_ _ z=>z,ih.1,T.blt,T.con,T.sd,T.ct,ih.2⟩
      exact m4 amb hr hd hl (body fa cdv A outer s H E k) h
end
def p2(f:Int->Int->RV PV):PV->PV->PH->RV PV:=λx y h=>match x,y with
 | .int i,.int j=>(f i j).bind λv _=> .ok v h
 | _,_=> .no
noncomputable def DR(v:PV):RV PV:= .ok v []
section
variable{K:UW}{X:Cx}{pg:Tb}{k:Nat}
theorem KC(hf: ∀ i j v h,f i j= .ok v h->C i j/\ ∀ ρ H,rel K ρ H v (g i j)):ke K (rI C g) (p2 f):=fun ρ h H x y x' y' Q v h' s rx ry q P=>by
 unfold p2 at q;split at q
 . rename_i i j;obtain⟨w,h0,e,q⟩:=bind_eq.mp q;cases q;obtain⟨hc,hr⟩:=hf i j v h0 e;exact⟨i,j,rx,ry,hc,P _ ρ H (.refl _ _) s (hr ρ H)⟩
 . cases q
theorem wG(hf: ∀ i j v h,f i j= .ok v h-> ∀ ρ H,rel K ρ H v (g i j)):ke K (FG g) (p2 f):=fun ρ h H x y x' y' Q v h' s rx ry q P=>by
 unfold p2 at q;split at q
 . rename_i i j;obtain⟨w,h0,e,q⟩:=bind_eq.mp q;cases q;exact⟨i,j,rx,ry,P _ ρ H (.refl _ _) s (hf i j v h0 e ρ H)⟩
 . cases q
def Dz:=p2 λi j=>DR (.int (i - j))
def oM:=p2 λi j=>if 0 < j then DR (.int (i % j)) else .no
def Ai:=p2 λi j=>if 0<=j/\j<=1000000/\i.natAbs < 2 ^ 64 then DR (.int (i ^ j.toNat)) else .no
def zq:=p2 λi j=>DR (.bl (decide (i < j)))
def HM:=p2 λi j=>DR (.bl (decide (i<=j)))
def HE:=p2 λi j=>DR (.bl (decide (j < i)))
noncomputable def jW:PV->PH->RV PV:=λx h=>match x with
 | .int i=> .ok (.int (-i)) h
 | _=> .no
theorem Pq:cm X pg k-> ∃ r,cI X (Wv .Sub) r/\ke X.K r Dz:=λ_=>⟨_,MQ,wG λi j v h e ρ H=>by cases e;rw[rel]⟩
theorem O8:cm X pg k-> ∃ r,cI X (Wv .Mod) r/\ke X.K r oM:=λ_=>⟨_,IY,KC λi j v h e=>by
 split at e
 . cases e;exact⟨by assumption,fun ρ H=>by rw[rel]⟩
 . cases e⟩
theorem OU:cm X pg k-> ∃ r,cI X (Wv .Pow) r/\ke X.K r Ai:=λ_=>⟨_,MD,KC λi j v h e=>by
 split at e
 . cases e;exact⟨by assumption,fun ρ H=>by rw[rel]⟩
 . cases e⟩
theorem Sd:cm X pg k-> ∃ r,cI X (VF .Lt) r/\ke X.K r zq:=λ_=>⟨_,Om,wG λi j v h e ρ H=>by cases e;rw[rel]⟩
theorem Sa:cm X pg k-> ∃ r,cI X (VF .LtE) r/\ke X.K r HM:=λ_=>⟨_,O9,wG λi j v h e ρ H=>by cases e;rw[rel]⟩
theorem Sn:cm X pg k-> ∃ r,cI X (VF .Gt) r/\ke X.K r HE:=λ_=>⟨_,QN,wG λi j v h e ρ H=>by cases e;rw[rel]⟩
theorem Qf:cm X pg k-> ∃ r,Nw X (ac1 .USub) r/\ ∀ ρ h H x x' Q v h',cj X.K ρ h H->rel X.K ρ H x x'->jW x h= .ok v h'->cL X.K ρ H v h' Q->r x' H Q:=λ_=>⟨_,Nf,fun ρ h H x x' Q v h' s rx q P=>by
 cases x with
 | int i =>
  rw[rel] at rx
  cases q
  exact⟨_,rx,P _ ρ H (.refl _ _) s (by rw[rel])⟩
 | _=>nomatch q⟩
def Sb(xs:List PV)(h:PH):RV PV:=oX xs.length (.ok (.ref h.length) (h++[.lst xs]))
def aF:PV->PV->PH->RV PV:=λx y h=>match x,y with
 | .int i,.int j=> .ok (.int (i+j)) h
 | .str a,.str b=>oX (a.length+b.length) (.ok (.str (a++b)) h)
 | .tup xs,.tup ys=>oX (xs.length+ys.length) (.ok (.tup (xs++ys)) h)
 | .ref n,.ref m=>(match h[n]?,h[m]? with
  | some (.lst xs),UU (.lst ys)=>Sb (xs++ys) h
  | _,_=> .no)
 | _,_=> .no
theorem cj.lst{ρ h H}(s:cj K ρ h H){n xs}(e:h[n]?=UU (.lst xs)){v}(r:rel K ρ H (.ref n) v): ∃ a vs,v= .ref a/\ ρ[n]?=UU a/\H a=UU (.lst vs)/\ak K ρ H xs vs:=by
 obtain⟨a,ea,rfl⟩:=r;obtain⟨vs,e1,e2⟩:=s.ob n _ a e ea;exact⟨a,vs,rfl,ea,e1,e2⟩
theorem cj.jA(s:cj K ρ h H)(e:h[n]?=UU (.jA xs))(r:rel K ρ H (.ref n) v): ∃ a vs,v= .ref a/\ ρ[n]?=UU a/\gP K H a vs/\ak K ρ H xs vs:=by
 obtain⟨a,ea,rfl⟩:=r;obtain⟨vs,e1,e2⟩:=s.ob n _ a e ea;exact⟨a,vs,rfl,ea,e1.sq,e2⟩
noncomputable def bQ(h:PH)(n:Nat):Option (List PV):=match h[n]? with
 | some (.lst xs)=>UU xs
 | some (.jA xs)=>UU xs
 | _=>UX
theorem cj.sq(s:cj K ρ h H)(e:bQ h n=UU xs)(r:rel K ρ H (.ref n) v): ∃ a vs,v= .ref a/\ ρ[n]?=UU a/\gP K H a vs/\ak K ρ H xs vs:=by
 unfold bQ at e;split at e
 . cases e;obtain⟨a,vs,e1,e2,e3,e4⟩:=s.lst (by assumption) r;exact⟨a,vs,e1,e2,.of e3,e4⟩
 . cases e;exact s.jA (by assumption) r
 . cases e
theorem l3(s:cj K ρ h H)(r:ak K ρ H xs us)(P:cL K ρ H (.tup xs) h Q) p (hp:H p=UX):Q (.ref p) (upd H p (.tup us)):=by
 refine P _ ρ _ (Gr.kF hp) (s.tup hp) ?_;exact⟨p,us,rfl,bb,ak.gr (Gr.kF hp) _ _ r⟩
theorem N5:cm X pg k-> ∃ r,cI X (Wv .Add) r/\ke X.K r aF:=λ_=>⟨_,JU,fun ρ h H x y x' y' Q v h' s rx ry q P=>by
 unfold aF at q;split at q
 . cases q;exact .inl ⟨_,_,rx,ry,P _ ρ H (.refl _ _) s (by rw[rel])⟩
 . obtain⟨hl,q⟩:=gR.mp q;cases q;exact .inr (.inr (.inr (.inr ⟨_,_,rx,ry,hl,P _ ρ H (.refl _ _) s (by rw[rel])⟩)))
 . rename_i xs ys;obtain⟨hl,q⟩:=gR.mp q;cases q;have ry':=ry;obtain⟨a,us,e1,e2,e3⟩:=rx;obtain⟨b,ws,d1,d2,d3⟩:=ry;cases xs with
   | nil =>
    subst e3
    exact .inr (.inr (.inr (.inl ⟨a,b,ws,e1,d1,.of e2,.of d2,d1 ▸ P y' ρ H (.refl _ _) s ry'⟩)))
   | cons x r =>
    refine .inr (.inr (.inl ⟨a,b,us,ws,e1,d1,.of e2,.of d2,?_,by rw[<- e3.len,<- d3.len];exact hl,?_⟩))
    . rintro rfl;have:=e3.len;simp at this
    . refine⟨λz=>?_,λ_ p hp=>l3 s (e3.app d3) P p hp⟩;subst z;have:=ZM d3.len;subst this;rw[VM] at P;exact P _ ρ H (.refl _ _) s (by exact⟨a,us,rfl,e2,e3⟩)
 . split at q
   . rename_i h1 h2;obtain⟨hl,q⟩:=gR.mp q;cases q;obtain⟨a,us,rfl,_,e1,e2⟩:=s.lst h1 rx;obtain⟨b,ws,rfl,_,d1,d2⟩:=s.lst h2 ry;refine .inr (.inl ⟨a,b,us,ws,rfl,rfl,e1,d1,?_,λp hp=>fJ s (e2.app d2) P p hp⟩);rw[<- e2.len,<- d2.len];simpa using hl
   . nomatch q
 . nomatch q⟩
noncomputable def ft(kvs:List (Key × PV)) k:=(kvs.find? λkv=>decide (kv.1=k)).map (·.2)
noncomputable def E3 kvs (k:Key) (v:PV) :=
 if (kvs.any λkv=>decide (kv.1=k))=true then kvs.map (λkv=>if kv.1=k then(kv.1,v) else kv) else kvs++[(k,v)]
noncomputable def o7:PV->Option Key
 | .int i=>UU (.inl i)
 | .str x=>UU (.inr x)
 | _=>UX
theorem ir{k}(e:o7 x=UU k)(r:rel K ρ H x v):v=kV k:=by
 cases x<;>simp only[o7,reduceCtorEq,Zn] at e<;>(subst e;exact r)
abbrev RK(K:UW)(ρ :List U9)(H:Hp)(kvs:List (Key × PV))(kws:List (Key × V)):Prop:=Ws (λ(p:Key × PV) (q:Key × V)=>p.1=q.1/\rel K ρ H p.2 q.2) kvs kws
theorem RK.val: ∀{kvs kws} k,RK K ρ H kvs kws->match ft kvs k,fE kws k with
  | some x,UU v=>rel K ρ H x v
  | none,UX=>True
  | _,_=>False
 | _,_,k,.nil=>trivial
 | _,_,k,.cons (a:=p) (b:=q) r t=>by
  have ih:=RK.val k t;unfold ft fE at ih ⊢;rw[acY,acY,<- r.1];by_cases e:p.1=k
  . simp only[e,decide_true];exact r.2
  . simp only[e,decide_false];exact ih
theorem RK.some{k}(r:RK K ρ H kvs kws)(e:ft kvs k=UU x): ∃ v,fE kws k=UU v/\rel K ρ H x v:=by
 have:=RK.val k r;rw[e] at this;cases q:fE kws k with
 | none=>rw[q] at this;exact Xb this
 | some v=>rw[q] at this;exact⟨v,rfl,this⟩
theorem RK.is k (r:RK K ρ H kvs kws):(fE kws k).isSome=(ft kvs k).isSome:=by
 have:=RK.val k r;cases p:ft kvs k<;>cases q:fE kws k<;>rw[p,q] at this<;>first | rfl | exact Xb this
theorem RK.len(r:RK K ρ H kvs kws):kvs.length=kws.length:=YF r
theorem RK.any: ∀{kvs kws} k,RK K ρ H kvs kws->(kws.any λkv=>decide (kv.1=k))=kvs.any λkv=>decide (kv.1=k)
 | _,_,k,.nil=>rfl
 | _,_,k,.cons (a:=p) (b:=q) r t=>by rw[Xr,Xr,RK.any k t,r.1]
theorem RK.Ak{k}(h:rel K ρ H x v): ∀{kvs kws},RK K ρ H kvs kws->RK K ρ H (kvs.map λkv=>if kv.1=k then(kv.1,x) else kv) (kws.map λkv=>if kv.1=k then(kv.1,v) else kv)
 | _,_,.nil=> .nil
 | _,_,.cons (a:=p) (b:=q) a t=> .cons (by
   show(if p.1=k then(p.1,x) else p).1=(if q.1=k then(q.1,v) else q).1/\rel K ρ H (if p.1=k then(p.1,x) else p).2 (if q.1=k then(q.1,v) else q).2;rw[<- a.1];split
   . exact⟨rfl,h⟩
   . exact a) (RK.Ak h t)
theorem RK.snoc{k}(h:rel K ρ H x v): ∀{kvs kws},RK K ρ H kvs kws->RK K ρ H (kvs++[(k,x)]) (kws++[(k,v)])
 | _,_,.nil=> .cons ⟨rfl,h⟩ .nil
 | _,_,.cons a t=> .cons a (RK.snoc h t)
theorem RK.put{k}(r:RK K ρ H kvs kws)(h:rel K ρ H x v):RK K ρ H (E3 kvs k x) (putK kws k v):=by
 unfold E3 putK;rw[RK.any k r];split
 . exact RK.Ak h r
 . exact RK.snoc h r
def ck:PV->PV->PH->RV PV:=λx y h=>match x with
 | .tup xs=>(match y with
  | .int i=>(match gf xs i with | some v=> .ok v h | none=> .no)
  | _=> .no)
 | .ktup xs=>(match y with
  | .int i=>(match gf xs i with | some v=> .ok v h | none=> .no)
  | _=> .no)
 | .str z=>(match y with
  | .int i=>oX z.length (match gf z.cps.toList i with | some c=> .ok (.str ⟨#[c]⟩) h | none=> .no)
  | _=> .no)
 | .ref n=>(match h[n]? with
  | some (.dct kvs)=>(match o7 y with
   | some k=>(match ft kvs k with | some v=> .ok v h | none=> .no)
   | none=> .no)
  | some (.lst xs)=>(match y with
   | .int i=>(match gf xs i with | some v=> .ok v h | none=> .no)
   | _=> .no)
  | some (.jA xs)=>(match y with
   | .int i=>(match gf xs i with | some v=> .ok v h | none=> .no)
   | _=> .no)
  | _=> .no)
 | _=> .no
theorem ak.at(r:ak K ρ H xs vs)(e:gf xs i=UU x): ∃ v,gf vs i=UU v/\rel K ρ H x v:=by
 unfold gf at e ⊢;rw[<- r.len];cases q:mK xs.length i with
 | none=>simp_all
 | some j =>
  rw [q] at e
  exact r.get e
noncomputable def UM:R2:=λx y H Q=> ∃ a v,x= .ref a∧ko H a y (UU v)∧Q v H
theorem x8(hu : X.A.units + 1 < Zh) : y4 X UM := by
  intro value slice pins s σ H x y v u Q I rx ry h hs;obtain ⟨a, w, rfl, g, q⟩ := h;obtain rfl : v = Vo a := rx;have hT := sJ I g;refine UY ?_;refine UY (wpAny_specialOf hT PySem.F.slot_dict_getitem.lookup ?_);have fin : Vs (Vv X.prog X.w) X.A (acS slice false (.ref a) u) (λr s₃ => Vs (Vv X.prog X.w) X.A (letTemporaryGo value (.ref a) r >>= λ_ => pure r) (EP X pins σ Q) X.xe s₃) X.xe s := by
    rw [hs];exact wpAny_operating (xW hu I g ry λw' s' I' r' => UY (wpAny_letTemporaryGo (Vf ⟨w, H, I', r', q⟩)))
  first
    | exact Vf (UY fin)
    | exact UY (Vf (UY fin))
    | exact UY fin
theorem cm.hu(A:cm X pg k):X.A.units+1 < Zh:=Ot A.room
theorem S8:cm X pg k-> ∃ r,y4 X r/\ke X.K r ck:=λA=>⟨_,IC.or (x8 A.hu),fun ρ h H x y x' y' Q v h' s rx ry q P=>by
 cases x with
 | tup xs =>
  cases y with
  | int i =>
   simp only[ck] at q
   split at q
   . rename_i w e;cases q;obtain⟨a,vs,rfl,z,r⟩:=rel.seq (x:= .tup xs) rfl rx;obtain⟨u,e1,e2⟩:=r.at e;exact .inl (.inr (.inl ⟨a,vs,i,u,rfl,ry,z,e1,P _ ρ H (.refl _ _) s e2⟩))
   . nomatch q
  | _=>cases q
 | ktup xs =>
  cases y with
  | int i =>
   simp only[ck] at q
   split at q
   . rename_i w e;cases q;obtain⟨a,vs,rfl,z,r⟩:=rel.seq (x:= .ktup xs) rfl rx;obtain⟨u,e1,e2⟩:=r.at e;exact .inl (.inr (.inl ⟨a,vs,i,u,rfl,ry,z,e1,P _ ρ H (.refl _ _) s e2⟩))
   . nomatch q
  | _=>cases q
 | str z =>
  cases y with
  | int i =>
   obtain⟨hl,q⟩:=gR.mp q
   split at q
   . rename_i c e;cases q;exact .inl (.inr (.inr ⟨z,i,c,rx,ry,hl,e,P _ ρ H (.refl _ _) s (by rw[rel])⟩))
   . nomatch q
  | _=>cases q
 | ref n =>
  simp only[ck] at q
  split at q
  . rename_i kvs e;split at q
    . rename_i key ek;split at q
      . rename_i w ew;cases q;obtain⟨a,ea,rfl⟩:=rx;obtain⟨kws,e1,e2⟩:=s.ob n _ a e ea;obtain⟨u,e3,e4⟩:=RK.some e2 ew;have:=ir ek ry;subst this;exact .inr ⟨a,u,rfl,e3 ▸ ko.k (k:=key) e1,P _ ρ H (.refl _ _) s e4⟩
      . nomatch q
    . nomatch q
  . rename_i xs e;cases y with
    | int i =>
     simp only at q
     split at q
     . rename_i w ew;cases q;obtain⟨a,vs,rfl,_,z,r⟩:=s.lst e rx;obtain⟨u,e1,e2⟩:=r.at ew;exact .inl (.inl ⟨a,vs,i,u,rfl,ry,.of z,e1,P _ ρ H (.refl _ _) s e2⟩)
     . nomatch q
    | _=>nomatch q
  . rename_i xs e;cases y with
    | int i =>
     simp only at q
     split at q
     . rename_i w ew;cases q;obtain⟨a,vs,rfl,_,z,r⟩:=s.jA e rx;obtain⟨u,e1,e2⟩:=r.at ew;exact .inl (.inl ⟨a,vs,i,u,rfl,ry,z,e1,P _ ρ H (.refl _ _) s e2⟩)
     . nomatch q
    | _=>nomatch q
  . nomatch q
 | _=>cases q⟩
theorem OZ(hr:cm X pg k-> ∃ r,y4 X r/\ke X.K r f)(ha:JE X pg k a ma)(hb:JE X pg k b mb)(hs:qm b):JE X pg k (.Subscript a b pos) (ay f ma mb):=⟨λA =>
 let ⟨_,q1,s1⟩:=ha.h A;let ⟨_,q2,s2⟩:=hb.h A;by obtain⟨_,q,s⟩:=hr A;exact⟨_,Px q q1 q2 hs,w5 s s1 s2⟩⟩
def jj:PV->PV->PV->PH->RV Unit:=λx y v h=>match x with
 | .ref n=>(match h[n]? with
  | some (.dct kvs)=>(match o7 y with
   | some k=>if kvs.length < Vj then .ok () (h.set n (.dct (E3 kvs k v))) else .no
   | none=> .no)
  | some (.lst xs)=>(match y with
   | .int i=>(match mK xs.length i with | some j=> .ok () (h.set n (.lst (xs.set j v))) | none=> .no)
   | _=> .no)
  | _=> .no)
 | _=> .no
noncomputable def QD:Nj:=λo i v H Q=> ∃ a H',o= .ref a/\uW H a i v H'/\Q H'
theorem set_dict(hu:X.A.units+1 < Zh):pj X QD:=by
 intro pins s σ H o i v ov iv u Q I ro ri rv h;obtain⟨a,H',rfl,g,q⟩:=h;obtain rfl:ov=Vo a:=ro;exact yo hu I g ri rv λs' I'=>⟨H',I',q⟩
theorem pj.or(h:pj X t)(h':pj X t'):pj X (λo i v H Q=>t o i v H Q\/t' o i v H Q):=by
 intro pins s σ H o i v ov iv u Q I ro ri rv q;rcases q with q | q
 . exact h pins s σ H o i v ov iv u Q I ro ri rv q
 . exact h' pins s σ H o i v ov iv u Q I ro ri rv q
theorem OF:cm X pg k-> ∃ t,pj X t/\ ∀ ρ h H x y v x' y' v' u h' Q,cj X.K ρ h H->rel X.K ρ H x x'->rel X.K ρ H y y'->rel X.K ρ H v v'->jj x y v h= .ok u h'->j0 X.K ρ H h' Q->t x' y' v' H Q:=λA =>
 ⟨_,pj.or set_list (set_dict A.hu),fun ρ h H x y v x' y' v' u h' Q s rx ry rv q P=>by
 cases x with
 | ref n =>
  simp only[jj] at q
  obtain⟨a,ea,rfl⟩:=rx
  split at q
  . rename_i kvs e;split at q
    . rename_i key ek;split at q
      . rename_i hl;cases q;obtain⟨kws,e1,e2⟩:=s.ob n _ a e ea;have:=ir ek ry;subst this;refine .inr ⟨a,_,rfl,uW.k e1 (by rw[<- RK.len e2];exact hl),?_⟩;have g:Gr ρ H ρ (upd H a (.dK (putK kws key v'))):=Gr.write (.inr ⟨_,e1⟩);exact P ρ _ g (s.write e ea rfl rfl ⟨_,bb,Paired.gD g (RK.put e2 rv)⟩)
      . nomatch q
    . nomatch q
  . rename_i xs e;cases y with
    | int i =>
     simp only at q
     split at q
     . rename_i j ej;cases q;obtain⟨vs,e1,e2⟩:=s.ob n _ a e ea;have g:Gr ρ H ρ (upd H a (.lst (vs.set j v'))):=Gr.write (.inl ⟨_,e1⟩);exact .inl ⟨a,vs,i,j,rfl,ry,e1,by rw[<- e2.len];exact ej,P ρ _ g (s.write e ea rfl rfl ⟨_,bb,ak.gr g _ _ (e2.set j rv)⟩)⟩
     . nomatch q
    | _=>cases q
  . nomatch q
 | _=>cases q⟩
end
mutual
def cz(K:UW)(H:Hp):Yk->V->Prop
 | .none,v=>v= .non
 | .bool b,v=>v= .bl b
 | .int i,v=>v= .int i
 | .str x,v=>v= .str x
 | .list xs,v=> ∃ a vs,v= .ref a/\gP K H a vs/\fq K H xs vs
 | .tuple xs,v=> ∃ a vs,v= .ref a/\fU K H a vs/\fq K H xs vs
 | .dict _,_=>False
def fq(K:UW)(H:Hp):List Yk->List V->Prop
 | [],vs=>vs=[]
 | x::r,vs=> ∃ v t,vs=v::t/\cz K H x v/\fq K H r t
end
mutual
theorem cz.reads{X:Cx}{pins:List (U9 × Obj)}{σ :L2.St}{H:Hp}{s:U5}(I:Inv X pins σ H s): ∀(d:Yk)(v:V)(u:U1),cz X.K H d v->RelV v u-> ∃ as,Reads s.heap u d as
 | .none,v,u,h,r=>by rw[cz] at h;subst h;cases(show u=Wc from r);exact⟨_,.none⟩
 | .bool b,v,u,h,r=>by rw[cz] at h;subst h;cases(show u=YW b from r);exact⟨_,.bool b⟩
 | .int i,v,u,h,r=>by rw[cz] at h;subst h;obtain⟨t,rfl⟩:=(show ∃ t,u=Z5 i t from r);exact⟨_,.int i t⟩
 | .str x,v,u,h,r=>by rw[cz] at h;subst h;obtain⟨t,rfl⟩:=(show ∃ t,u=Z6 x t from r);exact⟨_,.str x t⟩
 | .list xs,v,u,h,r=>by
  rw[cz] at h;obtain⟨a,vs,rfl,z,q⟩:=h;cases(show u=Vo a from r);obtain⟨ar,rv,⟨o,n,e,c,_,dd⟩,_⟩:=I.list z;obtain⟨as,ra⟩:=fq.reads I xs vs ar q rv;exact⟨_,.list e c dd (by simpa using ra)⟩
 | .tuple xs,v,u,h,r=>by
  rw[cz] at h;obtain⟨a,vs,rfl,z,q⟩:=h;cases(show u=Vo a from r);obtain⟨ar,rv,⟨o,e,c,n,dd⟩,_⟩:=I.tuple z;obtain⟨as,ra⟩:=fq.reads I xs vs ar q rv;exact⟨_,.tuple e c dd (by simpa using ra)⟩
 | .dict _,v,u,h,r=>by rw[cz] at h;exact h.elim
theorem fq.reads{X:Cx}{pins:List (U9 × Obj)}{σ :L2.St}{H:Hp}{s:U5}(I:Inv X pins σ H s): ∀(xs:List Yk)(vs:List V)(us:List U1),fq X.K H xs vs->Vals vs us-> ∃ as,ReadsAll s.heap us xs as
 | [],vs,us,h,r=>by rw[fq] at h;subst h;cases r;exact⟨_,.nil⟩
 | x::t,vs,us,h,r=>by
  rw[fq] at h;obtain⟨v,w,rfl,h1,h2⟩:=h;cases r with
  | cons r1 r2 =>
   obtain⟨as,a⟩:=cz.reads I x v _ h1 r1
   obtain⟨bs,b⟩:=fq.reads I t w _ h2 r2
   exact⟨_,.cons a b⟩
end
mutual
def jh(sub:Nat->Option Yk):PV->Option Yk
 | .non=>UU .none
 | .bl b=>UU (.bool b)
 | .int i=>UU (.int i)
 | .str x=>UU (.str x)
 | .tup xs=>(cK sub xs).map .tuple
 | .ktup xs=>(cK sub xs).map .tuple
 | .ref n=>sub n
 | .ty _=>UX
def cK(sub:Nat->Option Yk):List PV->Option (List Yk)
 | []=>UU []
 | x::r=>match jh sub x,cK sub r with
  | some d1,UU ds1=>UU (d1::ds1)
  | _,_=>UX
end
noncomputable def dat:Nat->PH->PV->Option Yk
 | 0,_=>jh λ_=>UX
 | n+1,h=>jh λm=>match h[m]? with
  | some (.lst xs)=>(cK (λj=>dat n h (.ref j)) xs).map .list
  | some (.jA xs)=>(cK (λj=>dat n h (.ref j)) xs).map .list
  | _=>UX
mutual
theorem jh.v{K:UW}{ρ :List U9}{H:Hp}{sub:Nat->Option Yk}(hs: ∀ n d v,sub n=UU d->rel K ρ H (.ref n) v->cz K H d v): ∀(x:PV)(d:Yk)(v:V),jh sub x=UU d->rel K ρ H x v->cz K H d v
 | .non,d,v,e,r=>by cases e;rw[rel] at r;rw[cz];exact r
 | .bl b,d,v,e,r=>by cases e;rw[rel] at r;rw[cz];exact r
 | .int b,d,v,e,r=>by cases e;rw[rel] at r;rw[cz];exact r
 | .str b,d,v,e,r=>by cases e;rw[rel] at r;rw[cz];exact r
 | .ty b,d,v,e,r=>by nomatch e
 | .ref n,d,v,e,r=>hs n d v e r
 | .tup xs,d,v,e,r=>by
  rw[jh] at e;cases q:cK sub xs with
  | none=>rw[q] at e;nomatch e
  | some ds =>
   rw[q] at e;cases e
   obtain⟨a,vs,e1,e2,e3⟩:=rel.seq (x:= .tup xs) rfl r
   rw[cz];exact⟨a,vs,e1,e2,cK.v hs xs ds vs q e3⟩
 | .ktup xs,d,v,e,r=>by
  rw[jh] at e;cases q:cK sub xs with
  | none=>rw[q] at e;nomatch e
  | some ds =>
   rw[q] at e;cases e
   obtain⟨a,vs,e1,e2,e3⟩:=rel.seq (x:= .ktup xs) rfl r
   rw[cz];exact⟨a,vs,e1,e2,cK.v hs xs ds vs q e3⟩
theorem cK.v{K:UW}{ρ :List U9}{H:Hp}{sub:Nat->Option Yk}(hs: ∀ n d v,sub n=UU d->rel K ρ H (.ref n) v->cz K H d v): ∀(xs:List PV)(ds:List Yk)(vs:List V),cK sub xs=UU ds->ak K ρ H xs vs->fq K H ds vs
 | [],ds,vs,e,r=>by cases e;rw[ak] at r;rw[fq];exact r
 | x::t,ds,vs,e,r=>by
  rw[cK] at e;split at e
  . rename_i d ds' e1 e2;cases e;obtain⟨v,w,rfl,r1,r2⟩:=aD.mp r;rw[fq];exact⟨v,w,rfl,jh.v hs x d v e1 r1,cK.v hs t ds' w e2 r2⟩
  . nomatch e
end
theorem dat.v{K}(s:cj K ρ h H): ∀ n x d v,dat n h x=UU d->rel K ρ H x v->cz K H d v
 | 0,x,d,v,e,r=>jh.v (λ_ _ _ z _=>by cases z) x d v e r
 | n+1,x,d,v,e,r=>by
  refine jh.v (λm d' v' z rv=>?_) x d v e r;split at z
  . rename_i xs em;cases q:cK (λj=>dat n h (.ref j)) xs with
    | none=>rw[q] at z;nomatch z
    | some ds =>
     rw[q] at z;cases z
     obtain⟨a,vs,e1,_,e2,e3⟩:=s.lst em rv
     exact⟨a,vs,e1,.of e2,cK.v (λj d v z rv=>dat.v s n (.ref j) d v z rv) xs ds vs q e3⟩
  . rename_i xs em;cases q:cK (λj=>dat n h (.ref j)) xs with
    | none=>rw[q] at z;nomatch z
    | some ds =>
     rw[q] at z;cases z
     obtain⟨a,vs,e1,_,e2,e3⟩:=s.jA em rv
     exact⟨a,vs,e1,e2,cK.v (λj d v z rv=>dat.v s n (.ref j) d v z rv) xs ds vs q e3⟩
  . cases z
section
variable{K:UW}{X:Cx}{pg:Tb}{k:Nat}
noncomputable def Po(K:UW)(f:Bool->Bool):R2:=λx y H Q=> ∃ d d',cz K H d x/\cz K H d' y/\d.canLay0=true/\d'.canLay0=true/\min d.depth d'.depth<=64/\Q (.bl (f (aaf d d'))) H
theorem Mc(hr:X.A.units+64 < Zh):cI X (VF .Eq) (Po X.K id):=by
 rintro pins s σ H x y v u Q I rx ry ⟨d,d',h1,h2,c1,c2,hd,q⟩;obtain⟨as,ra⟩:=cz.reads I d x v h1 rx;obtain⟨bs,rb⟩:=cz.reads I d' y u h2 ry;exact SeqAt.compareEq_reads ra rb c1 c2 (by omega) ⟨.bl _,H,I,rfl,q⟩
theorem LB(hr:X.A.units+64 < Zh):cI X (VF .NotEq) (Po X.K not):=by
 rintro pins s σ H x y v u Q I rx ry ⟨d,d',h1,h2,c1,c2,hd,q⟩;obtain⟨as,ra⟩:=cz.reads I d x v h1 rx;obtain⟨bs,rb⟩:=cz.reads I d' y u h2 ry;exact SeqAt.compareNe_reads ra rb c1 c2 (by omega) ⟨.bl _,H,I,rfl,q⟩
noncomputable def i7:PV->PV->Bool
 | .non,.non=>true | .non,.int _=>true | .int _,.non=>true | .non,.bl _=>true | .bl _,.non=>true | .non,.str _=>true | .str _,.non=>true
 | .int _,.int _=>true | .bl _,.bl _=>true | .str _,.str _=>true
 | .int _,.str _=>true | .str _,.int _=>true | .bl _,.str _=>true | .str _,.bl _=>true
 | _,_=>false
noncomputable def iZ(h:PH):PV->Bool
 | .ref n=>(match h[n]? with
  | some (.dct _)=>true
  | _=>false)
 | _=>false
noncomputable def isStr:PV->Bool
 | .str _=>true
 | _=>false
def alike x y h :=
 if i7 x y=true then UU (decide (x=y)) else match dat 6 h x,dat 6 h y with
  | some a,UU b=>if a.canLay0=true/\b.canLay0=true/\min a.depth b.depth<=64 then UU (aaf a b) else UX
  | _,_=>if iZ h x=true/\isStr y=true then UU false else UX
def fZ(x y:PV)(h:PH):RV PV:=match alike x y h with
 | some b=> .ok (.bl b) h
 | none=> .no
def gG(x y:PV)(h:PH):RV PV:=match alike x y h with
 | some b=>if iZ h x=true then .no else .ok (.bl (!b)) h
 | none=> .no
theorem CK{ρ : List U9}{H : Hp}{x y : PV}{x' y' : V}(h : i7 x y = true)(rx : rel K ρ H x x')(ry : rel K ρ H y y') : EL x' y' = true /\ decide (x' = y') = decide (x = y) := by
  cases x <;> cases y <;> first
    | exact absurd (show false = true from h) Vr
    | (rw [rel] at rx; rw [rel] at ry; subst rx; subst ry; exact ⟨rfl, by simp⟩)
theorem n8(s:cj K ρ h H)(rx:rel K ρ H x x')(ry:rel K ρ H y y')(e:alike x y h=UU b) :
  (EL x' y'=true∧b=decide (x'=y'))∨(∃ d d',cz K H d x'∧cz K H d' y'∧d.canLay0=true∧d'.canLay0=true∧min d.depth d'.depth<=64∧b=aaf d d') ∨
  (iZ h x=true∧b=false∧ ∃ p z,x'= .ref p∧y'= .str z∧ ∃ kvs,H p=UU (.dK kvs)):=by
 unfold alike at e;split at e
 . rename_i hs;cases e;obtain⟨z,w⟩:=CK hs rx ry;exact .inl ⟨z,w.symm⟩
 . split at e
   . rename_i a c e1 e2;split at e
     . rename_i hc;cases e;exact .inr (.inl ⟨a,c,dat.v s 6 x a x' e1 rx,dat.v s 6 y c y' e2 ry,hc.1,hc.2.1,hc.2.2,rfl⟩)
     . nomatch e
   . split at e
     . rename_i hc;cases e;refine .inr (.inr ⟨hc.1,rfl,?_⟩);obtain⟨c1,c2⟩:=hc;cases x with
       | ref n =>
        cases y with
        | str z =>
         obtain⟨a,ea,rfl⟩:=rx
         simp only[iZ] at c1
         split at c1
         . rename_i kvs en;obtain⟨kws,e1,_⟩:=s.ob n _ a en ea;exact⟨a,z,rfl,ry,kws,e1⟩
         . cases c1
        | _=>cases c2
       | _=>cases c1
     . nomatch e
theorem Ss:cm X pg k-> ∃ r,cI X (VF .Eq) r/\ke X.K r fZ:=λA=>⟨_,Pw.or ((Mc A.room.units).or (GD A.room.KP)),fun ρ h H x y x' y' Q v h' s rx ry q P=>by
 unfold fZ at q;split at q
 . rename_i b e;cases q;have fin:=P _ ρ H (.refl _ _) s (by rw[rel]);rcases n8 s rx ry e with⟨z,rfl⟩ | ⟨d,d',h1,h2,h3,h4,h5,rfl⟩ | ⟨_,rfl,p,z,e1,e2,kvs,e3⟩
   . exact .inl ⟨z,fin⟩
   . exact .inr (.inl ⟨d,d',h1,h2,h3,h4,h5,fin⟩)
   . exact .inr (.inr ⟨p,z,e1,e2,.inr (.inr ⟨kvs,e3⟩),fin⟩)
 . cases q⟩
theorem Sw:cm X pg k-> ∃ r,cI X (VF .NotEq) r/\ke X.K r gG:=λA=>⟨_,Pm.or (LB A.room.units),fun ρ h H x y x' y' Q v h' s rx ry q P=>by
 unfold gG at q;split at q
 . rename_i b e;split at q
   . nomatch q
   . rename_i hd;cases q;have fin:=P _ ρ H (.refl _ _) s (by rw[rel]);rcases n8 s rx ry e with⟨z,rfl⟩ | ⟨d,d',h1,h2,h3,h4,h5,rfl⟩ | ⟨z,_⟩
     . exact .inl ⟨z,fin⟩
     . exact .inr ⟨d,d',h1,h2,h3,h4,h5,fin⟩
     . exact absurd z hd
 . nomatch q⟩
noncomputable def Qc(K:UW)(f:Bool->Bool):R2:=λx y H Q=> ∃ p vs xs d,y= .ref p/\(gP K H p vs\/fU K H p vs)/\fq K H xs vs/\cz K H d x/\Zp xs=true/\d.canLay0=true/\min (W4 xs) d.depth<=60/\Q (.bl (f (xs.any λz=>aaf z d))) H
theorem LU(hr:X.A.units+64 < Zh):cI X (VF .In) (Qc X.K id):=by
 rintro pins s σ H x y v u Q I rx ry ⟨p,vs,xs,d,e,hq,h1,h2,c1,c2,hd,q⟩;subst e;obtain⟨bs,rb⟩:=cz.reads I d x v h2 rx;rcases hq with hq | hq
 . obtain⟨as,ra⟩:=cz.reads I (.list xs) (.ref p) u (by exact⟨p,vs,rfl,hq,h1⟩) ry;exact SeqAt.in_list_reads ra rb c1 c2 (by omega) ⟨.bl _,H,I,rfl,q⟩
 . obtain⟨as,ra⟩:=cz.reads I (.tuple xs) (.ref p) u (by exact⟨p,vs,rfl,hq,h1⟩) ry;exact SeqAt.in_tuple_reads ra rb c1 c2 (by omega) ⟨.bl _,H,I,rfl,q⟩
theorem yd(hr:X.A.units+64 < Zh):cI X (VF .NotIn) (Qc X.K not):=by
 rintro pins s σ H x y v u Q I rx ry ⟨p,vs,xs,d,e,hq,h1,h2,c1,c2,hd,q⟩;subst e;obtain⟨bs,rb⟩:=cz.reads I d x v h2 rx;rcases hq with hq | hq
 . obtain⟨as,ra⟩:=cz.reads I (.list xs) (.ref p) u (by exact⟨p,vs,rfl,hq,h1⟩) ry;exact SeqAt.notIn_list_reads ra rb c1 c2 (by omega) ⟨.bl _,H,I,rfl,q⟩
 . obtain⟨as,ra⟩:=cz.reads I (.tuple xs) (.ref p) u (by exact⟨p,vs,rfl,hq,h1⟩) ry;exact SeqAt.notIn_tuple_reads ra rb c1 c2 (by omega) ⟨.bl _,H,I,rfl,q⟩
noncomputable def PB(f:Bool->Bool):R2:=λx y H Q=> ∃ a o,y= .ref a/\ko H a x o/\Q (.bl (f o.isSome)) H
theorem Mj(hu:X.A.units+1 < Zh):cI X (VF .In) (PB id):=by
 rintro pins s σ H x y v u Q I rx ry ⟨a,o,e,g,q⟩;subst e;obtain rfl:u=Vo a:=ry;exact SW hu I g rx λs' I'=>⟨.bl _,H,I',rfl,q⟩
theorem yD(hu:X.A.units+1 < Zh):cI X (VF .NotIn) (PB not):=by
 rintro pins s σ H x y v u Q I rx ry ⟨a,o,e,g,q⟩;subst e;obtain rfl:u=Vo a:=ry;exact D9 hu I g rx λs' I'=>⟨.bl _,H,I',rfl,q⟩
def itemsOf(h:PH):PV->Option (List PV)
 | .tup xs=>UU xs
 | .ktup xs=>UU xs
 | .ref n=>bQ h n
 | _=>UX
theorem cj.items(s:cj K ρ h H)(e:itemsOf h x=UU xs)(r:rel K ρ H x v): ∃ a vs,v= .ref a/\(gP K H a vs\/fU K H a vs)/\ak K ρ H xs vs:=by
 cases x with
 | tup ys=>cases e;obtain⟨a,vs,e1,e2,e3⟩:=rel.seq (x:= .tup xs) rfl r;exact⟨a,vs,e1,.inr e2,e3⟩
 | ktup ys=>cases e;obtain⟨a,vs,e1,e2,e3⟩:=rel.seq (x:= .ktup xs) rfl r;exact⟨a,vs,e1,.inr e2,e3⟩
 | ref n=>obtain⟨a,vs,e1,_,e2,e3⟩:=s.sq e r;exact⟨a,vs,e1,.inl e2,e3⟩
 | _=>cases e
noncomputable def fN:PV->Bool
 | .non=>true
 | .bl _=>true
 | .int _=>true
 | .str _=>true
 | _=>false
noncomputable def Nr:PV->PV->Bool
 | .non,.non=>true
 | .bl a,.bl b=>a == b
 | .bl a,.int b=>(if a then 1 else 0) == b
 | .int a,.bl b=>a == (if b then 1 else 0)
 | .int a,.int b=>a == b
 | .str a,.str b=>a == b
 | _,_=>false
theorem ub(h:fN x=true)(r:rel K ρ H x v):gW v=true:=by
 cases x<;>first | (revert h;simp [fN];done) | (subst r;rfl)
theorem Gv(hx : fN x = true)(hy : fN y = true)(rx : rel K ρ H x v)(ry : rel K ρ H y w) : EM v w = Nr x y := by
  cases x <;> first
    | (exfalso; revert hx; simp [fN]; done)
    | (cases y <;> first
        | (exfalso; revert hy; simp[fN]; done)
        | (subst rx; subst ry; rfl))
theorem HC(hx:fN x=true)(rx:rel K ρ H x v): ∀{xs vs},xs.all fN=true->ak K ρ H xs vs->vs.all gW=true/\OX v vs=xs.any λz=>Nr z x
 | [],vs,_,r=>by subst r;exact⟨rfl,rfl⟩
 | y::t,vs,h,r=>by
  obtain⟨w,u,rfl,r1,r2⟩:=aD.mp r;simp only[Vc,Yf] at h;obtain⟨a,b⟩:=HC hx rx h.2 r2;refine⟨by rw[Yf,ub h.1 r1,a];rfl,?_⟩;unfold OX at b ⊢;rw[Xr,Xr,b,Gv h.1 hx r1 rx]
def isIn(x y:PV)(h:PH):Option Bool:=match itemsOf h y with
 | some xs=>if (fN x&&xs.all fN)=true then UU (xs.any λz=>Nr z x) else(match dat 6 h x,cK (λj=>dat 6 h (.ref j)) xs with
  | some d,UU ds=>if Zp ds=true/\d.canLay0=true/\min (W4 ds) d.depth<=60 then UU (ds.any λz=>aaf z d) else UX
  | _,_=>UX)
 | none=>(match y with
  | .ref n=>(match h[n]? with
   | some (.dct kvs)=>(o7 x).map λk=>(ft kvs k).isSome
   | _=>UX)
  | .str j=>(match x with
   | .str i=>UU (!(V3 j i 0 j.length 1).isEmpty)
   | _=>UX)
  | _=>UX)
def kZ(x y:PV)(h:PH):RV PV:=match isIn x y h with
 | some b=> .ok (.bl b) h
 | none=> .no
def b6(x y:PV)(h:PH):RV PV:=match isIn x y h with
 | some b=> .ok (.bl (!b)) h
 | none=> .no
theorem p6(s:cj K ρ h H)(rx:rel K ρ H x x')(ry:rel K ρ H y y')(e:isIn x y h=UU b) :
  (∃ p xs,y'= .ref p/\(gP K H p xs\/fU K H p xs)/\gW x'=true/\xs.all gW=true/\b=OX x' xs) \/
  (∃ p vs xs d,y'= .ref p/\(gP K H p vs\/fU K H p vs)/\fq K H xs vs/\cz K H d x'/\Zp xs=true/\d.canLay0=true/\min (W4 xs) d.depth<=60/\b=xs.any λz=>aaf z d) \/
  (∃ a o,y'= .ref a/\ko H a x' o/\b=o.isSome) \/
  (∃ i j,x'= .str i/\y'= .str j/\b= !(V3 j i 0 j.length 1).isEmpty):=by
 unfold isIn at e;split at e
 . rename_i xs ei;obtain⟨a,vs,rfl,z,r⟩:=s.items ei ry;split at e
   . rename_i hf;cases e;rw[Vc] at hf;obtain⟨f1,f2⟩:=HC hf.1 rx hf.2 r;exact .inl ⟨a,vs,rfl,z,ub hf.1 rx,f1,f2.symm⟩
   . split at e
     . rename_i d ds e1 e2;split at e
       . rename_i hc;cases e;exact .inr (.inl ⟨a,vs,ds,d,rfl,z,cK.v (λj d v w rv=>dat.v s 6 (.ref j) d v w rv) xs ds vs e2 r,dat.v s 6 x d x' e1 rx,hc.1,hc.2.1,hc.2.2,rfl⟩)
       . nomatch e
     . nomatch e
 . split at e
   . rename_i n ei;split at e
     . rename_i kvs en;cases q:o7 x with
       | none=>simp_all
       | some key =>
        rw[q] at e
        cases e
        obtain⟨a,ea,rfl⟩:=ry
        obtain⟨kws,e1,e2⟩:=s.ob n _ a en ea
        have:=ir q rx
        subst this
        exact .inr (.inr (.inl ⟨a,_,rfl,ko.k (k:=key) e1,(RK.is key e2).symm⟩))
     . simp_all
   . split at e
     . cases e;exact .inr (.inr (.inr ⟨_,_,rx,ry,rfl⟩))
     . nomatch e
   . nomatch e
theorem R5:cm X pg k-> ∃ r,cI X (VF .In) r/\ke X.K r kZ:=λA=>⟨_,za.or ((LU A.room.units).or ((Mj A.hu).or zA)),fun ρ h H x y x' y' Q v h' s rx ry q P=>by
 unfold kZ at q;split at q
 . rename_i b e;cases q;have fin:=P _ ρ H (.refl _ _) s (by rw[rel]);rcases p6 s rx ry e with⟨p,xs,e1,e2,e3,e4,rfl⟩ | ⟨p,vs,xs,d,e1,e2,e3,e4,e5,e6,e7,rfl⟩ | ⟨a,o,e1,e2,rfl⟩ | ⟨i,j,e1,e2,rfl⟩
   . exact .inl ⟨p,xs,e1,e2,e3,e4,fin⟩
   . exact .inr (.inl ⟨p,vs,xs,d,e1,e2,e3,e4,e5,e6,e7,fin⟩)
   . exact .inr (.inr (.inl ⟨a,o,e1,e2,fin⟩))
   . exact .inr (.inr (.inr ⟨i,j,e1,e2,fin⟩))
 . cases q⟩
theorem F8:cm X pg k-> ∃ r,cI X (VF .NotIn) r/\ke X.K r b6:=λA=>⟨_,qr.or ((yd A.room.units).or ((yD A.hu).or rh)),fun ρ h H x y x' y' Q v h' s rx ry q P=>by
 unfold b6 at q;split at q
 . rename_i b e;cases q;have fin:=P _ ρ H (.refl _ _) s (by rw[rel]);rcases p6 s rx ry e with⟨p,xs,e1,e2,e3,e4,rfl⟩ | ⟨p,vs,xs,d,e1,e2,e3,e4,e5,e6,e7,rfl⟩ | ⟨a,o,e1,e2,rfl⟩ | ⟨i,j,e1,e2,rfl⟩
   . exact .inl ⟨p,xs,e1,e2,e3,e4,fin⟩
   . exact .inr (.inl ⟨p,vs,xs,d,e1,e2,e3,e4,e5,e6,e7,fin⟩)
   . exact .inr (.inr (.inl ⟨a,o,e1,e2,fin⟩))
   . exact .inr (.inr (.inr ⟨i,j,e1,e2,fin⟩))
 . cases q⟩
noncomputable def nO(neg:Bool)(x:PV)(h:PH):RV PV:= .ok (.bl (if neg then !decide (x= .non) else decide (x= .non))) h
theorem Er(r:rel K ρ H x v):decide (v= .non)=decide (x= .non):=by
 cases x with
 | non=>subst r;rfl
 | bl=>subst r;rfl
 | int=>subst r;rfl
 | str=>subst r;rfl
 | ty=>subst r;rfl
 | tup=>obtain⟨a,_,rfl,_⟩:=r;rfl
 | ktup=>obtain⟨a,_,rfl,_⟩:=r;rfl
 | ref=>obtain⟨a,_,rfl⟩:=r;rfl
variable{a:VN}{ma:ME}{pos pos':Pos}
theorem Iy(neg:Bool)(s1:SE c K ta ma):SE c K (fun σ H Q=>ta σ H λx H1=>Q (.bl (if neg then !decide (x= .non) else decide (x= .non))) H1) (jV (nO neg) ma):=fun ρ h H e σ Q v h' s r q P=>by
 obtain⟨x,h1,e1,q⟩:=bind_eq.mp q;cases q;refine s1 ρ h H e σ _ x _ s r e1 λx' ρ1 H1 g1 z1 r1=>?_;rw[Er r1];exact P _ ρ1 H1 g1 z1 (by rw[rel])
theorem IH(ha:JE X pg k a ma):JT X pg k (.Compare a [.Is] [.Constant .none j pos'] pos) (aC (jV (nO false) ma)):=⟨λA=>by obtain⟨_,q1,s1⟩:=ha.h A;exact⟨_,Ke q1,kf (Iy false s1)⟩⟩
end
section
variable{K:UW}{X:Cx}{pg:Tb}{k:Nat}
abbrev MO:=CF->aM->PH->RV (Option Int)
noncomputable def aI:MO:=λ_ _ h=> .ok UX h
def aB(a:ME):MO:=λc e h=>(a c e h).bind λv h1=>match v with
 | .int i=> .ok (UU i) h1
 | _=> .no
def dN(xs:List PV)(lo hi:Option Int):=(xs.drop (HT.dj xs.length 0 lo)).take (HT.dj xs.length xs.length hi - HT.dj xs.length 0 lo)
def yU(x:PV)(lo hi:Option Int)(h:PH):RV PV:=match x with
 | .tup xs=> .ok (.tup (dN xs lo hi)) h
 | .ref n=>(match bQ h n with
  | some xs=> .ok (.ref h.length) (h++[.lst (dN xs lo hi)])
  | none=> .no)
 | _=> .no
def de(a:ME)(l u:MO):ME:=λc e h=>(a c e h).bind λx h1=>(l c e h1).bind λlo h2=>(u c e h2).bind λhi h3=>yU x lo hi h3
structure JO(X:Cx)(pg:Tb)(k:Nat)(e:Option VN)(m:MO):Prop where
 h:cm X pg k-> ∃ t,QO X e t/\ ∀ ρ h H e σ Q o h',cj X.K ρ h H->cg X.K ρ H e σ ->m (run pg k) e h= .ok o h'->j0 X.K ρ H h' (Q o)->t σ H Q
theorem FF:JO X pg k UX aI:=⟨λA=>⟨_,GH,fun ρ h H e σ Q o h' s r q P=>by cases q;exact P ρ H (.refl _ _) s⟩⟩
theorem Dp(ha:JE X pg k e ma):JO X pg k (UU e) (aB ma):=⟨λA=>by obtain⟨_,q1,s1⟩:=ha.h A;exact⟨_,EG q1,fun ρ h H e σ Q o h' s r q P=>by
 obtain⟨v,h1,e1,q⟩:=bind_eq.mp q;refine s1 ρ h H e σ _ v h1 s r e1 λv' ρ1 H1 g1 z1 r1=>?_;cases v with
 | int i=>cases q;exact⟨i,r1,P ρ1 H1 g1 z1⟩
 | _=>cases q⟩⟩
theorem ak.cut(r:ak K ρ H xs vs) lo hi:ak K ρ H (dN xs lo hi) (lF vs lo hi):=by
 unfold dN lF;rw[<- r.len];exact(r.drop _).take _
theorem AG{lo p2}(ha:JE X pg k e ma)(hl:JO X pg k lo ml)(hh:JO X pg k hi mu):JE X pg k (.Subscript e (.Slice lo hi UX p2) pos) (de ma ml mu):=⟨λA =>
 by obtain⟨_,q1,s1⟩:=ha.h A;exact by obtain⟨_,q2,s2⟩:=hl.h A;exact by obtain⟨_,q3,s3⟩:=hh.h A;exact⟨_,Be Uw q1 q2 q3,fun ρ h H e σ Q v h' s r q P=>by
 obtain⟨x,h1,e1,q⟩:=bind_eq.mp q
 obtain⟨lo,h2,e2,q⟩:=bind_eq.mp q
 obtain⟨hi,h3,e3,q⟩:=bind_eq.mp q
 refine s1 ρ h H e σ _ x h1 s r e1 λx' ρ1 H1 g1 z1 r1=>?_
 refine s2 ρ1 h1 H1 e σ _ lo h2 z1 (r.gr g1) e2 fun ρ2 H2 g2 z2=>?_
 refine s3 ρ2 h2 H2 e σ _ hi h3 z2 (r.gr (g1.trans g2)) e3 fun ρ3 H3 g3 z3=>?_
 have r3:=rel.gr (K:=X.K) (g2.trans g3) _ _ r1
 have P3:=P.gr ((g1.trans g2).trans g3)
 cases x with
 | tup xs =>
  cases q
  obtain⟨a,vs,rfl,d1,d2⟩:=r3
  by_cases hw:HT.dj vs.length 0 lo=0/\HT.dj vs.length vs.length hi=vs.length
  . refine .inr (.inr ⟨a,vs,rfl,.of d1,hw,P3 _ ρ3 H3 (.refl _ _) z3 ?_⟩);have:dN xs lo hi=xs:=by
     unfold dN;rw[d2.len,hw.1,hw.2,Zo,acx,<- d2.len,acM]
    rw[this];exact⟨a,vs,rfl,d1,d2⟩
  . exact .inr (.inl ⟨a,vs,rfl,.of d1,hw,λp hp=>l3 z3 (d2.cut lo hi) P3 p hp⟩)
 | ref n =>
  simp only[yU] at q
  split at q
  . rename_i xs en;cases q;obtain⟨a,vs,rfl,_,d1,d2⟩:=z3.sq en r3;exact .inl ⟨a,vs,rfl,d1,λp hp=>fJ z3 (d2.cut lo hi) P3 p hp⟩
  . cases q
 | _=>cases q⟩⟩
def aP:List PV->PH->RV PV:=λxs h=>match xs with
 | [x]=>(match itemsOf h x with
  | some ys=> .ok (.int ys.length) h
  | none=>(match x with
   | .str z=>oX z.length (.ok (.int z.length) h)
   | .ref n=>(match h[n]? with
    | some (.dct kvs)=> .ok (.int kvs.length) h
    | _=> .no)
   | _=> .no))
 | _=> .no
theorem bc(r:ak K ρ H [x] us): ∃ u,us=[u]/\rel K ρ H x u:=by
 obtain⟨v,t,rfl,r1,r2⟩:=aD.mp r;exact⟨v,by rw[r2],r1⟩
theorem nt(r:ak K ρ H [x,y] us): ∃ u w,us=[u,w]/\rel K ρ H x u/\rel K ρ H y w:=by
 obtain⟨v,t,rfl,r1,r2⟩:=aD.mp r;obtain⟨w,rfl,r3⟩:=bc r2;exact⟨v,w,rfl,r1,r3⟩
theorem N6:cm X pg k-> ∃ r,aU X (.builtin "len") r/\zC X.K r aP:=λA=>⟨_,D1.or yN,fun ρ h H xs us Q v h' s r q P=>by
 unfold aP at q;split at q
 . obtain⟨u,rfl,r1⟩:=bc r;have r:=r1;split at q
   . rename_i ys e;cases q;obtain⟨a,vs,rfl,z,r2⟩:=s.items e r;exact .inl (.inl ⟨a,vs,rfl,z,by rw[<- r2.len];exact P _ ρ H (.refl _ _) s (by rw[rel])⟩)
   . split at q
     . obtain⟨hl,q⟩:=gR.mp q;cases q;subst r;exact .inl (.inr ⟨_,rfl,hl,P _ ρ H (.refl _ _) s (by rw[rel])⟩)
     . split at q
       . rename_i e;cases q;obtain⟨a,ea,rfl⟩:=r;obtain⟨kws,e1,e2⟩:=s.ob _ _ a e ea;exact .inr ⟨a,kws,rfl,e1,by rw[<- RK.len e2];exact P _ ρ H (.refl _ _) s (by rw[rel])⟩
       . nomatch q
     . nomatch q
 . nomatch q⟩
inductive Ty where
 | non | bool | int | str | tuple | list | dict
 deriving DecidableEq
noncomputable def Ty.n:Ty->String
 | .non=> "NoneType" | .bool=> "bool" | .int=> "int" | .str=> "str" | .tuple=> "tuple" | .list=> "list" | .dict=> "dict"
noncomputable def Ty.of:String->Option Ty
 | "bool" =>UU .bool | "int" =>UU .int | "str" =>UU .str | "tuple" =>UU .tuple | "list" =>UU .list | "dict" =>UU .dict
 | _=>UX
noncomputable def Ty.Qi(a b:Ty):=decide (a=b)||(decide (a= .bool)&&decide (b= .int))
def tyP(h:PH):PV->Option Ty
 | .non=>UU .non
 | .bl _=>UU .bool
 | .int _=>UU .int
 | .str _=>UU .str
 | .tup _=>UU .tuple
 | .ref n=>(match h[n]? with
  | some (.lst _)=>UU .list
  | some (.dct _)=>UU .dict
  | _=>UX)
 | _=>UX
theorem CB(s:cj K ρ h H)(e:tyP h x=UU t)(r:rel K ρ H x v):iV K H v (.type t.n):=by
 cases x with
 | non=>cases e;subst r;exact .non
 | bl b=>cases e;subst r;exact .bl b
 | int i=>cases e;subst r;exact .int i
 | str z=>cases e;subst r;exact .str z
 | tup xs=>cases e;obtain⟨a,vs,rfl,e1,_⟩:=r;exact .tup e1
 | ref n =>
  obtain⟨a,ea,rfl⟩:=r
  simp only[tyP] at e
  split at e
  . rename_i en;cases e;obtain⟨vs,e1,_⟩:=s.ob n _ a en ea;exact .lst e1
  . rename_i en;cases e;obtain⟨vs,e1,_⟩:=s.ob n _ a en ea;exact .dK e1
  . cases e
 | _=>cases e
theorem Bi(a b:Ty)(hb:b≠ .non):Zf K (.type a.n) (.type b.n)=UU (a.Qi b):=by
 cases b<;>first | (exact absurd rfl hb) | (cases a<;>rfl)
theorem Ty.Qw(h:Ty.of T=UU t):T=t.n/\t≠ .non:=by
 unfold Ty.of at h;split at h<;>first | (cases h;exact⟨rfl,by decide⟩) | cases h
def xG:List PV->Option (List Ty)
 | []=>UU []
 | .ty T::r=>(match Ty.of T,xG r with
  | some t,UU ts=>UU (t::ts)
  | _,_=>UX)
 | _=>UX
def lO:List PV->PH->RV PV:=λxs h=>match xs with
 | [x,.ty T]=>(match tyP h x,Ty.of T with
  | some a,UU b=> .ok (.bl (a.Qi b)) h
  | _,_=> .no)
 | [x,.tup ts]=>(match tyP h x,xG ts with
  | some a,UU bs=> .ok (.bl (bs.any a.Qi)) h
  | _,_=> .no)
 | _=> .no
theorem wX: ∀{ts bs vs},xG ts=UU bs->ak K ρ H ts vs->vs=(bs.map Ty.n).map V.ty/\ ∀ b∈bs,b≠ .non
 | [],bs,vs,e,r=>by cases e;subst r;exact⟨rfl,λ_ m=>by cases m⟩
 | .ty T::t,bs,vs,e,r=>by
  simp only[xG] at e;split at e
  . rename_i b bs' e1 e2;cases e;obtain⟨v,w,rfl,r1,r2⟩:=aD.mp r;obtain⟨h1,h2⟩:=wX e2 r2;obtain⟨n1,n2⟩:=Ty.Qw e1;refine⟨by rw[r1,h1,n1];rfl,λc m=>?_⟩;rcases Vt.mp m with rfl | m
    . exact n2
    . exact h2 c m
  . cases e
 | .non::_,_,_,e,_=>by cases e
 | .bl _::_,_,_,e,_=>by cases e
 | .int _::_,_,_,e,_=>by cases e
 | .str _::_,_,_,e,_=>by cases e
 | .tup _::_,_,_,e,_=>by cases e
 | .ktup _::_,_,_,e,_=>by cases e
 | .ref _::_,_,_,e,_=>by cases e
theorem wa(a:Ty): ∀(bs:List Ty),(∀ b∈bs,b≠ .non)->WG K (.type a.n) ((bs.map Ty.n).map Yn)=UU (bs.any a.Qi)
 | [],_=>rfl
 | b::r,h=>by
  have h1:=Bi (K:=K) a b (h b Ve);have h2:=wa a r λc m=>h c (Vl _ m);simp only[U2,Xr,WG,h1,h2];cases a.Qi b<;>rfl
theorem Q0:cm X pg k-> ∃ r,aU X (.builtin "isinstance") r/\zC X.K r lO:=λA=>⟨_,AE,fun ρ h H xs us Q v h' s r q P=>by
 unfold lO at q;split at q
 . rename_i x T;split at q
   . rename_i a b e1 e2;cases q;obtain⟨u,w,rfl,r1,r2⟩:=nt r;subst r2;obtain⟨n1,n2⟩:=Ty.Qw e2;exact .inl ⟨u,T,_,_,rfl,CB s e1 r1,by rw[n1];exact Bi a b n2,P _ ρ H (.refl _ _) s (by rw[rel])⟩
   . nomatch q
 . split at q
   . rename_i a bs e1 e2;cases q;obtain⟨u,w,rfl,r1,r2⟩:=nt r;obtain⟨p,vs,rfl,e3,e4⟩:=r2;obtain⟨h1,h2⟩:=wX e2 e4;subst h1;exact .inr ⟨u,p,_,_,_,rfl,e3,CB s e1 r1,wa a bs h2,P _ ρ H (.refl _ _) s (by rw[rel])⟩
   . nomatch q
 . nomatch q⟩
noncomputable def Jy:List PV->PH->RV PV:=λxs h=>match xs with
 | [.int i]=> .ok (.int i) h
 | [.bl b]=> .ok (.int (if b then 1 else 0)) h
 | _=> .no
theorem O7:cm X pg k-> ∃ r,aU X (.type "int") r/\zC X.K r Jy:=λA=>⟨_,GB,fun ρ h H xs us Q v h' s r q P=>by
 unfold Jy at q;split at q
 . cases q;obtain⟨u,rfl,r1⟩:=bc r;have r:=r1;subst r;exact .inl ⟨_,rfl,P _ ρ H (.refl _ _) s (by rw[rel])⟩
 . cases q;obtain⟨u,rfl,r1⟩:=bc r;have r:=r1;subst r;exact .inr ⟨_,rfl,P _ ρ H (.refl _ _) s (by rw[rel])⟩
 . cases q⟩
def aH:List PV->PH->RV PV:=λxs h=>match xs with
 | [.tup ys]=> .ok (.tup ys) h
 | [.ref n]=>(match bQ h n with
  | some ys=> .ok (.tup ys) h
  | none=> .no)
 | _=> .no
theorem xx:cm X pg k-> ∃ r,aU X (.type "tuple") r/\zC X.K r aH:=λA=>⟨_,E2,fun ρ h H xs us Q v h' s r q P=>by
 unfold aH at q;split at q
 . cases q;obtain⟨u,rfl,r1⟩:=bc r;have r:=r1;have r':=r;obtain⟨a,vs,rfl,e1,e2⟩:=r;exact⟨a,vs,rfl,.inr ⟨.of e1,P _ ρ H (.refl _ _) s r'⟩⟩
 . split at q
   . rename_i ys e;cases q;obtain⟨u,rfl,r1⟩:=bc r;have r:=r1;obtain⟨a,vs,rfl,_,e1,e2⟩:=s.sq e r;exact⟨a,vs,rfl,.inl ⟨e1,λp hp=>l3 s e2 P p hp⟩⟩
   . nomatch q
 . nomatch q⟩
def jg:List PV->PH->RV PV:=λxs h=>match xs with
 | [x]=>(match itemsOf h x with
  | some ys=> .ok (.ref h.length) (h++[.lst ys])
  | none=> .no)
 | _=> .no
theorem BV:cm X pg k-> ∃ r,aU X (.type "list") r/\zC X.K r jg:=λA=>⟨_,rM,fun ρ h H xs us Q v h' s r q P=>by
 unfold jg at q;split at q
 . split at q
   . rename_i ys e;cases q;obtain⟨u,rfl,r1⟩:=bc r;have r:=r1;obtain⟨a,vs,rfl,z,r2⟩:=s.items e r;exact⟨a,vs,rfl,z,λp hp=>fJ s r2 P p hp⟩
   . nomatch q
 . nomatch q⟩
noncomputable def va:List PV->Option (List Bool)
 | []=>UU []
 | .bl b::r=>(va r).map (b:: ·)
 | _=>UX
theorem wN: ∀{xs bs},va xs=UU bs->xs=bs.map PV.bl
 | [],bs,e=>by cases e;rfl
 | .bl b::r,bs,e=>by
  rw[va] at e;cases q:va r with
  | none=>simp_all
  | some cs=>rw[q] at e;cases e;rw[wN q];rfl
 | .non::_,_,e=>by cases e
 | .int _::_,_,e=>by cases e
 | .str _::_,_,e=>by cases e
 | .tup _::_,_,e=>by cases e
 | .ktup _::_,_,e=>by cases e
 | .ref _::_,_,e=>by cases e
 | .ty _::_,_,e=>by cases e
theorem wQ: ∀{bs:List Bool}{vs},ak K ρ H (bs.map PV.bl) vs->vs=bs.map V.bl
 | [],vs,r=>bG.mp r
 | b::t,vs,r=>by
  obtain⟨v,w,rfl,r1,r2⟩:=aD.mp r;rw[r1,wQ r2];rfl
def xv{α :Type}(g:List PV->Option (List α))(f:List α ->PV):List PV->PH->RV PV:=λxs h=>match xs with
 | [.ref n]=>(match bQ h n with
  | some ys=>(match g ys with
   | some bs=> .ok (f bs) h
   | none=> .no)
  | none=> .no)
 | _=> .no
theorem Ay(q:xv g f xs h= .ok v h'): ∃ n ys bs,xs=[.ref n]/\bQ h n=UU ys/\g ys=UU bs/\v=f bs/\h'=h:=by
 unfold xv at q;split at q
 . split at q
   . split at q
     . cases q;exact⟨_,_,_,rfl,by assumption,by assumption,rfl,rfl⟩
     . nomatch q
   . nomatch q
 . nomatch q
def vh:=xv va λbs=> .bl (bs.all id)
theorem Pk:cm X pg k-> ∃ r,aU X (.builtin "all") r/\zC X.K r vh:=λA=>⟨_,Fs A.calm,fun ρ h H xs us Q v h' s r q P=>by
 obtain⟨n,ys,bs,rfl,e1,e2,rfl,rfl⟩:=Ay q;obtain⟨u,rfl,r1⟩:=bc r;have r:=r1;obtain⟨a,vs,rfl,_,z,r2⟩:=s.sq e1 r;rw[wN e2] at r2;exact⟨a,bs,rfl,by rw[wQ r2] at z;exact z,P _ ρ H (.refl _ _) s (by rw[rel])⟩⟩
def aO:PV->PH->Bool:=λx h=>match x with
 | .ref n=>(match h[n]? with
  | some (.lst _)=>true
  | _=>false)
 | _=>false
theorem tu(s:cj K ρ h H)(r:rel K ρ H x v)(e:aO x h=true):Qp K "list" v H:=by
 cases x with
 | ref n =>
  simp only[aO] at e
  split at e
  . rename_i en;obtain⟨a,vs,rfl,_,e1,_⟩:=s.lst en r;exact .inl ⟨rfl,vs,.of e1⟩
  . cases e
 | _=>cases e
def az:PV->List PV->PH->RV PV:=λx vs h=>match x,vs with
 | .ref n,[v]=>(match h[n]? with
  | some (.lst xs)=>if xs.length < Vj then .ok .non (h.set n (.lst (xs++[v]))) else .no
  | _=> .no)
 | _,_=> .no
theorem tj:cm X pg k-> ∃ r,xc X "list.append" r/\Nv X.K "list" r az aO:=λA=>⟨_,yF,fun ρ h H x x' s r e=>tu s r e,fun ρ h H x x' xs us Q v h' s rx rs q P=>by
 unfold az at q;split at q
 . split at q
   . rename_i ys en;split at q
     . rename_i hl;cases q;obtain⟨a,vs,rfl,ea,e1,e2⟩:=s.lst en rx;obtain⟨u,rfl,r⟩:=bc rs;have g:Gr ρ H ρ (upd H a (.lst (vs++[u]))):=Gr.write (.inl ⟨_,e1⟩);exact⟨a,vs,u,rfl,rfl,e1,by rw[<- e2.len];exact hl,P _ ρ _ g (s.write en ea rfl rfl ⟨_,bb,ak.gr g _ _ (e2.app (ak.one r))⟩) (by rw[rel])⟩
     . nomatch q
   . nomatch q
 . nomatch q⟩
def iU:PV->List PV->PH->RV PV:=λx vs h=>match x,vs with
 | .ref n,[.ref m]=>(match h[n]?,h[m]? with
  | some (.lst xs),UU (.lst ys)=>oX (xs.length+ys.length) (.ok .non (h.set n (.lst (xs++ys))))
  | _,_=> .no)
 | _,_=> .no
theorem sF:cm X pg k-> ∃ r,xc X "list.extend" r/\Nv X.K "list" r iU aO:=λA=>⟨_,yG,fun ρ h H x x' s r e=>tu s r e,fun ρ h H x x' xs us Q v h' s rx rs q P=>by
 unfold iU at q;split at q
 . rename_i n m;split at q
   . rename_i ys zs en em;obtain⟨hl,q⟩:=gR.mp q;cases q;obtain⟨a,vs,rfl,ea,e1,e2⟩:=s.lst en rx;obtain⟨u,rfl,r⟩:=bc rs;obtain⟨b,ws,rfl,eb,d1,d2⟩:=s.lst em r;have g:Gr ρ H ρ (upd H a (.lst (vs++ws))):=Gr.write (.inl ⟨_,e1⟩);exact⟨a,b,vs,ws,rfl,rfl,e1,d1,by rw[<- e2.len,<- d2.len];exact hl,P _ ρ _ g (s.write en ea rfl rfl ⟨_,bb,ak.gr g _ _ (e2.app d2)⟩) (by rw[rel])⟩
   . nomatch q
 . nomatch q⟩
end
section
variable{K:UW}{X:Cx}{pg:Tb}{k:Nat}{tg l:VN}
theorem qX{σ :L2.St}(I:Inv X pins σ H s): ∀ b∈[s.heap.objs.size],kq X pins H b:=λb hb=>by
 have e:b=s.heap.objs.size:=by simpa using hb
 subst e;exact I.M0 (Vb _) (I.aY.fresh (Vb _))
theorem BR{pins:List (U9 × Obj)}{σ :L2.St}{H:Hp}{s:U5}{R:It->Hp->Prop}{a:U9}{xs:List V}(I:Inv X pins σ H s)(hq:gP X.K H a xs)(q:R (SY X.K a) H):Vs (Vv X.prog X.w) X.A (acD (.ref a)) (Ol X pins σ tg R) X.xe s:=by
 obtain⟨ar,rv,p,hz⟩:=I.list hq;exact aao p.isList ⟨s.heap.objs.size,[s.heap.objs.size],_,_,H,rfl,I.kept (t':=s.toks) (λb o e=>U4 _ e),yu a _,⟨_,Vq _ rfl,rfl,rfl⟩,qX I,q⟩
theorem CW{pins:List (U9 × Obj)}{σ :L2.St}{H:Hp}{s:U5}{R:It->Hp->Prop}{a:U9}{xs:List V}(I:Inv X pins σ H s)(hq:fU X.K H a xs)(q:R (Rn X.K a) H):Vs (Vv X.prog X.w) X.A (acD (.ref a)) (Ol X pins σ tg R) X.xe s:=by
 obtain⟨ar,rv,p,hz⟩:=I.tuple hq;exact aag (show s.heap.IsTuple a ar.toArray from p) ⟨s.heap.objs.size,[s.heap.objs.size],_,_,H,rfl,I.kept (t':=s.toks) (λb o e=>U4 _ e),vt a _,⟨_,Vq _ rfl,rfl,rfl⟩,qX I,q⟩
theorem A0{pins:List (U9 × Obj)}{σ :L2.St}{H:Hp}{s:U5}{R:It->Hp->Prop}{z:Str}{t:Tok}(I:Inv X pins σ H s)(q:R (Ri z) H):Vs (Vv X.prog X.w) X.A (acD (.str z t)) (Ol X pins σ tg R) X.xe s:=by
 cases ha:z.cps.all (· < 128)
 . exact wpAny_pyIter_wide ha ⟨s.heap.objs.size,[s.heap.objs.size],_,_,H,rfl,I.kept (t':=s.toks) (λb o e=>U4 _ e),t9 z t _ (by decide) (λA' hA=>Walks.strWide hA _ z t) (λ_ _ _ _ _ st h=>wpAny_pyIter_striter_wide st h),⟨_,Vq _ rfl,rfl,rfl⟩,qX I,q⟩
 . exact wpAny_pyIter_ascii ha ⟨s.heap.objs.size,[s.heap.objs.size],_,_,H,rfl,I.kept (t':=s.toks) (λb o e=>U4 _ e),t9 z t _ (by decide) (λA' hA=>Walks.strAscii hA _ z t) (λ_ _ _ _ _ st h=>wpAny_pyIter_striter_ascii st h),⟨_,Vq _ rfl,rfl,rfl⟩,qX I,q⟩
def Ov(K:UW)(tl:TE):TI:=fun σ H R=>tl σ H λx H1=>(∃ a xs,x= .ref a/\gP K H1 a xs/\R (SY K a) H1)\/(∃ a xs,x= .ref a/\fU K H1 a xs/\R (Rn K a) H1)\/ ∃ z,x= .str z/\R (Ri z) H1
theorem CT(hl:PE X l tl):PI X tg l (Ov X.K tl):=by
 intro pins s σ H R I h;refine kO (hl pins s σ H _ I h) λv s1 x H1 I1 r1 q1=>?_;rcases q1 with⟨a,xs,rfl,hq,q⟩ | ⟨a,xs,rfl,hq,q⟩ | ⟨z,rfl,q⟩
 . cases r1;exact BR I1 hq q
 . cases r1;exact CW I1 hq q
 . obtain⟨t,rfl⟩:=r1;exact A0 I1 q
def iH(x:PV)(h:PH):RV qw:=match x with
 | .tup xs=> .ok ⟨UX,xs⟩ h
 | .ktup xs=> .ok ⟨UX,xs⟩ h
 | .str z=> .ok ⟨UX,z.cps.toList.map λc=> .str ⟨#[c]⟩⟩ h
 | .ref n=>(match bQ h n with
  | some xs=> .ok ⟨UU n,xs⟩ h
  | none=> .no)
 | _=> .no
def iY(a:ME):MI:=λc e h=>(a c e h).bind iH
end
section
variable{X:Cx}{pg:Tb}{k:Nat}{tg l:VN}{ma:ME}{ta:TE}
theorem BP{K}(s1:SE c K ta ma):SI c K (Ov K ta) (iY ma):=fun ρ h H e σ R it h' s r q P=>by
 obtain⟨x,h1,e1,q⟩:=bind_eq.mp q;refine s1 ρ h H e σ _ x h1 s r e1 λx' ρ1 H1 g1 z1 r1=>?_;have tupc: ∀(xs:List PV),x.seq?=UU xs->it=⟨UX,xs⟩->h'=h1->(∃ a xs,x'= .ref a/\fU K H1 a xs/\R (Rn K a) H1):=λxs ex ei eh=>by
  subst ei eh;obtain⟨a,vs,rfl,zz,rr⟩:=rel.seq ex r1;refine⟨a,vs,rfl,zz,P ρ1 H1 _ g1 z1 λi ρ2 h2 H2 g s _=>?_⟩;have z2:=g.Mb zz;have r2:=ak.gr g _ _ rr;refine⟨λy e=>?_,λe=>⟨vs,z2,by rw[e,<- rr.len];exact Vb _⟩⟩;obtain⟨v,d1,d2⟩:=r2.get e;refine⟨⟨vs,v,z2,d1⟩,?_⟩;rintro w H' ⟨rfl,hw⟩;have:=hw vs z2;rw[d1] at this;cases this;exact⟨ρ2,.refl _ _,s,d2⟩
 cases x with
 | tup xs=>cases q;exact .inr (.inl (tupc xs rfl rfl rfl))
 | ktup xs=>cases q;exact .inr (.inl (tupc xs rfl rfl rfl))
 | str z =>
  cases q
  refine .inr (.inr ⟨z,r1,P ρ1 H1 _ g1 z1 λi ρ2 h2 H2 g s _=>⟨λy e=>?_,λe=>by show i=z.cps.size;simpa using e⟩⟩)
  rw[VI] at e
  cases q:z.cps.toList[i]? with
  | none=>simp_all
  | some c =>
   rw[q] at e
   cases e
   have hc:z.cps[i]?=UU c:=by simpa using q
   refine⟨(Wi.mp hc).1,?_⟩
   rintro v H' ⟨rfl,c',e1,rfl⟩
   rw[hc] at e1
   cases e1
   exact⟨ρ2,.refl _ _,s,by rw[rel]⟩
 | ref n =>
  simp only[iH] at q
  split at q
  . rename_i xs en;cases q;obtain⟨a,vs,rfl,ea,zz,rr⟩:=z1.sq en r1;refine .inl ⟨a,vs,rfl,zz,P ρ1 H1 _ g1 z1 λi ρ2 h2 H2 g s hf=>?_⟩;have ea2:=g.pre _ _ ea;have hl:bQ h2 n=UU xs:=by
     have:h2[n]?=UU (.lst xs)\/h2[n]?=UU (.jA xs):=by simpa [qw.lC] using hf
     unfold bQ;rcases this with q | q<;>rw[q]
    obtain⟨a',vs2,e3,e4,z2,r2⟩:=s.sq hl (show rel K ρ2 H2 (.ref n) (.ref a) by exact⟨a,ea2,rfl⟩);cases e3;refine⟨λy e=>?_,λe=>⟨vs2,z2,by rw[e,<- r2.len];exact Vb _⟩⟩;obtain⟨v,d1,d2⟩:=r2.get e;refine⟨⟨vs2,v,z2,d1⟩,?_⟩;rintro w H' ⟨rfl,hw⟩;have:=hw vs2 z2;rw[d1] at this;cases this;exact⟨ρ2,.refl _ _,s,d2⟩
  . cases q
 | _=>cases q
theorem Kg(ha:JE X pg k l ma):JI X pg k tg l (iY ma):=⟨λA=>by obtain⟨_,q1,s1⟩:=ha.h A;exact⟨_,⟨CT q1.h⟩,BP s1⟩⟩
def ao lo n:=(XQ n).map λ(i:Nat)=>PV.int (lo+(i))
def bJ(r:MA):MI:=λc e h=>(r c e h).bind λvs h1=>match vs with
 | [.int j]=>if -(2 ^ 62)<=j/\j < 2 ^ 62 then .ok ⟨UX,ao 0 j.toNat⟩ h1 else .no
 | _=> .no
def l8(r:MA):MI:=λc e h=>(r c e h).bind λvs h1=>match vs with
 | [.int i,.int j]=>if (-(2 ^ 62)<=i/\i < 2 ^ 62)/\ -(2 ^ 62)<=j/\j < 2 ^ 62 then .ok ⟨UX,ao i (j - i).toNat⟩ h1 else .no
 | _=> .no
theorem pS{K} lo n:SX K ρ H (Oz lo n) ⟨UX,ao lo n⟩:=λi ρ1 h1 H1 g s _=>by
 refine⟨λy e=>?_,λe=>by show n<=i;rw[e];simp[ao]⟩;unfold ao at e;rw[VI] at e;rcases X7 i n with z | z
 . rw[List.getElem?_range z] at e;cases e;exact⟨z,λv H'=>by rintro ⟨e1,e2⟩;exact by subst e1;subst e2;exact⟨ρ1,.refl _ _,s,by rw[rel]⟩⟩
 . simp_all
variable{a b:VN}{p pos:Pos}{mr:MA}
theorem zr(hg:Gl X "range")(ha:JA X pg k [a] mr)(hs:VR [a] X.env=[(false,WT a X.env)]:=by rfl):JI X pg k tg (.Call (.Name "range" p) [a] [] pos) (bJ mr):=⟨λA =>
 by obtain⟨_,q1,s1⟩:=ha.h A;exact⟨_,⟨ya hg (A.blt _ (by decide)) q1.h hs⟩,fun ρ h H e σ R it h' s r q P=>by
 obtain⟨vs,h1,e1,q⟩:=bind_eq.mp q
 refine s1 ρ h H e σ _ vs h1 s r e1 λus ρ1 H1 g1 z1 r1=>?_
 split at q
 . rename_i j;split at q
   . rename_i hj;cases q;obtain⟨u,rfl,r2⟩:=bc r1;subst r2;exact⟨j,rfl,hj.1,hj.2,P ρ1 H1 _ g1 z1 (pS 0 _)⟩
   . nomatch q
 . nomatch q⟩⟩
theorem yR(hg:Gl X "range")(ha:JA X pg k [a,b] mr)(hs:VR [a,b] X.env=[(false,WT a X.env),(false,WT b X.env)]:=by rfl)(hs2:VR [b] X.env=[(false,WT b X.env)]:=by rfl):JI X pg k tg (.Call (.Name "range" p) [a,b] [] pos) (l8 mr):=⟨λA =>
 let ⟨_,q1,s1⟩:=ha.h A;⟨_,⟨yV hg (A.blt _ (by decide)) q1.h hs hs2⟩,fun ρ h H e σ R it h' s r q P=>by
 obtain⟨vs,h1,e1,q⟩:=bind_eq.mp q
 refine s1 ρ h H e σ _ vs h1 s r e1 λus ρ1 H1 g1 z1 r1=>?_
 split at q
 . rename_i i j;split at q
   . rename_i hj;cases q;obtain⟨u,w,rfl,r2,r3⟩:=nt r1;rw[rel] at r2;rw[rel] at r3;subst r2 r3;exact⟨i,j,rfl,⟨hj.1.1,hj.1.2,hj.2.1,hj.2.2⟩,P ρ1 H1 _ g1 z1 (pS i _)⟩
   . nomatch q
 . nomatch q⟩⟩
abbrev MP:=CF->aM->PH->RV (List (Key × PV))
structure JP(X:Cx)(pg:Tb)(k:Nat)(pos:Pos)(ks:List (Option VN))(vs:List VN)(m:MP):Prop where
 h:cm X pg k-> ∃ t,QP X pos ks vs t/\ ∀ ρ h H e σ Q kvs h',cj X.K ρ h H->cg X.K ρ H e σ ->m (run pg k) e h= .ok kvs h'->(∀ kws ρ' H',Gr ρ H ρ' H'->cj X.K ρ' h' H'->RK X.K ρ' H' kvs kws->Q (kws.map λkv=>(kV kv.1,kv.2)) H')->m7 t σ H Q
def uR(neg:Bool)(kvs:List (Key × PV))(a:ME):ME:=λc e h=>(a c e h).bind λx h1=>match o7 x with
 | some key=> .ok (.bl (if neg then !(ft kvs key).isSome else(ft kvs key).isSome)) h1
 | none=> .no
variable{x:Str}{kvs:List (Key × PV)}{i:VN}{mi:ME}{pos':Pos}
theorem LX(hd:pg.sd x=UU kvs)(hg:Gl X x)(hi:JE X pg k i mi)(hdb:(x == ("__debug__" :Str))=false:=by decide)(hm:Wg .In (.Name x pos')=false:=by rfl):JE X pg k (.Compare i [.In] [.Name x pos'] pos) (uR false kvs mi):=⟨λA =>
 let ⟨a,kws,e1,e2,e3⟩:=A.sd x kvs hd;let ⟨_,q1,s1⟩:=hi.h A;⟨_,La e2 q1 (xr hg e1 hdb) hm,fun ρ h H e σ Q v h' s r q P=>by
 obtain⟨y,h1,d1,q⟩:=bind_eq.mp q
 refine s1 ρ h H e σ _ y h1 s r d1 λy' ρ1 H1 g1 z1 r1=>?_
 split at q
 . rename_i key ek;cases q;exact⟨key,ir ek r1,by rw[RK.is key (e3 ρ1 H1)];exact P _ ρ1 H1 g1 z1 (by rw[rel];rfl)⟩
 . nomatch q⟩⟩
theorem xX(hd:pg.sd x=UU kvs)(hg:Gl X x)(hi:JE X pg k i mi)(hdb:(x == ("__debug__" :Str))=false:=by decide)(hm:Wg .NotIn (.Name x pos')=false:=by rfl):JT X pg k (.Compare i [.NotIn] [.Name x pos'] pos) (aC (uR true kvs mi)):=⟨λA =>
 let ⟨a,kws,e1,e2,e3⟩:=A.sd x kvs hd;let ⟨_,q1,s1⟩:=hi.h A;⟨_,yk e2 q1 (xr hg e1 hdb) hm,kf fun ρ h H e σ Q v h' s r q P=>by
 obtain⟨y,h1,d1,q⟩:=bind_eq.mp q
 refine s1 ρ h H e σ _ y h1 s r d1 λy' ρ1 H1 g1 z1 r1=>?_
 split at q
 . rename_i key ek;cases q;exact⟨key,ir ek r1,by rw[RK.is key (e3 ρ1 H1)];exact P _ ρ1 H1 g1 z1 (by rw[rel];rfl)⟩
 . nomatch q⟩⟩
end
section
variable{K:UW}{X:Cx}{pg:Tb}{k:Nat}
noncomputable def mG:List PV->Option (List Str)
 | []=>UU []
 | .str x::r=>(mG r).map (x:: ·)
 | _=>UX
theorem kG: ∀{ss:List Str}{vs},ak K ρ H (ss.map PV.str) vs↔vs=ss.map V.str
 | [],vs=>bG
 | b::t,vs=>by
  constructor
  . rintro ⟨v,w,rfl,r1,r2⟩;rw[r1,kG.mp r2];rfl
  . rintro rfl;exact⟨.str b,t.map V.str,rfl,by rw[rel],kG.mpr rfl⟩
theorem RK.keys: ∀{kvs kws},RK K ρ H kvs kws->kws.map (·.1)=kvs.map (·.1)
 | _,_,.nil=>rfl
 | _,_,.cons a t=>by rw[U2,U2,RK.keys t,a.1]
theorem iQ.of{P:VE}{w:VY}{K:UW}{mg:Str->Option U1}{base:Wb}{pg:Tb}{f:String}{d:Df}(b:MS)(st:WV)(N:List Str)(e:d.body=b)(a:At K mg (U0 f) st)(S:bO N d.ps (ag st))(hl:N.length=d.ps.length+d.nl)
  (hb: ∀(kV doc pm:U1)(an:Option U9)(cdv ct:U1)(us:List U1),us.length=d.ps.length->W8 (VX (U0 f) (U0 f) (br st) (aE st) (ag st) .none kV doc pm an cdv ct) ⟨us,[]⟩=pure (d.ps.zip us))
  (hz:pg.rz f=false) (h: ∀(fa:U9)(cdv:U1)(A:V6)(outer:List Env)(s:U5)(H:Hp)(E:XK)(k:Nat),zG (dm (i8 P w) P w K mg base N (U0 f) (ag st) fa cdv A outer s H E).dw pg k (aE st) b):iQ P w K mg base pg f d :=
 ⟨st,N,a,S,hl,hb,by rw[e];exact λfa cdv A outer s H E k=> .inl ⟨hz,h fa cdv A outer s H E k⟩⟩
end
section
variable{X:Cx}{pins:List (U9 × Obj)}{σ :L2.St}{H:Hp}{s:U5}{h':Wb}
theorem MH{turned:List U9}(I:Inv X pins σ H s)(kp: ∀ b o,b ∉ turned->s.heap.get? b=UU o->h'.get? b=UU o)(fp: ∀ b∈turned,kq X pins H b):Inv X pins σ H { s with heap:=h',toks:=t'}:=by
 have away: ∀ b u,H b=UU u->b ∉ turned:=λb u e m=>by
  have:=(fp b m).1;rw[e] at this;cases this
 refine I.step (g':=s.gens) (d':=s.drawn) (ch:=turned) (λb m=>?_) (λb o _ _ n e _=>kp b o n e) (λb o _ _ n e _=>⟨o.slots,kp b o n e⟩) (λ_ _ _ _ e=>e) (λb o n e=>⟨o,kp b o n e⟩) (λ_ _ e=>e) (λ_ _ _ e=>e) (λb ps e=>⟨#[],by simp_all⟩) (λm hm=>?_) (λb u e=>?_) I.bare
 . obtain⟨_,a2,_,a4,a5,a6⟩:=fp b m;exact⟨a4,a2,a5,a6⟩
 . obtain⟨o,es,ep,ho,r⟩:=hm;exact⟨o,es,ep,kp _ o (λm=>(fp _ m).2.1 rfl) ho,r⟩
 . refine(I.aY b u e).jl (λc v hc q=>kp c v ?_ q) (λ_ q=>q) λ_ _ q=>q;rcases hc with z | z
   . rw[z];exact away b u e
   . exact away c _ z
theorem yw{turned:List U9}{p:U9}(I:Inv X pins σ H s)(kp: ∀ b o,b ∉ turned->s.heap.get? b=UU o->h'.get? b=UU o)(fp: ∀ b∈turned,kq X pins H b)(hp:s.heap.objs.size<=p)
  (new:bz X.prog X.w (upd H p (.tup vs)) h' p (.tup vs)):Inv X pins σ (upd H p (.tup vs)) { s with heap:=h',toks:=t'}:=by
 have hn:=I.aY.fresh hp;have away: ∀ b u,H b=UU u->b ∉ turned:=λb u e m=>by
  have:=(fp b m).1;rw[e] at this;cases this
 have old: ∀ b o,s.heap.get? b=UU o->b≠p:=λb o e z=>absurd (Vg (Vh e) (z ▸ hp)) (Wf _);refine I.step (g':=s.gens) (d':=s.drawn) (ch:=turned) (λb m=>?_) (λb o _ _ n e _=>kp b o n e) (λb o _ _ n e _=>⟨o.slots,kp b o n e⟩) (λb o _ e n=>by rw[aw (old b o e)];exact n) (λb o n e=>⟨o,kp b o n e⟩)
  (λb xs e=>by rw[aw (aq e hn)];exact e) (λb o u e=>by rw[aw (aq e hn)];exact e) (λb ps e=>⟨#[],by rw[aw (aq e hn),e];simp⟩) (λm hm=>?_) (λb u e=>?_) I.bare
 . obtain⟨_,a2,_,a4,a5,a6⟩:=fp b m;exact⟨a4,a2,a5,a6⟩
 . obtain⟨o,es,ep,ho,r⟩:=hm;exact⟨o,es,ep,kp _ o (λm=>(fp _ m).2.1 rfl) ho,r⟩
 . by_cases hb:b=p
   . subst hb;rw[bb] at e;cases e;exact new
   . rw[aw hb] at e;refine(I.aY b u e).jl (λc v hc q=>kp c v ?_ q) (λc q=>by rw[aw (aq q hn)];exact q) λc xs q=>by rw[aw (aq q hn)];exact q
     rcases hc with z | z
     . rw[z];exact away b u e
     . exact away c _ z
end
def Ul(K : UW)(a1 a2 : U9) : It :=
  ⟨λi H => ∃ xs ys x y, fU K H a1 xs /\ fU K H a2 ys /\ xs[i]? = UU x /\ ys[i]? = UU y,
   λi H v H' => ∃ p x y, H p = UX /\ v = .ref p /\ H' = upd H p (.tup [x, y]) /\ (∀ xs, fU K H a1 xs -> xs[i]? = UU x) /\ ∀ ys, fU K H a2 ys -> ys[i]? = UU y,
   λi H => ∃ xs ys, fU K H a1 xs /\ fU K H a2 ys /\ (xs.length <= i ∨ ys.length <= i)⟩
theorem zw{TI TO}(Z:sU h z TI TO i1 i2 l1 l2 k)(kp: ∀ b∈[z,TI,TO,i1,i2],∀ o,h.get? b=UU o->h'.get? b=UU o):sU h' z TI TO i1 i2 l1 l2 k:=by
 obtain ⟨a,b,⟨u,v,c⟩,⟨o1,d1,d2⟩,⟨o2,e1,e2⟩⟩:=Z;exact ⟨kp _ (by simp) _ a,kp _ (by simp) _ b,⟨u,v,kp _ (by simp) _ c⟩,⟨o1,kp _ (by simp) _ d1,d2⟩,⟨o2,kp _ (by simp) _ e1,e2⟩⟩
theorem Ae{K TI TO}(D:acy z TI TO i1 i2 a1 a2) :
  Turn P w K (.Tuple els j pos) (Ul K a1 a2) [z,TI,TO,i1,i2] z (λi h=>sU h z TI TO i1 i2 a1 a2 i) where
 mem:=by simp
 obj:=λi h Z b hb=>by
  obtain⟨e1,e2,⟨u,v,e3⟩,⟨o4,e4,_,d4⟩,⟨o5,e5,_,d5⟩⟩:=Z;simp only[WB,or_false,Vt] at hb;rcases hb with rfl | rfl | rfl | rfl | rfl
  . exact⟨_,e1,λv q=>by cases q⟩
  . exact⟨_,e2,λv q=>by cases q⟩
  . exact⟨_,e3,λv q=>by cases q⟩
  . exact⟨_,e4,λv q=>by rw[d4] at q;nomatch q⟩
  . exact⟨_,e5,λv q=>by rw[d5] at q;nomatch q⟩
 keep:=λi h h' Z kp=>zw Z kp
 item:=by
  intro X hP hw hK hc i pins s σ H E I hf Z hg;subst hP hw hK;obtain⟨xs,ys,x,y,s1,s2,ex,ey⟩:=hg;obtain⟨us,ru,pu,_⟩:=I.tuple s1;obtain⟨ws,rw',pw,_⟩:=I.tuple s2;obtain⟨ux,eu,rx⟩:=ru.get ex;obtain⟨uy,ew,ry⟩:=rw'.get ey;refine nK D Z pu pw (by simpa using eu) (by simpa using ew) λh1 f1 f2 f3 f4 f5 f6 f7=>⟨_,rfl,?_⟩
  refine wpAny_letOwnedTupleGo_zip (s:={ s with heap:=h1}) f1 λh2 g1 g2=>?_;have ex1:=g2.extBut;have zlt:=Vh Z.yn;have pz:=Xm zlt;have new:=ex1 _ _ pz f6;have hn:=I.aY.fresh (Vb _);have I2:Inv X pins σ (upd H s.heap.objs.size (.tup [x,y])) { s with heap:=h2,toks:=s.toks}:=by
   refine yw (turned:=[z,TO,i1,i2]) I (λb o nb e=>?_) (λb hb=>hf b ?_) (Vb _) ?_
   . simp only[Vt,WB,or_false,not_or] at nb;exact ex1 _ _ nb.1 (f7 b o nb.1 nb.2.1 nb.2.2.1 nb.2.2.2 e)
   . simp only[Vt,WB,or_false] at hb ⊢;rcases hb with rfl | rfl | rfl | rfl<;>simp
   . exact⟨by show 2<=Vj;decide,[ux,uy],.cons rx (.cons ry .nil),_,new,rfl,_,rfl,rfl⟩
  refine⟨.ref s.heap.objs.size,upd H s.heap.objs.size (.tup [x,y]),I2,rfl,⟨_,x,y,hn,rfl,rfl,λxs' q=>?_,λys' q=>?_⟩,?_,λb hb=>?_⟩
  . rw[I.ki q s1];exact ex
  . rw[I.ki q s2];exact ey
  . obtain⟨o4,e4,c4⟩:=f4;obtain⟨o5,e5,c5⟩:=f5;exact⟨g1,ex1 _ _ D.TIz f2,⟨_,_,ex1 _ _ D.TOz f3⟩,⟨o4,ex1 _ _ D.i1z e4,c4⟩,⟨o5,ex1 _ _ D.i2z e5,c5⟩⟩
  . have hb0:=(hf b hb).1;have: ∃ o,s.heap.get? b=UU o:=by
     obtain⟨e1,e2,⟨u,v,e3⟩,⟨o4,e4,_⟩,⟨o5,e5,_⟩⟩:=Z;simp only[WB,or_false,Vt] at hb;rcases hb with rfl | rfl | rfl | rfl | rfl
     . exact⟨_,e1⟩
     . exact⟨_,e2⟩
     . exact⟨_,e3⟩
     . exact⟨_,e4⟩
     . exact⟨_,e5⟩
    obtain⟨o,eo⟩:=this;rw[aw (Vy (Vh eo))];exact hb0
 done:=by
  intro X hP hw hK hc i pins s σ H E I hf Z hg;subst hP hw hK;obtain⟨xs,ys,s1,s2,he⟩:=hg;obtain⟨us,ru,pu,_⟩:=I.tuple s1;obtain⟨ws,rw',pw,_⟩:=I.tuple s2;refine oZ (I.ok.hd hc) D Z pu pw ?_ λh1 kp=>⟨rfl,MH (turned:=[z,TO,i1,i2]) (t':=s.toks) I (λb o nb e=>?_) λb hb=>hf b ?_⟩
  . have l1:=ru.length;have l2:=rw'.length;rcases he with he | he
    . simp_all
    . simp_all
  . simp only[Vt,WB,or_false,not_or] at nb;exact kp b o nb.1 nb.2.1 nb.2.2.1 nb.2.2.2 e
  . grind
 self:=λA i s Q E Z h=>wpAny_pyIter_zip Z.yn h
abbrev tI(a:U9):Obj:={ cls:= .type "tuple_iterator",data:= .fields #[.ref a,.int 0 0]}
abbrev Rl(h:Wb)(a b:U9):Wb :=
 Xi (Xi (Xi (Xi (Xi h (tI a)) (tI b)) { cls:= .type "tuple",data:= .seq #[.ref h.objs.size,.ref (h.objs.size+1)]}) { cls:= .type "tuple",data:= .seq #[.none,.none]})
  { cls:= .type "zip",data:= .fields #[.none,.bool false,.bool false,.ref (h.objs.size+2),.ref (h.objs.size+3)]}
theorem qY a b us ws:Meets (ZG.«zip.__new__» ⟨[.type "zip",.ref a,.ref b],[]⟩) (λ_ R u=>u.heap.IsTuple a us/\u.heap.IsTuple b ws/\R (.ok (.ret (.ref (u.heap.objs.size+4)))) { u with heap:=Rl u.heap a b}) :=
 .of_wp λprog w A R u hu=>by
  obtain⟨hp,gg,dd,tk,os⟩:=u;obtain⟨ha,hb,hr⟩:=hu;have sub:=sub_zip;have fa:=ha;have fb:Heap.IsTuple (Shared.heap ⟨hp.push (tI a),gg,dd,tk,os⟩) b ws:=by obtain⟨o,e,c⟩:=hb;exact⟨o,U4 _ e,c⟩
  wp_walk using aag fa,aag fb
  refine⟨_,rfl,?_⟩;simp only[V1];exact hr
section
variable{X:Cx}{pg:Tb}{k:Nat}{a b:VN}{ma mb:ME}{p pos:Pos}{els:List VN}{j:Nat}{tpos:Pos}
theorem Jo h l1 l2:sU (Rl h l1 l2) (h.objs.size+4) (h.objs.size+2) (h.objs.size+3) h.objs.size (h.objs.size+1) l1 l2 0/\(Rl h l1 l2).objs.size=h.objs.size+5:=by
 have n1:(Xi h (tI l1)).objs.size=h.objs.size+1:=V1 ..;have n2:(Xi (Xi h (tI l1)) (tI l2)).objs.size=h.objs.size+2:=by rw[V1,n1]
 have n3:(Xi (Xi (Xi h (tI l1)) (tI l2)) { cls:= .type "tuple",data:= .seq #[.ref h.objs.size,.ref (h.objs.size+1)]}).objs.size=h.objs.size+3:=by rw[V1,n2]
 have n4:(Xi (Xi (Xi (Xi h (tI l1)) (tI l2)) { cls:= .type "tuple",data:= .seq #[.ref h.objs.size,.ref (h.objs.size+1)]}) { cls:= .type "tuple",data:= .seq #[.none,.none]}).objs.size=h.objs.size+4:=by rw[V1,n3]
 refine⟨⟨?_,?_,⟨.none,.none,?_⟩,⟨tI l1,?_,rfl,rfl⟩,⟨tI l2,?_,rfl,rfl⟩⟩,by rw[V1,n4]⟩
 . rw[<- n4];exact Vq _ rfl
 . refine U4 _ (U4 _ ?_);rw[<- n2];exact Vq _ rfl
 . refine U4 _ ?_;rw[<- n3];exact Vq _ rfl
 . exact U4 _ (U4 _ (U4 _ (U4 _ (Vq _ rfl))))
 . refine U4 _ (U4 _ (U4 _ ?_));rw[<- n1];exact Vq _ rfl
def NZ(K:UW)(ta:TA):TI:=fun σ H R=>ta σ H λvs H1=> ∃ a1 a2 xs ys,vs=[.ref a1,.ref a2]/\fU K H1 a1 xs/\fU K H1 a2 ys/\R (Ul K a1 a2) H1
theorem LA(hg:Gl X "zip")(hm:X.mg "zip" =UX)(ha:PA X [a,b] ta)(hs:VR [a,b] X.env=[(false,WT a X.env),(false,WT b X.env)])(hs2:VR [b] X.env=[(false,WT b X.env)]) :
  PI X (.Tuple els j tpos) (.Call (.Name "zip" p) [a,b] [] pos) (NZ X.K ta):=by
 intro pins s σ H R I h;refine Call_ (kA I hg hm boot_zip (Xn (Fe (ha pos pins s σ H _ I h) λus s1 vs H1 I1 r1 ⟨a1,a2,xs,ys,e,q1,q2,q⟩=>?_) (by simp_all) (by rw[hs2];rfl)));subst e;cases r1 with
 | cons ra rr =>
  cases rr with
  | cons rb rr =>
   cases rr
   cases ra
   cases rb
   obtain⟨u1,_,p1,_⟩:=I1.tuple q1
   obtain⟨u2,_,p2,_⟩:=I1.tuple q2
   refine callType_new F.called_zip (by decide) (F.typeCall_zip_2 _ _) (F.newCall_zip_2 _ _) (λobj=>F.args_object_init_3 obj _ _) F.entry_zip_new (qY a1 a2 u1.toArray u2.toArray) ⟨p1,p2,?_⟩
   obtain⟨Z,zs⟩:=Jo s1.heap a1 a2
   have lt1:=let ⟨_,e,_⟩:=p1;Vh e
   have lt2:=let ⟨_,e,_⟩:=p2;Vh e
   refine⟨⟨_,Z.yn,rfl⟩,wpAny_pyIter_zip Z.yn ?_⟩
   have kp: ∀ c o,s1.heap.get? c=UU o->(Rl s1.heap a1 a2).get? c=UU o:=λc o e=>U4 _ (U4 _ (U4 _ (U4 _ (U4 _ e))))
   refine⟨s1.heap.objs.size+4,[s1.heap.objs.size+4,s1.heap.objs.size+2,s1.heap.objs.size+3,s1.heap.objs.size,s1.heap.objs.size+1],_,_,H1,rfl,I1.kept (t':=s1.toks) kp,Ae (zipApart_new lt1 lt2),Z,λc hc=>?_,q⟩
   have hle:s1.heap.objs.size<=c:=by
    grind
   exact I1.M0 hle (I1.aY.fresh hle)
def Bk(a b:ME):MI:=λc e h=>(a c e h).bind λx h1=>(b c e h1).bind λy h2=>match x.seq?,y.seq? with
 | some xs,UU ys=> .ok ⟨UX,(xs.zip ys).map λp=> .tup [p.1,p.2]⟩ h2
 | _,_=> .no
theorem LZ(hg:Gl X "zip")(ha:JE X pg k a ma)(hb:JE X pg k b mb)(hs1:noStar a=true:=by rfl)(hs2:noStar b=true:=by rfl):JI X pg k (.Tuple els j tpos) (.Call (.Name "zip" p) [a,b] [] pos) (Bk ma mb):=⟨λA =>
 let ⟨_,q1,s1⟩:=ha.h A;let ⟨_,q2,s2⟩:=hb.h A
 ⟨_,⟨LA hg (A.blt _ (by decide +kernel)) (qk q1 (qk q2 B9 hs2) hs1).h (by rw[aR hs1,aR hs2];rfl) (by rw[aR hs2];rfl)⟩,fun ρ h H e σ R it h' s r q P=>by
 obtain⟨x,h1,e1,q⟩:=bind_eq.mp q
 obtain⟨y,h2,e2,q⟩:=bind_eq.mp q
 refine s1 ρ h H e σ _ x h1 s r e1 λx' ρ1 H1 g1 z1 r1=>?_
 refine s2 ρ1 h1 H1 e σ _ y h2 z1 (r.gr g1) e2 λy' ρ2 H2 g2 z2 r2=>?_
 split at q
 . rename_i xs ys ex ey;cases q;obtain⟨a1,us,rfl,t1,d1⟩:=rel.seq ex (rel.gr g2 _ _ r1);obtain⟨a2,ws,rfl,t2,d2⟩:=rel.seq ey r2;refine⟨a1,a2,us,ws,rfl,t1,t2,P ρ2 H2 _ (g1.trans g2) z2 λi ρ3 h3 H3 g s3 _=>⟨λv ev=>?_,λei=>?_⟩⟩
   . rw[VI] at ev;cases ez:(xs.zip ys)[i]? with
     | none=>simp_all
     | some pr =>
      rw[ez] at ev
      cases ev
      obtain⟨zx,zy⟩:=List.getElem?_zip_eq_some.mp ez
      obtain⟨u,f1,f2⟩:=(ak.gr g _ _ d1).get zx
      obtain⟨w,f3,f4⟩:=(ak.gr g _ _ d2).get zy
      refine⟨⟨us,ws,u,w,g.Mb t1,g.Mb t2,f1,f3⟩,?_⟩
      rintro v' H' ⟨p,u',w',hp,rfl,rfl,k1,k2⟩
      have:=k1 us (g.Mb t1)
      rw[f1] at this;cases this
      have:=k2 ws (g.Mb t2)
      rw[f3] at this;cases this
      have gn:Gr ρ3 H3 ρ3 (upd H3 p (.tup [u,w])):=Gr.kF hp
      refine⟨ρ3,gn,s3.tup hp,?_⟩
      exact⟨p,_,rfl,bb,aD.mpr ⟨_,_,rfl,rel.gr gn _ _ f2,ak.one (rel.gr gn _ _ f4)⟩⟩
   . refine⟨us,ws,g.Mb t1,g.Mb t2,?_⟩;have:i=min xs.length ys.length:=by simpa using ei
     rw[<- d1.len,<- d2.len];omega
 . cases q⟩⟩
end
structure bI(P:VE)(w:VY)(K:UW)(mg:Str->Option U1)(pg:Tb)(f:String)(d:Df)(st:WV)(N:List Str):Prop where
 at_:At K mg (U0 f) st
 sc:bO N d.ps (ag st)
 len:N.length=d.ps.length+d.nl
 bd: ∀(kV doc pm:U1)(an:Option U9)(cdv ct:U1)(us:List U1),us.length=d.ps.length->W8 (VX (U0 f) (U0 f) (br st) (aE st) (ag st) .none kV doc pm an cdv ct) ⟨us,[]⟩=pure (d.ps.zip us)
 body: ∀(base:Wb)(fa:U9)(cdv:U1)(A:V6)(outer:List Env)(s:U5)(H:Hp)(E:XK)(k:Nat),JB (dm (i8 P w) P w K mg base N (U0 f) (ag st) fa cdv A outer s H E) pg k f E (aE st) d.body
section
variable{P:VE}{w:VY}{K:UW}{mg:Str->Option U1}{pg:Tb}
theorem bI.of{f:String}{d:Df}(b:MS){st:WV}{N:List Str}(e:d.body=b)(a:At K mg (U0 f) st)(S:bO N d.ps (ag st))(hl:N.length=d.ps.length+d.nl)
  (hb: ∀(kV doc pm:U1)(an:Option U9)(cdv ct:U1)(us:List U1),us.length=d.ps.length->W8 (VX (U0 f) (U0 f) (br st) (aE st) (ag st) .none kV doc pm an cdv ct) ⟨us,[]⟩=pure (d.ps.zip us))
  (hz:pg.rz f=false) (h: ∀(base:Wb)(fa:U9)(cdv:U1)(A:V6)(outer:List Env)(s:U5)(H:Hp)(E:XK)(k:Nat),zG (dm (i8 P w) P w K mg base N (U0 f) (ag st) fa cdv A outer s H E).dw pg k (aE st) b):bI P w K mg pg f d st N :=
 ⟨a,S,hl,hb,by rw[e];exact λbase fa cdv A outer s H E k=> .inl ⟨hz,h base fa cdv A outer s H E k⟩⟩
theorem bI.good{st}(g:bI P w K mg pg f d st N):iQ P w K mg base pg f d:=⟨st,N,g.at_,g.sc,g.len,g.bd,g.body base⟩
theorem A6{fnT:List (String × Df)}(hf:pg.fns=λf=>(fnT.find? λp=>p.1 == f).map (·.2))(h: ∀ p∈fnT,∃ st N,bI P w K mg pg p.1 p.2 st N) base: ∀ f d,pg.fns f=UU d->iQ P w K mg base pg f d:=λf d e=>by
 rw[hf] at e;dsimp only at e;cases q:fnT.find? λp=>p.1 == f with
 | none=>simp_all
 | some p =>
  rw[q] at e
  cases e
  obtain⟨st,N,g⟩:=h p (XH q)
  have:p.1=f:=by simpa using abb q
  rw[<- this]
  exact g.good
theorem K2{k:Nat}{d:Df}{st:WV}{N:List Str}{fa:U9}{x:Str}(T:Top P w K mg pg)(G: ∀ base f d,pg.fns f=UU d->iQ P w K mg base pg f d)(hf:pg.fns "law" =UU d)(hx:d.ps=[x])(g:bI P w K mg pg "law" d st N)(hfa:mg "law" =UU (.ref fa)) :
  ∃ fd:Xx,(∀(s:U5)(v:U1),aak s fd ⟨[v],[]⟩ [(x,v)])/\ ∀ base:Wb,K.In base->base.Ns VB mg->ig P w K mg base (i8 P w) (k+1) fa fd [x] (kb K pg (k+1) "law"):=by
 obtain⟨f,fd,F,hm⟩:=g.at_;have e:=hfa.symm.trans hm;cases e;refine⟨fd,λs v=> .of_eq ?_,λbase _ _=>?_⟩
 . have:=qD.args F g.bd [v] (by rw[hx];rfl);rw[this,hx];rfl
 . have S:=g.sc;rw[hx] at S;refine qD.NG F S (λvs H Q E hh=>by
    rcases hh with⟨ρ,h,args,v,h',_,r,q,_⟩ | ⟨ρ,h,args,C,us,h',_,r,q,_⟩
    . rw[<- r.len,(jQ (nR hf) q).1,hx]
    . rw[<- r.len,(iS (nR hf) q).1,hx]) ?_
   intro cdv A outer s H vs Q E hr h;have tbl:=ym T (G base) k;have amb:cm (dm (i8 P w) P w K mg base N (U0 "law") (ag st) fa cdv A outer s H E).dw pg k:=⟨hr,rfl,λ_ _ z=>z,tbl.1,T.blt,T.con,T.sd,T.ct,tbl.2⟩
   exact m4 amb hr (nR hf) g.len (g.body base fa cdv A outer s H E k) h
end
theorem LJ{K:UW}{pg:Tb}{k:Nat}{E:XK}(hl: ∀ ns:List Int,ns.length<=63->Ok (run pg k "law" [.ref 0] [.jA (ns.map PV.int)]) λv _=>v= .bl true)(H:Hp)(a:U9)(ns:List Int)(hn:ns.length<=63)(o:zV H)(q:gP K H a (ns.map V.int)) :
  kb K pg k "law" [.ref a] H (λv _=>v= .bl true) E:=by
 obtain⟨v,h',e,rfl⟩:=hl ns hn;refine .inl ⟨[a],_,[.ref 0],_,h',⟨rfl,λi j b oi oj ei ej mi mj _ _=>?_,λi ob b ei eb=>?_⟩,ak.one (by rw[rel];exact⟨a,rfl,rfl⟩),e,λv' ρ' H' g s r=>by rw[rel] at r;exact r⟩
 . cases i with
   | zero=>simp at ei;subst ei;nomatch mi
   | succ i=>simp at ei
 . cases i with
   | zero =>
    simp at ei eb
    subst ei eb
    exact⟨_,Iw o q,ak.ints ns⟩
   | succ i=>simp at ei
section
variable{P:VE}{w:VY}{K:UW}{mg:Str->Option U1}{pg:Tb}
theorem Dk{conT:List (Str × PV)}(hc:pg.con=λx=>(conT.find? λp=>decide (p.1=x)).map (·.2))(h: ∀ p∈conT,∃ u v',mg p.1=UU u/\RelV v' u/\xT K v'/\ ∀ ρ H,rel K ρ H p.2 v'): ∀ x v,pg.con x=UU v-> ∃ u v',mg x=UU u/\RelV v' u/\xT K v'/\ ∀ ρ H,rel K ρ H v v':=λx v e=>by
 rw[hc] at e;dsimp only at e;cases q:conT.find? λp=>decide (p.1=x) with
 | none=>simp_all
 | some p =>
  rw[q] at e
  cases e
  have:p.1=x:=by simpa using abb q
  rw[<- this]
  exact h p (XH q)
theorem Gi{dcT:List (Str × List (Key × PV))}(hc:pg.sd=λx=>(dcT.find? λp=>decide (p.1=x)).map (·.2))(h: ∀ p∈dcT,∃ a kws,mg p.1=UU (.ref a)/\KD P w K a kws/\ ∀ ρ H,RK K ρ H p.2 kws) :
  ∀ x kvs,pg.sd x=UU kvs-> ∃ a kws,mg x=UU (.ref a)/\KD P w K a kws/\ ∀ ρ H,Ws (λ(p:Key × PV) (q:Key × V)=>p.1=q.1/\rel K ρ H p.2 q.2) kvs kws:=λx v e=>by
 rw[hc] at e;dsimp only at e;cases q:dcT.find? λp=>decide (p.1=x) with
 | none=>simp_all
 | some p =>
  rw[q] at e
  cases e
  have:p.1=x:=by simpa using abb q
  rw[<- this]
  exact h p (XH q)
inductive CV:PV->U1->Prop where
 | int (i:Int) (t:Tok):CV (.int i) (.int i t)
 | str (x:Str) (t:Tok):CV (.str x) (.str x t)
theorem CV.v(c:CV x u): ∃ v,RelV v u/\ ∀ ρ H,rel K ρ H x v:=by
 cases c with
 | int i t=>exact⟨.int i,⟨t,rfl⟩,λ_ _=>by rw[rel]⟩
 | str z t=>exact⟨.str z,⟨t,rfl⟩,λ_ _=>by rw[rel]⟩
theorem Tj.v: ∀{xs us},Ws CV xs us-> ∃ vs,Vals vs us/\ ∀ ρ H,ak K ρ H xs vs
 | _,_,.nil=>⟨[],.nil,λ_ _=>bG.mpr rfl⟩
 | _,_,.cons c t=>by obtain⟨v,a,b⟩:=CV.v c;exact by obtain⟨vs,d,e⟩:=Tj.v t;exact⟨v::vs,.cons a d,fun ρ H=>aD.mpr ⟨v,vs,rfl,b ρ H,e ρ H⟩⟩
theorem tO(hl:K.lookup a=UU ⟨.type "tuple",d,.seq us.toArray n,sl⟩)(hz:us.length<=Vj)(h:Ws CV xs us) ρ H:rel K ρ H (.ktup xs) (.ref a):=by
 obtain⟨vs,r,q⟩:=Tj.v (K:=K) h;exact⟨a,vs,rfl,⟨_,us.toArray,n,hl,rfl,rfl,by omega,by omega⟩,q ρ H⟩
theorem km{x:Str}{v:PV}{u:U1}(hm:mg x=UU u)(c:CV v u): ∃ u v',mg x=UU u/\RelV v' u/\xT K v'/\ ∀ ρ H,rel K ρ H v v':=by obtain⟨v',a,b⟩:=CV.v (K:=K) c;exact⟨u,v',hm,a,(λp e=>by subst e;cases(show u=Vo p from a);cases c),b⟩
theorem v3{x:Str}{a:U9}{us:List U1}{n:Nat}{sl:Array (Option U1)}{xs:List PV}(hm:mg x=UU (.ref a))(hl:K.lookup a=UU ⟨.type "tuple",UX,.seq us.toArray n,sl⟩)(hz:us.length<=Vj)(h:Ws CV xs us) :
  ∃ u v',mg x=UU u/\RelV v' u/\xT K v'/\ ∀ ρ H,rel K ρ H (.ktup xs) v':=⟨_,.ref a,hm,rfl,λp e=>by cases e;exact⟨_,hl,rfl,rfl⟩,tO hl hz h⟩
def DV(K:UW) x (u:U1):= ∃ v,RelV v u/\ ∀ ρ H,rel K ρ H x v
theorem gB(c:CV x u):DV K x u:=CV.v c
theorem dY(hl:K.lookup a=UU ⟨.type "tuple",d,.seq us.toArray n,sl⟩)(hz:us.length<=Vj)(h:Ws CV xs us):DV K (.ktup xs) (.ref a):=⟨.ref a,rfl,tO hl hz h⟩
theorem zQ(h:Ws (λ(p) (l:Str × Tok × U1)=>p.1= .inr l.1/\DV K p.2 l.2.2) kvs ls): ∃ kws,KV kws (ls.map λp=>((ZC p.1),p.2.2))/\ ∀ ρ H,RK K ρ H kvs kws:=by
 induction h with
 | nil=>exact⟨[],.nil,λ_ _=> .nil⟩
 | @cons p l ps qs a t ih =>
  obtain⟨kws,r,q⟩:=ih
  obtain⟨e,v,r1,r2⟩:=a
  exact⟨(.inr l.1,v)::kws,.cons ⟨rfl,r1⟩ r,fun ρ H=> .cons ⟨e,r2 ρ H⟩ (q ρ H)⟩
theorem uN{x:Str}{a:U9}{ls:List (Str × Tok × U1)}{kvs:List (Key × PV)}{ep:Nat}(hm:mg x=UU (.ref a))(hl:K.lookup a=UU { cls:= .type "dict",data:= .dict (ls.map (NM w)).toArray ep})(ha:(a == Xa)=false)(hn:(ls.map λp=>(ZC p.1:Key)).Nodup)
  (h:Ws (λ(p:Key × PV) (l:Str × Tok × U1)=>p.1= .inr l.1/\DV K p.2 l.2.2) kvs ls): ∃ a kws,mg x=UU (.ref a)/\KD P w K a kws/\ ∀ ρ H,RK K ρ H kvs kws:=by
 obtain⟨kws,r,q⟩:=zQ h;exact⟨a,kws,hm,Q4 hl ha hn r,q⟩
end
abbrev IZ(ar:List U1)(n:Nat)(dd:Option U9)(sl:Array (Option U1)):Obj:={ cls:= .type "tuple",dict:=dd,data:= .seq ar.toArray n,slots:=sl}
theorem vB(h1: -(2 ^ 63)<=k)(h2:k < 2 ^ 63): ¬ (decide (k < -(2 ^ 63))||decide (k ≥ 2 ^ 63))=true:=by
 simp_all
theorem vc l ar n k u dd sl (h1: -(2 ^ 63)<=k) (h2:k < 2 ^ 63) (hs:(ar.toArray.isEmpty||k == 1)=true) :
  Meets (ZG.«tuple.__mul__» ⟨[.ref l,.int k u],[]⟩) (λ_ R s=>s.heap.get? l=UU (IZ ar n dd sl)/\R (.ok (.ret (.ref l))) s) :=
 .of_wp λprog w A R s h=>by
  obtain⟨hl,h⟩:=h;refine WH (λz=>absurd z (vB h1 h2)) (λ_=>?_)
  wp_walk using Wr hl,YY hl
  refine WH (λ_=>?_) (λz=>absurd hs z)
  wp_walk using Wr hl,YY hl
  exact⟨_,rfl,h⟩
theorem vf l ar n k u dd sl (h1: -(2 ^ 63)<=k) (h2:k<=0) (hs: ¬ (ar.toArray.isEmpty||k == 1)=true) :
  Meets (ZG.«tuple.__mul__» ⟨[.ref l,.int k u],[]⟩) (λ_ R s=>s.heap.get? l=UU (IZ ar n dd sl)/\R (.ok (.ret (.ref s.heap.objs.size))) { s with heap:=s.heap.push { cls:= .type "tuple",data:= .seq #[]}}) :=
 .of_wp λprog w A R s h=>by
  obtain⟨hl,h⟩:=h;have hz:(decide (k<=0)||ar.toArray.isEmpty)=true:=by simp[h2]
  refine WH (λz=>absurd z (vB h1 (by omega))) (λ_=>?_)
  wp_walk using Wr hl,YY hl
  refine WH (λz=>absurd z hs) (λ_=>?_);refine WH (λ_=>?_) (λz=>absurd hz z);exact UY (m:=WD _) (Ww (Vf ⟨_,rfl,h⟩) (by size_fits))
theorem vD l ar n (k:Int) u dd sl (h1:0 < k) (h2:(ar.length)*k<=100000) (hk:k<=100000) (hs: ¬ (ar.toArray.isEmpty||k == 1)=true) :
  Meets (ZG.«tuple.__mul__» ⟨[.ref l,.int k u],[]⟩) (λ_ R s=>s.heap.get? l=UU (IZ ar n dd sl)/\R (.ok (.ret (.ref s.heap.objs.size))) { s with heap:=s.heap.push { cls:= .type "tuple",data:= .seq (U8 k.toNat ar).flatten.toArray}}) :=
 .of_wp λprog w A R s h=>by
  obtain⟨hp,g,d,tk,os⟩:=s;obtain⟨hl,h⟩:=h;have f1:=AutoSeq1.idx_int;have hz: ¬ (decide (k<=0)||ar.toArray.isEmpty)=true:=by
   simp_all
  have hc1: ¬ ((ar.toArray.size)*k > (2 ^ 63 - 1) / 8):=by rw[VC];omega
  have hc2: ¬ (aah ((ar.toArray.size)*k)=true):=by
   unfold aah;rw[VC,decide_eq_true_eq,show((Vj))=16777216 from by decide];omega
  have e0:ac7 (λx1 x2=>x1++x2) #[] (U8 k.toNat ar.toArray)=(U8 k.toNat ar).flatten.toArray:=by
   have:=foldl_rep ar k.toNat [];rw[VW] at this;exact this
  wp_walk using Wr hl,YY hl
  refine WH (λz=>absurd z (vB (by omega) (by omega))) (λ_=>?_)
  wp_walk using Wr hl,YY hl
  refine WH (λz=>absurd z hs) (λ_=>?_);refine WH (λz=>absurd z hz) (λ_=>?_);refine WH (λhab=>absurd hab hc1) (λ_=>?_);refine WH (λhab=>absurd hab hc2) (λ_=>?_);refine UY (m:=WD _) (Ww (Vf ⟨_,rfl,?_⟩) ?_)
  . rw[e0];exact h
  . rw[e0];show(U8 k.toNat ar).flatten.toArray.size<=Vj;rw[VC,len_rep,Z3];refine Vn (show ar.length*k.toNat<=100000 from ?_) (by decide);have e1:((ar.length*k.toNat:Nat))=(ar.length)*k:=by rw[Int.natCast_mul,Int.toNat_of_nonneg (by omega)]
    omega
def Jd(K:UW):R2:=λx y H Q=> ∃ a k xs,x= .ref a/\y= .int k/\fU K H a xs/\(xs.length)*k<=100000/\ -100000<=k/\k<=100000/\(xs=[]\/k=1->Q (.ref a) H)/\(¬ (xs=[]\/k=1)-> ∀ p,H p=UX->Q (.ref p) (upd H p (.tup (U8 k.toNat xs).flatten)))
theorem zP:cI X (Wv .Mult) (Jd X.K):=by
 intro pins s σ H x y v u Q I rx ry h;obtain⟨a,k,xs,rfl,rfl,ha,hl,k1,k2,q1,q2⟩:=h;cases(show v=Vo a from rx);obtain⟨t,rfl⟩:=ry;obtain⟨ar,r1,p1,_⟩:=I.tuple ha;obtain⟨⟨cls,dd,data,sl⟩,ho,hc,n,hd⟩:=id p1;simp only at hc hd;subst hc hd;have hlen:=r1.length;refine aaj (T:= "tuple") (U:= "int") (by decide) ⟨_,ho,rfl⟩ (λs'=>aaW s' k t) kj PySem.F.fills_int_mul abg qx PySem.F.slot_int_index.lookup
  (Xj abg (aaW s k t) PySem.F.entry_int_rmul (PySem.F.args_int_rmul_2 _ _) (nJ k t a ar.toArray n dd sl) ⟨ho,rfl,⟨_,ho,rfl⟩,?_⟩)
 have hx:=(r1.l4).symm;by_cases hs:xs=[]\/k=1
 . have hb:(ar.toArray.isEmpty||k == 1)=true:=by
    simp_all
   exact Xj Xo ⟨_,ho,rfl⟩ Y8 (YL _ _) (vc a ar n k t dd sl (by omega) (by omega) hb) ⟨ho,⟨.ref a,H,I,rfl,q1 hs⟩⟩
 . have hb: ¬ (ar.toArray.isEmpty||k == 1)=true:=λz=>hs (by
    rw[YU] at z;rcases z with z | z
    . exact .inl (hx.mpr (by simpa using z))
    . exact .inr (by simpa using z))
   by_cases hk:0 < k
   . refine Xj Xo ⟨_,ho,rfl⟩ Y8 (YL _ _) (vD a ar n k t dd sl hk (by rw[<- hlen];exact hl) k2 hb) ⟨ho,?_⟩;refine⟨.ref s.heap.objs.size,_,I.laid (t':=s.toks) (o:= .tup (U8 k.toNat xs).flatten) (λb ob q=>U4 _ q) (Vb _) ?_,rfl,q2 hs _ (I.aY.fresh (Vb _))⟩;refine⟨?_,_,r1.rep k.toNat,o8.new _ _⟩;rw[len_rep,Z3];refine Vn (show xs.length*k.toNat<=100000 from ?_) (by decide);have e1:((xs.length*k.toNat:Nat))=(xs.length)*k:=by grind
     omega
   . refine Xj Xo ⟨_,ho,rfl⟩ Y8 (YL _ _) (vf a ar n k t dd sl (by omega) (by omega) hb) ⟨ho,?_⟩;refine⟨.ref s.heap.objs.size,_,I.laid (t':=s.toks) (o:= .tup (U8 k.toNat xs).flatten) (λb ob q=>U4 _ q) (Vb _) ?_,rfl,q2 hs _ (I.aY.fresh (Vb _))⟩;have:k.toNat=0:=by omega
     rw[this];exact⟨V2 _,[],.nil,o8.new _ _⟩
section
variable{X:Cx}{pg:Tb}{k:Nat}
theorem ak.rep{K}(r:ak K ρ H xs vs): ∀ n,ak K ρ H (U8 n xs).flatten (U8 n vs).flatten
 | 0=>bG.mpr rfl
 | n+1=>by exact r.app (r.rep n)
def gY:PV->PV->PH->RV PV:=λx y h=>match x,y with
 | .int i,.int j=>if (-(2 ^ 64) < i/\i < 2 ^ 64)\/(-(2 ^ 64) < j/\j < 2 ^ 64) then .ok (.int (i*j)) h else .no
 | .tup xs,.int k=>if (xs.length)*k<=100000/\ -100000<=k/\k<=100000 then .ok (.tup (U8 k.toNat xs).flatten) h else .no
 | .ref n,.int k=>(match h[n]? with
  | some (.lst xs)=>if (-(2 ^ 63)<=k/\k < 2 ^ 63)/\xs.length*k.toNat<=Vj then .ok (.ref h.length) (h++[.lst (U8 k.toNat xs).flatten]) else .no
  | _=> .no)
 | _,_=> .no
theorem MC:cm X pg k-> ∃ r,cI X (Wv .Mult) r/\ke X.K r gY:=λ_=>⟨_,LH.or (zP.or MM),fun ρ h H x y x' y' Q v h' s rx ry q P=>by
 unfold gY at q;split at q
 . split at q
   . rename_i hc;cases q;exact .inl ⟨_,_,rx,ry,hc,P _ ρ H (.refl _ _) s (by rw[rel])⟩
   . nomatch q
 . rename_i xs k;split at q
   . rename_i hc;cases q;have rx':=rx;obtain⟨a,us,rfl,e2,e3⟩:=rx;refine .inr (.inl ⟨a,k,us,rfl,ry,.of e2,by rw[<- e3.len];exact hc.1,hc.2.1,hc.2.2,λz=>?_,λz p hp=>l3 s (e3.rep _) P p hp⟩);have:(U8 k.toNat xs).flatten=xs:=by
      rcases z with z | z
      . subst z;have:=ZM e3.len;subst this;simp
      . rw[z];simp[U8]
     rw[this] at P;exact P _ ρ H (.refl _ _) s rx'
   . nomatch q
 . split at q
   . rename_i xs en;split at q
     . rename_i hc;cases q;obtain⟨a,us,rfl,_,e1,e2⟩:=s.lst en rx;exact .inr (.inr ⟨a,_,us,rfl,ry,e1,hc.1.1,hc.1.2,by rw[<- e2.len];exact hc.2,λp hp=>fJ s (e2.rep _) P p hp⟩)
     . nomatch q
   . nomatch q
 . nomatch q⟩
end
def fin(h:PH)(r:RV Fl):RV PV:=match r with
 | .ok (.rt v) h'=>settle h v h'
 | .ok (.nx _) h'=>settle h .non h'
 | _=> .no
def uJ(h:PH)(r:RV Fl):RV PV:=match r with
 | .ok (.rt v) h'=>settle h v h'
 | .ok (.nx _) h'=>settle h .non h'
 | .ex c us h'=>dg h c us h'
 | _=> .no
theorem run_eq{pg:Tb}{k:Nat}{f:String}{d:Df}{vs:List PV}{h:PH}(hf:pg.fns f=UU d)(hn:vs.length=d.ps.length)(hz:pg.rz f=false:=by rfl):run pg (k+1) f vs h=fin h (d.body (run pg k) (vs.map UU++U8 d.nl UX) h):=by
 rw[run,nR hf];simp only[if_pos hn,hz];generalize d.body (run pg k) (vs.map UU++U8 d.nl UX) h=r;cases r with
 | ok g h'=>cases g<;>rfl
 | ex=>rfl
 | no=>rfl
theorem fK{pg:Tb}{k:Nat}{f:String}{d:Df}{vs:List PV}{h:PH}(hf:pg.fns f=UU d)(hn:vs.length=d.ps.length)(hz:pg.rz f=true:=by rfl):run pg (k+1) f vs h=uJ h (d.body (run pg k) (vs.map UU++U8 d.nl UX) h):=by
 rw[run,nR hf];simp only[if_pos hn,hz];generalize d.body (run pg k) (vs.map UU++U8 d.nl UX) h=r;cases r with
 | ok g h'=>cases g<;>rfl
 | ex=>rfl
 | no=>rfl
theorem bE:(RV.ok a h).bind f=f a h:=(rfl)
theorem m6:fin h (.ok (.rt v) h')=settle h v h':=(rfl)
theorem Ef{h h':PH}{v:PV}:uJ h (.ok (.rt v) h')=settle h v h':=(rfl)
theorem Fm{h h':PH}{c:Nat}{us:List (Str × PV)}:uJ h (.ex c us h')=dg h c us h':=(rfl)
theorem A3{h:PH}{c:Prop}[Decidable c]{a b:RV Fl}:uJ h (if c then a else b)=if c then uJ h a else uJ h b:=by split<;>rfl
theorem NY{α β :Type}{c:Nat}{us:List (Str × PV)}{h:PH}{f: α ->PH->RV β}:(RV.ex c us h:RV α).bind f= .ex c us h:=(rfl)
theorem Ew[Decidable c]:fin h (if c then a else b)=if c then fin h a else fin h b:=by split<;>rfl
theorem fH:settle h v h= .ok v h:=by unfold settle;split<;>simp
theorem a8(hv:v.flat=true):settle h v (h++g)= .ok v h:=by unfold settle;rw[hv,gQ];simp
theorem bF(hv:v.flat=false):settle h v h'= .ok v h':=by unfold settle;rw[hv];rfl
theorem k8{h g:PH}{C:Nat}{us:List (Str × PV)}(hv:PV.c6 (us.map (·.2))=true):dg h C us (h++g)= .ex C us h:=by unfold dg;rw[hv,gQ];simp
theorem uP(hv:v.flat=true)(e:h[i]?=UU o)(m:o.fP=o'.fP)(hu:o'.iF h.length=true):settle h v (h.set i o'++g)= .ok v (h.set i o'):=by
 unfold settle;have:bW h.length h (h.set i o'++g)=true:=by
  have h1:=mO hu h (h++g) i o (gQ _ h g) e m
  rwa[ZN _ _ (Vk.mp e).1] at h1
 rw[hv,this];simp[List.take_append_of_le_length]
theorem tH{h:PH}{v:PV}{i:Nat}{o o':PO}:settle h v (h.set i o')= .ok v (h.set i o'):=by
 unfold settle;split
 . rw[<- aa8 (as:=h) (i:=i) (a:=o'),acM]
 . rfl
theorem qQ:U0 a=U0 b↔a=b:=by
 refine⟨λe=>?_,λe=>by rw[e]⟩;rw[aa0,aa0] at e;have e1:a.toList.map Y4=b.toList.map Y4:=by
  have:=congrArg (λs:Str=>s.cps.toList) e;simpa using this
 have inj: ∀{l m:List Char},l.map Y4=m.map Y4->l=m:=by
  intro l
  induction l with
  | nil=>intro m h;cases m with | nil=>rfl | cons=>cases h
  | cons x r ih =>
   intro m h
   cases m with
   | nil=>cases h
   | cons y t =>
    simp only[acZ,U2] at h
    have:=Char.toNat_inj.mp h.1
    rw[this,ih h.2]
 exact String.toList_inj.mp (inj e1)
section
variable{c:CF}{e e1:aM}{h h1:PH}{a b d:ME}{t u:MT}{r:MA}{x y v:PV}{f g:PV->PV->PH->RV PV}{s s':MS}{i n:Nat}
def OW(f:PV->PV->PH->RV PV)(b:ME) c e x h1:=(b c e h1).bind λy h2=>f x y h2
theorem HJ:ay f a b c e h=(a c e h).bind (OW f b c e):=rfl
theorem CZ:OW f b c e x h1=(b c e h1).bind (f x):=rfl
theorem Ow{f}:jV f a c e h=(a c e h).bind f:=rfl
noncomputable def Jc(o:Option (Option PV))(h:PH):RV PV:=match o with
 | some (UU v)=> .ok v h
 | _=> .no
theorem zS:aa i c e h=Jc (e[i]?) h:=rfl
theorem xI:Jc (UU (UU v)) h= .ok v h:=rfl
theorem RU:eC v c e h= .ok v h:=rfl
theorem L9:rZ (.bl p) h= .ok p h:=rfl
noncomputable def Cz(b:ME) c e x h1:=if x=true then b c e h1 else .ok (.bl false) h1
theorem Io:uo a b c e h=((a c e h).bind rZ).bind (Cz b c e):=rfl
theorem FU:Cz b c e true h=b c e h:=rfl
theorem DD:Cz b c e false h= .ok (.bl false) h:=rfl
theorem FV[Decidable p]:Cz b c e (decide p) h=if p then b c e h else .ok (.bl false) h:=by unfold Cz;by_cases q:p<;>simp[q]
noncomputable def Rc(b:ME) c e x h1:=if x=true then .ok (.bl true) h1 else b c e h1
theorem Qt:O6 a b c e h=((a c e h).bind rZ).bind (Rc b c e):=rfl
theorem Jg:Rc b c e true h= .ok (.bl true) h:=rfl
theorem Na:Rc b c e false h=b c e h:=rfl
theorem Mh[Decidable p]:Rc b c e (decide p) h=if p then .ok (.bl true) h else b c e h:=by unfold Rc;by_cases q:p<;>simp[q]
noncomputable def QV(x:Bool)(h1:PH):RV PV:= .ok (.bl (!x)) h1
theorem Iu:Nb a c e h=((a c e h).bind rZ).bind QV:=rfl
theorem Gy:QV p h= .ok (.bl (!p)) h:=rfl
noncomputable def KO(a b:ME) c e x h1:=if x=true then a c e h1 else b c e h1
theorem Rf:yZ t a b c e h=(t c e h).bind (KO a b c e):=rfl
theorem M4:KO a b c e true h=a c e h:=rfl
theorem Lr:KO a b c e false h=b c e h:=rfl
theorem LQ[Decidable p]:KO a b c e (decide p) h=if p then a c e h else b c e h:=by unfold KO;by_cases q:p<;>simp[q]
theorem LD[Decidable p]:KO a b c e (!decide p) h=if p then b c e h else a c e h:=by unfold KO;by_cases q:p<;>simp[q]
theorem MY:aC a c e h=(a c e h).bind rZ:=rfl
noncomputable def og(u:MT) c e x h1:=if x=true then u c e h1 else .ok false h1
theorem E1:iE t u c e h=(t c e h).bind (og u c e):=rfl
theorem Au:og u c e true h=u c e h:=rfl
theorem AH:og u c e false h= .ok false h:=rfl
theorem Bz[Decidable p]:og u c e (decide p) h=if p then u c e h else .ok false h:=by unfold og;by_cases q:p<;>simp[q]
theorem CC[Decidable p]:og u c e (!decide p) h=if p then .ok false h else u c e h:=by unfold og;by_cases q:p<;>simp[q]
noncomputable def vm(u:MT) c e x h1:=if x=true then .ok true h1 else u c e h1
theorem Mi:rF t u c e h=(t c e h).bind (vm u c e):=rfl
theorem DK:vm u c e true h= .ok true h:=rfl
theorem DC:vm u c e false h=u c e h:=rfl
theorem DI[Decidable p]:vm u c e (decide p) h=if p then .ok true h else u c e h:=by unfold vm;by_cases q:p<;>simp[q]
theorem Fn[Decidable p]:vm u c e (!decide p) h=if p then u c e h else .ok true h:=by unfold vm;by_cases q:p<;>simp[q]
noncomputable def Hw(x:Bool)(h1:PH):RV Bool:= .ok (!x) h1
theorem ET:fB t c e h=(t c e h).bind Hw:=rfl
theorem Ca:Hw p h= .ok (!p) h:=rfl
theorem Dv:bf c e h= .ok true h:=rfl
theorem vY:aj c e h= .ok [] h:=rfl
noncomputable def IB(x:PV)(xs:List PV)(h2:PH):RV (List PV):= .ok (x::xs) h2
def Jj(r:MA) c e x h1:=(r c e h1).bind (IB x)
theorem tD:ae a r c e h=(a c e h).bind (Jj r c e):=rfl
theorem pQ:Jj r c e x h=(r c e h).bind (IB x):=rfl
theorem p7:IB x xs h= .ok (x::xs) h:=rfl
theorem iu{r:RV α}(hn:n<=16777216):oX n r=r:=by exact if_pos hn
def Qq(xs:List PV)(h:PH):RV PV:=oX xs.length (.ok (.tup xs) h)
theorem IT:cU r c e h=(r c e h).bind Qq:=rfl
theorem Em:Qq xs h=oX xs.length (.ok (.tup xs) h):=(rfl)
def Qm(xs:List PV)(h:PH):RV PV:=oX xs.length (.ok (.ref h.length) (h++[.lst xs]))
theorem AU:bh r c e h=(r c e h).bind Qm:=rfl
theorem wZ:Qm xs h=oX xs.length (.ok (.ref h.length) (h++[.lst xs])):=(rfl)
theorem Fo{f}:ai f r c e h=(r c e h).bind (c f):=rfl
theorem SK{f}:eB f r c e h=(r c e h).bind f:=rfl
def jz(f:PV->List PV->PH->RV PV)(ty:PV->PH->Bool)(r:MA) c e x h1:=if ty x h1=true then(r c e h1).bind (f x) else .no
theorem du{f}:eM f ty a r c e h=(a c e h).bind (jz f ty r c e):=rfl
def yp(g:PV->PV->PH->RV PV)(d:ME) c e y k h3:=if k=true then(d c e h3).bind (g y) else .ok (.bl false) h3
def Jk(f g:PV->PV->PH->RV PV) d c e x y h2:=((f x y h2).bind rZ).bind (yp g d c e y)
def PR(f g:PV->PV->PH->RV PV)(b d:ME) c e x h1:=(b c e h1).bind (Jk f g d c e x)
theorem PL:jk f g a b d c e h=(a c e h).bind (PR f g b d c e):=rfl
theorem Ik:PR f g b d c e x h=(b c e h).bind (Jk f g d c e x):=rfl
theorem Jq:Jk f g d c e x y h=((f x y h).bind rZ).bind (yp g d c e y):=rfl
theorem DP:yp g d c e y true h=(d c e h).bind (g y):=rfl
theorem FA:yp g d c e y false h= .ok (.bl false) h:=rfl
theorem Eg[Decidable p]:yp g d c e y (decide p) h=if p then(d c e h).bind (g y) else .ok (.bl false) h:=by unfold yp;by_cases q:p<;>simp[q]
noncomputable def Ah(s:MS) c (f:Fl) (h1:PH):=match f with
 | .nx e1=>s c e1 h1
 | f=> .ok f h1
theorem vS:ah s s' c e h=(s c e h).bind (Ah s' c):=rfl
theorem wL:Ah s c (.nx e) h=s c e h:=(rfl)
theorem vZ:Ah s c (.rt v) h= .ok (.rt v) h:=rfl
theorem Fq:Ah s c (.bk e) h= .ok (.bk e) h:=rfl
theorem FE:Ah s c (.ct e) h= .ok (.ct e) h:=rfl
theorem O0:dk c e h= .ok (.nx e) h:=rfl
noncomputable def Ue(e:aM)(_:PV)(h1:PH):RV Fl:= .ok (.nx e) h1
theorem FZ:bM a c e h=(a c e h).bind (Ue e):=rfl
theorem Bj:Ue e x h= .ok (.nx e) h:=rfl
noncomputable def QK(v:PV)(h1:PH):RV Fl:= .ok (.rt v) h1
theorem KR:aK a c e h=(a c e h).bind QK:=rfl
theorem GI:QK v h= .ok (.rt v) h:=rfl
noncomputable def u0(s s':MS) c e x h1:=if x=true then s c e h1 else s' c e h1
theorem Jl:cE t s s' c e h=(t c e h).bind (u0 s s' c e):=rfl
theorem Dm:u0 s s' c e true h=s c e h:=rfl
theorem GL:u0 s s' c e false h=s' c e h:=rfl
theorem Gh[Decidable p]:u0 s s' c e (decide p) h=if p then s c e h else s' c e h:=by unfold u0;by_cases q:p<;>simp[q]
theorem FW[Decidable p]:u0 s s' c e (!decide p) h=if p then s' c e h else s c e h:=by unfold u0;by_cases q:p<;>simp[q]
noncomputable def K3(e1:aM)(h2:PH):RV Fl:= .ok (.nx e1) h2
def Jh(g:MG) e v h1:=(g v e h1).bind K3
theorem Km{g}:aA a g c e h=(a c e h).bind (Jh g e):=rfl
theorem Ea:Jh (gN i) e v h= .ok (.nx (e.set i (UU v))) h:=rfl
theorem E7:Jh (gT n gs) e v h=(gT n gs v e h).bind K3:=rfl
theorem KI:K3 e h= .ok (.nx e) h:=rfl
theorem jc:gN i v e h= .ok (e.set i (UU v)) h:=rfl
theorem Qu(hn:xs.length=n):gT n gs (.tup xs) e h=gs xs e h:=if_pos hn
theorem MK:gT 2 gs (.tup [x1,x2]) e h=gs [x1,x2] e h:=rfl
theorem MB:gT 3 gs (.tup [x1,x2,x3]) e h=gs [x1,x2,x3] e h:=rfl
theorem LF:gT 4 gs (.tup [x1,x2,x3,x4]) e h=gs [x1,x2,x3,x4] e h:=rfl
theorem L5:gT 5 gs (.tup [x1,x2,x3,x4,x5]) e h=gs [x1,x2,x3,x4,x5] e h:=rfl
theorem Kt:ia [] e h= .ok e h:=rfl
theorem Lp{g r t}:cA g r (v::t) e h=(g v e h).bind (r t):=rfl
def Bg(f:PV->PV->PV->PH->RV Unit)(e:aM)(v x y:PV)(h3:PH):RV Fl:=(f x y v h3).bind λ_ h4=> .ok (.nx e) h4
def BH(f:PV->PV->PV->PH->RV Unit)(i:ME) c e v x h2:=(i c e h2).bind (Bg f e v x)
def Hz(f:PV->PV->PV->PH->RV Unit)(o i:ME) c e v h1:=(o c e h1).bind (BH f i c e v)
theorem Iq{f i}:lK f o i a c e h=(a c e h).bind (Hz f o i c e):=rfl
theorem D2{f i}:Hz f o i c e v h=(o c e h).bind (BH f i c e v):=rfl
theorem GP{f i}:BH f i c e v x h=(i c e h).bind (Bg f e v x):=rfl
noncomputable def Ur(e:aM)(_:Unit)(h:PH):RV Fl:= .ok (.nx e) h
theorem DU{f}:Bg f e v x y h=(f x y v h).bind (Ur e):=rfl
theorem Lz{u}:Ur e u h= .ok (.nx e) h:=rfl
def aN(g:MG)(s:MS) c x e h:=(g x e h).bind (s c)
def fork g s c e it h1:=aS it (aN g s c) it.items e h1
theorem Ja{i g}:gL i g s c e h=(i c e h).bind (fork g s c e):=(rfl)
theorem EJ{g}:fork g s c e it h=aS it (aN g s c) it.items e h:=(rfl)
theorem jE{g}:aN g s c x e h=(g x e h).bind (s c):=(rfl)
theorem M3:iY a c e h=(a c e h).bind iH:=(rfl)
theorem qL:iH (.tup xs) h= .ok ⟨UX,xs⟩ h:=(rfl)
theorem Jv:iH (.ktup xs) h= .ok ⟨UX,xs⟩ h:=(rfl)
def RH(n:Nat)(h:PH)(o:Option PO):RV qw:=match o with
 | some (.lst xs)=> .ok ⟨UU n,xs⟩ h
 | some (.jA xs)=> .ok ⟨UU n,xs⟩ h
 | _=> .no
theorem zZ:iH (.ref n) h=RH n h (h[n]?):=by
 have e:iH (.ref n) h=(match bQ h n with | some xs=> .ok ⟨UU n,xs⟩ h | none=> .no):=rfl;rw[e];unfold bQ RH;generalize h[n]?=oo;cases oo with
 | none=>rfl
 | some o=>cases o<;>rfl
theorem AJ:RH n h (UU (.lst xs))= .ok ⟨UU n,xs⟩ h:=(rfl)
theorem IA:RH n h (UU (.jA xs))= .ok ⟨UU n,xs⟩ h:=(rfl)
def TJ(vs:List PV)(h1:PH):RV qw:=match vs with
 | [.int j]=>if -(2 ^ 62)<=j/\j < 2 ^ 62 then .ok ⟨UX,ao 0 j.toNat⟩ h1 else .no
 | _=> .no
theorem LG:bJ r c e h=(r c e h).bind TJ:=by
 rfl
theorem Ep(hj: -4611686018427387904<=j/\j < 4611686018427387904):TJ [.int j] h= .ok ⟨UX,ao 0 j.toNat⟩ h:=by
 exact if_pos (by omega)
def Fh(vs:List PV)(h1:PH):RV qw:=match vs with
 | [.int i,.int j]=>if (-(2 ^ 62)<=i∧i < 2 ^ 62)∧ -(2 ^ 62)<=j∧j < 2 ^ 62 then .ok ⟨UX,ao i (j - i).toNat⟩ h1 else .no
 | _=> .no
theorem L4 : l8 r c e h = (r c e h).bind Fh := by
  unfold l8;generalize r c e h = z;cases z with
  | ok a b =>
    rw [iJ, iJ]
    unfold Fh
    split
    . rfl
    . rename_i hx
      first
      | rfl
      | (split
         . exact absurd rfl (hx _ _)
         . rfl)
  | ex a b d => rfl
  | no => rfl
theorem GW{i j:Int}(hi: -4611686018427387904<=i∧i < 4611686018427387904)(hj: -4611686018427387904<=j∧j < 4611686018427387904):Fh [.int i,.int j] h= .ok ⟨UX,ao i (j - i).toNat⟩ h:=by
 unfold Fh;exact if_pos (by omega)
noncomputable def Rp(x y:PV)(h2:PH):RV qw:=match x.seq?,y.seq? with
 | some xs,UU ys=> .ok ⟨UX,(xs.zip ys).map λp=> .tup [p.1,p.2]⟩ h2
 | _,_=> .no
def Ud(b:ME) c e x h1:=(b c e h1).bind (Rp x)
theorem Iz:Bk a b c e h=(a c e h).bind (Ud b c e):=(rfl)
theorem GY:Ud b c e x h=(b c e h).bind (Rp x):=(rfl)
theorem Ax:Rp (.ktup xs) (.tup ys) h= .ok ⟨UX,(xs.zip ys).map λp=> .tup [p.1,p.2]⟩ h:=(rfl)
theorem B3:Rp (.tup xs) (.tup ys) h= .ok ⟨UX,(xs.zip ys).map λp=> .tup [p.1,p.2]⟩ h:=(rfl)
def SM it (step:PV->aM->PH->RV Fl) (xs:List PV) (f:Fl) (h1:PH):=match f with
 | .nx e1=>aS it step xs e1 h1
 | .ct e1=>aS it step xs e1 h1
 | .bk e1=> .ok (.nx e1) h1
 | .rt v=> .ok (.rt v) h1
theorem fh{step}:aS ⟨UX,xs⟩ step [] e h= .ok (.nx e) h:=(rfl)
theorem bY{step}:aS ⟨UX,xs⟩ step (y::ys) e h=(step y e h).bind (SM ⟨UX,xs⟩ step ys):=(rfl)
theorem bX{step}:SM it step xs (.nx e) h=aS it step xs e h:=(rfl)
theorem rW{step}:SM it step xs (.rt v) h= .ok (.rt v) h:=(rfl)
noncomputable def Li(ys:List PV)(h2:PH):RV PV:= .ok (.ref h2.length) (h2++[.lst ys])
def Ql k g t a c e it h1:=(hU it (bN k g t a c e) it.items [] h1).bind Li
theorem PZ{i g}:fg k i g t a c e h=(i c e h).bind (Ql k g t a c e):=(rfl)
theorem Mp{g}:Ql k g t a c e it h=(hU it (bN k g t a c e) it.items [] h).bind Li:=(rfl)
theorem Mq:Li ys h= .ok (.ref h.length) (h++[.lst ys]):=(rfl)
noncomputable def As(y:PV)(h4:PH):RV (Option PV):= .ok (UU y) h4
def uF(a:ME) c e2 b h3:=if b=true then(a c e2 h3).bind As else .ok UX h3
def Q5(t:MT) a c e2 h2:=(t c e2 h2).bind (uF a c e2)
theorem O5{g}:bN k g t a c e x h=(g x (e++U8 k UX) h).bind (Q5 t a c):=(rfl)
theorem IG:Q5 t a c e h=(t c e h).bind (uF a c e):=(rfl)
theorem Gd:uF a c e true h=(a c e h).bind As:=(rfl)
theorem ED:uF a c e false h= .ok UX h:=(rfl)
theorem GF[Decidable p]:uF a c e (decide p) h=if p then(a c e h).bind As else .ok UX h:=by unfold uF;by_cases q:p<;>simp[q]
theorem Fv[Decidable p]:uF a c e (!decide p) h=if p then .ok UX h else(a c e h).bind As:=by unfold uF;by_cases q:p<;>simp[q]
theorem Lj:As y h= .ok (UU y) h:=(rfl)
theorem cR{α :Type}{it:qw}(hf:it.lC h=true){step:PV->PH->RV (Option PV)}{f: α ->Option PV}{g: α ->PV}: ∀(l:List α)(ys:List PV),(∀ x∈l,step (g x) h= .ok (f x) h)->l.length+ys.length<=16777216->hU it step (l.map g) ys h= .ok (ys++l.filterMap f) h
 | [],ys,_,_=>by rw[VP,hU,if_pos hf];simp
 | x::xs,ys,hs,hl=>by
  have hl':ys.length < Vj:=by rw[UZ] at hl;show ys.length < 16777216;omega
  rw[U2,hU,if_pos ⟨hf,hl'⟩,hs x Ve];cases q:f x with
  | none=>exact(cR hf xs ys (λy m=>hs y (Vl _ m)) (by grind)).trans (by rw[List.filterMap_cons_none q])
  | some y=>exact(cR hf xs (ys++[y]) (λz m=>hs z (Vl _ m)) (by rw[UZ] at hl;simp;omega)).trans (by rw[YM q];simp)
end
section
variable{h:PH}{i j:Int}{a b:Str}{x y z w u v:PV}{r xs ys:List PV}{p q:Bool}{n m:Nat}
theorem FK:Dz (.int i) (.int j) h= .ok (.int (i - j)) h:=(rfl)
theorem Ft:aF (.int i) (.int j) h= .ok (.int (i+j)) h:=(rfl)
theorem j7(hl:a.length+b.length<=16777216):aF (.str a) (.str b) h= .ok (.str (a++b)) h:=iu hl
theorem lQ(hl:xs.length+ys.length<=16777216):aF (.tup xs) (.tup ys) h= .ok (.tup (xs++ys)) h:=iu hl
theorem iL(e1:h[n]?=UU (.lst xs))(e2:h[m]?=UU (.lst ys))(hl:xs.length+ys.length<=16777216):aF (.ref n) (.ref m) h= .ok (.ref h.length) (h++[.lst (xs++ys)]):=by
 unfold aF;simp only[e1,e2];exact iu (by simpa using hl)
theorem FI(hj:0 < j):oM (.int i) (.int j) h= .ok (.int (i % j)) h:=by unfold oM p2;simp[hj,DR,iJ]
theorem F5(hj:0<=j/\j<=1000000/\i.natAbs < 18446744073709551616):Ai (.int i) (.int j) h= .ok (.int (i ^ j.toNat)) h:=by
 unfold Ai p2;simp only;rw[if_pos (by omega)];rfl
theorem GQ(hi: -18446744073709551616 < i/\i < 18446744073709551616):gY (.int i) (.int j) h= .ok (.int (i*j)) h:=if_pos (.inl (by omega))
theorem xE(hj: -18446744073709551616 < j/\j < 18446744073709551616):gY (.int i) (.int j) h= .ok (.int (i*j)) h:=if_pos (.inr (by omega))
theorem Ln:zq (.int i) (.int j) h= .ok (.bl (decide (i < j))) h:=(rfl)
theorem MZ:HM (.int i) (.int j) h= .ok (.bl (decide (i<=j))) h:=(rfl)
theorem JJ:HE (.int i) (.int j) h= .ok (.bl (decide (j < i))) h:=(rfl)
theorem Ee:jW (.int i) h= .ok (.int (-i)) h:=(rfl)
theorem DW:fZ (.str a) (.str b) h= .ok (.bl (decide (a=b))) h:=by simp[fZ,alike,i7]
theorem EC:fZ (.int i) (.int j) h= .ok (.bl (decide (i=j))) h:=by simp[fZ,alike,i7]
theorem Gm:gG (.str a) (.str b) h= .ok (.bl (!decide (a=b))) h:=by simp[gG,alike,i7,iZ]
theorem E8:gG (.int i) (.int j) h= .ok (.bl (!decide (i=j))) h:=by simp[gG,alike,i7,iZ]
theorem Sh:ck (.tup (x::r)) (.int 0) h= .ok x h:=by
 simp only[ck,gf,mK];rw[if_pos (by decide),if_pos (by simp_all)];rfl
theorem Sz:ck (.tup (x::y::r)) (.int 1) h= .ok y h:=by
 simp only[ck,gf,mK];rw[if_pos (by decide),if_pos (by simp only[UZ];omega)];rfl
theorem Sx:ck (.tup (x::y::z::r)) (.int 2) h= .ok z h:=by
 simp only[ck,gf,mK];rw[if_pos (by decide),if_pos (by simp only[UZ];omega)];rfl
theorem SU:ck (.tup (x::y::z::w::r)) (.int 3) h= .ok w h:=by
 simp only[ck,gf,mK];rw[if_pos (by decide),if_pos (by simp only[UZ];omega)];rfl
theorem Bm(e:gf xs i=UU v):ck (.tup xs) (.int i) h= .ok v h:=by simp only[ck,e]
theorem cw{xs}(e:i=(n)){v: α}(q:xs[n]?=UU v):gf xs i=UU v:=by
 have hl:=(Vk.mp q).1;subst e;unfold gf mK;rw[if_pos (by omega),if_pos (by omega)];simpa using q
def Sy(y:PV)(h:PH)(o:Option PO):RV PV:=match o with
 | some (.dct kvs)=>(match o7 y with
  | some k=>(match ft kvs k with | some v=> .ok v h | none=> .no)
  | none=> .no)
 | some (.lst xs)=>(match y with
  | .int i=>(match gf xs i with | some v=> .ok v h | none=> .no)
  | _=> .no)
 | some (.jA xs)=>(match y with
  | .int i=>(match gf xs i with | some v=> .ok v h | none=> .no)
  | _=> .no)
 | _=> .no
theorem eO:ck (.ref n) y h=Sy y h (h[n]?):=by
 rfl
noncomputable def Td(h:PH)(o:Option PV):RV PV:=match o with
 | some v=> .ok v h
 | none=> .no
theorem eA:Sy (.int i) h (UU (.lst xs))=Td h (gf xs i):=(rfl)
theorem GS:Td h (UU v)= .ok v h:=(rfl)
theorem xN:ft ((k,v)::kvs) k=UU v:=by simp[ft]
theorem C3(ne:k'≠k):ft ((k',v)::kvs) k=ft kvs k:=by simp[ft,ne]
def vI(n:Nat)(y v:PV)(h:PH)(o:Option PO):RV Unit:=match o with
 | some (.dct kvs)=>(match o7 y with
  | some k=>if kvs.length < Vj then .ok () (h.set n (.dct (E3 kvs k v))) else .no
  | none=> .no)
 | some (.lst xs)=>(match y with
  | .int i=>(match mK xs.length i with | some j=> .ok () (h.set n (.lst (xs.set j v))) | none=> .no)
  | _=> .no)
 | _=> .no
theorem Bq:jj (.ref n) y v h=vI n y v h (h[n]?):=by
 rfl
def Tr(n:Nat)(v:PV)(h:PH)(o:Option PO):RV PV:=match o with
 | some (.lst xs)=>if xs.length < Vj then .ok .non (h.set n (.lst (xs++[v]))) else .no
 | _=> .no
theorem jD:az (.ref n) [v] h=Tr n v h (h[n]?):=by
 rfl
theorem j1(hl:xs.length < 16777216):Tr n v h (UU (.lst xs))= .ok .non (h.set n (.lst (xs++[v]))):=if_pos hl
theorem cH(e:h[n]?=UU (.lst xs)):aO (.ref n) h=true:=by simp[aO,e]
theorem len_T:aP [.tup xs] h= .ok (.int xs.length) h:=(rfl)
theorem dy(e:h[n]?=UU (.lst xs)):aP [.ref n] h= .ok (.int xs.length) h:=by simp[aP,itemsOf,bQ,e]
theorem Oh(e:h[n]?=UU (.jA xs)):aP [.ref n] h= .ok (.int xs.length) h:=by simp[aP,itemsOf,bQ,e]
theorem cO(e:h[n]?=UU (.lst xs)):aH [.ref n] h= .ok (.tup xs) h:=by simp[aH,bQ,e]
theorem NU:nO false .non h= .ok (.bl true) h:=(rfl)
theorem Qj:nO false (.int i) h= .ok (.bl false) h:=by simp[nO]
theorem P1:nO false (.str a) h= .ok (.bl false) h:=by simp[nO]
theorem Qo:nO false (.tup xs) h= .ok (.bl false) h:=by simp[nO]
section
variable{c:CF}{e:aM}{d k1 k2:ME}{rr:MA}{kvs:List (Key × PV)}{ff:PV->List PV->PH->RV PV}
def SR(f:PV->List PV->PH->RV PV)(r:MA) c e n h (o:Option PO):=match o with
 | some (.lst _)=>(r c e h).bind (f (.ref n))
 | _=> .no
theorem O1:jz ff aO rr c e (.ref n) h=SR ff rr c e n h (h[n]?):=by
 unfold jz SR aO;cases q:h[n]? with
 | none=>simp[q]
 | some o=>cases o<;>simp[q]
theorem Ni:SR ff rr c e n h (UU (.lst xs))=(rr c e h).bind (ff (.ref n)):=(rfl)
end
noncomputable def R9(h:PH)(o:Option PO):RV PV:=match o with
 | some (.lst xs)=> .ok (.tup xs) h
 | some (.jA xs)=> .ok (.tup xs) h
 | _=> .no
theorem G9:aH [.ref n] h=R9 h (h[n]?):=by
 unfold R9;cases q:h[n]? with
 | none=>simp[aH,bQ,q]
 | some o=>cases o<;>simp[aH,bQ,q]
theorem Ce:R9 h (UU (.lst xs))= .ok (.tup xs) h:=(rfl)
noncomputable def Rt(h:PH)(o:Option PO):RV PV:=match o with
 | some (.lst xs)=> .ok (.int xs.length) h
 | some (.jA xs)=> .ok (.int xs.length) h
 | some (.dct kvs)=> .ok (.int kvs.length) h
 | _=> .no
theorem Pz:aP [.ref n] h=Rt h (h[n]?):=by
 unfold Rt;cases q:h[n]? with
 | none=>simp[aP,itemsOf,bQ,q]
 | some o=>cases o<;>simp[aP,itemsOf,bQ,q]
theorem Mg:Rt h (UU (.lst xs))= .ok (.int xs.length) h:=(rfl)
theorem Le:Rt h (UU (.jA xs))= .ok (.int xs.length) h:=(rfl)
noncomputable def SH(h:PH)(o:Option PO):RV PV:=match o with
 | some (.lst xs)=> .ok (.ref h.length) (h++[.lst xs])
 | some (.jA xs)=> .ok (.ref h.length) (h++[.lst xs])
 | _=> .no
theorem Nl:jg [.ref n] h=SH h (h[n]?):=by
 unfold SH;cases q:h[n]? with
 | none=>simp[jg,itemsOf,bQ,q]
 | some o=>cases o<;>simp[jg,itemsOf,bQ,q]
theorem G7:SH h (UU (.lst xs))= .ok (.ref h.length) (h++[.lst xs]):=(rfl)
theorem kc{a:Str}: ∀{ss:List Str},((ss.map PV.str).any λz=>Nr z (.str a))=decide (a∈ss)
 | []=>by simp
 | x::t=>by
  rw[U2,Xr,kc];by_cases e:x=a
  . subst e;simp[show Nr (.str x) (.str x)=(x == x) from rfl]
  . have e': ¬ a=x:=λz=>e z.symm;simp[show Nr (.str x) (.str a)=(x == a) from rfl,e,e']
theorem all_strs: ∀{ss:List Str},((ss.map PV.str).all fN)=true
 | []=>rfl
 | x::t=>by rw[U2,Yf,all_strs];rfl
theorem N3{ss:List Str}:kZ (.str a) (.tup (ss.map PV.str)) h= .ok (.bl (decide (a∈ss))) h:=by
 have:isIn (.str a) (.tup (ss.map PV.str)) h=UU (decide (a∈ss)):=by
  unfold isIn;simp only[itemsOf,all_strs,fN,Xt,if_true,kc]
 unfold kZ;rw[this]
theorem in_K{ss:List Str}:kZ (.str a) (.ktup (ss.map PV.str)) h= .ok (.bl (decide (a∈ss))) h:=by
 have:isIn (.str a) (.ktup (ss.map PV.str)) h=UU (decide (a∈ss)):=by
  unfold isIn;simp only[itemsOf,all_strs,fN,Xt,if_true,kc]
 unfold kZ;rw[this]
section
variable{c:CF}{e:aM}{d:ME}{kvs:List (Key × PV)}
def Sq(neg:Bool)(kvs:List (Key × PV))(x:PV)(h:PH):RV PV:=match o7 x with
 | some key=> .ok (.bl (if neg then !(ft kvs key).isSome else(ft kvs key).isSome)) h
 | none=> .no
theorem Q3{neg:Bool}:uR neg kvs d c e h=(d c e h).bind (Sq neg kvs):=(rfl)
theorem ID:Sq false kvs (.str a) h= .ok (.bl (ft kvs (.inr a)).isSome) h:=(rfl)
theorem L7:Sq true kvs (.str a) h= .ok (.bl (!(ft kvs (.inr a)).isSome)) h:=(rfl)
end
section
variable{c:CF}{e:aM}{d:ME}{l uu:MO}
def Np(uu:MO) c e x (lo:Option Int) h:=(uu c e h).bind (yU x lo)
def P0(l uu:MO) c e x h:=(l c e h).bind (Np uu c e x)
theorem HI:de d l uu c e h=(d c e h).bind (P0 l uu c e):=(rfl)
theorem Cn:P0 l uu c e x h=(l c e h).bind (Np uu c e x):=(rfl)
theorem BG{lo}:Np uu c e x lo h=(uu c e h).bind (yU x lo):=(rfl)
theorem Cm:aI c e h= .ok UX h:=(rfl)
noncomputable def TN(v:PV)(h1:PH):RV (Option Int):=match v with
 | .int i=> .ok (UU i) h1
 | _=> .no
theorem Pj:aB d c e h=(d c e h).bind TN:=(rfl)
theorem ML:TN (.int i) h= .ok (UU i) h:=(rfl)
def Rg(lo hi:Option Int)(h:PH)(o:Option PO):RV PV:=match o with
 | some (.lst xs)=> .ok (.ref h.length) (h++[.lst (dN xs lo hi)])
 | some (.jA xs)=> .ok (.ref h.length) (h++[.lst (dN xs lo hi)])
 | _=> .no
theorem tK{lo}:yU (.ref n) lo hi h=Rg lo hi h (h[n]?):=by
 unfold Rg;cases q:h[n]? with
 | none=>simp[yU,bQ,q]
 | some o=>cases o<;>simp[yU,bQ,q]
theorem kU{lo}:Rg lo hi h (UU (.lst xs))= .ok (.ref h.length) (h++[.lst (dN xs lo hi)]):=(rfl)
theorem QU{lo hi:Option Int}:Rg lo hi h (UU (.jA xs))= .ok (.ref h.length) (h++[.lst (dN xs lo hi)]):=(rfl)
theorem gh{lo}(h0:0<=lo):dN xs (UU lo) UX=xs.drop lo.toNat:=by
 have e:lo=((lo.toNat)):=by omega
 unfold dN;rw[e,HT.lV,HT.jU];simp only[V7];rcases aaY lo.toNat xs.length with z | z
 . grind
 . rw[ZA z,V5 z];simp
theorem qR(h0:0<=hi):dN xs UX (UU hi)=xs.take hi.toNat:=by
 have e:hi=((hi.toNat)):=by omega
 unfold dN;rw[e,HT.lV,HT.jU];simp only[V7,Zo,acx];rcases aaY hi.toNat xs.length with z | z
 . rw[aba z]
 . rw[ZA z,X8 (Vb _),X8 z]
end
variable{o o':PO}{g:PH}{k:Nat}
theorem au:(h++(o::g))[h.length]?=UU o:=by rw[VJ (Vb _)];simp
theorem aG:(h++g)[h.length+k]?=g[k]?:=by rw[VJ (by omega)];congr 1;omega
theorem yP:(h++g).set h.length o=h++g.set 0 o:=by simp
end
section
variable{h:PH}{i j:Int}{a b:Str}{x y z w u v:PV}{r xs ys:List PV}{p q:Bool}{n m:Nat}
theorem Av:lO [.tup xs,.ty "tuple"] h= .ok (.bl true) h:=(rfl)
theorem CU:lO [.int i,.ty "tuple"] h= .ok (.bl false) h:=(rfl)
theorem Mz:lO [.int i,.ty "str"] h= .ok (.bl false) h:=(rfl)
theorem JM:lO [.str a,.ty "tuple"] h= .ok (.bl false) h:=(rfl)
theorem rG:lO [.str a,.ty "str"] h= .ok (.bl true) h:=(rfl)
theorem Mt:lO [.non,.ty "tuple"] h= .ok (.bl false) h:=(rfl)
theorem xp: ∀ bs ,va (bs.map PV.bl)=UU bs
 | []=>rfl
 | b::r=>by rw[U2,va,xp r];rfl
theorem Ii{bs:List Bool}(e:h[n]?=UU (.lst (bs.map PV.bl))):vh [.ref n] h= .ok (.bl (bs.all id)) h:=by
 simp[vh,xv,bQ,e,xp]
theorem fj:gf (x::r) 0=UU x:=by simp only[gf,mK];rw[if_pos (by decide),if_pos (by simp_all)];rfl
theorem fT:gf (x::y::r) 1=UU y:=by simp only[gf,mK];rw[if_pos (by decide),if_pos (by simp only[UZ];omega)];rfl
theorem lP:gf (x::y::z::r) 2=UU z:=by simp only[gf,mK];rw[if_pos (by decide),if_pos (by simp only[UZ];omega)];rfl
theorem qO:gf (x::y::z::w::r) 3=UU w:=by simp only[gf,mK];rw[if_pos (by decide),if_pos (by simp only[UZ];omega)];rfl
end
section
variable{α :Type}{p:List α ->Prop}
theorem Sv(h:p []): ∀ us:List α,us.length=0->p us:=λus e=>by simp_all
theorem RO{n:Nat}(h: ∀ a: α,∀ us:List α,us.length=n->p (a::us)): ∀ us:List α,us.length=n+1->p us:=λus e=>by
 cases us with
 | nil=>simp at e
 | cons a r=>exact h a r (by simpa using e)
theorem R6(h: ∀ a,p [a]): ∀ us:List α,us.length=1->p us:=RO λa=>Sv (h a)
theorem Rv(h: ∀ a b,p [a,b]): ∀ us:List α,us.length=2->p us:=RO λa=>R6 (h a)
theorem Sg(h: ∀ a b c,p [a,b,c]): ∀ us:List α,us.length=3->p us:=RO λa=>Rv (h a)
theorem TY(h: ∀ a b c d,p [a,b,c,d]): ∀ us:List α,us.length=4->p us:=RO λa=>Sg (h a)
end
section
variable{X:Cx}{pg:Tb}{k:Nat}{e iter:VN}{ma:ME}{mt:MT}{mI:MI}{scope:YD}{ifs:List VN}{pos spos py vp wp tp:Pos}{y v w:Str}{i j m n:Nat}
theorem GC.of{K}(h:aap n i=true):GC K n (dz i) (gN i):=D7 (abh h)
theorem Lq(hi:JI X pg k (.Name v vp) iter mI)
  (hb: ∀ cl C s₀ H₀ ex pn,(cm X pg k->QG (cD X [v] scope cl C s₀ H₀ ex pn) (.Name v vp) (dz m))/\JF (cD X [v] scope cl C s₀ H₀ ex pn) pg k ifs mt/\JE (cD X [v] scope cl C s₀ H₀ ex pn) pg k e ma)
  (hm:aap X.N.length m=true:=by rfl) (hkind:scope.kind= .function:=by rfl) (hlc:eF scope.names X.env.scope.names X.N [v]=true:=by rfl) (hs: ∀ x,VH iter X.env x=pure x:=by intro _;rfl) :
  JE X pg k (.ListComp e [⟨.Name v vp,iter,ifs,0⟩] scope pos) (fg 1 mI (gN m) mt ma):=ud [v] hkind hlc hi hb (GC.of hm) hs
theorem IU(hi:JI X pg k (.Tuple [.Name v vp,.Name w wp] j tp) iter mI)
  (hb: ∀ cl C s₀ H₀ ex pn,(cm X pg k->QG (cD X [v,w] scope cl C s₀ H₀ ex pn) (.Tuple [.Name v vp,.Name w wp] j tp) (vq X.K 2 (kX (dz m) (kX (dz n) yX))))/\JF (cD X [v,w] scope cl C s₀ H₀ ex pn) pg k ifs mt/\JE (cD X [v,w] scope cl C s₀ H₀ ex pn) pg k e ma)
  (hm:aap X.N.length m=true:=by rfl) (hn:aap X.N.length n=true:=by rfl) (hkind:scope.kind= .function:=by rfl) (hlc:eF scope.names X.env.scope.names X.N [v,w]=true:=by rfl) (hs: ∀ x,VH iter X.env x=pure x:=by intro _;rfl) :
  JE X pg k (.ListComp e [⟨.Tuple [.Name v vp,.Name w wp] j tp,iter,ifs,0⟩] scope pos) (fg 2 mI (gT 2 (cA (gN m) (cA (gN n) ia))) mt ma):=ud [v,w] hkind hlc hi hb (B6 (jB (GC.of hm) (jB (GC.of hn) xa))) hs
theorem Kx(hN:X.N.Nodup)(hi:JI X pg k (.Name v vp) iter mI)
  (hb: ∀ cl C s₀ H₀ ex pn,(cm X pg k->QG (cD X [v] scope cl C s₀ H₀ ex pn) (.Name v vp) (dz m))/\JF (cD X [v] scope cl C s₀ H₀ ex pn) pg k ifs mt/\JE (cD X [v] scope cl C s₀ H₀ ex pn) pg k e ma)
  (hm:aap X.N.length m=true:=by rfl) (hiy:X.N[i]?=UU y:=by rfl) (hy:Loc X.env.scope y:=by first | exact YZ rfl | exact Yq rfl) (hkind:scope.kind= .function:=by rfl) (hlc:eF scope.names X.env.scope.names X.N [v]=true:=by rfl)
  (hsw:WI (.ListComp e [⟨.Name v vp,iter,ifs,0⟩] scope pos) (UU (.Name y py)) spos.line X.env=pure true:=by rfl) (hs: ∀ x,VH iter X.env x=pure x:=by intro _;rfl)
  (hf:X.fn y=true\/X.env.scope.names.lookup y=UU .local:=by first | exact .inl rfl | exact .inr rfl | assumption) :
  JS X pg k (.Assign [.Name y py] (.ListComp e [⟨.Name v vp,iter,ifs,0⟩] scope pos) spos) (aA (fg 1 mI (gN m) mt ma) (gN i)):=sj [v] i hkind hlc hN hiy hy hi hb (GC.of hm) hsw hs hf
theorem Lb(hN:X.N.Nodup)(hi:JI X pg k (.Tuple [.Name v vp,.Name w wp] j tp) iter mI)
  (hb: ∀ cl C s₀ H₀ ex pn,(cm X pg k->QG (cD X [v,w] scope cl C s₀ H₀ ex pn) (.Tuple [.Name v vp,.Name w wp] j tp) (vq X.K 2 (kX (dz m) (kX (dz n) yX))))/\JF (cD X [v,w] scope cl C s₀ H₀ ex pn) pg k ifs mt/\JE (cD X [v,w] scope cl C s₀ H₀ ex pn) pg k e ma)
  (hm:aap X.N.length m=true:=by rfl) (hn:aap X.N.length n=true:=by rfl) (hiy:X.N[i]?=UU y:=by rfl) (hy:Loc X.env.scope y:=by first | exact YZ rfl | exact Yq rfl) (hkind:scope.kind= .function:=by rfl) (hlc:eF scope.names X.env.scope.names X.N [v,w]=true:=by rfl)
  (hsw:WI (.ListComp e [⟨.Tuple [.Name v vp,.Name w wp] j tp,iter,ifs,0⟩] scope pos) (UU (.Name y py)) spos.line X.env=pure true:=by rfl) (hs: ∀ x,VH iter X.env x=pure x:=by intro _;rfl)
  (hf:X.fn y=true\/X.env.scope.names.lookup y=UU .local:=by first | exact .inl rfl | exact .inr rfl | assumption) :
  JS X pg k (.Assign [.Name y py] (.ListComp e [⟨.Tuple [.Name v vp,.Name w wp] j tp,iter,ifs,0⟩] scope pos) spos) (aA (fg 2 mI (gT 2 (cA (gN m) (cA (gN n) ia))) mt ma) (gN i)):=sj [v,w] i hkind hlc hN hiy hy hi hb (B6 (jB (GC.of hm) (jB (GC.of hn) xa))) hsw hs hf
end
end P3
end
section
open PySem PySem.W PyProof.Rows
namespace L2
open PySem PySem.Spec PyProof.Rows
theorem qU: ∀{us ss},StrsAre us ss-> ∀ i hu(hs:i < ss.length),ac4 a us[i]=(ss[i] == a)
 | _,_,.nil,i,hu,_=>absurd hu (Nat.not_lt_zero i)
 | _,_,.cons x t h,0,_,_=>rfl
 | _,_,.cons x t h,i+1,hu,hs=>qU h i (aa1 hu) (aa1 hs)
theorem LK{ss:List Str}(h:a∈ss):ss.idxOf a < ss.length:=List.idxOf_lt_length_iff.mpr h
end L2
namespace P3
open PySem PySem.Spec PyProof.Rows L2
section
variable{X:Cx}{pg:Tb}{k j n:Nat}{es:List VN}{t:Dc}{pos:Pos}{vars:List Str}{scope:YD}{cl:List (Str × U9)}{C:U9}{s0:U5}{H0:Hp}{ex:List U9}{pn:List (U9 × Obj)}
theorem Dq(A:cm X pg k)(h:Ir (cD X vars scope cl C s0 H0 ex pn) es t)(hn:(Wx es (cD X vars scope cl C s0 H0 ex pn).env).length=n:=by rfl)(hst:(Wx es (cD X vars scope cl C s0 H0 ex pn).env).findIdx? (·.1)=UX:=by rfl):QG (cD X vars scope cl C s0 H0 ex pn) (.Tuple es j pos) (vq X.K n t):=Am A.calm h hn hst
end
section
variable{X:Cx}{pg:Tb}{k:Nat}
def QQ(K:UW):List V->Hp->VK->Prop:=λxs H Q=> ∃ p d,xs=[.ref p]/\cz K H d (.ref p)/\d.showable=true/\d.hasDict=false/\d.depth<=64/\d.shown.length<=Vj/\Q (.str d.shown) H
theorem BC(gd:X.A.guards=UU [])(hu:X.A.units+66 < Zh):aU X (.builtin "repr") (QQ X.K):=by
 intro pins s σ H xs us Q I r h;obtain⟨p,d,rfl,hd,h1,h2,h3,h4,q⟩:=h;obtain⟨u,rfl,ru⟩:=vals1 r;cases(show u=Vo p from ru);obtain⟨as,ra⟩:=cz.reads I d _ _ hd ru;exact repr_of_reads' ra h1 (λz=>by simp_all) gd (by omega) (λ_ _ z=>z) (λh' u tk kp=>⟨.str d.shown,H,I.kept kp,⟨u,rfl⟩,q⟩) h4
variable{a:VN}{ta:TA}{mr:MA}{p p2 p3 pos:Pos}
end
end P3
end
section
open PySem PySem.W PyProof.Rows
namespace L2
open PySem PySem.Spec PyProof.Rows
open PySem.AutoSeq1 (wpAny_loadPart')
section
variable{X:Cx}
theorem places{a:Str}{t:Tok}{ar:List U1}{ss:List Str}(sa:StrsAre ar ss)(ln:ar.length=ss.length)(ha:a∈ss) :
  ∃ hj:ss.idxOf a < ar.toArray.size,ac4 a ar.toArray[ss.idxOf a]=true/\ ∀(m:Nat)(hm:m < ar.toArray.size),m < ss.idxOf a->ac4 a ar.toArray[m]=false:=by
 have hj:=LK ha;refine⟨by rw[VC,ln];exact hj,?_,λm hm hlt=>?_⟩
 . show ac4 a (ar[ss.idxOf a]'(by rw[ln];exact hj))=true;rw[qU sa _ _ hj,List.getElem_idxOf hj];exact beq_self_eq_true a
 . have hm':m < ss.length:=by simp_all
   show ac4 a (ar[m]'(by omega))=false;have nf:=List.not_of_lt_findIdx (p:=(· == a)) (xs:=ss) (i:=m) hlt
   rw[qU sa _ _ hm'];simpa using nf
variable{o e:VN}{to:TE}{t:TA}{name:Str}{apos cpos:Pos}{id:String}{r:V->List V->Hp->VK->Prop}
end
end L2
namespace P3
open PySem PySem.Spec PyProof.Rows L2
section
variable{X:Cx}{pg:Tb}{k:Nat}
def Kv:List V->Hp->VK->Prop:=λxs H Q=>(∃ b,xs=[.bl b]/\Q (.str (if b=true then U0 "True" else U0 "False")) H)\/(xs=[.non]/\Q (.str (U0 "None")) H)
theorem yC:aU X (.builtin "repr") Kv:=by
 intro pins s σ H xs us Q I r h;rcases h with⟨b,rfl,q⟩ | ⟨rfl,q⟩
 . obtain⟨u,rfl,ru⟩:=vals1 r;cases(show u=YW b from ru);exact PySem.P.repr_of_bool ⟨.str _,H,I.tok _,⟨_,rfl⟩,q⟩
 . obtain⟨u,rfl,ru⟩:=vals1 r;cases(show u=Wc from ru);exact PySem.P.repr_of_none ⟨.str _,H,I.tok _,⟨_,rfl⟩,q⟩
def ye(d:Yk):=d.showable=true/\d.hasDict=false/\d.depth<=64/\d.shown.length<=Vj
instance (d:Yk):Decidable (ye d):=by unfold ye;infer_instance
def bt:List PV->PH->RV PV:=λxs h=>match xs with
 | [.bl b]=> .ok (.str (if b=true then U0 "True" else U0 "False")) h
 | [.non]=> .ok (.str (U0 "None")) h
 | [.tup ys]=>(match dat 6 h (.tup ys) with
  | some d=>if ye d then .ok (.str d.shown) h else .no
  | none=> .no)
 | [.ref n]=>(match dat 6 h (.ref n) with
  | some d=>if ye d then .ok (.str d.shown) h else .no
  | none=> .no)
 | _=> .no
theorem EB:cm X pg k-> ∃ r,aU X (.builtin "repr") r/\zC X.K r bt:=λA=>⟨_,(BC A.room.gd (by have:=A.room.un;omega)).or yC,fun ρ h H xs us Q v h' s r q P=>by
 unfold bt at q;split at q
 . rename_i b;cases q;obtain⟨u,rfl,r1⟩:=bc r;subst r1;exact .inr (.inl ⟨b,rfl,P _ ρ H (.refl _ _) s (by rw[rel])⟩)
 . cases q;obtain⟨u,rfl,r1⟩:=bc r;subst r1;exact .inr (.inr ⟨rfl,P _ ρ H (.refl _ _) s (by rw[rel])⟩)
 . split at q
   . rename_i d e;split at q
     . rename_i c;cases q;obtain⟨u,rfl,r1⟩:=bc r;have dv:=dat.v s 6 _ _ _ e r1;have r2:=r1;obtain⟨a,vs,rfl,_,_⟩:=r2;exact .inl ⟨a,d,rfl,dv,c.1,c.2.1,c.2.2.1,c.2.2.2,P _ ρ H (.refl _ _) s (by rw[rel])⟩
     . nomatch q
   . nomatch q
 . split at q
   . rename_i d e;split at q
     . rename_i c;cases q;obtain⟨u,rfl,r1⟩:=bc r;have dv:=dat.v s 6 _ _ _ e r1;have r2:=r1;obtain⟨a,_,rfl⟩:=r2;exact .inl ⟨a,d,rfl,dv,c.1,c.2.1,c.2.2.1,c.2.2.2,P _ ρ H (.refl _ _) s (by rw[rel])⟩
     . nomatch q
   . nomatch q
 . nomatch q⟩
end
section
variable{P:VE}{w:VY}{K:UW}{mg:Str->Option U1}{pg:Tb}
theorem bI.on{f:String}{ps:List Str}{n:Nat}{b:MS}{st:WV}{N:List Str}(a:At K mg (U0 f) st)(S:bO N ps (ag st))(hl:N.length=ps.length+n)
  (hb: ∀(kV doc pm:U1)(an:Option U9)(cdv ct:U1)(us:List U1),us.length=ps.length->W8 (VX (U0 f) (U0 f) (br st) (aE st) (ag st) .none kV doc pm an cdv ct) ⟨us,[]⟩=pure (ps.zip us))
  (hz:pg.rz f=false) (h:N.Nodup-> ∀(base:Wb)(fa:U9)(cdv:U1)(A:V6)(outer:List Env)(s:U5)(H:Hp)(E:XK)(k:Nat),zG (dm (i8 P w) P w K mg base N (U0 f) (ag st) fa cdv A outer s H E).dw pg k (aE st) b):bI P w K mg pg f ⟨ps,n,b⟩ st N :=
 ⟨a,S,hl,hb,λbase fa cdv A outer s H E k=> .inl ⟨hz,h S.nd base fa cdv A outer s H E k⟩⟩
theorem bI.UN{f:String}{ps:List Str}{n:Nat}{b:MS}{st:WV}{N:List Str}(a:At K mg (U0 f) st)(S:bO N ps (ag st))(hl:N.length=ps.length+n)
  (hb: ∀(kV doc pm:U1)(an:Option U9)(cdv ct:U1)(us:List U1),us.length=ps.length->W8 (VX (U0 f) (U0 f) (br st) (aE st) (ag st) .none kV doc pm an cdv ct) ⟨us,[]⟩=pure (ps.zip us))
  (h:N.Nodup-> ∀(base:Wb)(fa:U9)(cdv:U1)(A:V6)(outer:List Env)(s:U5)(H:Hp)(E:XK)(k:Nat),nu (dm (i8 P w) P w K mg base N (U0 f) (ag st) fa cdv A outer s H E) pg k E (aE st) b):bI P w K mg pg f ⟨ps,n,b⟩ st N :=
 ⟨a,S,hl,hb,λbase fa cdv A outer s H E k=> .inr (h S.nd base fa cdv A outer s H E k)⟩
end
def eI(i:Int):=eC (.int i)
def eS(x:Str):=eC (.str x)
def eX(i:Nat)(j:Int):=ay ck (aa i) (eI j)
def mQ a b:=aC (ay fZ a b)
def a1 a:=ae a aj
def a2 a b:=ae a (a1 b)
def a3 a b d:=ae a (a2 b d)
section
variable{a b d:ME}{c:CF}{e:aM}{h:PH}{i:Nat}{j:Int}{s:Str}{x y z v:PV}
theorem OA:eI j c e h= .ok (.int j) h:=rfl
theorem Q1:eS s c e h= .ok (.str s) h:=rfl
def xk(o:Option (Option PV)) j h:=(Jc o h).bind λx h1=>ck x (.int j) h1
theorem Qz:eX i j c e h=xk (e[i]?) j h:=rfl
theorem Q7:xk (UU (UU v)) j h=ck v (.int j) h:=rfl
def Rr x y h:=(fZ x y h).bind rZ
def Ug(b:ME) c e x h:=(b c e h).bind (Rr x)
theorem Qk:mQ a b c e h=(a c e h).bind (Ug b c e):=by
 show((a c e h).bind _).bind rZ=_;cases a c e h with
 | ok x h1 =>
  show((b c e h1).bind _).bind rZ=(b c e h1).bind (Rr x)
  cases b c e h1<;>rfl
 | _=>rfl
theorem JK:Ug b c e x h=(b c e h).bind (Rr x):=rfl
theorem Nn:Rr x y h=(fZ x y h).bind rZ:=rfl
noncomputable def Up(x:PV)(h:PH):RV (List PV):= .ok [x] h
theorem PD:a1 a c e h=(a c e h).bind Up:=rfl
theorem LY:Up x h= .ok [x] h:=rfl
noncomputable def RL(x y:PV)(h:PH):RV (List PV):= .ok [x,y] h
def To(b:ME) c e x h:=(b c e h).bind (RL x)
theorem Hc:a2 a b c e h=(a c e h).bind (To b c e):=by
 show(a c e h).bind _=_;cases a c e h with
 | ok x h1 =>
  show((b c e h1).bind _).bind _=(b c e h1).bind (RL x)
  cases b c e h1<;>rfl
 | _=>rfl
theorem KS:To b c e x h=(b c e h).bind (RL x):=rfl
theorem KY:RL x y h= .ok [x,y] h:=rfl
noncomputable def Rh(x y z:PV)(h:PH):RV (List PV):= .ok [x,y,z] h
def RG(d:ME) c e x y h:=(d c e h).bind (Rh x y)
def Tt(b d:ME) c e x h:=(b c e h).bind (RG d c e x)
theorem PY:a3 a b d c e h=(a c e h).bind (Tt b d c e):=by
 show(a c e h).bind (Jj (a2 b d) c e)=_;cases a c e h with
 | ok x h1 =>
  show(a2 b d c e h1).bind _=(b c e h1).bind (RG d c e x)
  rw[Hc]
  cases b c e h1 with
  | ok y h2 =>
   show((d c e h2).bind _).bind _=(d c e h2).bind (Rh x y)
   cases d c e h2<;>rfl
  | _=>rfl
 | _=>rfl
theorem Nc:Tt b d c e x h=(b c e h).bind (RG d c e x):=rfl
theorem Kw:RG d c e x y h=(d c e h).bind (Rh x y):=rfl
theorem JQ:Rh x y z h= .ok [x,y,z] h:=rfl
end
abbrev R8(h:Wb)(z TI TO T:U9)(b:Bool):Prop :=
 h.get? z=UU { cls:= .type "zip",dict:=UX,data:= .fields #[.int (T:Int) 0,.bool b,.bool false,.ref TI,.ref TO],slots:= #[]}
section
variable{prog:VE}{w:VY}{A:V6}{E:U1->U5->Prop}{s:U5}
structure BX(h:Wb)(z TI TO i1 i2 l1 l2:U9)(k:Nat)(xs ys:Array U1):Prop where
 st:(∃ a b,IsZip h z TI TO .none/\aay h TO a b)\/ ∃ T b o,R8 h z TI TO T b/\h.get? T=UU o/\T≠z/\T≠i1/\T≠i2/\T≠TO
 ar:aay h TI (.ref i1) (.ref i2)
 one:h.IsListIter i1 l1 k
 two:h.IsListIter i2 l2 k
 l1:h.IsList l1 xs
 l2:h.IsList l2 ys
theorem BX.ty{TI TO l1 l2}(Z:BX s.heap z TI TO i1 i2 l1 l2 k xs ys):s.TypeIs (.ref z) "zip" :=by
 rcases Z.st with⟨a,b,e,_⟩ | ⟨T,b,o,e,_⟩
 . exact⟨_,e,rfl⟩
 . exact⟨_,e,rfl⟩
theorem BX.kept{TI TO l1 l2}(Z:BX h z TI TO i1 i2 l1 l2 k xs ys)(ns:S≠z/\S≠TI/\S≠TO/\S≠i1/\S≠i2/\S≠l1/\S≠l2)(kp: ∀ b o,b≠S->h.get? b=UU o->h'.get? b=UU o)
  (al: ∀ T o,h.get? T=UU o-> ∃ o',h'.get? T=UU o'):BX h' z TI TO i1 i2 l1 l2 k xs ys:=by
 obtain⟨n1,n2,n3,n4,n5,n6,n7⟩:=ns;obtain⟨st,hTI,h1,h2,hl1,hl2⟩:=Z;refine⟨?_,kp _ _ n2.symm hTI,h1.at λo e=>kp _ o n4.symm e,h2.at λo e=>kp _ o n5.symm e,hl1.at λo e=>kp _ o n6.symm e,hl2.at λo e=>kp _ o n7.symm e⟩;rcases st with⟨a,b,hz,hTO⟩ | ⟨T,b,o,hz,hT,t⟩
 . exact .inl ⟨a,b,kp _ _ n1.symm hz,kp _ _ n3.symm hTO⟩
 . obtain⟨o',e⟩:=al T o hT;exact .inr ⟨T,b,o',kp _ _ n1.symm hz,e,t⟩
end
end P3
end
section
open PySem PySem.W PyProof.Rows
namespace L2
open PySem PySem.Spec PyProof.Rows
end L2
namespace P3
open PySem PySem.Spec PyProof.Rows L2
end P3
end
section
open PySem PySem.W PyProof.Rows
namespace L2
open PySem PySem.Spec PyProof.Rows
section
variable{X:Cx}
theorem Co:cI X (Wv .FloorDiv) (rI (λ_ j=>0 < j/\j < 18446744073709551616) λi j=> .int (i / j)):=RA λi j _ _ _ _ _ hc q=>by
 have h1:(0:Int) < j:=hc.1;have h2:j < 18446744073709551616:=hc.2;have z:j.natAbs≠0:=by omega
 have lg:j.natAbs.log2 < 64:=(Nat.log2_lt z).mpr (by omega);exact floordiv_int (by omega) (by rw[Int.fdiv_eq_ediv_of_nonneg i (by omega)];exact q) (.inl (PyProof.noPylong_of_log2 (by omega)))
def Qb:List V->Hp->VK->Prop:=λxs H Q=>(∃ x,xs=[.str x]/\Q (.str x) H)\/ ∃ i:Int,xs=[.int i]/\i.natAbs.log2 < 1920/\Q (.str (U0 (toString i))) H
theorem A7:aU X (.type "str") Qb:=by
 intro pins s σ H xs us Q I r h;rcases h with⟨x,rfl,q⟩ | ⟨i,rfl,hi,q⟩
 . obtain⟨u,rfl,t,rfl⟩:=r.one;exact P.str_of_str ⟨.str x,H,I,⟨t,rfl⟩,q⟩
 . obtain⟨u,rfl,t,rfl⟩:=r.one;refine P.str_of_int hi ?_;exact⟨.str _,H,I.kept (t':=s.toks+1) (λb o e=>e),⟨_,rfl⟩,q⟩
theorem wz: ∀{ss:List Str}{ar:List U1},Vals (ss.map V.str) ar-> ∃ l:List (Str × Tok),ar=acN l/\l.map (·.1)=ss
 | [],ar,h=>by cases h;exact⟨[],rfl,rfl⟩
 | x::r,ar,h=>by
  cases h with
  | cons a b =>
   obtain⟨t,rfl⟩:=a
   obtain⟨l,rfl,e⟩:=wz b
   exact⟨(x,t)::l,rfl,by rw[U2,e]⟩
def rJoin:V->List V->Hp->VK->Prop:=λx vs H Q=> ∃ a l ss,x= .str a/\vs=[.ref l]/\H l=UU (.lst (ss.map V.str))/\JoinOk a ss=true/\Q (.str (acz a ss)) H
theorem EA:xc X "str.join" rJoin:=by
 intro pins s σ H x vs v us Q I rx rv h;obtain⟨a,l,ss,rfl,rfl,hH,hj,q⟩:=h;obtain⟨t,rfl⟩:=rx;obtain⟨u,rfl,ru⟩:=rv.one;cases ru;obtain⟨z,ar,n,r,hl,e⟩:=I.uU hH;obtain⟨ps,rfl,ep⟩:=wz r;exact SC.join (l:=ps) ⟨_,e,rfl,n,rfl⟩ ep hj λt' k=>⟨.str _,H,I.kept (t':=k) (λb o e=>e),⟨_,rfl⟩,q⟩
end
end L2
namespace P3
open PySem PySem.Spec PyProof.Rows L2
section
variable{X:Cx}{pg:Tb}{k:Nat}
def kC:PV->PV->PH->RV PV:=p2 λi j=>if 0 < j/\j < 18446744073709551616 then DR (.int (i / j)) else .no
theorem Fy:cm X pg k-> ∃ r,cI X (Wv .FloorDiv) r/\ke X.K r kC:=λ_=>⟨_,Co,KC λi j v h e=>by
 split at e
 . rename_i c;cases e;exact⟨c,fun ρ H=>by rw[rel]⟩
 . cases e⟩
theorem zg{i j:Int}{h:PH}(hj:0 < j/\j < 18446744073709551616):kC (.int i) (.int j) h= .ok (.int (i / j)) h:=by unfold kC p2;simp[hj,DR,iJ]
noncomputable def el:List PV->PH->RV PV:=λxs h=>match xs with
 | [.str x]=> .ok (.str x) h
 | [.int i]=>if i.natAbs.log2 < 1920 then .ok (.str (U0 (toString i))) h else .no
 | _=> .no
theorem BZ:cm X pg k-> ∃ r,aU X (.type "str") r/\zC X.K r el:=λA=>⟨_,A7,fun ρ h H xs us Q v h' s r q P=>by
 unfold el at q;split at q
 . cases q;obtain⟨u,rfl,r1⟩:=bc r;rw[rel] at r1;subst r1;exact .inl ⟨_,rfl,P _ ρ H (.refl _ _) s (by rw[rel])⟩
 . split at q
   . rename_i hi;cases q;obtain⟨u,rfl,r1⟩:=bc r;rw[rel] at r1;subst r1;exact .inr ⟨_,rfl,hi,P _ ρ H (.refl _ _) s (by rw[rel])⟩
   . cases q
 . cases q⟩
theorem tL{K:UW}{ρ :List U9}{H:Hp}: ∀{ss:List Str}{vs:List V},ak K ρ H (ss.map PV.str) vs->vs=ss.map V.str
 | [],vs,h=>by rw[VP,ak] at h;exact h
 | x::r,vs,h=>by
  rw[U2] at h;obtain⟨v,t,rfl,r1,r2⟩:=aD.mp h;rw[rel] at r1;rw[r1,tL r2];rfl
theorem pq: ∀{xs:List PV}{ss:List Str},mG xs=UU ss->xs=ss.map PV.str
 | [],ss,e=>by cases e;rfl
 | x::r,ss,e=>by
  cases x<;>simp only[mG,reduceCtorEq] at e;rename_i a;cases q:mG r with
  | none=>rw[q] at e;cases e
  | some t =>
   rw[q] at e
   cases e
   rw[pq q];rfl
noncomputable def aJ(x:PV)(_:PH):Bool:=match x with
 | .str _=>true
 | _=>false
theorem pY{K:UW}{ρ :List U9}{h:PH}{H:Hp}{x:PV}{v:V}(r:rel K ρ H x v)(e:aJ x h=true):Qp K "str" v H:=by
 unfold aJ at e;split at e
 . rw[rel] at r;subst r;exact rfl
 . cases e
def dX(x:PV)(vs:List PV)(h:PH):RV PV:=match x,vs with
 | .str a,[.ref n]=>(match h[n]? with
  | some (.lst xs)=>(match mG xs with
   | some ss=>if JoinOk a ss=true then .ok (.str (acz a ss)) h else .no
   | none=> .no)
  | _=> .no)
 | _,_=> .no
theorem BQ:cm X pg k-> ∃ r,xc X "str.join" r/\Nv X.K "str" r dX aJ:=λA=>⟨_,EA,fun ρ h H x x' s r e=>pY r e,fun ρ h H x x' xs us Q v h' s rx rs q P=>by
 unfold dX at q;split at q
 . rename_i a n;split at q
   . rename_i ys en;split at q
     . rename_i ss es;split at q
       . rename_i hj;cases q;obtain rfl:=pq es;obtain⟨u,rfl,r1⟩:=bc rs;obtain⟨b,vs,rfl,ea,e1,e2⟩:=s.lst en r1;rw[rel] at rx;rw[tL e2] at e1;exact⟨a,b,ss,rx,rfl,e1,hj,P _ ρ H (.refl _ _) s (by rw[rel])⟩
       . cases q
     . cases q
   . cases q
 . cases q⟩
theorem p9: ∀ ss:List Str,mG (ss.map PV.str)=UU ss
 | []=>rfl
 | x::r=>by rw[U2,mG,p9 r];rfl
theorem nE{a:Str}{n:Nat}{h:PH}{ss:List Str}(e:h[n]?=UU (.lst (ss.map PV.str)))(hj:JoinOk a ss=true):dX (.str a) [.ref n] h= .ok (.str (acz a ss)) h:=by
 simp only[dX,e,p9,hj,if_true]
variable{d e1 e2:VN}{md:ME}{mr:MA}{apos cpos:Pos}
end
end P3
end
section
open PySem PySem.W PyProof.Rows
namespace L2
open PySem PySem.Spec PyProof.Rows
section
variable{X:Cx}
theorem mP: ∀(l:List (Str × Tok)),Vals ((l.map (·.1)).map V.str) (acN l)
 | []=> .nil
 | (x,t)::r=> .cons ⟨t,rfl⟩ (mP r)
def Gx:V->List V->Hp->VK->Prop:=λx vs H Q=> ∃ a b,x= .str a/\vs=[.str b]/\(b.length == 0)=false/\a.length<=Vj/\(WR a b).length<=Vj/\ ∀ p,H p=UX->Q (.ref p) (upd H p (.lst ((WR a b).map V.str)))
theorem zb:xc X "str.split" Gx:=by
 intro pins s σ H x vs v us Q I rx rv h;obtain⟨a,b,rfl,rfl,hb,ha,hn,q⟩:=h;obtain⟨t,rfl⟩:=rx;obtain⟨u,rfl,t2,rfl⟩:=rv.one;have put: ∀(ps:List (Str × Tok))(tk:Nat),ps.map (·.1)=WR a b->EP X pins σ Q (.ref s.heap.objs.size) { s with heap:=s.heap.push { cls:= .type "list",data:= .seq (acN ps).toArray},toks:=tk}:=λps tk e=>by
  refine⟨.ref s.heap.objs.size,upd H s.heap.objs.size (.lst ((WR a b).map V.str)),I.laid (t':=tk) (λb u e=>U4 _ e) (Vb _) ?_,rfl,q _ (I.aY.fresh (Vb _))⟩;exact⟨by rw[U3];exact hn,acN ps,0,by rw[<- e];exact mP ps,Vq _ rfl⟩
 cases c:(decide (a.length < b.length)||decide (abR a < abR b)) with
 | true =>
  refine Xj F.slot_str_split (Zy _ _ _) F.entry_str_split (F.args_str_split_2 _ _) (meets_str_split_cannot_occur a b t t2 c) ?_
  exact put [(a,t)] s.toks (by unfold WR;rw[if_pos c];rfl)
 | false =>
  cases o:(V3 a b 0 a.length (a.length+1)).isEmpty with
  | true =>
   refine Xj F.slot_str_split (Zy _ _ _) F.entry_str_split (F.args_str_split_2 _ _) (meets_str_split_not_found a b t t2 c hb o) ?_
   exact put [(a,t)] s.toks (by unfold WR;rw[if_neg (by rw[c];decide),if_pos o];rfl)
  | false =>
   have e:WR a b=Builtin.Str.partsBetween a (V3 a b 0 a.length (a.length+1)) b.length:=by
    unfold WR;rw[if_neg (by rw[c];decide),if_neg (by rw[o];decide)]
   refine Xj F.slot_str_split (Zy _ _ _) F.entry_str_split (F.args_str_split_2 _ _) (meets_str_split_sep a b t t2 c hb o ha (by rw[<- e];exact hn)) ?_
   have w:=put (numbered s.toks (WR a b)) (s.toks+(WR a b).length) (numbered_texts _ _)
   rw[<- strsFrom_eq,e] at w
   exact w
noncomputable def dd:List Str->List Str
 | []=>[]
 | x::r=>if x∈dd r then dd r else x::dd r
end
section
variable{prog:VE}{w:VY}{A:V6}
def LN(prog:VE)(w:VY)(h:Wb)(S:U9)(l:List Str):Prop:= ∃ ds:List Str,ds.Nodup/\(∀ k,k∈ds↔k∈l)/\h.SetOf (PySem.strKind prog w) S (λk=>decide (k∈ds)) ds.length
theorem LN.at{h h':Wb}{S:U9}{l:List Str}(x:LN prog w h S l)(k: ∀ o,h.get? S=UU o->h'.get? S=UU o):LN prog w h' S l:=by
 obtain⟨ds,a,b,o,es,ep,t,e,r⟩:=x;exact⟨ds,a,b,o,es,ep,t,k _ e,r⟩
end
end L2
namespace P3
open PySem PySem.Spec PyProof.Rows L2
section
variable{X:Cx}{pg:Tb}{k:Nat}{e:VN}{mr:MA}{p p2 p3 pos:Pos}
noncomputable def cV(x:PV)(vs:List PV)(h:PH):RV PV:=match x,vs with
 | .str a,[.str b]=>if (b.length == 0)=false/\a.length<=Vj/\(WR a b).length<=Vj then .ok (.ref h.length) (h++[.lst ((WR a b).map PV.str)]) else .no
 | _,_=> .no
theorem m_split:cm X pg k-> ∃ r,xc X "str.split" r/\Nv X.K "str" r cV aJ:=λA=>⟨_,zb,fun ρ h H x x' s r e=>pY r e,fun ρ h H x x' xs us Q v h' s rx rs q P=>by
 unfold cV at q;split at q
 . rename_i a b;split at q
   . rename_i c;cases q;obtain⟨u,rfl,r1⟩:=bc rs;rw[rel] at rx r1;exact⟨a,b,rx,by rw[r1],c.1,c.2.1,c.2.2,λp hp=>fJ s (kG.mpr rfl) P p hp⟩
   . cases q
 . cases q⟩
theorem xt{a b:Str}{h:PH}(hb:(b.length == 0)=false)(ha:a.length<=16777216)(hn:(WR a b).length<=16777216):cV (.str a) [.str b] h= .ok (.ref h.length) (h++[.lst ((WR a b).map PV.str)]):=if_pos ⟨hb,ha,hn⟩
end
structure Uc(pg:Tb)(w:String)(C:Nat)(l:List Str):Prop where
 adr:pg.adr w=UU (C,l)
 df:pg.df w=UX
 cls:pg.cls w=UX
theorem Uc.run{pg:Tb}{w:String}{C:Nat}{l:List Str}(W:Uc pg w C l)(k:Nat)(vs:List PV)(h:PH):run pg (k+1) w vs h= .ok (.int C) h:=by rw[P3.run,W.df];simp only[W.cls,W.adr]
section
variable{K:UW}{ρ :List U9}{H:Hp}{h:PH}
abbrev RF(K:UW)(ρ :List U9)(H:Hp):List (Str × PV)->List (Str × V)->Prop:=Ws λ(p:Str × PV) (q:Str × V)=>p.1=q.1/\rel K ρ H p.2 q.2
theorem RF.look{f:Str}: ∀{fs:List (Str × PV)}{fws:List (Str × V)},RF K ρ H fs fws->(∀ v,fs.lookup f=UU v-> ∃ v',fws.lookup f=UU v'/\rel K ρ H v v')/\(fs.lookup f=UX->fws.lookup f=UX)
 | _,_,.nil=>⟨(λv e=>nomatch e),λ_=>rfl⟩
 | _,_,.cons (a:=p) (b:=q) r t=>by
  obtain⟨g,x⟩:=p;obtain⟨g',x'⟩:=q;obtain⟨i1,i2⟩:=RF.look (f:=f) t;have e:g=g':=r.1;subst e;rw[Wz,Wz];cases z:f == g with
  | true=>exact⟨λv e=>⟨x',rfl,by cases e;exact r.2⟩,λe=>nomatch e⟩
  | false=>exact⟨i1,i2⟩
theorem RF.len{fs:List (Str × PV)}{fws:List (Str × V)}(r:RF K ρ H fs fws):fs.length=fws.length:=YF r
end
abbrev TF:=Str->L2.St->Hp->(Str->Hp->Prop)->Prop
def Uv(X:Cx)(es:List VN)(t:TF):Prop:= ∀(acc:Str)(pins:List (U9 × Obj))(s:U5)(σ :L2.St)(H:Hp)(Q:Str->Hp->Prop),Inv X pins σ H s->t acc σ H Q->Joins (Vv X.prog X.w) X.A X.xe (evalEach es X.env) acc (λout s1=> ∃ H',Inv X pins σ H' s1/\Q out H') s
abbrev MF:=Str->CF->aM->PH->RV Str
def UK(c:CF)(K:UW)(t:TF)(m:MF):Prop:= ∀ acc ρ h H e σ Q out h',cj K ρ h H->cg K ρ H e σ ->m acc c e h= .ok out h'->j0 K ρ H h' (Q out)->t acc σ H Q
structure UP(X:Cx)(pg:Tb)(k:Nat)(es:List VN)(m:MF):Prop where h:cm X pg k-> ∃ t,Uv X es t/\UK (run pg k) X.K t m
def dh:List PV->PH->RV PV:=λxs h=>match xs with
 | [.str x]=>if x.length<=640 then(match abx x with | some n=> .ok (.int n) h | none=> .no) else .no
 | _=>Jy xs h
section
variable{X:Cx}{pg:Tb}{k:Nat}
theorem AD:cm X pg k-> ∃ r,aU X (.type "int") r/\zC X.K r dh:=λA=>by
 obtain⟨r0,c0,s0⟩:=O7 A;refine⟨λvs H Q=>(∃ x n,vs=[.str x]/\abx x=UU n/\x.length<=640/\Q (.int n) H)\/r0 vs H Q,?_,fun ρ h H xs us Q v h' s r q P=>?_⟩
 . intro pins s σ H vs us Q I rv h;rcases h with⟨x,n,rfl,hn,hl,q⟩ | h
   . cases rv with
     | cons ra rr =>
      cases rr
      obtain⟨t,rfl⟩:=ra
      exact KIN.call_text hn hl ⟨.int n,H,I.tok _,⟨_,rfl⟩,q⟩
   . exact c0 pins s σ H vs us Q I rv h
 . unfold dh at q;split at q
   . split at q
     . rename_i x hl;split at q
       . rename_i n hn;cases q;obtain⟨u,rfl,r1⟩:=bc r;rw[rel] at r1;subst r1;exact .inl ⟨x,n,rfl,hn,hl,P _ ρ H (.refl _ _) s (by rw[rel])⟩
       . nomatch q
     . nomatch q
   . exact .inr (s0 ρ h H xs us Q v h' s r q P)
end
noncomputable def Ei:WV->List WV
 | .ClassDef _ _ _ b _ _ _ _ _ _ _=>b
 | _=>[]
structure UT(P:VE)(w:VY)(K:UW)(mg:Str->Option U1)(pg:Tb)(fn:String)(m:Str)(d:Df)(st:WV)(N:List Str):Prop where
 no:pg.fns fn=UX
 sc:bO N d.ps (ag st)
 len:N.length=d.ps.length+d.nl
 bd: ∀(kV doc pm:U1)(an:Option U9)(cdv ct:U1)(us:List U1),us.length=d.ps.length->W8 (VX m (U0 fn) (br st) (aE st) (ag st) .none kV doc pm an cdv ct) ⟨us,[]⟩=pure (d.ps.zip us)
 body: ∀(base:Wb)(fa:U9)(cdv:U1)(A:V6)(outer:List Env)(s:U5)(H:Hp)(E:XK)(k:Nat),JB (dm (i8 P w) P w K mg base N (U0 fn) (ag st) fa cdv A outer s H E) pg k fn E (aE st) d.body
def RD(K:UW)(C:U9)(m:Str)(fn:String)(st:WV):Prop:= ∃ fa fd,qD K m (U0 fn) st fa fd/\Meth K C m fa
section
variable{P:VE}{w:VY}{K:UW}{mg:Str->Option U1}{pg:Tb}
theorem Qy{C f:U9}{m:Str}{fn:String}{st:WV}{oc:U1}{od an:Option U9}{osl:Array (Option U1)}{kV doc pm cdv ct:U1}
  (a:Vw K (.ref C) m=UU (UU (.ref f))) (i:acm K (.ref f)=true) (l:K.lookup f=UU ⟨oc,od,.func (VX m (U0 fn) (br st) (aE st) (ag st) .none kV doc pm an cdv ct),osl⟩) (c:ZQ K cdv (U0 fn)=true) (k:Wh K (.ref f)=true):RD K C m fn st :=
 ⟨f,_,BE l c k,a,i,k⟩
end
section
variable{X:Cx}{pg:Tb}{k:Nat}{a tg:VN}{ma:ME}{p pos fpos:Pos}{els:List VN}{j:Nat}{tpos:Pos}{g:MG}{ms:MS}{body:List WV}
noncomputable def Uy(xs:List PV):List PV:=xs.zipIdx.map λq=> .tup [.int (q.2:Int),q.1]
def Bt(n:Nat)(xs:List PV)(step:PV->aM->PH->RV Fl):List PV->aM->PH->RV Fl
 | [],e,h=>if bQ h n=UU xs then .ok (.nx e) h else .no
 | x::r,e,h=>if bQ h n=UU xs then(step x e h).bind (λf h1=>match f with
   | .nx e1=>Bt n xs step r e1 h1
   | .ct e1=>Bt n xs step r e1 h1
   | .bk e1=> .ok (.nx e1) h1
   | .rt v=> .ok (.rt v) h1) else .no
def Sr(g:MG)(b:MS)(c:CF)(e:aM)(n:Nat)(h:PH):Option (List PV)->RV Fl
 | some xs=>Bt n xs (aN g b c) (Uy xs) e h
 | none=> .no
end
end P3
end
section
open PySem PySem.W PyProof.Rows
namespace L2
open PySem PySem.Spec PyProof.Rows
section
variable{X:Cx}
theorem PE.up{e:VN}{t:TE}(h:PE X.dw e t):PE X e t:=λpins s σ H Q I q=>VA (h pins s σ H Q (I.bu _) q) (λu s' ⟨v,H',J,r,z⟩=>⟨v,H',J.bK,r,z⟩) λ_ _ z=>z.elim
theorem PT.up{e:VN}{t:TT}(h:PT X.dw e t):PT X e t:=λpins s σ H Q I q=>VA (h pins s σ H Q (I.bu _) q) (λu s' ⟨H',J,z⟩=>⟨H',J.bK,z⟩) λ_ _ z=>z.elim
theorem PA.up{e:List VN}{t:TA}(h:PA X.dw e t):PA X e t:=λpos pins s σ H Q I q=>VA (h pos pins s σ H Q (I.bu _) q) (λu s' ⟨v,H',J,r,z⟩=>⟨v,H',J.bK,r,z⟩) λ_ _ z=>z.elim
theorem PS.up{st:WV}{t:TS}(h:PS X.dw st t):PS X st t:=λpins s σ H D I q=>VA (h pins s σ H D (I.bu _) q) (λf s' z=>z.bK) λ_ _ z=>z.elim
theorem PG.up{e:VN}{t:TG}(h:PG X.dw e t):PG X e t:=λpins s σ H x u Q I r q=>VA (h pins s σ H x u Q (I.bu _) r q) (λ_ s' ⟨σ',H',J,z⟩=>⟨σ',H',J.bK,z⟩) λ_ _ z=>z.elim
theorem PF.up{e:List VN}{t:TT}(h:PF X.dw e t):PF X e t:=λpins s σ H Q I q=>VA (h pins s σ H Q (I.bu _) q) (λu s' ⟨H',J,z⟩=>⟨H',J.bK,z⟩) λ_ _ z=>z.elim
theorem aU.up{f:U1}{r:List V->Hp->VK->Prop}(h:aU X.dw f r):aU X f r:=λpins s σ H xs us Q I rv q=>VA (h pins s σ H xs us Q (I.bu _) rv q) (λu s' ⟨v,H',J,r,z⟩=>⟨v,H',J.bK,r,z⟩) λ_ _ z=>z.elim
theorem xc.up{id:String}{r:V->List V->Hp->VK->Prop}(h:xc X.dw id r):xc X id r:=λpins s σ H x xs u us Q I rx rv q=>VA (h pins s σ H x xs u us Q (I.bu _) rx rv q) (λu s' ⟨v,H',J,r,z⟩=>⟨v,H',J.bK,r,z⟩) λ_ _ z=>z.elim
end
end L2
namespace P3
open PySem PySem.Spec PyProof.Rows L2
noncomputable def RV.strip:RV α ->RV α
 | .ok a h=> .ok a h
 | _=> .no
def nX(m:ME):ME:=λc e h=>(m c e h).strip
def nA(m:MA):MA:=λc e h=>(m c e h).strip
def nS(m:MS):MS:=λc e h=>(m c e h).strip
def nT(m:MT):MT:=λc e h=>(m c e h).strip
theorem sI{a: α}{h:PH}:(RV.ok a h).strip= .ok a h:=rfl
theorem zv{c:Prop}[Decidable c]{a b:RV α}:(if c then a else b).strip=if c then a.strip else b.strip:=by split<;>rfl
section
variable{X:Cx}{pg:Tb}{k:Nat}{E:XK}{a b c d e o:VN}{es:List VN}{ma mb mc md mo:ME}{mr:MA}{mt:MT}{ms mu:MS}{pos p pos' apos cpos spos:Pos}{x y:Str}{st:WV}{body rest:List WV}
theorem jx(h:JE X.dw pg k e ma):oy X pg k E e (nX ma):=⟨λA=>let ⟨t,q,s⟩:=h.h A.a;⟨t,⟨q.h.up⟩,fun ρ h H e σ Q sm r o=>by
 unfold nX at o;cases z:ma (run pg k) e h with
 | ok v h'=>rw[z] at o;exact s ρ h H e σ Q v h' sm r z o
 | ex C us h'=>rw[z] at o;exact o.elim
 | no=>rw[z] at o;exact o.elim⟩⟩
theorem UA(h:JA X.dw pg k es mr):GX X pg k E es (nA mr):=⟨λA=>let ⟨t,q,s⟩:=h.h A.a;⟨t,⟨q.h.up⟩,fun ρ h H e σ Q sm r o=>by
 unfold nA at o;cases z:mr (run pg k) e h with
 | ok v h'=>rw[z] at o;exact s ρ h H e σ Q v h' sm r z o
 | ex C us h'=>rw[z] at o;exact o.elim
 | no=>rw[z] at o;exact o.elim⟩⟩
theorem UJ(h:JS X.dw pg k st ms):zI X pg k E st (nS ms):=⟨λA=>let ⟨t,q,s⟩:=h.h A.a;⟨t,⟨q.h.up⟩,fun ρ h H e σ D sm r o=>by
 unfold nS at o;cases z:ms (run pg k) e h with
 | ok v h'=>rw[z] at o;exact s ρ h H e σ D v h' sm r z o
 | ex C us h'=>rw[z] at o;exact o.elim
 | no=>rw[z] at o;exact o.elim⟩⟩
theorem Es:GX X pg k E [] aj:=⟨λA=>⟨_,⟨jm⟩,fun ρ h H e σ Q sm r o=>o [] ρ H (.refl _ _) sm (bG.mpr rfl)⟩⟩
theorem Aj(h1:oy X pg k E e ma)(h2:GX X pg k E es mr)(hs:noStar e=true:=by rfl):GX X pg k E (e::es) (ae ma mr):=⟨λA =>
 let ⟨_,q1,s1⟩:=h1.h A;let ⟨_,q2,s2⟩:=h2.h A;⟨_,⟨dI q1.h q2.h (aR hs)⟩,fun ρ h H e σ Q sm r o=>by
  unfold ae at o;refine s1 ρ h H e σ _ sm r ?_;cases z:ma (run pg k) e h with
  | ex C us h'=>rw[z] at o;exact o
  | no=>rw[z] at o;exact o
  | ok v h1 =>
   rw[z] at o
   refine λv' ρ1 H1 g1 z1 r1=>s2 ρ1 h1 H1 e σ _ z1 (r.gr g1) ?_
   change P4 _ _ _ _ _ ((mr (run pg k) e h1).bind _) at o
   cases y:mr (run pg k) e h1 with
   | ex C us h'=>rw[y] at o;exact d8.gr o g1
   | no=>rw[y] at o;exact o
   | ok vs h2 =>
    rw[y] at o
    exact λus ρ2 H2 g2 z2 r2=>o _ ρ2 H2 (g1.trans g2) z2 (aD.mpr ⟨v',us,rfl,rel.gr g2 _ _ r1,r2⟩)⟩⟩
theorem vT{E:XK}{cf:CF}{K:UW}{ta:TA}{rr:List V->Hp->VK->Prop}{f:List PV->PH->RV PV}(s1:Tz E cf K ta mr)(hr: ∀ ρ h H xs us Q,cj K ρ h H->ak K ρ H xs us->gz K ρ H Q E (f xs h)->rr us H Q):QH E cf K (fun σ H Q=>ta σ H λus H1=>rr us H1 Q) (λc e h=>(mr c e h).bind f):=fun ρ h H e σ Q sm r o=>by
 refine s1 ρ h H e σ _ sm r ?_;cases z:mr cf e h with
 | ex C us h'=>dsimp only at o;rw[z] at o;exact o
 | no=>dsimp only at o;rw[z] at o;exact o
 | ok xs h1 =>
  dsimp only at o;rw[z] at o
  refine λus ρ1 H1 g1 z1 r1=>hr ρ1 h1 H1 xs us Q z1 r1 ?_
  change gz _ _ _ _ _ (f xs h1) at o
  cases y:f xs h1 with
  | ex C us h'=>rw[y] at o;exact d8.gr o g1
  | no=>rw[y] at o;exact o
  | ok v h2=>rw[y] at o;exact cL.gr o g1
theorem JR{x1}(h:GX X pg k E es mr):oy X pg k E (.Tuple es x1 pos) (cU mr):=⟨λA =>
 let ⟨_,q1,s1⟩:=h.h A;⟨_,vH q1,vT (rr:=λus H Q=>us.length<=Vj/\ ∀ p,H p=UX->Q (.ref p) (upd H p (.tup us))) s1 fun ρ h H xs us Q sm r o=>by
  unfold oX at o;split at o
  . rename_i hl;refine⟨by rw[<- r.len];exact hl,λp hp=>o _ ρ _ (Gr.kF hp) (sm.tup hp) ?_⟩;rw[rel];exact⟨p,us,rfl,bb,ak.gr (Gr.kF hp) _ _ r⟩
  . exact o.elim⟩⟩
theorem GJ{f:String}{d:Df}(hf:pg.fns f=UU d)(hg:Gl X (U0 f))(ha:GX X pg k E (e::es) mr)(hdb:(U0 f == ("__debug__" :Str))=false:=by decide)(he:noStar e=true:=by rfl)(hpl:es.all noStar=true:=by rfl) :
  oy X pg k E (.Call (.Name (U0 f) p) (e::es) [] pos) (ai f mr):=⟨λA =>
 let ⟨_,q1,s1⟩:=ha.h A;⟨_,⟨OG A.pc.pass (A.a.defs f d hf) A.a.room hg (Vb _) q1.h hdb (aR he) (gq hpl)⟩,vT (rr:=λus H Q=>kb X.K pg k f (us++[]) H Q E) s1 fun ρ h H xs us Q sm r o=>by
  rw[VM];cases z:run pg k f xs h with
  | ok v h'=>rw[z] at o;exact .inl ⟨ρ,h,xs,v,h',sm,r,z,o⟩
  | ex C vs h'=>rw[z] at o;exact .inr ⟨ρ,h,xs,C,vs,h',sm,r,z,o⟩
  | no=>rw[z] at o;exact o.elim⟩⟩
def Nu(f:List PV->PH->RV PV)(r:MA):ME:=λc e h=>(r c e h).bind λxs h=>(f xs h).strip
theorem E9{T:String}{f:List PV->PH->RV PV}(hc:cm X.dw pg k-> ∃ r,aU X.dw (.type T) r/\zC X.dw.K r f)(hg:Gl X x)(hb:x∈fk)(hv:Wm x=UU (.type T))(ha:GX X pg k E (e::es) mr)
  (hn:x≠ "__name__" :=by decide) (hdb:(x == ("__debug__" :Str))=false:=by decide) (he:noStar e=true:=by rfl) (hpl:es.all noStar=true:=by rfl):oy X pg k E (.Call (.Name x p) (e::es) [] pos) (Nu f mr):=⟨λA =>
 let ⟨_,q1,s1⟩:=ha.h A;let ⟨r,q,s⟩:=hc A.a;⟨_,qT q.up hg (A.a.blt x hb) hv q1 hn hdb he hpl,vT (rr:=r) s1 fun ρ h H xs us Q sm rs o=>by
  cases z:f xs h with
  | ok v h'=>rw[z] at o;exact s ρ h H xs us Q v h' sm rs z o
  | ex C vs h'=>rw[z] at o;exact o.elim
  | no=>rw[z] at o;exact o.elim⟩⟩
def Jx(f:PV->List PV->PH->RV PV)(ty:PV->PH->Bool)(a:ME)(r:MA):ME:=λc e h=>((a c e h).strip).bind λx h1=>if ty x h1=true then(r c e h1).bind λxs h2=>(f x xs h2).strip else .no
theorem E6{name:Str}{id T:String}{f:PV->List PV->PH->RV PV}{ty:PV->PH->Bool}(pa:ab7 T)(slot:Slot T name id)(hty:typeOf (.builtin id)=pure (.type "method_descriptor"))(hm:cm X.dw pg k-> ∃ r,xc X.dw id r/\Nv X.dw.K T r f ty)
  (ho:JE X.dw pg k d md) (ha:GX X pg k E [e] mr) (hbase:Xq d name X.env (WT d X.env)=WT d X.env:=by rfl) (hline:(apos.endLine == cpos.line)=true:=by rfl) (hs:noStar e=true:=by rfl) :
  oy X pg k E (.Call (.Attribute d name apos) [e] [] cpos) (Jx f ty md mr):=⟨λA=>by
 obtain⟨_,q0,s0⟩:=ho.h A.a;obtain⟨_,q1,s1⟩:=ha.h A;obtain⟨_,q,s⟩:=hm A.a;refine⟨_,Hu pa slot hty q.up ⟨q0.h.up⟩ q1 hbase hline hs,fun ρ h H e σ Q sm r o=>?_⟩;unfold Jx at o;cases z:md (run pg k) e h with
 | ex C us h'=>rw[z] at o;exact o.elim
 | no=>rw[z] at o;exact o.elim
 | ok x h1 =>
  rw[z] at o
  change gz _ _ _ _ _ (if ty x h1=true then _ else _) at o
  refine s0 ρ h H e σ _ _ _ sm r z λx' ρ1 H1 g1 z1 r1=>?_
  split at o
  . rename_i ht;refine⟨s.1 ρ1 h1 H1 x x' z1 r1 ht,s1 ρ1 h1 H1 e σ _ z1 (r.gr g1) ?_⟩;cases y:mr (run pg k) e h1 with
    | ex C us h'=>rw[y] at o;exact d8.gr o g1
    | no=>rw[y] at o;exact o
    | ok xs h2 =>
     rw[y] at o
     change gz _ _ _ _ _ (f x xs h2).strip at o
     refine λus ρ2 H2 g2 z2 r2=>?_
     cases w:f x xs h2 with
     | ok v h3=>rw[w] at o;exact s.2 ρ2 h2 H2 x x' xs us Q v h3 z2 (rel.gr g2 _ _ r1) r2 w (cL.gr o (g1.trans g2))
     | ex C us h'=>rw[w] at o;exact o.elim
     | no=>rw[w] at o;exact o.elim
  . exact o.elim⟩
theorem Oa(hc:JT X.dw pg k c mt)(ha:oy X pg k E a ma)(hb:oy X pg k E b mb):oy X pg k E (.IfExp c a b pos) (yZ (nT mt) ma mb):=⟨λA=>by
 obtain⟨_,q0,s0⟩:=hc.h A.a;obtain⟨_,q1,s1⟩:=ha.h A;obtain⟨_,q2,s2⟩:=hb.h A;refine⟨_,uh ⟨q0.h.up⟩ q1 q2,fun ρ h H e σ Q sm r o=>?_⟩;unfold yZ nT at o;cases z:mt (run pg k) e h with
 | ex C us h'=>rw[z] at o;exact o.elim
 | no=>rw[z] at o;exact o.elim
 | ok t h1 =>
  rw[z] at o
  refine s0 ρ h H e σ _ _ _ sm r z fun ρ1 H1 g1 z1=>?_
  have up: ∀{m:RV PV},gz X.K ρ H Q E m->gz X.K ρ1 H1 Q E m:=λ{m} o=>by
   cases m with
   | ok v h'=>exact cL.gr o g1
   | ex C us h'=>exact d8.gr o g1
   | no=>exact o
  cases t with
  | true=>exact s1 ρ1 h1 H1 e σ _ z1 (r.gr g1) (up o)
  | false=>exact s2 ρ1 h1 H1 e σ _ z1 (r.gr g1) (up o)⟩
end
end P3
end
section
open PySem PySem.W PyProof.Rows
namespace L2
open PySem PySem.Spec PyProof.Rows
theorem PI.up{X:Cx}{tg iter:VN}{w:TI}(h:PI X.dw tg iter w):PI X tg iter w:=λpins s σ H R I q =>
 VA (h pins s σ H R (I.bu _) q) (λv s1 z=>VA z (λitv s2 ⟨it,fp,tn,J,H',e,I2,T,t0,f,r⟩=>⟨it,fp,tn,J,H',e,I2.bK,T,t0,f,r⟩) λ_ _ z=>z.elim) λ_ _ z=>z.elim
end L2
namespace P3
open PySem PySem.Spec PyProof.Rows L2
section
variable{X:Cx}{pg:Tb}{k:Nat}{E:XK}{a b c d e o:VN}{es:List VN}{ma mb mc md mo:ME}{mr:MA}{mt:MT}{ms mu:MS}{pos p pos' apos cpos spos:Pos}{x y:Str}{st:WV}{body rest:List WV}{g:MG}{mI:MI}{tg iter:VN}
theorem gi.gr{K:UW}{ρ ρ1:List U9}{H H1:Hp}{D:Ends}{m:RV Fl}(o:gi K ρ H D E m)(g:Gr ρ H ρ1 H1):gi K ρ1 H1 D E m:=by
 cases m with
 | ok v h'=>exact qf.gr o g
 | ex C us h'=>exact d8.gr o g
 | no=>exact o
theorem gz.gr{K:UW}{ρ ρ1:List U9}{H H1:Hp}{Q:VK}{m:RV PV}(o:gz K ρ H Q E m)(g:Gr ρ H ρ1 H1):gz K ρ1 H1 Q E m:=by
 cases m with
 | ok v h'=>exact cL.gr o g
 | ex C us h'=>exact d8.gr o g
 | no=>exact o
theorem Bo:nu X pg k E [] dk:=⟨λA=>⟨_,qK,fun ρ h H e σ D sm r o=>o σ ρ H (.refl _ _) sm r⟩⟩
theorem B0(h:zI X pg k E st ms):nu X pg k E [st] ms:=⟨λA=>let ⟨_,q,s⟩:=h.h A;⟨_,qI q,s⟩⟩
theorem y6(h1:zI X pg k E st ms)(h2:nu X pg k E rest mu):nu X pg k E (st::rest) (ah ms mu):=⟨λA=>let ⟨_,q1,s1⟩:=h1.h A;let ⟨_,q2,s2⟩:=h2.h A;⟨_,nF q1 q2,fun ρ h H e σ D sm r o=>by
 unfold ah at o;refine s1 ρ h H e σ _ sm r ?_;cases z:ms (run pg k) e h with
 | ex C us h'=>rw[z] at o;exact o
 | no=>rw[z] at o;exact o
 | ok f h1 =>
  rw[z] at o
  cases f with
  | nx e1=>exact fun σ1 ρ1 H1 g1 z1 r1=>s2 ρ1 h1 H1 e1 σ1 D z1 r1 (gi.gr o g1)
  | rt v=>exact o
  | bk e'=>exact o
  | ct e'=>exact o⟩⟩
theorem rq{cf:CF}{K:UW}{ta:TE}{rr:V->Hp->L2.St->Ends->Prop}{f:aM->PV->PH->RV Fl}(s1:QH E cf K ta ma)(hr: ∀ ρ h H v v' e σ D,cj K ρ h H->cg K ρ H e σ ->rel K ρ H v v'->gi K ρ H D E (f e v h)->rr v' H σ D):RC E cf K (λD σ H=>ta σ H λv H1=>rr v H1 σ D) (λc e h=>(ma c e h).bind (f e)):=fun ρ h H e σ D sm r o=>by
 refine s1 ρ h H e σ _ sm r ?_;cases z:ma cf e h with
 | ex C us h'=>dsimp only at o;rw[z] at o;exact o
 | no=>dsimp only at o;rw[z] at o;exact o
 | ok v h1 =>
  dsimp only at o;rw[z] at o
  exact λv' ρ1 H1 g1 z1 r1=>hr ρ1 h1 H1 v v' e σ D z1 (r.gr g1) r1 (gi.gr o g1)
theorem Bn(ha:oy X pg k E e ma)(hs:WI e UX pos.line X.env=pure false:=by rfl):zI X pg k E (.Expr e pos) (bM ma):=⟨λA=>let ⟨_,q1,s1⟩:=ha.h A;⟨_,wI q1 hs,rq (f:=λe _ h1=> .ok (.nx e) h1) (rr:=λ_ H1 σ D=>D.nx σ H1) s1 fun ρ h H v v' e σ D sm r rv o=>o σ ρ H (.refl _ _) sm r⟩⟩
theorem Ex(ha:oy X pg k E e ma):zI X pg k E (.Return (UU e) pos) (aK ma):=⟨λA=>let ⟨_,q1,s1⟩:=ha.h A;⟨_,Ct q1,rq (f:=λ_ v h1=> .ok (.rt v) h1) (rr:=λv H1 _ D=>D.rt v H1) s1 fun ρ h H v v' e σ D sm r rv o=>o v' ρ H (.refl _ _) sm rv⟩⟩
theorem FO{j:Nat}(hN:X.N.Nodup)(hi:X.N[j]?=UU x)(hx:Loc X.env.scope x)(he:oy X pg k E e ma)(hs:WI e (UU (.Name x pos')) pos.line X.env=pure false:=by rfl)(hf:X.fn x=true\/X.env.scope.names.lookup x=UU .local:=by first | exact .inl rfl | exact .inr rfl | assumption) :
  zI X pg k E (.Assign [.Name x pos'] e pos) (aA ma (gN j)):=⟨λA=>let ⟨_,q1,s1⟩:=he.h A;⟨_,vb hN hi hx q1 hs hf,rq (f:=λe v h1=>(gN j v e h1).bind λe1 h2=> .ok (.nx e1) h2) (rr:=λv H1 σ D=>D.nx (σ.set j (UU v)) H1) s1 fun ρ h H v v' e σ D sm r rv o=>o _ ρ H (.refl _ _) sm (r.set j rv)⟩⟩
theorem JN{A B:List WV}(hc:JT X.dw pg k c mt)(ha:nu X pg k E A ms)(hb:nu X pg k E B mu):zI X pg k E (.If c A B pos) (cE (nT mt) ms mu):=⟨λZ=>by
 obtain⟨_,q0,s0⟩:=hc.h Z.a;obtain⟨_,q1,s1⟩:=ha.h Z;obtain⟨_,q2,s2⟩:=hb.h Z;refine⟨_,Cd ⟨q0.h.up⟩ q1 q2,fun ρ h H e σ D sm r o=>?_⟩;unfold cE nT at o;cases z:mt (run pg k) e h with
 | ex C us h'=>rw[z] at o;exact o.elim
 | no=>rw[z] at o;exact o.elim
 | ok t h1 =>
  rw[z] at o
  refine s0 ρ h H e σ _ _ _ sm r z fun ρ1 H1 g1 z1=>?_
  cases t with
  | true=>exact s1 ρ1 h1 H1 e σ _ z1 (r.gr g1) (gi.gr o g1)
  | false=>exact s2 ρ1 h1 H1 e σ _ z1 (r.gr g1) (gi.gr o g1)⟩
def dA(C:Nat)(names:List Str)(r:MA):MS:=λc e h=>(r c e h).bind λvs h1=>if vs.length=names.length then .ex C (names.zip vs) h1 else .no
theorem wV{K:UW}{ρ :List U9}{H:Hp}: ∀{names:List Str}{vs:List PV}{us:List V},ak K ρ H vs us->Ws (λ(p:Str × PV) (q:Str × V)=>p.1=q.1/\rel K ρ H p.2 q.2) (names.zip vs) (names.zip us)
 | [],vs,us,r=> .nil
 | n::ns,[],us,r=>by rw[bG] at r;subst r;exact .nil
 | n::ns,v::vs,us,r=>by
  obtain⟨u,t,rfl,h1,h2⟩:=aD.mp r;exact .cons ⟨rfl,h1⟩ (wV h2)
theorem yA{C:Nat}{names:List Str}{rpos:Pos}(M:NB X.prog X.w X.K X.mg x C names)(hg:Gl X x)(ha:JA X.dw pg k (e::es) mr)(hdb:(x == ("__debug__" :Str))=false:=by decide)(he:noStar e=true:=by rfl)(hpl:es.all noStar=true:=by rfl) :
  zI X pg k E (.Raise (UU (.Call (.Name x p) (e::es) [] pos)) UX rpos) (dA C names (nA mr)):=⟨λA=>by
 obtain⟨_,q1,s1⟩:=ha.h A.a;have rm:cG k X.A:=A.a.room;refine⟨_,⟨B1 M (by have:=rm.dp;omega) rm.hd A.pc.pass hg q1.h.up hdb (aR he) (gq hpl)⟩,fun ρ h H e σ D sm r o=>?_⟩;unfold dA nA at o;cases z:mr (run pg k) e h with
 | ex C us h'=>rw[z] at o;exact o.elim
 | no=>rw[z] at o;exact o.elim
 | ok vs h1 =>
  rw[z] at o
  change gi _ _ _ _ _ (if vs.length=names.length then _ else _) at o
  split at o
  . rename_i hl;refine s1 ρ h H e σ _ _ _ sm r z λus ρ1 H1 g1 z1 r1=>⟨by rw[<- r1.len];exact hl,λdx od hd=>?_⟩
    exact o dx od _ ρ1 _ (g1.trans (Gr.kF hd)) (z1.tup hd) bb (wV (ak.gr (Gr.kF hd) _ _ r1))
  . exact o.elim⟩
def Qr(K:UW)(ρ :List U9)(H:Hp)(R:It->Hp->Prop)(E:XK):RV qw->Prop
 | .ok it h'=> ∀ ρ' H' J,Gr ρ H ρ' H'->cj K ρ' h' H'->SX K ρ' H' J it->R J H'
 | .ex C us h'=>d8 K ρ H C us h' E
 | .no=>False
def TZ(E:XK)(c:CF)(K:UW)(t:TI)(m:MI):Prop:= ∀ ρ h H e σ R,cj K ρ h H->cg K ρ H e σ ->Qr K ρ H R E (m c e h)->t σ H R
structure HY(X:Cx)(pg:Tb)(k:Nat)(E:XK)(tg e:VN)(m:MI):Prop where h:pe X pg k E-> ∃ t,QI X tg e t/\TZ E (run pg k) X.K t m
def nI(m:MI):MI:=λc e h=>(m c e h).strip
def nG(m:MG):MG:=λv e h=>(m v e h).strip
theorem UL(h:JI X.dw pg k tg iter mI):HY X pg k E tg iter (nI mI):=⟨λA=>let ⟨t,q,s⟩:=h.h A.a;⟨t,⟨q.h.up⟩,fun ρ h H e σ R sm r o=>by
 unfold nI at o;cases z:mI (run pg k) e h with
 | ok v h'=>rw[z] at o;exact s ρ h H e σ R v h' sm r z o
 | ex C us h'=>rw[z] at o;exact o.elim
 | no=>rw[z] at o;exact o.elim⟩⟩
theorem G0(ha:oy X pg k E o ma):HY X pg k E tg o (iY ma):=⟨λA=>let ⟨_,q1,s1⟩:=ha.h A;⟨_,⟨CT q1.h⟩,fun ρ h H e σ R sm r oo=>by
 unfold iY at oo;cases z:ma (run pg k) e h with
 | ex C us h'=>rw[z] at oo;exact s1 ρ h H e σ _ sm r (by rw[z];exact oo)
 | no=>rw[z] at oo;exact oo.elim
 | ok x h1 =>
  rw[z] at oo
  change Qr _ _ _ _ _ (iH x h1) at oo
  cases y:iH x h1 with
  | ok it h2 =>
   rw[y] at oo
   exact BP (c:=run pg k) (ma:=ma) (fun ρ h H e σ Q v h' s r q P=>s1 ρ h H e σ Q s r (by rw[q];exact P)) ρ h H e σ R it h2 sm r (by unfold iY;rw[z];exact y) oo
  | ex C us h' =>
   exfalso
   unfold iH at y
   split at y<;>first | injection y | (split at y<;>injection y)
  | no=>rw[y] at oo;exact oo.elim⟩⟩
theorem G8(hi:HY X pg k E tg iter mI)(hg:JG X.dw pg k tg g)(hb:nu X pg k E body ms)(hp:abF (Vv X.prog X.w) X.A X.env X.xe:=by exact PassesOwn.leaving)(hs: ∀ x,VH iter X.env x=pure x:=by intro _;rfl):zI X pg k E (.For tg iter body [] pos) (gL mI (nG g) ms):=⟨λA=>by
 obtain⟨_,q1,s1⟩:=hi.h A;obtain⟨_,q2,s2⟩:=hg.h A.a;obtain⟨_,q3,s3⟩:=hb.h A;refine⟨_,Ag hp A.a.calm q1 ⟨q2.h.up⟩ q3 hs,fun ρ h H e σ D s r o=>?_⟩;unfold gL at o;refine s1 ρ h H e σ _ s r ?_;cases z:mI (run pg k) e h with
 | ex C us h'=>rw[z] at o;exact o
 | no=>rw[z] at o;exact o
 | ok it h1 =>
  rw [z] at o
  change gi _ _ _ _ _ (aS it _ it.items e h1) at o
  refine fun ρ1 H1 J g1 z1 w1=>?_
  refine ⟨λi m σ' H'=> ∃ ρ' h2 e',Gr ρ1 H1 ρ' H'∧cj X.K ρ' h2 H'∧cg X.K ρ' H' e' σ'∧i<=it.items.length∧m=it.items.length - i∧gi X.K ρ' H' D E (aS it (λx e h=>(nG g x e h).bind λe1 h1=>ms (run pg k) e1 h1) (it.items.drop i) e' h2),⟨_, ρ1,h1,e,.refl _ _,z1,r.gr g1,V2 _,rfl,gi.gr o g1⟩,?_⟩
  rintro i m σ2 H2 ⟨ρ2,h2,e2,g2,z2,r2,hi,rfl,o2⟩
  cases hx:it.items[i]? with
  | none =>
   have hl:it.items.length<=i:=XG.mp hx
   rw[V5 hl,aS] at o2
   split at o2
   . rename_i hf;exact .inl ⟨(w1 i ρ2 _ H2 g2 z2 hf).2 (by omega),o2 σ2 ρ2 H2 (.refl _ _) z2 r2⟩
   . exact o2.elim
  | some x =>
   have hlt:i < it.items.length:=(Vk.mp hx).1
   have hd:it.items.drop i=x::it.items.drop (i+1):=by
    rw[Wd hlt,(Vk.mp hx).2]
   rw[hd,aS] at o2
   split at o2
   . rename_i hf;obtain ⟨go,yl⟩:=(w1 i ρ2 _ H2 g2 z2 hf).1 x hx;refine .inr ⟨go,fun σ' H'=> ∃ ρ' h2 e',Gr ρ1 H1 ρ' H'∧cj X.K ρ' h2 H'∧cg X.K ρ' H' e' σ'∧gi X.K ρ' H' D E (aS it (λx e h=>(nG g x e h).bind λe1 h1=>ms (run pg k) e1 h1) (it.items.drop (i+1)) e' h2),?_,?_⟩
     . rintro σ' H' ⟨ρ',h2,e',a1,a2,a3,a4⟩;exact ⟨it.items.length - (i+1),by omega, ρ',h2,e',a1,a2,a3,hlt,rfl,a4⟩
     . intro v H3 hy;obtain ⟨ρ3,g3,z3,r3⟩:=yl v H3 hy;have o3:=gi.gr o2 g3;cases y:g x e2 h2 with
       | ex C us h'=>unfold nG at o3;rw[y] at o3;exact o3.elim
       | no=>unfold nG at o3;rw[y] at o3;exact o3.elim
       | ok e4 h4 =>
        rw[show nG g x e2 h2= .ok e4 h4 from by unfold nG;rw[y];rfl] at o3
        refine s2 ρ3 h2 H3 e2 σ2 _ x v e4 h4 z3 (r2.gr g3) r3 y fun σ4 ρ4 H4 g4 z4 r4=>?_
        have gg:=(g2.trans g3).trans g4
        have o4:=gi.gr o3 g4
        change gi _ _ _ _ _ ((ms (run pg k) e4 h4).bind _) at o4
        refine s3 ρ4 h4 H4 e4 σ4 _ z4 r4 ?_
        cases w:ms (run pg k) e4 h4 with
        | ex C us h'=>rw[w] at o4;exact o4
        | no=>rw[w] at o4;exact o4
        | ok f5 h5 =>
         rw[w] at o4
         cases f5 with
         | nx e6=>exact fun σ5 ρ5 H5 g5 z5 r5=>⟨ρ5,h5,e6,gg.trans g5,z5,r5,gi.gr o4 g5⟩
         | ct e6=>exact fun σ5 ρ5 H5 g5 z5 r5=>⟨ρ5,h5,e6,gg.trans g5,z5,r5,gi.gr o4 g5⟩
         | bk e6=>exact o4
         | rt v=>exact o4
   . exact o2.elim⟩
abbrev nb(X:Cx)(vars:List Str)(scope:YD)(cl:List (Str × U9))(C:U9)(s₀ :U5)(H₀ :Hp)(ex:List U9)(pn:List (U9 × Obj)):Cx:=L2.cD X.dw vars scope cl C s₀ H₀ ex pn
theorem Hk{cf:CF}{K:UW}{wi:TI}{tG:TG}{tt:TT}{te:TE}{n:Nat}(s1:TZ E cf K wi mI)(s2:SG K tG g)(s3:ST cf K tt mt)(s4:QH E cf K te ma):QH E cf K (Nt n wi tG tt te) (fg n mI (nG g) (nT mt) ma):=fun ρ h H e σ Q s r o=>by
 unfold fg at o;refine s1 ρ h H e σ _ s r ?_;cases z:mI cf e h with
 | ex C us h'=>rw[z] at o;exact o
 | no=>rw[z] at o;exact o
 | ok it h1 =>
  rw [z] at o
  change gz _ _ _ _ _ ((hU it _ it.items [] h1).bind _) at o
  refine fun ρ1 H1 J g1 z1 w1=>?_
  refine ⟨λi m us H'=> ∃ ρ' h3 zs,Gr ρ1 H1 ρ' H'∧cj K ρ' h3 H'∧ak K ρ' H' zs us∧i<=it.items.length∧m=it.items.length - i∧gz K ρ' H' Q E ((hU it (bN n (nG g) (nT mt) ma cf e) (it.items.drop i) zs h3).bind λys h2=> .ok (.ref h2.length) (h2++[.lst ys])),⟨_, ρ1,h1,[],.refl _ _,z1,bG.mpr rfl,V2 _,rfl,gz.gr o g1⟩,?_⟩
  rintro i m us H2 ⟨ρ2,h3,zs,g2,z2,r2,hi,rfl,o2⟩
  cases hx:it.items[i]? with
  | none =>
   have hl:it.items.length<=i:=XG.mp hx
   rw[V5 hl,hU] at o2
   split at o2
   . rename_i hf;exact .inl ⟨(w1 i ρ2 _ H2 g2 z2 hf).2 (by omega),λp hp=>fJ z2 r2 o2 p hp⟩
   . exact o2.elim
  | some x =>
   have hlt:i < it.items.length:=(Vk.mp hx).1
   have hd:it.items.drop i=x::it.items.drop (i+1):=by
    rw[Wd hlt,(Vk.mp hx).2]
   rw[hd,hU] at o2
   split at o2
   . rename_i hf;obtain⟨go,yl⟩:=(w1 i ρ2 _ H2 g2 z2 hf.1).1 x hx;refine .inr ⟨go,by rw[<- r2.len];exact hf.2,λv H3 hy=>?_⟩;obtain⟨ρ3,g3,z3,r3⟩:=yl v H3 hy;have o3:=gz.gr o2 g3;unfold bN at o3;cases y:g x (e++U8 n UX) h3 with
     | ex C us h'=>unfold nG at o3;rw[y] at o3;exact o3.elim
     | no=>unfold nG at o3;rw[y] at o3;exact o3.elim
     | ok e4 h5 =>
      rw[show nG g x (e++U8 n UX) h3= .ok e4 h5 from by unfold nG;rw[y];rfl] at o3
      refine s2 ρ3 h3 H3 _ _ _ x v e4 h5 z3 (((r.gr (g1.trans (g2.trans g3)))).more n) r3 y fun σ4 ρ4 H4 g4 z4 r4=>?_
      have o4:=gz.gr o3 g4
      change gz _ _ _ _ _ ((((nT mt cf e4 h5).bind _).bind _).bind _) at o4
      cases w:mt cf e4 h5 with
      | ex C us h'=>unfold nT at o4;rw[w] at o4;exact o4.elim
      | no=>unfold nT at o4;rw[w] at o4;exact o4.elim
      | ok b h6 =>
       rw[show nT mt cf e4 h5= .ok b h6 from by unfold nT;rw[w];rfl] at o4
       refine s3 ρ4 h5 H4 e4 σ4 _ b h6 z4 r4 w fun ρ5 H5 g5 z5=>?_
       have gg:=((g2.trans g3).trans g4).trans g5
       have o5:=gz.gr o4 g5
       cases b with
       | false=>exact ⟨it.items.length - (i+1),by omega, ρ5,_,zs,gg,z5,ak.gr ((g3.trans g4).trans g5) _ _ r2,hlt,rfl,o5⟩
       | true =>
        change gz _ _ _ _ _ ((((ma cf e4 h6).bind _).bind _).bind _) at o5
        refine s4 ρ5 h6 H5 e4 σ4 _ z5 (r4.gr g5) ?_
        cases u:ma cf e4 h6 with
        | ex C us h'=>rw[u] at o5;exact o5
        | no=>rw [u] at o5;exact o5
        | ok yv h7 =>
         rw [u] at o5
         exact λy' ρ6 H6 g6 z6 r6=>⟨it.items.length - (i+1),by omega, ρ6,_,zs++[yv],gg.trans g6,z6,(ak.gr (((g3.trans g4).trans g5).trans g6) _ _ r2).app (ak.one r6),hlt,rfl,gz.gr o5 g6⟩
   . exact o2.elim
theorem pe.cD{EE:U1->U5->Prop}(A:pe X pg k E)(vars:List Str)(scope:YD)(cl:List (Str × U9))(C:U9)(s₀ :U5)(H₀ :Hp)(ex:List U9)(pn:List (U9 × Obj))(hp:gy ((cD X vars scope cl C s₀ H₀ ex pn).bu EE) E):pe ((cD X vars scope cl C s₀ H₀ ex pn).bu EE) pg k E :=
 ⟨A.a.cD vars scope cl C s₀ H₀ ex pn,hp,A.own⟩
noncomputable def S6(E:XK)(c:CF)(K:UW)(m:ME):TE:=fun σ H Q=> ∃ ρ h e,cj K ρ h H/\cg K ρ H e σ /\gz K ρ H Q E (m c e h)
theorem oy.C5(j:oy X pg k E e ma)(A:pe X pg k E):QE X e (S6 E (run pg k) X.K ma) :=
 let ⟨_,q,s⟩:=j.h A;⟨λpins st σ H Q I ⟨ρ,h,e,a,b,c⟩=>q.h pins st σ H Q I (s ρ h H e σ Q a b c)⟩
variable{scope:YD}{ifs:List VN}{tG:TG}{py:Pos}
theorem Ck(vars:List Str)(hkind:scope.kind= .function)(hlc:eF scope.names X.env.scope.names X.N vars=true)(hi:HY X pg k E tg iter mI)
  (hb: ∀ cl C s₀ H₀ ex pn EE,(cm X.dw pg k->QG (P3.nb X vars scope cl C s₀ H₀ ex pn) tg tG)/\JF (P3.nb X vars scope cl C s₀ H₀ ex pn) pg k ifs mt/\oy ((L2.cD X vars scope cl C s₀ H₀ ex pn).bu EE) pg k E e ma) (hG:GC X.K X.N.length tG g)
  (hs: ∀ x,VH iter X.env x=pure x:=by intro _;rfl):oy X pg k E (.ListComp e [⟨tg,iter,ifs,0⟩] scope pos) (fg vars.length mI (nG g) (nT mt) ma):=⟨λA =>
 let ⟨_,q1,s1⟩:=hi.h A
 ⟨_,⟨qi vars A.a.calm A.pc A.own hkind hlc q1.h (λcl C s₀ H₀ ex pn EE hp=>let ⟨h1,h2,h3⟩:=hb cl C s₀ H₀ ex pn EE;⟨PG.up (X:=(L2.cD X vars scope cl C s₀ H₀ ex pn).bu EE) (h1 A.a).h,PF.up (X:=(L2.cD X vars scope cl C s₀ H₀ ex pn).bu EE) (t:=NC (run pg k) X.K mt) (show PF (P3.nb X vars scope cl C s₀ H₀ ex pn) ifs (NC (run pg k) X.K mt) from(h2.C5 (A.a.cD vars scope cl C s₀ H₀ ex pn)).h),(show PE ((L2.cD X vars scope cl C s₀ H₀ ex pn).bu EE) e (S6 E (run pg k) X.K ma) from(h3.C5 (A.cD vars scope cl C s₀ H₀ ex pn hp)).h)⟩) hG.gk hs⟩,Hk s1 hG.sg wC fun ρ h H e σ Q s r o=>⟨ρ,h,e,s,r,o⟩⟩⟩
theorem zm(vars:List Str)(i:Nat)(hkind:scope.kind= .function)(hlc:eF scope.names X.env.scope.names X.N vars=true)(hN:X.N.Nodup)(hiy:X.N[i]?=UU y)(hy:Loc X.env.scope y)(hi:HY X pg k E tg iter mI)
  (hb: ∀ cl C s₀ H₀ ex pn EE,(cm X.dw pg k->QG (P3.nb X vars scope cl C s₀ H₀ ex pn) tg tG)/\JF (P3.nb X vars scope cl C s₀ H₀ ex pn) pg k ifs mt/\oy ((L2.cD X vars scope cl C s₀ H₀ ex pn).bu EE) pg k E e ma) (hG:GC X.K X.N.length tG g)
  (hsw:WI (.ListComp e [⟨tg,iter,ifs,0⟩] scope pos) (UU (.Name y py)) spos.line X.env=pure true:=by rfl) (hs: ∀ x,VH iter X.env x=pure x:=by intro _;rfl)
  (hf:X.fn y=true\/X.env.scope.names.lookup y=UU .local:=by first | exact .inl rfl | exact .inr rfl | assumption) :
  zI X pg k E (.Assign [.Name y py] (.ListComp e [⟨tg,iter,ifs,0⟩] scope pos) spos) (aA (fg vars.length mI (nG g) (nT mt) ma) (gN i)):=⟨λA =>
 let ⟨_,q1,s1⟩:=hi.h A
 ⟨_,⟨pK vars i A.a.calm A.pc A.own hkind hlc hN hiy hy q1.h (λcl C s₀ H₀ ex pn EE hp=>let ⟨h1,h2,h3⟩:=hb cl C s₀ H₀ ex pn EE;⟨PG.up (X:=(L2.cD X vars scope cl C s₀ H₀ ex pn).bu EE) (h1 A.a).h,PF.up (X:=(L2.cD X vars scope cl C s₀ H₀ ex pn).bu EE) (t:=NC (run pg k) X.K mt) (show PF (P3.nb X vars scope cl C s₀ H₀ ex pn) ifs (NC (run pg k) X.K mt) from(h2.C5 (A.a.cD vars scope cl C s₀ H₀ ex pn)).h),(show PE ((L2.cD X vars scope cl C s₀ H₀ ex pn).bu EE) e (S6 E (run pg k) X.K ma) from(h3.C5 (A.cD vars scope cl C s₀ H₀ ex pn hp)).h)⟩) hG.gk hsw hs hf⟩,
  rq (ma:=fg vars.length mI (nG g) (nT mt) ma) (f:=λe v h1=>(gN i v e h1).bind λe1 h2=> .ok (.nx e1) h2) (rr:=λv H1 σ D=>D.nx (σ.set i (UU v)) H1) (Hk s1 hG.sg wC fun ρ h H e σ Q s r o=>⟨ρ,h,e,s,r,o⟩) fun ρ h H v v' e σ D sm r rv o=>o _ ρ H (.refl _ _) sm (r.set i rv)⟩⟩
end
section
variable{X:Cx}{pg:Tb}{k:Nat}{E:XK}{e iter:VN}{ma:ME}{mt:MT}{mI:MI}{scope:YD}{ifs:List VN}{pos spos vp py:Pos}{v y:Str}{i m:Nat}
theorem Lu(hi:HY X pg k E (.Name v vp) iter mI)
  (hb: ∀ cl C s₀ H₀ ex pn EE,(cm X.dw pg k->QG (nb X [v] scope cl C s₀ H₀ ex pn) (.Name v vp) (dz m))/\JF (nb X [v] scope cl C s₀ H₀ ex pn) pg k ifs mt/\oy ((L2.cD X [v] scope cl C s₀ H₀ ex pn).bu EE) pg k E e ma)
  (hm:aap X.N.length m=true:=by rfl) (hkind:scope.kind= .function:=by rfl) (hlc:eF scope.names X.env.scope.names X.N [v]=true:=by rfl) (hs: ∀ x,VH iter X.env x=pure x:=by intro _;rfl) :
  oy X pg k E (.ListComp e [⟨.Name v vp,iter,ifs,0⟩] scope pos) (fg 1 mI (nG (gN m)) (nT mt) ma):=Ck [v] hkind hlc hi hb (GC.of hm) hs
theorem DM(hN:X.N.Nodup)(hi:HY X pg k E (.Name v vp) iter mI)
  (hb: ∀ cl C s₀ H₀ ex pn EE,(cm X.dw pg k->QG (nb X [v] scope cl C s₀ H₀ ex pn) (.Name v vp) (dz m))/\JF (nb X [v] scope cl C s₀ H₀ ex pn) pg k ifs mt/\oy ((L2.cD X [v] scope cl C s₀ H₀ ex pn).bu EE) pg k E e ma)
  (hm:aap X.N.length m=true:=by rfl) (hiy:X.N[i]?=UU y:=by rfl) (hy:Loc X.env.scope y:=by first | exact YZ rfl | exact Yq rfl) (hkind:scope.kind= .function:=by rfl) (hlc:eF scope.names X.env.scope.names X.N [v]=true:=by rfl)
  (hsw:WI (.ListComp e [⟨.Name v vp,iter,ifs,0⟩] scope pos) (UU (.Name y py)) spos.line X.env=pure true:=by rfl) (hs: ∀ x,VH iter X.env x=pure x:=by intro _;rfl)
  (hf:X.fn y=true\/X.env.scope.names.lookup y=UU .local:=by first | exact .inl rfl | exact .inr rfl | assumption) :
  zI X pg k E (.Assign [.Name y py] (.ListComp e [⟨.Name v vp,iter,ifs,0⟩] scope pos) spos) (aA (fg 1 mI (nG (gN m)) (nT mt) ma) (gN i)):=zm [v] i hkind hlc hN hiy hy hi hb (GC.of hm) hsw hs hf
end
noncomputable def Fl.Mn(i:Nat):Fl->Fl
 | .nx e=> .nx (e.set i UX)
 | .bk e=> .bk (e.set i UX)
 | .ct e=> .ct (e.set i UX)
 | .rt v=> .rt v
def Ao(tab:List Nat)(i n:Nat)(mb mh:MS):MS:=λc e h=>match mb c e h with
 | .ok f h'=> .ok f h'
 | .ex C us h'=>if C∈tab then(mh c ((U8 n UX).set i (UU (.ref h'.length))) (h'++[.exc C us])).bind λf h2=> .ok (f.Mn i) h2 else .no
 | .no=> .no
structure OH(K:UW)(mg:Str->Option U1)(cn:Str)(L:Nat)(tab:List Nat):Prop where
 gl:mg cn=UU (.ref L)
 sup:FJ K L
 sub: ∀ C∈tab,Wq K C (.ref L)=UU true
section
variable{X:Cx}{pg:Tb}{k:Nat}{cn n:Str}{L i:Nat}{tab:List Nat}{body suite:List WV}{b₀ :WV}{np hpos pos:Pos}{mb mh:MS}
theorem cg.Mn{K:UW}{ρ :List U9}{H:Hp}{e:aM}{σ :L2.St}(r:cg K ρ H e σ)(i:Nat):cg K ρ H (e.set i UX) (σ.set i UX):=by
 refine⟨by simp[r.len],λj v q=>?_⟩;by_cases z:j=i
 . subst z;rcases X7 j e.length with y | y
   . rw[VL y] at q;cases q
   . rw[XC (by simpa using y)] at q;cases q
 . rw[Vp (Xf z)] at q;obtain⟨v',a,b⟩:=r.get j v q;exact⟨v',by rw[Vp (Xf z)];exact a,b⟩
theorem Dj(Z:OH X.K X.mg cn L tab)(hN:X.N.Nodup)(hb: ∀ pn EE E,nu (oV X pn EE) pg k E body mb)(hh: ∃ t,(∀ x,Cr (hand X x) (b₀ ::suite) t)/\ ∀ c,SS c X.K t mh)
  (hl0:X.stack=X.env::X.outer:=by rfl) (hf0:X.env.frame=UU X.env.locals:=by rfl) (hi:X.N[i]?=UU n:=by rfl) (hk:X.env.kindOf n=UU .local:=by rfl) (hg:Gl X cn:=by rfl) (hdb:(cn == ("__debug__" :Str))=false:=by decide) :
  JS X pg k (.Try body [.ExceptHandler (UU (.Name cn np)) (UU n) (b₀ ::suite) hpos] [] [] pos) (Ao tab i X.N.length mb mh):=⟨λA=>by
 obtain⟨th,qh,sh⟩:=hh
 let tb:XK->TS:=λE D σ H=> ∃ ρ h e,cj X.K ρ h H/\cg X.K ρ H e σ /\gi X.K ρ H D E (mb (run pg k) e h)
 refine⟨_,⟨El (tb:=tb) hl0 hf0 hN hi hk hg Z.gl Z.sup (λx=>(qh x).h) (λpn EE E pc _=>?_) hdb⟩,fun ρ h H e σ D f h' s r q P=>?_⟩
 . have ax:pe (oV X pn EE) pg k E:=⟨⟨A.room,A.calm,λ_ _ z=>z,A.defs,A.blt,A.con,A.sd,A.ct,A.mt⟩,pc,.inr ⟨X.env,X.outer,X.env.locals,hl0,hf0,hf0⟩⟩
   obtain⟨t,qt,st⟩:=(hb pn EE E).h ax;exact λpins s σ H D I ⟨ρ,h,e,sm,r,o⟩=>qt.h pins s σ H D I (st ρ h H e σ D sm r o)
 . unfold Ao at q;cases z:mb (run pg k) e h with
   | no=>rw[z] at q;nomatch q
   | ok f0 h0 =>
    rw[z] at q
    cases q
    exact⟨E0,⟨ρ,h,e,s,r,by rw[z];exact P⟩,λ_ _ _ w=>w.elim⟩
   | ex C us h0 =>
    rw[z] at q
    dsimp only at q
    split at q
    . rename_i ht;refine ⟨λcv dv H'=> ∃ dx od fws ρ',cv= .ref C∧dv=UU dx∧Gr ρ H ρ' H'∧cj X.K ρ' h0 H'∧H' dx=UU (.ef od (.xd fws))∧Ws (λ(p:Str × PV) (q:Str × V)=>p.1=q.1∧rel X.K ρ' H' p.2 q.2) us fws,⟨ρ,h,e,s,r,by rw [z];exact λdx od fws ρ' H' g s' hd pr=>⟨dx,od,fws, ρ',rfl,rfl,g,s',hd,pr⟩⟩,?_⟩;rintro _ _ H' ⟨dx,od,fws, ρ',rfl,rfl,g,s',hd,pr⟩;refine ⟨C,dx,od,fws,rfl,rfl,Z.sub C ht,hd,λx oe av hx c1 c2 c3=>?_⟩;obtain ⟨f1,h1,e1,q1⟩:=bind_eq.mp q;cases q1;have gx:Gr ρ' H' (ρ'++[x]) (upd H' x (.ef oe (.ext λ_=>True))):=Gr.new hx [x];have sx:cj X.K (ρ'++[x]) (h0++[.exc C us]) (upd H' x (.ef oe (.ext λ_=>True))):=s'.new hx ⟨fws,⟨oe,dx,od,av,bb,c1,c2,c3,by rw[aw (aq hd hx)];exact hd⟩,Paired.gD gx pr⟩;have rx:cg X.K (ρ'++[x]) (upd H' x (.ef oe (.ext λ_=>True))) ((U8 X.N.length UX).set i (UU (.ref h0.length))) ((U8 X.N.length UX).set i (UU (.ref x))):=by
       refine cg.set ⟨by simp,λj v e=>?_⟩ i ?_
       . rw[WJ] at e;split at e<;>cases e
       . rw[rel];exact⟨x,by rw[<- s'.len];simp,rfl⟩
      refine sh (run pg k) _ _ _ _ _ _ _ _ sx rx e1 ?_;have P':=P.gr (g.trans gx);cases f1 with
      | nx e2=>exact fun σ2 ρ2 H2 g2 s2 r2=>P' _ ρ2 H2 g2 s2 (r2.Mn i)
      | bk e2=>exact fun σ2 ρ2 H2 g2 s2 r2=>P' _ ρ2 H2 g2 s2 (r2.Mn i)
      | ct e2=>exact fun σ2 ρ2 H2 g2 s2 r2=>P' _ ρ2 H2 g2 s2 (r2.Mn i)
      | rt v=>exact P'
    . nomatch q⟩
end
def j4(tab:List (Nat × Bool))(v:PV)(h:PH):RV PV:=match v with
 | .ref n=>(match h[n]? with
  | some (.exc C _)=>(match tab.lookup C with
   | some b=> .ok (.bl b) h
   | none=> .no)
  | _=> .no)
 | _=> .no
def IE(tab:List Nat)(f:Str)(v:PV)(h:PH):RV PV:=match v with
 | .ref n=>(match h[n]? with
  | some (.exc C fs)=>if C∈tab then(match fs.lookup f with
   | some y=> .ok y h
   | none=> .no) else .no
  | _=> .no)
 | _=> .no
def zJ(K:UW)(tab:List (Nat × Bool))(cs:List U1):Prop:= ∀ C b,tab.lookup C=UU b->Pb K C/\WG K (.ref C) cs=UU b
def RX(K:UW)(tab:List Nat)(f:Str):Prop:= ∀ C∈tab,jO K C/\Vw K (.ref C) f=UU UX
section
variable{c:CF}{K:UW}{ta:TE}{ma:ME}{tab:List (Nat × Bool)}{tb:List Nat}{cv:V}{cval:U1}{cvs:List V}{cs:List U1}{f:Str}
theorem AR{ρ :List U9}{H:Hp}{h:PH}{n C:Nat}{fs:List (Str × PV)}{v':V}(s:cj K ρ h H)(e:h[n]?=UU (.exc C fs))(r:rel K ρ H (.ref n) v'): ∃ x fws,v'= .ref x/\Pl H x C fws/\RF K ρ H fs fws:=by
 rw[rel] at r;obtain⟨a,ea,rfl⟩:=r;obtain⟨fws,t,p⟩:=s.ob n _ a e ea;exact⟨a,fws,rfl,t,p⟩
theorem Aw{ρ :List U9}{H:Hp}{h h':PH}{v w:PV}{v':V}(hk:zJ K tab cs)(s:cj K ρ h H)(r:rel K ρ H v v')(q:j4 tab v h= .ok w h'): ∃ b,w= .bl b/\h'=h/\Kd K H cs v' b:=by
 unfold j4 at q;split at q
 . split at q
   . rename_i n _ C fs e;split at q
     . rename_i b l;cases q;obtain⟨x,fws,rfl,t,p⟩:=AR s e r;obtain⟨h1,h2⟩:=hk C b l;exact⟨b,rfl,rfl,x,C,fws,rfl,t,h1,h2⟩
     . nomatch q
   . nomatch q
 . nomatch q
theorem v8(s1:SE c K ta ma)(hk:zJ K tab [cval]):SE c K (F6 (Qa K cv cval) (kJ ta (kJ (tC cv) uC))) (jV (j4 tab) ma):=fun ρ h H e σ Q v h' s r q P=>by
 obtain⟨x,h1,e1,q⟩:=bind_eq.mp q;refine s1 ρ h H e σ _ x h1 s r e1 λx' ρ1 H1 g1 z1 r1=>?_;obtain⟨b,rfl,rfl,a⟩:=Aw hk z1 r1 q;exact⟨x',b,rfl,a,P _ ρ1 H1 g1 z1 (by rw[rel])⟩
noncomputable def TK(vs:List V):TA:=λ_ H Q=>Q vs H
theorem Gz(s1:SE c K ta ma)(hk:zJ K tab cs)(hl:cvs.length<=Vj):SE c K (F6 (Hv K cvs cs) (kJ ta (kJ (F9 (TK cvs)) uC))) (jV (j4 tab) ma):=fun ρ h H e σ Q v h' s r q P=>by
 obtain⟨x,h1,e1,q⟩:=bind_eq.mp q;refine s1 ρ h H e σ _ x h1 s r e1 λx' ρ1 H1 g1 z1 r1=>⟨hl,λp hp=>?_⟩
 have g2:Gr ρ1 H1 ρ1 (upd H1 p (.tup cvs)):=Gr.kF hp;obtain⟨b,rfl,rfl,a⟩:=Aw hk (z1.tup (o:= .tup cvs) hp) (rel.gr g2 _ _ r1) q;exact⟨x',p,b,rfl,bb,a,P _ ρ1 _ (g1.trans g2) (z1.tup hp) (by rw[rel])⟩
theorem Gj(s1:SE c K ta ma)(hk:RX K tb f):SE c K (HV K ta f) (jV (IE tb f) ma):=fun ρ h H e σ Q v h' s r q P=>by
 obtain⟨x,h1,e1,q⟩:=bind_eq.mp q;refine s1 ρ h H e σ _ x h1 s r e1 λx' ρ1 H1 g1 z1 r1=>?_;unfold IE at q;split at q
 . split at q
   . rename_i n _ C fs e;split at q
     . rename_i hm;split at q
       . rename_i y l;cases q;obtain⟨a,fws,rfl,t,p⟩:=AR z1 e r1;obtain⟨y',l1,l2⟩:=(RF.look p).1 _ l;exact⟨a,C,fws,y',rfl,t,(hk C hm).1,(hk C hm).2,l1,P y' ρ1 H1 g1 z1 l2⟩
       . nomatch q
     . nomatch q
   . nomatch q
 . nomatch q
theorem Mr{i:Nat}:SE c K (yj i) (aa i):=fun ρ h H e σ Q v h' s r q P=>by
 unfold aa at q;split at q
 . cases q;obtain⟨v',e1,e2⟩:=r.get i v (by assumption);exact⟨v',e1,P v' ρ H (.refl _ _) s e2⟩
 . nomatch q
theorem K5:SA c K uC aj:=fun ρ h H e σ Q v h' s r q P=>by cases q;exact P [] ρ H (.refl _ _) s (bG.mpr rfl)
theorem FP{tr:TA}{mr:MA}(s1:SE c K ta ma)(s2:SA c K tr mr):SA c K (kJ ta tr) (ae ma mr):=fun ρ h H e σ Q v h' s r q P=>by
 obtain⟨x,h1,e1,q⟩:=bind_eq.mp q;obtain⟨xs,h2,e2,q⟩:=bind_eq.mp q;cases q;refine s1 ρ h H e σ _ _ _ s r e1 λx' ρ1 H1 g1 z1 r1=>?_;refine s2 ρ1 h1 H1 e σ _ _ _ z1 (r.gr g1) e2 λus ρ2 H2 g2 z2 r2=>?_;exact P _ ρ2 H2 (g1.trans g2) z2 (aD.mpr ⟨x',us,rfl,rel.gr g2 _ _ r1,r2⟩)
theorem Mx{tr:TA}{mr:MA}(s1:SA c K tr mr):SE c K (F9 tr) (cU mr):=fun ρ h H e σ Q v h' s r q P=>by
 obtain⟨xs,h1,e1,q⟩:=bind_eq.mp q;obtain⟨hl,q⟩:=gR.mp q;cases q;refine s1 ρ h H e σ _ _ _ s r e1 λus ρ1 H1 g1 z1 r1=>⟨by rw[<- r1.len];exact hl,λp hp=>?_⟩
 refine P _ ρ1 _ (g1.trans (Gr.kF hp)) (z1.tup hp) ?_;rw[rel];exact⟨p,us,rfl,bb,ak.gr (Gr.kF hp) _ _ r1⟩
theorem Ku{j:Nat}(s1:SE c K ta ma):SS c K (Ab ta (dz j)) (aA ma (gN j)):=fun ρ h H e σ D f h' s r q P=>by
 obtain⟨v,h1,e1,q⟩:=bind_eq.mp q;obtain⟨e2,h2,e3,q⟩:=bind_eq.mp q;cases q;cases e3;exact s1 ρ h H e σ _ v _ s r e1 λv' ρ1 H1 g1 z1 r1=>P _ ρ1 H1 g1 z1 ((r.gr g1).set j r1)
end
structure uS(X:Cx)(e:VN)(m:ME):Prop where h: ∃ t,(∀ x,QE (hand X x) e t)/\ ∀ c,SE c X.K t m
structure Q2(X:Cx)(e:List VN)(m:MA):Prop where h: ∃ t,(∀ x,QA (hand X x) e t)/\ ∀ c,SA c X.K t m
structure Hm(X:Cx)(e:VN)(m:MT):Prop where h: ∃ t,(∀ x,QT (hand X x) e t)/\ ∀ c,ST c X.K t m
structure Ka(X:Cx)(e:VN)(m:MT):Prop where h: ∃ t,(∀ x,QW (hand X x) e t)/\ ∀ c,ST c X.K t m
structure Ox(X:Cx)(s:WV)(m:MS):Prop where h: ∃ t,(∀ x,QS (hand X x) s t)/\ ∀ c,SS c X.K t m
structure tJ(X:Cx)(s:List WV)(m:MS):Prop where h: ∃ t,(∀ x,Cr (hand X x) s t)/\ ∀ c,SS c X.K t m
section
variable{X:Cx}{e a b d:VN}{es:List VN}{ma mb:ME}{mr:MA}{mt mu:MT}{ms mv:MS}{pos p cp tp:Pos}{x f cn:Str}{st:WV}{rest:List WV}{tab:List (Nat × Bool)}{tb:List Nat}{C:Nat}{T:String}
theorem J8(i:Nat)(hN:X.N[i]?=UU x:=by rfl)(hv:Ic X.env.scope x:=by first | exact YZ rfl | exact Yq (YZ rfl))(hd:(x == ("__debug__" :Str))=false:=by decide)(hcd:(x == ("__classdict__" :Str))=false:=by decide):uS X (.Name x pos) (aa i):=⟨_,λ_=>⟨mR hN hv hd hcd⟩,λ_=>Mr⟩
theorem Nh{n:Str}{j:Nat}:uS X (.Constant (.str n) j pos) (eC (.str n)):=⟨_,λ_=>Aq,λ_=>vG fun ρ H=>by rw[rel]⟩
theorem Ey:Q2 X [] aj:=⟨_,λ_=>⟨jm⟩,λ_=>K5⟩
theorem zT(h1:uS X e ma)(h2:Q2 X es mr)(hs:noStar e=true:=by rfl):Q2 X (e::es) (ae ma mr):=let ⟨_,q1,s1⟩:=h1.h;let ⟨_,q2,s2⟩:=h2.h;⟨_,λx=>⟨dI (q1 x).h (q2 x).h (aR hs)⟩,λc=>FP (s1 c) (s2 c)⟩
theorem Jm{j:Nat}(h:Q2 X es mr):uS X (.Tuple es j pos) (cU mr):=let ⟨_,q,s⟩:=h.h;⟨_,λx=>vH (q x),λc=>Mx (s c)⟩
theorem Fu(hk:zJ X.K tab [.ref C])(hc:X.mg cn=UU (.ref C))(hm:X.mg "isinstance" =UX)(he:uS X e ma)(hg:Gl X "isinstance" :=by rfl)(hcn:Gl X cn:=by rfl)(hs:noStar e=true:=by rfl)(hdb:(cn == ("__debug__" :Str))=false:=by decide) :
  uS X (.Call (.Name "isinstance" p) [e,.Name cn cp] [] pos) (jV (j4 tab) ma):=let ⟨_,q,s⟩:=he.h
 ⟨_,λx=>⟨j2 (pL (cv:= .ref C) (λu r=>r)) hg hm ZS (dI (q x).h (dI (lW hcn hc (v:= .ref C) rfl hdb) jm) (aR hs)) (by decide) (by decide) (aR hs) rfl⟩,λc=>v8 (s c) hk⟩
theorem Dw(hk:zJ X.K tab [.type T])(hn:X.mg cn=UX)(hv:Wm cn=UU (.type T))(hm:X.mg "isinstance" =UX)(he:uS X e ma)(hg:Gl X "isinstance" :=by rfl)(hcn:Gl X cn:=by rfl)(hs:noStar e=true:=by rfl)(hdb:(cn == ("__debug__" :Str))=false:=by decide)(hnn:cn≠ "__name__" :=by decide) :
  uS X (.Call (.Name "isinstance" p) [e,.Name cn cp] [] pos) (jV (j4 tab) ma):=let ⟨_,q,s⟩:=he.h
 ⟨_,λx=>⟨j2 (pL (cv:= .ty T) (λu r=>r)) hg hm ZS (dI (q x).h (dI (wW hcn hn hv (v:= .ty T) rfl hnn hdb) jm) (aR hs)) (by decide) (by decide) (aR hs) rfl⟩,λc=>v8 (s c) hk⟩
def AV(X:Cx):List VN->List Nat->Prop
 | [],[]=>True
 | .Name n _::r,C::t=>Gl X n/\X.mg n=UU (.ref C)/\(n == ("__debug__" :Str))=false/\AV X r t
 | _,_=>False
theorem Bx{X:Cx}{y:Nat}: ∀{es:List VN}{Cs:List Nat},AV X es Cs->PA (hand X y) es (TK (Cs.map V.ref))
 | [],[],_=>jm
 | .Name n q::r,C::t,h=>dI (lW (X:=hand X y) (v:= .ref C) h.1 h.2.1 rfl h.2.2.1) (Bx h.2.2.2)
theorem pO: ∀{Cs:List Nat}{us:List U1},Vals (Cs.map V.ref) us->us=Cs.map Vo
 | [],_,.nil=>rfl
 | C::t,_,.cons r h=>by
  rw[pO h];cases(show _=Vo C from r);rfl
theorem GG{Cs:List Nat}{j:Nat}(hk:zJ X.K tab (Cs.map Vo))(hm:X.mg "isinstance" =UX)(hC:AV X es Cs)(hl:Cs.length<=Vj)(he:uS X e ma)(hg:Gl X "isinstance" :=by rfl)(hs:noStar e=true:=by rfl) :
  uS X (.Call (.Name "isinstance" p) [e,.Tuple es j tp] [] pos) (jV (j4 tab) ma):=let ⟨_,q,s⟩:=he.h
 ⟨_,λx=>⟨j2 (yt (λ_=>pO)) hg hm ZS (dI (q x).h (dI (BS (Bx hC)) jm) (aR hs)) (by decide) (by decide) (aR hs) rfl⟩,λc=>Gz (s c) hk (by simpa using hl)⟩
theorem Dl(hk:RX X.K tb f)(he:uS X e ma)(hb:Xq e f X.env (WT e X.env)=WT e X.env:=by rfl):uS X (.Attribute e f pos) (jV (IE tb f) ma):=let ⟨_,q,s⟩:=he.h;⟨_,λx=>⟨Dr (X:=hand X x) (q x).h hb⟩,λc=>Gj (s c) hk⟩
theorem EU(he:uS X e ma)(hw: ∀ whole,ab1 e X.env whole=(do let v <- whole;acj e.pos;ZD [v] (truthy v)):=by intro _;rfl):Hm X e (aC ma):=let ⟨_,q,s⟩:=he.h;⟨_,λx=>AM (X:=hand X x) (q x) hw,λc=>kf (s c)⟩
theorem G4(h:Hm X a mt):Hm X (.UnaryOp .Not a pos) (fB mt):=let ⟨_,q,s⟩:=h.h;⟨_,λx=>zL (q x),λc ρ h H e σ Q v h' sm r q P=>by
 obtain⟨x,h1,e1,q⟩:=bind_eq.mp q;cases q;exact s c ρ h H e σ _ _ _ sm r e1 fun ρ1 H1 g1 z1=>P ρ1 H1 g1 z1⟩
theorem Ff{r:List VN}(h1:Hm X a mt)(h2:Ka X (.BoolOp .And (b::r) pos) mu):Ka X (.BoolOp .And (a::b::r) pos) (iE mt mu):=let ⟨_,q1,s1⟩:=h1.h;let ⟨_,q2,s2⟩:=h2.h;⟨_,λx=>Cj (q1 x) (q2 x),λc ρ h H e σ Q v h' s r q P=>by
 obtain⟨x,h1,e1,q⟩:=bind_eq.mp q;refine s1 c ρ h H e σ _ _ _ s r e1 fun ρ1 H1 g1 z1=>?_;cases x with
 | true=>exact s2 c ρ1 _ H1 e σ _ _ _ z1 (r.gr g1) q (P.gr g1)
 | false=>cases q;exact P ρ1 H1 g1 z1⟩
theorem BW(h1:Hm X a mt):Ka X (.BoolOp .And [a] pos) mt:=let ⟨_,q1,s1⟩:=h1.h;⟨_,λx=>xD (q1 x),s1⟩
theorem Ka.pt(h:Ka X e mt):Hm X e mt:=let ⟨_,q,s⟩:=h.h;⟨_,λx=>(q x).pt,s⟩
theorem E5{j:Nat}{pos':Pos}(hN:X.N.Nodup)(he:uS X e ma)(hi:X.N[j]?=UU x:=by rfl)(hx:Loc X.env.scope x:=by first | exact YZ rfl | exact Yq rfl)(hs:WI e (UU (.Name x pos')) pos.line X.env=pure false:=by rfl)(hf:X.fn x=true\/X.env.scope.names.lookup x=UU .local:=by first | exact .inl rfl | exact .inr rfl) :
  Ox X (.Assign [.Name x pos'] e pos) (aA ma (gN j)):=let ⟨_,q,s⟩:=he.h;⟨_,λy=>vb (X:=hand X y) hN hi hx (q y) hs hf,λc=>Ku (s c)⟩
theorem Ki{A B:List WV}(hc:Hm X d mt)(ha:tJ X A ms)(hb:tJ X B mv):Ox X (.If d A B pos) (cE mt ms mv):=let ⟨_,q0,s0⟩:=hc.h;let ⟨_,q1,s1⟩:=ha.h;let ⟨_,q2,s2⟩:=hb.h;⟨_,λx=>Cd (q0 x) (q1 x) (q2 x),λc ρ h H e σ D f h' s r q P=>by
 obtain⟨x,h1,e1,q⟩:=bind_eq.mp q;refine s0 c ρ h H e σ _ _ _ s r e1 fun ρ1 H1 g1 z1=>?_;cases x with
 | true=>exact s1 c ρ1 _ H1 e σ _ _ _ z1 (r.gr g1) q (P.gr g1)
 | false=>exact s2 c ρ1 _ H1 e σ _ _ _ z1 (r.gr g1) q (P.gr g1)⟩
theorem CJ:tJ X [] dk:=⟨_,λ_=>qK,λ_=>He⟩
theorem C1(h:Ox X st ms):tJ X [st] ms:=let ⟨_,q,s⟩:=h.h;⟨_,λx=>qI (q x),s⟩
theorem xU(h1:Ox X st ms)(h2:tJ X rest mv):tJ X (st::rest) (ah ms mv):=let ⟨_,q1,s1⟩:=h1.h;let ⟨_,q2,s2⟩:=h2.h;⟨_,λx=>nF (q1 x) (q2 x),λc=>Bb (s1 c) (s2 c)⟩
end
theorem jC{K:UW}{C:U9}(h1:(aau K C).any (λcd=>Cf cd.mro)=true)(h2:Ze K C=true)(h3:Wq K C (.type "object")=UU true)(h4:Wq K C (.type "BaseException")=UU true)(h5:Vw K (.ref C) "__setattr__" =UU (UU (.builtin "object.__setattr__")))(h6:Vw K (.ref C) "__getattribute__" =UU (UU (.builtin "BaseException.__getattribute__")))(h7:Vw K (.ref C) "__getattr__" =UU UX):jO K C :=
 ⟨let ⟨cd,a,b⟩:=Yy h1;⟨cd,a,b⟩,h2,h3,h4,h5,h6,h7⟩
theorem Kz{P:VE}{w:VY}{K:UW}{mg:Str->Option U1}{xn:Str}{C:U9}{names N ps:List Str}{fn:String}{st:WV}(c:jO K C)(mk:iX K C=true)(kp:Wh K (.ref C)=true)(gl:mg xn=UU (.ref C))(na: ∀ f∈names,Vw K (.ref C) f=UU UX)(M:RD K C "__init__" fn st)(S:bO N ps (ag st))
  (hb: ∀(kV doc pm:U1)(an:Option U9)(cdv ct:U1)(us:List U1),us.length=ps.length->W8 (VX "__init__" (U0 fn) (br st) (aE st) (ag st) .none kV doc pm an cdv ct) ⟨us,[]⟩=pure (ps.zip us))
  (hl:names.length+1=ps.length) (hs: ∀ f base cdv A outer s H x,Ws (λst' (g:Str × Nat)=>Pg (C:=C) (NJ P w K mg base N (U0 fn) (ag st) f cdv A outer s H x) st' g.1 g.2) (aE st) (names.zipIdx 1)) (n0:names≠[]) (nd:names.Nodup) (nl:names.length < 1000):NB P w K mg xn C names :=
 let ⟨f,fd,F,m⟩:=M
 ⟨c,mk,kp,gl,na,⟨_,st,f,fd,N,ps,F,S,m.at_,beq_iff_eq.mp m.fn,hb,hl,hs f⟩,n0,nd,nl⟩
theorem rA{K:UW}{cs:List U1}:zJ K [] cs:=λ_ _ l=>nomatch l
theorem mN{K:UW}{C:Nat}{b:Bool}{cs:List U1}{t:List (Nat × Bool)}(h:Pb K C)(k:WG K (.ref C) cs=UU b)(r:zJ K t cs):zJ K ((C,b)::t) cs:=λD d l=>by
 rw[Wz] at l;split at l
 . rename_i z;cases l;rw[beq_iff_eq.mp z];exact⟨h,k⟩
 . exact r D d l
theorem MV{K:UW}{C A:U9}{cd ca:ClassData}{dd d1 d2:Option U9}{sl s1 s2:Array (Option U1)}{c1 c2:U1}{es:Array acH}{n:Nat}{k0 k1 k2 k3 k5:Option U1}(l:K.lookup C=UU ⟨.type "type",dd,.cls cd,sl⟩)(la:K.lookup A=UU ⟨c1,d1,.cls ca,s1⟩)(ln:K.lookup ca.ns=UU ⟨c2,d2,.dict es n,s2⟩)
  (hi:VZ K ca.ns "__init__" =UU UX) (hm:cd.mro= .ref C:: .ref A::CS) (hs:sl.toList=[k0,k1,k2,k3,UU (.builtin "ValueError.__new__"),k5]) (hd:cd.hasDel=false) (hk:(es.toList.all λe=>match e.key with | .str _ _=>true | _=>false)=true):iX K C=true:=by
 have ok:adb K ca.ns=true:=by unfold adb;rw[ln];rw[Array.all_toList] at hk;exact hk
 have t:Zm K CS (.ref A::CS)=true:=by
  unfold Zm;simp only[la,ok,hi];have:Zm K CS CS=true:=by unfold CS Zm;simp
  simp[this]
 unfold iX;simp only[l,hm,hs,hd,t];simp
section
variable{c:CF}{e e1:aM}{h h1:PH}{a:ME}{t:MT}{r:MA}{x y v:PV}{s mb mh:MS}{i n C:Nat}{tab:List Nat}{us:List (Str × PV)}{α :Type}
theorem NV:nX a c e h=(a c e h).strip:=rfl
theorem PQ:nA r c e h=(r c e h).strip:=rfl
theorem N8:nS s c e h=(s c e h).strip:=rfl
theorem Pe:nT t c e h=(t c e h).strip:=rfl
theorem NN{m:MI}:nI m c e h=(m c e h).strip:=rfl
theorem Ha{m:MG}:nG m v e h=(m v e h).strip:=rfl
def Tv(f:List PV->PH->RV PV)(xs:List PV)(h:PH):RV PV:=(f xs h).strip
theorem OJ{f:List PV->PH->RV PV}:Nu f r c e h=(r c e h).bind (Tv f):=rfl
theorem Iv{f:List PV->PH->RV PV}{xs:List PV}:Tv f xs h=(f xs h).strip:=rfl
noncomputable def RZ(C:Nat)(names:List Str)(vs:List PV)(h1:PH):RV Fl:=if vs.length=names.length then .ex C (names.zip vs) h1 else .no
theorem Q8{names:List Str}:dA C names r c e h=(r c e h).bind (RZ C names):=rfl
theorem Ma{f:Str}:RZ C [f] [v] h= .ex C [(f,v)] h:=(rfl)
theorem K7{f g:Str}:RZ C [f,g] [x,v] h= .ex C [(f,x),(g,v)] h:=(rfl)
def CG(tab:List Nat)(i n:Nat)(mh:MS)(c:CF)(r:RV Fl):RV Fl:=match r with
 | .ok f h'=> .ok f h'
 | .ex C us h'=>if C∈tab then(mh c ((U8 n UX).set i (UU (.ref h'.length))) (h'++[.exc C us])).bind λf h2=> .ok (f.Mn i) h2 else .no
 | .no=> .no
theorem K4:Ao tab i n mb mh c e h=CG tab i n mh c (mb c e h):=by unfold Ao CG;rfl
theorem FY{f:Fl}:CG tab i n mh c (.ok f h)= .ok f h:=(rfl)
def Kh(i:Nat)(f:Fl)(h2:PH):RV Fl:= .ok (f.Mn i) h2
theorem DO(m:C∈tab):CG tab i n mh c (.ex C us h)=(mh c ((U8 n UX).set i (UU (.ref h.length))) (h++[.exc C us])).bind (Kh i):=if_pos m
theorem Gb:Kh i (.nx e) h= .ok (.nx (e.set i UX)) h:=(rfl)
theorem DQ:Kh i (.rt v) h= .ok (.rt v) h:=(rfl)
theorem AN{b:Bool}{t:List (Nat × Bool)}(q:h[n]?=UU (.exc C us))(l:t.lookup C=UU b):j4 t (.ref n) h= .ok (.bl b) h:=by unfold j4;simp only[q,l]
theorem Oi{f:Str}(q:h[n]?=UU (.exc C us))(m:C∈tab)(l:us.lookup f=UU y):IE tab f (.ref n) h= .ok y h:=by unfold IE;simp only[q,l,m,if_true]
end
def rn(a:Str)(n:Nat):Str:=⟨(U8 n a.cps).foldl (· ++ ·) #[]⟩
def NP:R2:=λx y H Q=> ∃ a n,x= .str a/\y= .int n/\2<=n/\n<=1000/\1<=a.length/\a.length<=1000/\(rn a n.toNat).length<=16777216/\Q (.str (rn a n.toNat)) H
theorem DZ{X:Cx}:cI X (Wv .Mult) NP:=by
 intro pins s σ H x y v u Q I rx ry h;obtain⟨a,n,rfl,rfl,h1,h2,h3,h4,h5,q⟩:=h;obtain⟨t,rfl⟩:=rx;obtain⟨t',rfl⟩:=ry;have n1:(n == 1||a.length == 0)=false:=by
  rw[aby];exact⟨by rw[beq_eq_false_iff_ne];omega,by rw[beq_eq_false_iff_ne];omega⟩
 have le:a.length*n.toNat<=1000*1000:=Nat.mul_le_mul h4 (by omega);refine PySem.P.mul_str ?_ (λ_ _=>?_) (λ_ _=>?_) ?_
 . rw[aby];exact⟨decide_eq_false (by omega),decide_eq_false (by omega)⟩
 . have:(1000:Int)<=(2 ^ 63 - 1) / n:=by
    rw[Int.le_ediv_iff_mul_le (by omega)];omega
   omega
 . unfold Builtin.Str.tooLong;exact decide_eq_false (by show ¬ 16777216 < _;omega)
 . rw[if_neg (by omega),n1,if_neg Vr];exact⟨h5,.str (rn a n.toNat),H,I.tok _,⟨_,rfl⟩,q⟩
def lq:PV->PV->PH->RV PV:=λx y h=>match x,y with
 | .str a,.int n=>if 2<=n/\n<=1000/\1<=a.length/\a.length<=1000/\(rn a n.toNat).length<=16777216 then .ok (.str (rn a n.toNat)) h else .no
 | _,_=> .no
section
variable{X:Cx}{pg:Tb}{k:Nat}
theorem KJ:cm X pg k-> ∃ r,cI X (Wv .Mult) r/\ke X.K r lq:=λ_=>⟨_,DZ,fun ρ h H x y x' y' Q v h' s rx ry q P=>by
 unfold lq at q;split at q
 . split at q
   . rename_i hc;cases q;rw[rel] at rx;rw[rel] at ry;exact⟨_,_,rx,ry,hc.1,hc.2.1,hc.2.2.1,hc.2.2.2.1,hc.2.2.2.2,P _ ρ H (.refl _ _) s (by rw[rel])⟩
   . nomatch q
 . nomatch q⟩
end
end P3
end
section
open PySem PySem.W PyProof.Rows
set_option maxHeartbeats 5000000
namespace K72
open PySem L2 P3 PyProof.Rows
noncomputable def top(i:Nat):Stmt:=PySem.Challenge.pw_leastrecord_k72_papers_as_lines.main.body.getD i (.Pass ⟨0,0,0,0⟩)
def OQ(i j:Nat):WV:=(Ei (top i)).getD j (.Pass ⟨0,0,0,0⟩)
noncomputable def dP:List (Key × PV):=[(.inr "let",(.ktup [(.str "pocket"),(.str "sum")])),(.inr "leap",(.ktup [(.str "target"),(.str "sum")])),(.inr "get",(.ktup [(.str "pocket"),(.str "box")])),(.inr "put",(.ktup [(.str "box"),(.str "sum")])),(.inr "take",(.ktup [(.str "lock")])),(.inr "free",(.ktup [(.str "lock")])),(.inr "send",(.ktup [(.str "lane"),(.str "sum")])),(.inr "fetch",(.ktup [(.str "pocket"),(.str "lane")])),(.inr "say",(.ktup [(.str "door"),(.str "sum")])),(.inr "clock",(.ktup [(.str "pocket")])),(.inr "lot",(.ktup [(.str "pocket"),(.str "chances")])),(.inr "hear",(.ktup [(.str "pocket"),(.str "door")]))]
noncomputable def dO:List (Key × PV):=[(.inr "add",(.int 2)),(.inr "sub",(.int 2)),(.inr "mul",(.int 2)),(.inr "less",(.int 2)),(.inr "same",(.int 2)),(.inr "not",(.int 1))]
noncomputable def dB:List (Key × PV):=[(.inr "get",(.str "box")),(.inr "put",(.str "box")),(.inr "take",(.str "lock")),(.inr "free",(.str "lock")),(.inr "send",(.str "lane")),(.inr "fetch",(.str "lane")),(.inr "say",(.str "door"))]
def qg:MS :=
  (aK (O6 (ay kZ (aa 0) (eC (.ktup [(.str "box"),(.str "lock"),(.str "lane"),(.str "door"),(.str "hand")]))) (O6 (uR false dP (aa 0)) (uR false dO (aa 0)))))
def iM:Df:=⟨["text"],0,qg⟩
def iN:MS :=
  (ah (cE (rF (fB (aC (eB lO (ae (aa 0) (ae (eC (.ty "str")) aj))))) (fB (aC (jk HM HM (eI 1) (eB aP (a1 (aa 0))) (eI 8))))) (aK (eC (.bl false))) dk)
  (aK (uo (eB vh (ae (fg 1 (iY (aa 0)) (gN 1) bf (ay kZ (aa 1) (eS "abcdefghijklmnopqrstuvwxyz"))) aj)) (Nb (ai "is_word" (a1 (aa 0)))))))
def fc:Df:=⟨["thing"],0,iN⟩
def bP:MS :=
  (ah (cE (rF (mQ (aa 0) (eS "")) (rF (aC (ay HE (eB aP (a1 (aa 0))) (eB aP (ae (eB el (a1 (aa 2))) aj)))) (fB (aC (eB vh (ae (fg 1 (iY (aa 0)) (gN 3) bf (ay kZ (aa 3) (eS "0123456789"))) aj)))))) (aK (eC (.bl false))) dk)
  (aK (uo (ay fZ (eB el (ae (eB dh (a1 (aa 0))) aj)) (aa 0)) (jk HM HM (aa 1) (eB dh (a1 (aa 0))) (aa 2)))))
def bj:Df:=⟨["word", "least", "most"],0,bP⟩
def pC:MS :=
  (aK (eM dX aJ (eS " ") (ae (ay aF (bh (a1 (aa 0))) (fg 1 (iY (aa 1)) (gN 2) bf (ai "shown_number" (a1 (aa 2))))) aj)))
def iP:Df:=⟨["word", "numbers"],0,pC⟩
def fA:MS :=
  (aK (yZ (aC (jV (nO false) (aa 0))) (eS "-") (eB el (a1 (aa 0)))))
def cJ:Df:=⟨["number"],0,fA⟩
def dq(aNoLines:Nat):MS :=
  (ah (cE (nT (aC (ay fZ (aa 1) (eB aP (a1 (aa 0)))))) (dA aNoLines ["row"] (nA (a1 (aa 1)))) dk)
  (ah (nS (aA (eM cV aJ (ay ck (aa 0) (aa 1)) (a1 (eS " "))) (gN 3)))
  (ah (cE (nT (aC (ay gG (eX 3 0) (aa 2)))) (dA aNoLines ["row"] (nA (a1 (aa 1)))) dk)
  (nS (aK (de (aa 3) (aB (eI 1)) aI))))))
def b9(aNoLines:Nat):Df:=⟨["lines", "row", "word"],1,dq aNoLines⟩
def iw(aNoLines:Nat):MS :=
  (ah (cE (nT (fB (aC (ai "writes_number" (a3 (aa 0) (eI 0) (eI 9999999999999999999999999999999999999999)))))) (dA aNoLines ["row"] (nA (a1 (aa 1)))) dk)
  (nS (aK (eB dh (a1 (aa 0))))))
def dS(aNoLines:Nat):Df:=⟨["word", "row"],0,iw aNoLines⟩
def cQ:MS :=
  (aK (yZ (nT (mQ (aa 0) (eS "-"))) (nX (eC .non)) (ai "number_in" (nA (a2 (aa 0) (aa 1))))))
def bL:Df:=⟨["word", "row"],0,cQ⟩
def ja:MS :=
  (ah (aA (bh (ae (ai "line_of" (ae (eS "paper") (ae (bh (ae (eB aP (a1 (eX 0 1))) aj)) aj))) (ae (ai "line_of" (a2 (eS "order") (eX 0 0))) aj))) (gN 1))
  (ah (gL (Bk (eX 0 1) (eX 0 2)) (gT 2 (cA (gN 2) (cA (gN 3) ia))) (ah (bM (eM az aO (aa 1) (a1 (eS "hand"))))
  (bM (eM iU aO (aa 1) (ae (fg 2 (Bk (aa 2) (aa 3)) (gT 2 (cA (gN 4) (cA (gN 5) ia))) bf (ai "touch_line" (a2 (aa 4) (aa 5)))) aj)))))
  (aK (aa 1))))
def dM:Df:=⟨["paper"],3,ja⟩
def gH:MS :=
  (ah (aA (bh (ae (eX 0 0) (ae (yZ (mQ (eX 0 1) (eS "")) (eS "-") (eX 0 1)) (ae (ai "shown_number" (a1 (eX 0 2))) (ae (ai "shown_mark" (a1 (eX 0 3))) aj))))) (gN 2))
  (aK (ai "line_of" (ae (eM dX aJ (eS " ") (a1 (aa 2))) (a1 (aa 1))))))
def di:Df:=⟨["look", "claim"],1,gH⟩
def eL:MS :=
  (ah (cE (aC (eB lO (ae (aa 0) (ae (eC (.ty "tuple")) aj)))) (aK (eM dX aJ (eS ".") (ae (fg 1 (iY (aa 0)) (gN 1) bf (eB el (a1 (aa 1)))) aj))) dk)
  (aK (ai "shown_number" (a1 (aa 0)))))
def cS:Df:=⟨["mark"],0,eL⟩
def cB(aNoLines:Nat):MS :=
  (ah (aA (ai "read_many" (nA (a1 (aa 0)))) (gN 1))
  (ah (aA (Nu aH (ae (fg 1 (iY (ai "words_behind" (nA (a3 (aa 0) (eI 1) (eS "order"))))) (nG (gN 7)) (nT bf) (ai "number_in" (nA (a2 (aa 7) (eI 1))))) aj)) (gN 2))
  (ah (nS (aA (bh aj) (gN 3)))
  (ah (nS (aA (bh aj) (gN 4)))
  (ah (gL (nI (l8 (ae (eI 2) (ae (eB aP (a1 (aa 0))) aj)))) (nG (gN 5)) (cE (nT (iE (aC (ay fZ (ay ck (aa 0) (aa 5)) (eS "hand"))) (aC (ay zq (eB aP (a1 (aa 3))) (aa 1))))) (ah (nS (bM (eM az aO (aa 3) (a1 (bh aj)))))
  (nS (bM (eM az aO (aa 4) (a1 (bh aj)))))) (ah (aA (ai "touch_words" (nA (ae (aa 0) (ae (aa 5) (ae (eB aP (a1 (aa 3))) (a1 (aa 1))))))) (gN 6))
  (ah (bM (Jx az aO (ay ck (aa 3) (jV jW (eI 1))) (ae (ai "read_look" (nA (ae (de (aa 6) aI (aB (eI 4))) (a1 (aa 5))))) aj)))
  (bM (Jx az aO (ay ck (aa 4) (jV jW (eI 1))) (ae (Nu aH (ae (fg 1 (nI (iY (de (aa 6) (aB (eI 4)) aI))) (nG (gN 7)) (nT bf) (ai "number_in" (nA (a2 (aa 7) (aa 5))))) aj)) aj)))))))
  (ah (cE (nT (aC (ay zq (eB aP (a1 (aa 3))) (aa 1)))) (dA aNoLines ["row"] (nA (ae (eB aP (a1 (aa 0))) aj))) dk)
  (nS (aK (cU (ae (aa 2) (ae (eB aH (ae (fg 1 (iY (aa 3)) (gN 7) bf (eB aH (a1 (aa 7)))) aj)) (ae (eB aH (ae (fg 1 (iY (aa 4)) (gN 7) bf (eB aH (a1 (aa 7)))) aj)) aj))))))))))))
def bH(aNoLines:Nat):Df:=⟨["lines"],6,cB aNoLines⟩
def cM(aNoLines:Nat):MS :=
  (ah (aA (fg 1 (iY (ai "words_behind" (nA (a3 (aa 0) (eI 0) (eS "paper"))))) (nG (gN 2)) (nT bf) (ai "number_in" (nA (a2 (aa 2) (eI 0))))) (gN 1))
  (ah (cE (nT (rF (aC (ay gG (eB aP (a1 (aa 1))) (eI 1))) (fB (aC (jk HM HM (eI 1) (eX 1 0) (eI 4)))))) (dA aNoLines ["row"] (nA (a1 (eI 0)))) dk)
  (nS (aK (eX 1 0)))))
def bS(aNoLines:Nat):Df:=⟨["lines"],1,cM aNoLines⟩
def dH(aNoLines:Nat):MS :=
  (ah (nS (aA (eM cV aJ (ay ck (aa 0) (aa 1)) (a1 (eS " "))) (gN 4)))
  (ah (cE (nT (rF (mQ (aa 2) (eI 0)) (aC (ay gG (eB aP (a1 (aa 4))) (ay aF (eI 4) (aa 3)))))) (dA aNoLines ["row"] (nA (a1 (aa 1)))) dk)
  (nS (aK (aa 4)))))
def cF(aNoLines:Nat):Df:=⟨["lines", "row", "begun", "many"],1,dH aNoLines⟩
def fQ(aNoLines:Nat):MS :=
  (ah (cE (nT (iE (aC (uR true dB (eX 0 0))) (aC (ay b6 (eX 0 0) (eC (.ktup [(.str "clock"),(.str "lot"),(.str "hear")])))))) (dA aNoLines ["row"] (nA (a1 (aa 1)))) dk)
  (ah (cE (nT (iE (aC (ay gG (eX 0 1) (eS "-"))) (fB (aC (ai "is_name" (a1 (eX 0 1))))))) (dA aNoLines ["row"] (nA (a1 (aa 1)))) dk)
  (ah (nS (aA (yZ (mQ (eX 0 1) (eS "-")) (eS "") (eX 0 1)) (gN 2)))
  (aK (cU (ae (nX (eX 0 0)) (ae (nX (aa 2)) (ae (ai "number_or_none" (nA (a2 (eX 0 2) (aa 1)))) (ae (ai "read_mark" (nA (a2 (eX 0 3) (aa 1)))) aj)))))))))
def c7(aNoLines:Nat):Df:=⟨["words", "row"],1,fQ aNoLines⟩
def da:MS :=
  (ah (nS (aA (eM cV aJ (aa 0) (a1 (eS "."))) (gN 2)))
  (ah (cE (nT (aC (ay fZ (eB aP (a1 (aa 2))) (eI 2)))) (aK (Nu aH (ae (fg 1 (nI (iY (aa 2))) (nG (gN 3)) (nT bf) (ai "number_in" (nA (a2 (aa 3) (aa 1))))) aj))) dk)
  (aK (ai "number_or_none" (nA (a2 (aa 0) (aa 1)))))))
def cq:Df:=⟨["word", "row"],1,da⟩
def lu:MS :=
  (aK (bh (ae (ay aF (eB jg (ae (de (aa 0) aI (aB (eI 63))) aj)) (ay gY (bh (a1 (eI 0))) (eB dh (ae (ay fZ (eB aP (a1 (aa 0))) (eI 0)) aj)))) (a3 (aa 1) (eI 0) (eI 0)))))
def fO:Df:=⟨["_law_script", "_law_at"],0,lu⟩
def fR:MS :=
  (ah (lK jj (aa 0) (eI 3) (ay aF (eX 0 3) (eI 1)))
  (ah (cE (mQ (eX 0 2) (eI 0)) (ah (aA (ay ck (eX 0 0) (ay oM (eX 0 1) (eB aP (a1 (eX 0 0))))) (gN 2))
  (ah (lK jj (aa 0) (eI 1) (ay aF (eX 0 1) (eI 1)))
  (ah (cE (aC (ay zq (aa 2) (ay Ai (eI 10) (eI 18)))) (ah (aA (ay oM (ay gY (ay aF (ay oM (aa 2) (eI 2147483629)) (ay gY (eI 1009) (eX 0 3))) (eI 48271)) (eI 2147483647)) (gN 3))
  (ah (aA (ay oM (ay gY (ay aF (ay kC (aa 3) (eI 11)) (ay gY (eI 31) (eX 0 3))) (eI 69621)) (eI 2147483587)) (gN 3))
  (aK (ay oM (ay kC (aa 3) (eI 7)) (aa 1))))) dk)
  (lK jj (aa 0) (eI 2) (aa 2))))) dk)
  (ah (aA (ay oM (eX 0 2) (aa 1)) (gN 4))
  (ah (lK jj (aa 0) (eI 2) (ay kC (eX 0 2) (aa 1)))
  (aK (aa 4))))))
def dc:Df:=⟨["_law_feed_here", "_law_many"],3,fR⟩
def fV:MS :=
  (ah (aA (ai "_law_take" (a2 (aa 0) (eI 12))) (gN 1))
  (ah (cE (mQ (aa 1) (eI 0)) (aK (ay Dz (ay Dz (ay Ai (eI 10) (eI 40)) (eI 1)) (ai "_law_take" (a2 (aa 0) (eI 1000))))) dk)
  (aK (ay ck (bh (ae (eI 0) (ae (eI 1) (ae (eI 2) (ae (eI 9) (a3 (eI 10) (eI 60) (eI 101))))))) (ay oM (aa 1) (eI 7))))))
def cX:Df:=⟨["_law_feed_here"],1,fV⟩
def jZ:MS :=
  (aK (bh (ae (eS "get") (ae (eS "put") (ae (eS "take") (ae (eS "free") (ae (eS "send") (ae (eS "fetch") (ae (eS "say") (a3 (eS "clock") (eS "lot") (eS "hear")))))))))))
def eP:Df:=⟨[],0,jZ⟩
def kN:MS :=
  (ah (aA (ay ck (bh (ae (eS "") (ae (eS "a") (ae (eS "ab") (a3 (eS "gets") (eS "abcdefgh") (eS "h")))))) (ai "_law_take" (a2 (aa 0) (eI 6)))) (gN 1))
  (ah (aA (ay ck (bh (ae (ai "_law_number" (a1 (aa 0))) (a1 (eC .non)))) (eB dh (ae (ay fZ (ai "_law_take" (a2 (aa 0) (eI 3))) (eI 0)) aj))) (gN 2))
  (ah (aA (cU (ae (ai "_law_number" (a1 (aa 0))) (ae (ai "_law_number" (a1 (aa 0))) aj))) (gN 3))
  (ah (aA (ay ck (bh (a3 (eC .non) (eX 3 0) (aa 3))) (ai "_law_take" (a2 (aa 0) (eI 3)))) (gN 4))
  (aK (cU (ae (ay ck (ai "_law_kinds" aj) (ai "_law_take" (a2 (aa 0) (eI 10)))) (a3 (aa 1) (aa 2) (aa 4)))))))))
def fL:Df:=⟨["_law_feed_here"],4,kN⟩
def j3:MS :=
  (ah (aA (ay aF (eI 1) (ai "_law_take" (a2 (aa 0) (eI 4)))) (gN 1))
  (ah (aA (bh aj) (gN 2))
  (ah (aA (bh aj) (gN 3))
  (ah (gL (bJ (a1 (aa 1))) (gN 4) (ah (aA (ai "_law_take" (a2 (aa 0) (eI 4))) (gN 5))
  (ah (bM (eM az aO (aa 2) (ae (eB aH (ae (fg 1 (bJ (a1 (aa 5))) (gN 9) bf (ai "_law_look" (a1 (aa 0)))) aj)) aj)))
  (ah (aA (bh aj) (gN 6))
  (ah (gL (bJ (a1 (aa 5))) (gN 7) (bM (eM az aO (aa 6) (ae (eB aH (ae (fg 1 (bJ (a1 (aa 1))) (gN 9) bf (ai "_law_number" (a1 (aa 0)))) aj)) aj))))
  (bM (eM az aO (aa 3) (ae (eB aH (a1 (aa 6))) aj))))))))
  (ah (aA (eB aH (ae (fg 1 (bJ (ae (ai "_law_take" (a2 (aa 0) (eI 5))) aj)) (gN 9) bf (ai "_law_number" (a1 (aa 0)))) aj)) (gN 8))
  (aK (cU (ae (aa 8) (ae (eB aH (a1 (aa 2))) (ae (eB aH (a1 (aa 3))) aj))))))))))
def eR:Df:=⟨["_law_feed_here"],8,j3⟩
def cP:MS :=
  (ah (cE (rF (aC (jV (nO false) (aa 0))) (mQ (aa 0) (eS ""))) (aK (eS "-")) dk)
  (ah (cE (aC (eB lO (ae (aa 0) (ae (eC (.ty "tuple")) aj)))) (aK (ay aF (ay aF (eB el (a1 (eX 0 0))) (eS ".")) (eB el (a1 (eX 0 1))))) dk)
  (aK (yZ (aC (eB lO (ae (aa 0) (ae (eC (.ty "str")) aj)))) (aa 0) (eB el (a1 (aa 0)))))))
def bT:Df:=⟨["_law_value"],0,cP⟩
def jT:MS :=
  (ah (aA (bh (ae (ay aF (eS "paper ") (eB el (ae (eB aP (a1 (eX 0 1))) aj))) (a1 (eS "order")))) (gN 1))
  (ah (gL (iY (eX 0 0)) (gN 2) (lK jj (aa 1) (eI 1) (ay aF (ay aF (eX 1 1) (eS " ")) (eB el (a1 (aa 2))))))
  (ah (gL (bJ (ae (eB aP (a1 (eX 0 1))) aj)) (gN 2) (ah (bM (eM az aO (aa 1) (a1 (eS "hand"))))
  (gL (bJ (ae (eB aP (ae (ay ck (eX 0 1) (aa 2)) aj)) aj)) (gN 3) (ah (aA (ay aF (ay ck (ay ck (eX 0 1) (aa 2)) (aa 3)) (ay ck (ay ck (eX 0 2) (aa 2)) (aa 3))) (gN 4))
  (bM (eM az aO (aa 1) (ae (eM dX aJ (eS " ") (ae (fg 1 (iY (aa 4)) (gN 5) bf (ai "_law_shown" (a1 (aa 5)))) aj)) aj)))))))
  (aK (aa 1)))))
def eU:Df:=⟨["_law_paper_here"],4,jT⟩
def bD:MS :=
  (ah (cE (rF (mQ (aa 0) (eS "")) (aC (ay HE (eB aP (a1 (aa 0))) (eI 40)))) (aK (eC (.bl false))) dk)
  (ah (cE (aC (ay gG (fg 1 (iY (aa 0)) (gN 1) (aC (ay b6 (aa 1) (eS "0123456789"))) (aa 1)) (bh aj))) (aK (eC (.bl false))) dk)
  (aK (O6 (ay fZ (aa 0) (eS "0")) (ay gG (eX 0 0) (eS "0"))))))
def aV:Df:=⟨["_law_word_here"],0,bD⟩
def bZ:MS :=
  (ah (aA (bh (ae (eS "let") (ae (eS "leap") (ae (eS "add") (ae (eS "sub") (ae (eS "mul") (a3 (eS "less") (eS "same") (eS "not")))))))) (gN 1))
  (ah (aA (ay aF (aa 1) (bh (ae (eS "box") (ae (eS "lock") (a3 (eS "lane") (eS "door") (eS "hand")))))) (gN 1))
  (ah (cE (rF (aC (ay zq (eB aP (a1 (aa 0))) (eI 1))) (rF (aC (ay HE (eB aP (a1 (aa 0))) (eI 8))) (rF (aC (ay kZ (aa 0) (aa 1))) (aC (ay kZ (aa 0) (ai "_law_kinds" aj)))))) (aK (eC (.bl false))) dk)
  (aK (ay fZ (eB aP (ae (fg 1 (iY (aa 0)) (gN 2) (aC (ay b6 (aa 2) (eS "abcdefghijklmnopqrstuvwxyz"))) (aa 2)) aj)) (eI 0))))))
def bw:Df:=⟨["_law_word_here"],1,bZ⟩
def dZ:MS :=
  (ah (cE (rF (aC (ay gG (eB aP (a1 (aa 0))) (ay aF (eI 4) (aa 1)))) (aC (ay b6 (eX 0 0) (ai "_law_kinds" aj)))) (aK (eC (.bl false))) dk)
  (ah (cE (iE (aC (ay gG (eX 0 1) (eS "-"))) (fB (aC (ai "_law_is_name" (a1 (eX 0 1)))))) (aK (eC (.bl false))) dk)
  (ah (cE (iE (aC (ay gG (eX 0 2) (eS "-"))) (fB (aC (ai "_law_is_figures" (a1 (eX 0 2)))))) (aK (eC (.bl false))) dk)
  (ah (aA (eM cV aJ (eX 0 3) (a1 (eS "."))) (gN 2))
  (ah (aA (fg 1 (iY (aa 2)) (gN 4) (fB (aC (ai "_law_is_figures" (a1 (aa 4))))) (aa 4)) (gN 3))
  (ah (cE (rF (aC (ay HE (eB aP (a1 (aa 2))) (eI 2))) (iE (aC (ay gG (eX 0 3) (eS "-"))) (aC (ay gG (aa 3) (bh aj))))) (aK (eC (.bl false))) dk)
  (aK (ay fZ (fg 1 (iY (de (aa 0) (aB (eI 4)) aI)) (gN 4) (fB (aC (ai "_law_is_figures" (a1 (aa 4))))) (aa 4)) (bh aj)))))))))
def cC:Df:=⟨["_law_words", "_law_hands"],2,dZ⟩
def bg:MS :=
  (ah (cE (mQ (aa 0) (eI 0)) (aK (uo (ay fZ (eB aP (a1 (aa 1))) (eI 2)) (uo (ay fZ (eX 1 0) (eS "paper")) (ay kZ (eX 1 1) (cU (ae (eS "1") (a3 (eS "2") (eS "3") (eS "4")))))))) dk)
  (ah (cE (mQ (aa 0) (eI 1)) (ah (aA (fg 1 (iY (de (aa 1) (aB (eI 1)) aI)) (gN 5) (fB (aC (ai "_law_is_figures" (a1 (aa 5))))) (aa 5)) (gN 4))
  (aK (uo (ay fZ (eX 1 0) (eS "order")) (ay fZ (aa 4) (bh aj))))) dk)
  (ah (cE (aC (ay fZ (aa 1) (bh (a1 (eS "hand"))))) (aK (ay zq (aa 3) (aa 2))) dk)
  (aK (uo (ay HE (aa 3) (eI 0)) (ai "_law_is_touch" (a2 (aa 1) (aa 2))))))))
def aT:Df:=⟨["_law_row", "_law_words", "_law_hands", "_law_begun"],1,bg⟩
def iR:MS :=
  (ah (cE (mQ (aa 0) (eS "-")) (aK (eC .non)) dk)
  (ah (aA (fg 1 (iY (eM cV aJ (aa 0) (a1 (eS ".")))) (gN 2) bf (eB dh (a1 (aa 2)))) (gN 1))
  (aK (yZ (aC (ay fZ (eB aP (a1 (aa 1))) (eI 1))) (eX 1 0) (cU (a2 (eX 1 0) (eX 1 1)))))))
def eV:Df:=⟨["_law_word_here"],1,iR⟩
def dQ:MS :=
  (ah (aA (eI 0) (gN 1))
  (ah (aA (cU aj) (gN 2))
  (ah (aA (bh aj) (gN 3))
  (ah (aA (bh aj) (gN 4))
  (ah (gL (bJ (ae (eB aP (a1 (aa 0))) aj)) (gN 5) (ah (aA (eM cV aJ (ay ck (aa 0) (aa 5)) (a1 (eS " "))) (gN 6))
  (ah (cE (fB (aC (ai "_law_stands" (ae (aa 5) (ae (aa 6) (ae (aa 1) (ae (eB aP (a1 (aa 3))) aj))))))) (aK (cU (a2 (eS "row") (aa 5)))) dk)
  (cE (mQ (aa 5) (eI 0)) (aA (eB dh (a1 (eX 6 1))) (gN 1)) (cE (mQ (aa 5) (eI 1)) (aA (eB aH (ae (fg 1 (iY (de (aa 6) (aB (eI 1)) aI)) (gN 9) bf (eB dh (a1 (aa 9)))) aj)) (gN 2)) (cE (aC (ay fZ (aa 6) (bh (a1 (eS "hand"))))) (ah (bM (eM az aO (aa 3) (a1 (cU aj))))
  (bM (eM az aO (aa 4) (a1 (cU aj))))) (ah (aA (yZ (aC (ay gG (eX 6 1) (eS "-"))) (eX 6 1) (eS "")) (gN 7))
  (ah (aA (cU (ae (eX 6 0) (ae (aa 7) (ae (ai "_law_in" (a1 (eX 6 2))) (ae (ai "_law_in" (a1 (eX 6 3))) aj))))) (gN 8))
  (ah (lK jj (aa 3) (jV jW (eI 1)) (ay aF (ay ck (aa 3) (jV jW (eI 1))) (cU (a1 (aa 8)))))
  (lK jj (aa 4) (jV jW (eI 1)) (ay aF (ay ck (aa 4) (jV jW (eI 1))) (cU (ae (eB aH (ae (fg 1 (iY (de (aa 6) (aB (eI 4)) aI)) (gN 9) bf (eB dh (a1 (aa 9)))) aj)) aj)))))))))))))
  (ah (cE (rF (aC (ay zq (eB aP (a1 (aa 0))) (eI 2))) (aC (ay zq (eB aP (a1 (aa 3))) (aa 1)))) (aK (cU (ae (eS "row") (ae (eB aP (a1 (aa 0))) aj)))) dk)
  (aK (cU (ae (eS "paper") (ae (cU (ae (aa 2) (ae (eB aH (a1 (aa 3))) (ae (eB aH (a1 (aa 4))) aj)))) aj))))))))))
def bA:Df:=⟨["_law_lines_here"],8,dQ⟩
def ij(aNoLines:Nat):MS :=
  (ah (Ao [aNoLines] 2 4 (aA (cU (ae (nX (eS "paper")) (ae (ai "read_paper" (nA (a1 (aa 0)))) aj))) (gN 1))
  (ah (aA (eS "other") (gN 1))
  (ah (aA (jV (j4 [(aNoLines,false)]) (aa 2)) (gN 3))
  (cE (iE (aC (jV (j4 [(aNoLines,true)]) (aa 2))) (iE (fB (aC (aa 3))) (aC (jV (j4 [(aNoLines,true)]) (aa 2))))) (aA (cU (ae (eS "row") (ae (jV (IE [aNoLines] "row") (aa 2)) aj))) (gN 1)) dk))))
  (aK (aa 1)))
def dR(aNoLines:Nat):Df:=⟨["_law_lines_here"],3,ij aNoLines⟩
def kP:MS :=
  (ah (aA (bh (ae (eS "-") (ae (eS "") (ae (eS "0") (ae (eS "00") (ae (eS "+1") (ae (eS "1.0") (ae (eS "1.") (ae (eS ".1") (ae (eS "1.2.3") (ae (eS "01.2") (ae (eS "1_0") (ae (eS "7") (ae (ay lq (eS "9") (eI 40)) aj)))))))))))))) (gN 1))
  (ah (aA (ay aF (aa 1) (bh (ae (ay lq (eS "9") (eI 41)) (a2 (eS "paper") (eS "order"))))) (gN 1))
  (ah (aA (ay aF (aa 1) (bh (ae (eS "hand") (ae (eS "get") (ae (eS "lot") (ae (eS "let") (ae (eS "a") (ae (eS "A") (ae (eS "abcdefghi") (a3 (eS "5") (eS "-1") (eS "-.1"))))))))))) (gN 1))
  (aK (ay ck (aa 1) (ai "_law_take" (a2 (aa 0) (eI 26))))))))
def fM:Df:=⟨["_law_feed_here"],1,kP⟩
def kL:MS :=
  (ah (aA (ai "_law_take" (ae (aa 0) (ae (ay aF (eB aP (a1 (aa 1))) (eI 1)) aj))) (gN 2))
  (ah (aA (ai "_law_take" (a2 (aa 0) (eI 9))) (gN 3))
  (ah (cE (mQ (aa 3) (eI 0)) (aK (ay aF (de (aa 1) aI (aB (aa 2))) (de (aa 1) (aB (ay aF (aa 2) (eI 1))) aI))) dk)
  (ah (cE (mQ (aa 3) (eI 1)) (aK (ay aF (ay aF (de (aa 1) aI (aB (aa 2))) (de (aa 1) (aB (aa 2)) (aB (ay aF (aa 2) (eI 1))))) (de (aa 1) (aB (aa 2)) aI))) dk)
  (ah (cE (mQ (aa 3) (eI 2)) (aK (ay aF (de (aa 1) (aB (aa 2)) aI) (de (aa 1) aI (aB (aa 2))))) dk)
  (ah (cE (mQ (aa 3) (eI 3)) (aK (ay aF (ay aF (de (aa 1) aI (aB (aa 2))) (bh (ae (ai "_law_word" (a1 (aa 0))) aj))) (de (aa 1) (aB (aa 2)) aI))) dk)
  (ah (cE (aC (ay fZ (aa 2) (eB aP (a1 (aa 1))))) (aK (aa 1)) dk)
  (ah (aA (eM cV aJ (ay ck (aa 1) (aa 2)) (a1 (eS " "))) (gN 4))
  (ah (aA (ai "_law_take" (ae (aa 0) (ae (ay aF (eB aP (a1 (aa 4))) (eI 1)) aj))) (gN 5))
  (ah (cE (aC (ay zq (aa 3) (eI 6))) (aA (ay aF (ay aF (de (aa 4) aI (aB (aa 5))) (bh (ae (ai "_law_word" (a1 (aa 0))) aj))) (de (aa 4) (aB (ay aF (aa 5) (eI 1))) aI)) (gN 4)) (cE (mQ (aa 3) (eI 6)) (aA (ay aF (de (aa 4) aI (aB (aa 5))) (de (aa 4) (aB (ay aF (aa 5) (eI 1))) aI)) (gN 4)) (cE (mQ (aa 3) (eI 7)) (aA (ay aF (ay aF (de (aa 4) aI (aB (aa 5))) (bh (ae (ai "_law_word" (a1 (aa 0))) aj))) (de (aa 4) (aB (aa 5)) aI)) (gN 4)) (aA (ay aF (ay aF (de (aa 4) aI (aB (aa 5))) (bh (a1 (eS "")))) (de (aa 4) (aB (aa 5)) aI)) (gN 4)))))
  (aK (ay aF (ay aF (de (aa 1) aI (aB (aa 2))) (bh (ae (eM dX aJ (eS " ") (a1 (aa 4))) aj))) (de (aa 1) (aB (ay aF (aa 2) (eI 1))) aI)))))))))))))
def bU:Df:=⟨["_law_feed_here", "_law_lines_here"],4,kL⟩
def HB:MS :=
  (ah (aA (ai "_law_feed" (a2 (aa 0) (eI 0))) (gN 1))
  (ah (gL (bJ (a1 (eI 3))) (gN 2) (ah (aA (ai "_law_paper" (a1 (aa 1))) (gN 3))
  (ah (aA (ai "paper_lines" (a1 (aa 3))) (gN 4))
  (ah (cE (aC (ay gG (eB bt (a1 (aa 4))) (eB bt (ae (ai "_law_lines" (a1 (aa 3))) aj)))) (aK (eC (.bl false))) dk)
  (ah (gL (bJ (a1 (eI 8))) (gN 5) (ah (aA (eB jg (a1 (aa 4))) (gN 6))
  (ah (gL (bJ (ae (ay ck (bh (ae (eI 0) (ae (eI 1) (ae (eI 1) (ae (eI 2) (ae (eI 1) (a3 (eI 1) (eI 2) (eI 1)))))))) (aa 5)) aj)) (gN 7) (aA (ai "_law_bent" (a2 (aa 1) (aa 6))) (gN 6)))
  (ah (aA (eB jg (a1 (aa 6))) (gN 8))
  (cE (rF (aC (ay gG (eB bt (ae (ai "_law_told" (a1 (aa 6))) aj)) (eB bt (ae (ai "_law_read" (a1 (aa 8))) aj)))) (aC (ay gG (aa 6) (aa 8)))) (aK (eC (.bl false))) dk)))))
  (ah (bM (eM az aO (aa 4) (a1 (eS "hand"))))
  (cE (aC (ay gG (eB bt (ae (ai "paper_lines" (a1 (aa 3))) aj)) (eB bt (ae (ai "_law_lines" (a1 (aa 3))) aj)))) (aK (eC (.bl false))) dk)))))))
  (aK (ay fZ (eB bt (ae (ai "_law_told" (a1 (bh aj))) aj)) (eB bt (ae (cU (a2 (eS "row") (eI 0))) aj))))))
def xB:Df:=⟨["_law_script"],8,HB⟩
structure XF(P:VE)(w:VY)(K:UW)(mg:Str->Option U1)(aNoLines aLeastError aNoCut aNoFit aNoPaper aNoProgram aNoRow:Nat):Prop where
 NA:NB P w K mg "NoLines" aNoLines ["row"]
 FC:OH K mg "LeastError" aLeastError [aNoLines]
 US:zJ K [(aNoLines,false)] (abv Vo [aNoCut,aNoFit,aNoPaper,aNoProgram,aNoRow])
 UR:zJ K [(aNoLines,true)] [.ref aNoLines]
 UO:zJ K [(aNoLines,true)] [.type "ValueError"]
 RS:mg "NoCut" =UU (.ref aNoCut)
 Ry:mg "NoFit" =UU (.ref aNoFit)
 Nq:mg "NoPaper" =UU (.ref aNoPaper)
 Ie:mg "NoProgram" =UU (.ref aNoProgram)
 RT:mg "NoRow" =UU (.ref aNoRow)
 Nx:mg "NoLines" =UU (.ref aNoLines)
 FQ:mg "ValueError" =UX
 GR:mg "isinstance" =UX
 S9:RX K [aNoLines] "row"
structure cN(aNoLines:Nat)(pg:Tb):Prop where
 yL:pg.fns "is_word" =UU iM
 xP:pg.fns "is_name" =UU fc
 lI:pg.fns "writes_number" =UU bj
 yK:pg.fns "line_of" =UU iP
 nM:pg.fns "shown_number" =UU cJ
 mV:pg.fns "words_behind" =UU (b9 aNoLines)
 se:pg.fns "number_in" =UU (dS aNoLines)
 kD:pg.fns "number_or_none" =UU bL
 o6:pg.fns "paper_lines" =UU dM
 qo:pg.fns "touch_line" =UU di
 qZ:pg.fns "shown_mark" =UU cS
 qu:pg.fns "read_paper" =UU (bH aNoLines)
 um:pg.fns "read_many" =UU (bS aNoLines)
 oA:pg.fns "touch_words" =UU (cF aNoLines)
 uk:pg.fns "read_look" =UU (c7 aNoLines)
 tF:pg.fns "read_mark" =UU cq
 sO:pg.fns "_law_feed" =UU fO
 iq:pg.fns "_law_take" =UU dc
 i6:pg.fns "_law_number" =UU cX
 qp:pg.fns "_law_kinds" =UU eP
 ue:pg.fns "_law_look" =UU fL
 rH:pg.fns "_law_paper" =UU eR
 eQ:pg.fns "_law_shown" =UU bT
 qq:pg.fns "_law_lines" =UU eU
 jI:pg.fns "_law_is_figures" =UU aV
 nH:pg.fns "_law_is_name" =UU bw
 lJ:pg.fns "_law_is_touch" =UU cC
 pd:pg.fns "_law_stands" =UU aT
 yQ:pg.fns "_law_in" =UU eV
 ua:pg.fns "_law_read" =UU bA
 uB:pg.fns "_law_told" =UU (dR aNoLines)
 sV:pg.fns "_law_word" =UU fM
 c8:pg.fns "_law_bent" =UU bU
 HQ:pg.fns "law" =UU xB
 Ro:pg.con "SORTS" =UU (.ktup [(.str "box"),(.str "lock"),(.str "lane"),(.str "door"),(.str "hand")])
 NH:pg.con "LETTERS" =UU (.str "abcdefghijklmnopqrstuvwxyz")
 Ap:pg.con "LONGEST_NAME" =UU (.int 8)
 y8:pg.con "MOST_OF_A_SORT" =UU (.int 4)
 Nz:pg.con "FIGURES" =UU (.str "0123456789")
 Dg:pg.con "MOST_NUMBER" =UU (.int 9999999999999999999999999999999999999999)
 O2:pg.con "GIFTED" =UU (.ktup [(.str "clock"),(.str "lot"),(.str "hear")])
 GO:pg.con "LOOK_WORDS" =UU (.int 4)
 dP:pg.sd "ROW_PARTS" =UU dP
 dO:pg.sd "SUM_PARTS" =UU dO
 dB:pg.sd "MET_SORT" =UU dB
 fD:pg.rz=λf=>["number_in", "number_or_none", "read_look", "read_many", "read_mark", "read_paper", "touch_words", "words_behind"].contains f
def fnT(aNoLines:Nat):List (String × Df):=[("is_word",iM),("is_name",fc),("writes_number",bj),("line_of",iP),("shown_number",cJ),("words_behind",b9 aNoLines),("number_in",dS aNoLines),("number_or_none",bL),("paper_lines",dM),("touch_line",di),("shown_mark",cS),("read_paper",bH aNoLines),("read_many",bS aNoLines),("touch_words",cF aNoLines),("read_look",c7 aNoLines),("read_mark",cq),("_law_feed",fO),("_law_take",dc),("_law_number",cX),("_law_kinds",eP),("_law_look",fL),("_law_paper",eR),("_law_shown",bT),("_law_lines",eU),("_law_is_figures",aV),("_law_is_name",bw),("_law_is_touch",cC),("_law_stands",aT),("_law_in",eV),("_law_read",bA),("_law_told",dR aNoLines),("_law_word",fM),("_law_bent",bU),("law",xB)]
noncomputable def conT:List (Str × PV):=[("SORTS",(.ktup [(.str "box"),(.str "lock"),(.str "lane"),(.str "door"),(.str "hand")])),("LETTERS",(.str "abcdefghijklmnopqrstuvwxyz")),("LONGEST_NAME",(.int 8)),("MOST_OF_A_SORT",(.int 4)),("FIGURES",(.str "0123456789")),("MOST_NUMBER",(.int 9999999999999999999999999999999999999999)),("GIFTED",(.ktup [(.str "clock"),(.str "lot"),(.str "hear")])),("LOOK_WORDS",(.int 4))]
def dcT:List (Str × List (Key × PV)):=[("ROW_PARTS",dP),("SUM_PARTS",dO),("MET_SORT",dB)]
def tb(aNoLines:Nat):Tb:=⟨λf=>((fnT aNoLines).find? λp=>p.1 == f).map (·.2),λx=>(conT.find? λp=>decide (p.1=x)).map (·.2),λx=>(dcT.find? λp=>decide (p.1=x)).map (·.2),λ_=>UX,λ_=>UX,λ_=>UX,λf=>["number_in", "number_or_none", "read_look", "read_many", "read_mark", "read_paper", "touch_words", "words_behind"].contains f⟩
theorem bC{l:List (String × Df)}(nd:(l.map (·.1)).Nodup)(i:Nat)(e:l[i]?=UU (f,d)):(l.find? λp=>p.1 == f).map (·.2)=UU d:=by
 induction l generalizing i d with
 | nil=>cases e
 | cons x l ih =>
  rw[U2,YR] at nd
  cases i with
  | zero =>
   simp_all
  | succ i =>
   rw[List.getElem?_cons_succ] at e
   have m:=VU e
   have ne: ¬ (x.1 == f)=true:=λz=>nd.1 (by rw [beq_iff_eq.mp z];exact WA.mpr ⟨_,m,rfl⟩)
   rw [aa2 (p:=λp:String × Df=>p.1 == f) ne]
   exact ih nd.2 i e
theorem bB(aNoLines:Nat):((fnT aNoLines).map (·.1)).Nodup:=by show (["is_word", "is_name", "writes_number", "line_of", "shown_number", "words_behind", "number_in", "number_or_none", "paper_lines", "touch_line", "shown_mark", "read_paper", "read_many", "touch_words", "read_look", "read_mark", "_law_feed", "_law_take", "_law_number", "_law_kinds", "_law_look", "_law_paper", "_law_shown", "_law_lines", "_law_is_figures", "_law_is_name", "_law_is_touch", "_law_stands", "_law_in", "_law_read", "_law_told", "_law_word", "_law_bent", "law"]:List String).Nodup;decide +kernel
theorem has(aNoLines:Nat):cN aNoLines (tb aNoLines):=⟨bC (bB aNoLines) 0 rfl,bC (bB aNoLines) 1 rfl,bC (bB aNoLines) 2 rfl,bC (bB aNoLines) 3 rfl,bC (bB aNoLines) 4 rfl,bC (bB aNoLines) 5 rfl,bC (bB aNoLines) 6 rfl,bC (bB aNoLines) 7 rfl,bC (bB aNoLines) 8 rfl,bC (bB aNoLines) 9 rfl,bC (bB aNoLines) 10 rfl,bC (bB aNoLines) 11 rfl,bC (bB aNoLines) 12 rfl,bC (bB aNoLines) 13 rfl,bC (bB aNoLines) 14 rfl,bC (bB aNoLines) 15 rfl,bC (bB aNoLines) 16 rfl,bC (bB aNoLines) 17 rfl,bC (bB aNoLines) 18 rfl,bC (bB aNoLines) 19 rfl,bC (bB aNoLines) 20 rfl,bC (bB aNoLines) 21 rfl,bC (bB aNoLines) 22 rfl,bC (bB aNoLines) 23 rfl,bC (bB aNoLines) 24 rfl,bC (bB aNoLines) 25 rfl,bC (bB aNoLines) 26 rfl,bC (bB aNoLines) 27 rfl,bC (bB aNoLines) 28 rfl,bC (bB aNoLines) 29 rfl,bC (bB aNoLines) 30 rfl,bC (bB aNoLines) 31 rfl,bC (bB aNoLines) 32 rfl,bC (bB aNoLines) 33 rfl,rfl,rfl,rfl,rfl,rfl,rfl,rfl,rfl,rfl,rfl,rfl,rfl⟩
local macro_rules
 | `(tactic| array_get_dec)=> `(tactic| repeat' first | (show oy _ _ _ _ _ _;first | refine jx ?_ | refine JR ?_ | refine Oa ?_ ?_ ?_ | refine GJ (by assumption) rfl ?_ | refine Lu ?_ (λ_ _ _ _ _ _ _=>⟨λ_=>?_,?_,?_⟩) | refine E9 AD rfl (by decide +kernel) boot_int ?_ | refine E9 xx rfl (by decide +kernel) boot_tuple ?_ | refine E9 BV rfl (by decide +kernel) boot_list ?_ | refine E9 BZ rfl (by decide +kernel) boot_str ?_ | refine E6 XZ aaz aaA tj ?_ ?_ | refine E6 XZ aaB aaC sF ?_ ?_ | refine E6 X9 aa3 aa4 m_split ?_ ?_ | refine E6 X9 abi abj BQ ?_ ?_) | (show GX _ _ _ _ _ _;first | refine UA ?_ | exact Es | refine Aj ?_ ?_) | (show HY _ _ _ _ _ _ _;first | refine UL ?_ | refine G0 ?_) | (show zI _ _ _ _ _ _;first | refine UJ ?_ | refine yA (by assumption) rfl ?_ | refine Ex ?_ | refine FO (by assumption) rfl (by first | exact YZ rfl | exact Yq rfl) ?_ | refine DM (by assumption) ?_ (λ_ _ _ _ _ _ _=>⟨λ_=>?_,?_,?_⟩) | refine Bn ?_ | refine JN ?_ ?_ ?_ | refine G8 ?_ ?_ ?_) | (show nu _ _ _ _ _ _;first | exact Bo | refine B0 ?_ | refine y6 ?_ ?_) | (show JS _ _ _ _ _;first | refine Dj (by assumption) (by assumption) (λ_ _ _=>?_) (tJ.h ?_) | refine Kx (by assumption) ?_ (λ_ _ _ _ _ _=>⟨λ_=>?_,?_,?_⟩) | refine Lb (by assumption) ?_ (λ_ _ _ _ _ _=>⟨λ_=>?_,?_,?_⟩) | refine KZ (by assumption) rfl (by first | exact YZ rfl | exact Yq rfl) ?_ | refine NT ?_ ?_ ?_ | refine LR ?_ | refine DB ?_ | refine KW OF ?_ ?_ ?_ | refine Ly ?_ ?_ ?_ PassesOwn.never) | (show uS _ _ _;first | exact J8 _ | exact Nh | refine Jm ?_ | refine Fu (by assumption) (by assumption) (by assumption) ?_ | refine Dw (by assumption) (by assumption) Boot.«ValueError» (by assumption) ?_ | refine GG (by assumption) (by assumption) (by repeat' first | exact trivial | refine Zz rfl (Zz (by assumption) (Zz (by decide) ?_))) (abh rfl) ?_ | refine Dl (by assumption) ?_) | (show Q2 _ _ _;first | exact Ey | refine zT ?_ ?_) | (show Ka _ _ _;first | refine Ff ?_ ?_ | refine BW ?_) | (show Hm _ _ _;first | refine G4 ?_ | refine EU ?_ | refine Ka.pt ?_) | (show Ox _ _ _;first | refine E5 (by assumption) ?_ | refine Ki ?_ ?_ ?_) | (show tJ _ _ _;first | exact CJ | refine C1 ?_ | refine xU ?_ ?_) | (show JE _ _ _ _ _;first | exact KU _ | exact KQ | exact Me | exact Mu | exact P5 | refine OZ S8 ?_ ?_ (λ_ _=>rfl) | refine FD (by assumption) rfl ?_ | exact B2 (by assumption) rfl | refine QX ?_ ?_ ?_ | refine LW ?_ | refine L6 ?_ | refine BK ?_ ?_ ?_ (CQ _) | refine BK ?_ ?_ ?_ rfl | refine Bv ?_ ?_ ?_ ?_ ?_ | refine LX (by assumption) rfl ?_ | refine IK ?_ | refine Qx Qf ?_ | refine Kj ?_ ?_ | refine OC ?_ ?_ | refine K9 ?_ | refine BN ?_ ?_ ?_ | refine AG ?_ ?_ ?_ | refine Lq ?_ (λ_ _ _ _ _ _=>⟨λ_=>?_,?_,?_⟩) | refine IU ?_ (λ_ _ _ _ _ _=>⟨λ_=>?_,?_,?_⟩) | exact IS (by assumption) rfl | refine DY N6 rfl (by decide +kernel) PySem.boot_len ?_ | refine DY Q0 rfl (by decide +kernel) ZS ?_ | refine DY Pk rfl (by decide +kernel) boot_all ?_ | refine D0 AD rfl (by decide +kernel) boot_int ?_ | refine D0 xx rfl (by decide +kernel) boot_tuple ?_ | refine D0 BV rfl (by decide +kernel) boot_list ?_ | refine DY EB rfl (by decide +kernel) boot_repr ?_ | refine D0 BZ rfl (by decide +kernel) boot_str ?_ | exact wq rfl (by decide +kernel) boot_int | exact wq rfl (by decide +kernel) boot_str | exact wq rfl (by decide +kernel) boot_list | exact wq rfl (by decide +kernel) boot_tuple | refine Ez XZ aaz aaA tj ?_ ?_ | refine Ez XZ aaB aaC sF ?_ ?_ | refine Ez X9 aa3 aa4 m_split ?_ ?_ | refine Ez X9 abi abj BQ ?_ ?_) | (show JA _ _ _ _ _;first | exact J7 | refine DL ?_ ?_) | (show zG _ _ _ _ _;first | exact DN | refine Dx ?_ | refine CO ?_ ?_) | (show JT _ _ _ _ _;first | refine AZ ?_ ?_ ?_ (CQ _) | refine AZ ?_ ?_ ?_ rfl | refine IH ?_ | refine B7 ?_ ?_ ?_ ?_ ?_ | refine xX (by assumption) rfl ?_ | refine JW.pt (AK ?_ ?_) | refine JW.pt (Hl ?_ ?_) | refine L8 ?_ | refine Md ?_) | (show JW _ _ _ _ _;first | refine AK ?_ ?_ | refine Hl ?_ ?_ | refine FX ?_ | refine Il ?_) | (show JO _ _ _ _ _;first | exact FF | refine Dp ?_) | (show JG _ _ _ _ _;first | exact Ec (by assumption) rfl (by first | exact YZ rfl | exact Yq rfl) | refine Nd ?_) | (show Q9 _ _ _ _ _;first | exact Gu | refine Ar ?_ ?_) | (show JI _ _ _ _ _ _;first | refine zr rfl ?_ | refine yR rfl ?_ | refine LZ rfl ?_ ?_ | refine Kg ?_) | (show JF _ _ _ _ _;first | exact MR | refine Jw ?_) | (show QG _ _ _;first | exact xg (by assumption) rfl (by first | exact YZ rfl | exact Yq rfl) | refine Dq (by assumption) ?_) | (show Ir _ _ _;first | exact wD | refine tS ?_ ?_) | exact N5 | exact Fy | exact O8 | exact MC | exact OU | exact Pq | exact Ss | exact Sn | exact R5 | exact Sa | exact Sd | exact Sw | exact F8 | exact KJ)
local macro_rules
 | `(tactic| clean_wf)=> `(tactic| (first | refine bI.on (by assumption) ⟨rfl,rfl,rfl,by decide +kernel,rfl,by decide +kernel,by decide +kernel⟩ rfl (λ_ _ _ _ _ _=>by first | exact Sv rfl | exact R6 λ_=>rfl | exact Rv λ_ _=>rfl | exact Sg λ_ _ _=>rfl | exact TY λ_ _ _ _=>rfl) (by rw[cN.fD ‹_›];rfl) λ_ _ _ _ _ _ _ _ _ _=>?_ | refine bI.UN (by assumption) ⟨rfl,rfl,rfl,by decide +kernel,rfl,by decide +kernel,by decide +kernel⟩ rfl (λ_ _ _ _ _ _=>by first | exact Sv rfl | exact R6 λ_=>rfl | exact Rv λ_ _=>rfl | exact Sg λ_ _ _=>rfl | exact TY λ_ _ _ _=>rfl) λ_ _ _ _ _ _ _ _ _ _=>?_);obtain⟨⟩:= ‹cN _ _›; obtain⟨⟩:= ‹XF _ _ _ _ _ _ _ _ _ _ _›; array_get_dec)
section
variable{P:VE}{w:VY}{K:UW}{mg:Str->Option U1}{pg:Tb}{aNoLines aLeastError aNoCut aNoFit aNoPaper aNoProgram aNoRow:Nat}
theorem yy(T:cN aNoLines pg)(F:XF P w K mg aNoLines aLeastError aNoCut aNoFit aNoPaper aNoProgram aNoRow)(a:At K mg "is_word" (top 14)):bI P w K mg pg "is_word" iM (top 14) ["text"]:=by clean_wf
theorem yh(T:cN aNoLines pg)(F:XF P w K mg aNoLines aLeastError aNoCut aNoFit aNoPaper aNoProgram aNoRow)(a:At K mg "is_name" (top 15)):bI P w K mg pg "is_name" fc (top 15) ["thing"]:=by
 have z0:(kW ["thing"] ["sign"]).Nodup:=by decide +kernel
 clean_wf
theorem lB(T:cN aNoLines pg)(F:XF P w K mg aNoLines aLeastError aNoCut aNoFit aNoPaper aNoProgram aNoRow)(a:At K mg "writes_number" (top 19)):bI P w K mg pg "writes_number" bj (top 19) ["word", "least", "most"]:=by
 have z0:(kW ["word", "least", "most"] ["sign"]).Nodup:=by decide +kernel
 clean_wf
theorem xQ(T:cN aNoLines pg)(F:XF P w K mg aNoLines aLeastError aNoCut aNoFit aNoPaper aNoProgram aNoRow)(a:At K mg "line_of" (top 22)):bI P w K mg pg "line_of" iP (top 22) ["word", "numbers"]:=by
 have z0:(kW ["word", "numbers"] ["number"]).Nodup:=by decide +kernel
 clean_wf
theorem ow(T:cN aNoLines pg)(F:XF P w K mg aNoLines aLeastError aNoCut aNoFit aNoPaper aNoProgram aNoRow)(a:At K mg "shown_number" (top 23)):bI P w K mg pg "shown_number" cJ (top 23) ["number"]:=by clean_wf
theorem mW(T:cN aNoLines pg)(F:XF P w K mg aNoLines aLeastError aNoCut aNoFit aNoPaper aNoProgram aNoRow)(a:At K mg "words_behind" (top 24)):bI P w K mg pg "words_behind" (b9 aNoLines) (top 24) ["lines", "row", "word", "words"]:=by clean_wf
theorem ur(T:cN aNoLines pg)(F:XF P w K mg aNoLines aLeastError aNoCut aNoFit aNoPaper aNoProgram aNoRow)(a:At K mg "number_in" (top 25)):bI P w K mg pg "number_in" (dS aNoLines) (top 25) ["word", "row"]:=by clean_wf
theorem kI(T:cN aNoLines pg)(F:XF P w K mg aNoLines aLeastError aNoCut aNoFit aNoPaper aNoProgram aNoRow)(a:At K mg "number_or_none" (top 26)):bI P w K mg pg "number_or_none" bL (top 26) ["word", "row"]:=by clean_wf
theorem o9(T:cN aNoLines pg)(F:XF P w K mg aNoLines aLeastError aNoCut aNoFit aNoPaper aNoProgram aNoRow)(a:At K mg "paper_lines" (top 31)):bI P w K mg pg "paper_lines" dM (top 31) ["paper", "lines", "looks", "claims"]:=by
 have z0:(kW ["paper", "lines", "looks", "claims"] ["look", "claim"]).Nodup:=by decide +kernel
 clean_wf
theorem q9(T:cN aNoLines pg)(F:XF P w K mg aNoLines aLeastError aNoCut aNoFit aNoPaper aNoProgram aNoRow)(a:At K mg "touch_line" (top 32)):bI P w K mg pg "touch_line" di (top 32) ["look", "claim", "words"]:=by clean_wf
theorem rQ(T:cN aNoLines pg)(F:XF P w K mg aNoLines aLeastError aNoCut aNoFit aNoPaper aNoProgram aNoRow)(a:At K mg "shown_mark" (top 33)):bI P w K mg pg "shown_mark" cS (top 33) ["mark"]:=by
 have z0:(kW ["mark"] ["number"]).Nodup:=by decide +kernel
 clean_wf
theorem rV(T:cN aNoLines pg)(F:XF P w K mg aNoLines aLeastError aNoCut aNoFit aNoPaper aNoProgram aNoRow)(a:At K mg "read_paper" (top 34)):bI P w K mg pg "read_paper" (bH aNoLines) (top 34) ["lines", "many", "order", "tables", "claims", "row", "words"]:=by
 have z0:(kW ["lines", "many", "order", "tables", "claims", "row", "words"] ["word"]).Nodup:=by decide +kernel
 have z1:(kW ["lines", "many", "order", "tables", "claims", "row", "words"] ["looks"]).Nodup:=by decide +kernel
 have z2:(kW ["lines", "many", "order", "tables", "claims", "row", "words"] ["part"]).Nodup:=by decide +kernel
 clean_wf
theorem tN(T:cN aNoLines pg)(F:XF P w K mg aNoLines aLeastError aNoCut aNoFit aNoPaper aNoProgram aNoRow)(a:At K mg "read_many" (top 35)):bI P w K mg pg "read_many" (bS aNoLines) (top 35) ["lines", "numbers"]:=by
 have z0:(kW ["lines", "numbers"] ["word"]).Nodup:=by decide +kernel
 clean_wf
theorem pf(T:cN aNoLines pg)(F:XF P w K mg aNoLines aLeastError aNoCut aNoFit aNoPaper aNoProgram aNoRow)(a:At K mg "touch_words" (top 36)):bI P w K mg pg "touch_words" (cF aNoLines) (top 36) ["lines", "row", "begun", "many", "words"]:=by clean_wf
theorem tY(T:cN aNoLines pg)(F:XF P w K mg aNoLines aLeastError aNoCut aNoFit aNoPaper aNoProgram aNoRow)(a:At K mg "read_look" (top 37)):bI P w K mg pg "read_look" (c7 aNoLines) (top 37) ["words", "row", "thing"]:=by clean_wf
theorem sS(T:cN aNoLines pg)(F:XF P w K mg aNoLines aLeastError aNoCut aNoFit aNoPaper aNoProgram aNoRow)(a:At K mg "read_mark" (top 38)):bI P w K mg pg "read_mark" cq (top 38) ["word", "row", "parts"]:=by
 have z0:(kW ["word", "row", "parts"] ["part"]).Nodup:=by decide +kernel
 clean_wf
theorem uG(T:cN aNoLines pg)(F:XF P w K mg aNoLines aLeastError aNoCut aNoFit aNoPaper aNoProgram aNoRow)(a:At K mg "_law_feed" (top 40)):bI P w K mg pg "_law_feed" fO (top 40) ["_law_script", "_law_at"]:=by clean_wf
theorem sH(T:cN aNoLines pg)(F:XF P w K mg aNoLines aLeastError aNoCut aNoFit aNoPaper aNoProgram aNoRow)(a:At K mg "_law_take" (top 41)):bI P w K mg pg "_law_take" dc (top 41) ["_law_feed_here", "_law_many", "_law_cell", "_law_mixed", "_law_found"]:=by clean_wf
theorem oI(T:cN aNoLines pg)(F:XF P w K mg aNoLines aLeastError aNoCut aNoFit aNoPaper aNoProgram aNoRow)(a:At K mg "_law_number" (top 42)):bI P w K mg pg "_law_number" cX (top 42) ["_law_feed_here", "_law_way"]:=by clean_wf
theorem rR(T:cN aNoLines pg)(F:XF P w K mg aNoLines aLeastError aNoCut aNoFit aNoPaper aNoProgram aNoRow)(a:At K mg "_law_kinds" (top 43)):bI P w K mg pg "_law_kinds" eP (top 43) []:=by clean_wf
theorem sL(T:cN aNoLines pg)(F:XF P w K mg aNoLines aLeastError aNoCut aNoFit aNoPaper aNoProgram aNoRow)(a:At K mg "_law_look" (top 44)):bI P w K mg pg "_law_look" fL (top 44) ["_law_feed_here", "_law_thing", "_law_value", "_law_pair", "_law_mark"]:=by clean_wf
theorem qy(T:cN aNoLines pg)(F:XF P w K mg aNoLines aLeastError aNoCut aNoFit aNoPaper aNoProgram aNoRow)(a:At K mg "_law_paper" (top 45)):bI P w K mg pg "_law_paper" eR (top 45) ["_law_feed_here", "_law_hands", "_law_tables", "_law_claims", "_law_hand", "_law_many", "_law_row", "_law_k", "_law_order"]:=by
 have z0:(kW ["_law_feed_here", "_law_hands", "_law_tables", "_law_claims", "_law_hand", "_law_many", "_law_row", "_law_k", "_law_order"] ["_law_k"]).Nodup:=by decide +kernel
 have z1:(kW ["_law_feed_here", "_law_hands", "_law_tables", "_law_claims", "_law_hand", "_law_many", "_law_row", "_law_k", "_law_order"] ["_law_other"]).Nodup:=by decide +kernel
 clean_wf
theorem qz(T:cN aNoLines pg)(F:XF P w K mg aNoLines aLeastError aNoCut aNoFit aNoPaper aNoProgram aNoRow)(a:At K mg "_law_shown" (top 46)):bI P w K mg pg "_law_shown" bT (top 46) ["_law_value"]:=by clean_wf
theorem qA(T:cN aNoLines pg)(F:XF P w K mg aNoLines aLeastError aNoCut aNoFit aNoPaper aNoProgram aNoRow)(a:At K mg "_law_lines" (top 47)):bI P w K mg pg "_law_lines" eU (top 47) ["_law_paper_here", "_law_lines_here", "_law_hand", "_law_k", "_law_things"]:=by
 have z0:(kW ["_law_paper_here", "_law_lines_here", "_law_hand", "_law_k", "_law_things"] ["_law_thing"]).Nodup:=by decide +kernel
 clean_wf
theorem jX(T:cN aNoLines pg)(F:XF P w K mg aNoLines aLeastError aNoCut aNoFit aNoPaper aNoProgram aNoRow)(a:At K mg "_law_is_figures" (top 48)):bI P w K mg pg "_law_is_figures" aV (top 48) ["_law_word_here"]:=by
 have z0:(kW ["_law_word_here"] ["_law_sign"]).Nodup:=by decide +kernel
 clean_wf
theorem mZ(T:cN aNoLines pg)(F:XF P w K mg aNoLines aLeastError aNoCut aNoFit aNoPaper aNoProgram aNoRow)(a:At K mg "_law_is_name" (top 49)):bI P w K mg pg "_law_is_name" bw (top 49) ["_law_word_here", "_law_own"]:=by
 have z0:(kW ["_law_word_here", "_law_own"] ["_law_sign"]).Nodup:=by decide +kernel
 clean_wf
theorem lE(T:cN aNoLines pg)(F:XF P w K mg aNoLines aLeastError aNoCut aNoFit aNoPaper aNoProgram aNoRow)(a:At K mg "_law_is_touch" (top 50)):bI P w K mg pg "_law_is_touch" cC (top 50) ["_law_words", "_law_hands", "_law_parts", "_law_wrong"]:=by
 have z0:(kW ["_law_words", "_law_hands", "_law_parts", "_law_wrong"] ["_law_part"]).Nodup:=by decide +kernel
 have z1:(kW ["_law_words", "_law_hands", "_law_parts", "_law_wrong"] ["_law_word_here"]).Nodup:=by decide +kernel
 clean_wf
theorem oH(T:cN aNoLines pg)(F:XF P w K mg aNoLines aLeastError aNoCut aNoFit aNoPaper aNoProgram aNoRow)(a:At K mg "_law_stands" (top 51)):bI P w K mg pg "_law_stands" aT (top 51) ["_law_row", "_law_words", "_law_hands", "_law_begun", "_law_wrong"]:=by
 have z0:(kW ["_law_row", "_law_words", "_law_hands", "_law_begun", "_law_wrong"] ["_law_word_here"]).Nodup:=by decide +kernel
 clean_wf
theorem zf(T:cN aNoLines pg)(F:XF P w K mg aNoLines aLeastError aNoCut aNoFit aNoPaper aNoProgram aNoRow)(a:At K mg "_law_in" (top 52)):bI P w K mg pg "_law_in" eV (top 52) ["_law_word_here", "_law_parts"]:=by
 have z0:(kW ["_law_word_here", "_law_parts"] ["_law_part"]).Nodup:=by decide +kernel
 clean_wf
theorem tR(T:cN aNoLines pg)(F:XF P w K mg aNoLines aLeastError aNoCut aNoFit aNoPaper aNoProgram aNoRow)(a:At K mg "_law_read" (top 53)):bI P w K mg pg "_law_read" bA (top 53) ["_law_lines_here", "_law_hands", "_law_order", "_law_tables", "_law_claims", "_law_row", "_law_words", "_law_thing", "_law_look_here"]:=by
 have z0:(kW ["_law_lines_here", "_law_hands", "_law_order", "_law_tables", "_law_claims", "_law_row", "_law_words", "_law_thing", "_law_look_here"] ["_law_word_here"]).Nodup:=by decide +kernel
 clean_wf
theorem tU(T:cN aNoLines pg)(F:XF P w K mg aNoLines aLeastError aNoCut aNoFit aNoPaper aNoProgram aNoRow)(a:At K mg "_law_told" (top 54)):bI P w K mg pg "_law_told" (dR aNoLines) (top 54) ["_law_lines_here", "_law_found", "e", "_law_strange"]:=by clean_wf
theorem uv(T:cN aNoLines pg)(F:XF P w K mg aNoLines aLeastError aNoCut aNoFit aNoPaper aNoProgram aNoRow)(a:At K mg "_law_word" (top 55)):bI P w K mg pg "_law_word" fM (top 55) ["_law_feed_here", "_law_some"]:=by clean_wf
theorem sA(T:cN aNoLines pg)(F:XF P w K mg aNoLines aLeastError aNoCut aNoFit aNoPaper aNoProgram aNoRow)(a:At K mg "_law_bent" (top 56)):bI P w K mg pg "_law_bent" bU (top 56) ["_law_feed_here", "_law_lines_here", "_law_at", "_law_way", "_law_words", "_law_spot"]:=by clean_wf
theorem Ia(T:cN aNoLines pg)(F:XF P w K mg aNoLines aLeastError aNoCut aNoFit aNoPaper aNoProgram aNoRow)(a:At K mg "law" (top 57)):bI P w K mg pg "law" xB (top 57) ["_law_script", "_law_feed_here", "_law_k", "_law_paper_here", "_law_lines_here", "_law_turn", "_law_some", "_law_more", "_law_kept"]:=by clean_wf
end
set_option maxHeartbeats 1000000
theorem mF: ∀ ss:List Str,cK f (ss.map PV.str)=UU (ss.map Wt)
 | []=>rfl
 | x::r=>by rw[U2,cK,mF r];rfl
theorem jN{ss:List Str}(e:h[n]?=UU (.lst (ss.map PV.str))):dat (k+1) h (.ref n)=UU (.list (ss.map Wt)):=by
 unfold dat;simp only[jh,e,mF,ZR]
theorem ne_nil(e1:h[n]?=UU (.lst (ss.map PV.str)))(e2:h[m]?=UU (.lst []))(ok: ∀ x∈ss,W0 x=true):gG (.ref n) (.ref m) h= .ok (.bl (!decide (ss=[]))) h:=by
 have d1:=jN (k:=5) e1;have d2:=jN (k:=5) (ss:=[]) (n:=m) e2;have sc:i7 (.ref n) (.ref m)=false:=rfl;have dp: ∀ xs:List Str,Zq (.list (xs.map Wt))=xs.all W0:=λxs=>by
  rw[Zq,ZT]
 have al:alike (.ref n) (.ref m) h=UU (decide (ss=[])):=by
  unfold alike;rw[sc,d1,d2];have c1:(Ys (ss.map Wt)).canLay0=true:=by rw[dp];exact VT.mpr ok
  have c2:(Ys (([]).map Wt)).canLay0=true:=by rfl
  have c3:min (Ys (ss.map Wt)).depth (Ys (([]:List Str).map Wt)).depth<=64:=Vn (Zx _ _) (by decide);simp only[VS,if_false,c1,c3,if_true];cases ss with
  | nil=>rfl
  | cons x r=>rfl
 have nd:iZ h (.ref n)=false:=by simp only[iZ,e1]
 unfold gG;rw[al,nd];rfl
theorem jF(e:h[n]?=UU (.lst xs)):qw.lC ⟨UU n,xs⟩ h=true:=by
 unfold qw.lC;simp only[e,true_or,decide_true]
def aL(n:Int):Str:=U0 (toString n)
noncomputable def big:Int:=9999999999999999999999999999999999999999
theorem tq: ∀ d:Nat,d < 10->(Nat.digitChar d).toNat=d+48:=by decide +kernel
theorem kY: ∀(cs:List Nat)(k:Nat),0 < k->Ym cs->(Ya 10 (cs.foldl (λacc c=>acc*10+(c - 48)) k)).map Y4=(Ya 10 k).map Y4++cs
 | [],k,_,_=>by simp
 | c::cs,k,hk,h=>by
  obtain⟨h1,h2⟩:=h.head;rw[YT,kY cs _ (by omega) h.tail];have e:Ya 10 (k*10+(c - 48))=Ya 10 k++Ya 10 (c - 48):=by
   rw[Nat.toDigits_append_toDigits (by decide) hk (by omega),Z3]
  rw[e,Y9 (n:=c - 48) (by omega),Vu,U2,VP,tq (c - 48) (by omega),Vd,WQ,VW];congr 2;omega
theorem Bu: ∀(cs:List Nat)(k n:Nat),Ym cs->k < 10 ^ n->cs.foldl (λacc c=>acc*10+(c - 48)) k < 10 ^ (n+cs.length)
 | [],k,n,_,hk=>hk
 | c::cs,k,n,h,hk=>by
  obtain⟨h1,h2⟩:=h.head;rw[YT,UZ];have:=Bu cs (k*10+(c - 48)) (n+1) h.tail (by rw[acA];omega)
  rwa[show n+(cs.length+1)=n+1+cs.length by omega]
theorem Cv{cs:List Nat}(h:Ym cs):XN cs < 10 ^ cs.length:=by
 have:=Bu cs 0 0 h (by decide)
 rwa[YB] at this
theorem js: ∀(k n:Nat),n < 10 ^ (k+1)->(Ya 10 n).length<=k+1
 | 0,n,h=>by rw[Y9 (by omega)];exact Vb _
 | k+1,n,h=>by
  rw[Nat.toDigits_eq_if (by decide)];split
  . simp
  . have:=js k (n / 10) (by rw[acA] at h;omega);rw[U7];simp only[UZ,U6];omega
theorem jv(m:Nat):(aL (m:Int)).cps.toList=(Ya 10 m).map Y4:=PySem.W.KIN.signs_num m
theorem gO{a b:Str}(e:a.cps.toList=b.cps.toList):a=b:=Str.ext' (acL.mp e)
theorem xh{w:Str}(h:Ym w.cps.toList)(ne:w≠ ""):aL (XN w.cps.toList:Nat)=w↔w= "0" \/w.cps.toList.head?≠UU 48:=by
 have z0:(U0 "0").cps.toList=[48]:=by decide +kernel
 cases q:w.cps.toList with
 | nil=>exact absurd (gO (by rw[q];decide +kernel)) ne
 | cons c t =>
  rw[q] at h
  by_cases c48:c=48
  . subst c48;have hv:XN (48::t)=XN t:=rfl;cases t with
    | nil =>
     have e:w= "0" :=gO (q.trans z0.symm)
     subst e
     exact⟨λ_=> .inl rfl,λ_=>by decide +kernel⟩
    | cons d t =>
     constructor
     . intro e;have e2:=congrArg (λs:Str=>s.cps.toList.length) e;simp only[jv,U3] at e2;rw[q,hv] at e2;have:=js t.length _ (Cv h.tail);simp only[UZ] at e2 this;omega
     . rintro (e | e)
       . rw[e,z0] at q;cases q
       . exact absurd rfl e
  . constructor
    . intro _;right;simp only[abc];intro e;exact c48 (V4 e)
    . intro _;obtain⟨h1,h2⟩:=h.head;refine gO ?_;rw[jv,q];show(Ya 10 (t.foldl (λacc c=>acc*10+(c - 48)) (0*10+(c - 48)))).map Y4=_;rw[kY t _ (by omega) h.tail,Y9 (by omega),U2,VP,tq _ (by omega)];simp only[WQ,VW];congr 1;omega
def asc(w:Str):Prop:= ∀ c∈w.cps.toList,c < 128
noncomputable def Gw:Str:= "0123456789"
def dU(c:Nat):Bool:= !(V3 Gw ⟨#[c]⟩ 0 Gw.length 1).isEmpty
theorem JL{c:Nat}{h:PH}:kZ (.str ⟨#[c]⟩) (.str Gw) h= .ok (.bl (dU c)) h:=rfl
theorem zB{c:Nat}{h:PH}:b6 (.str ⟨#[c]⟩) (.str Gw) h= .ok (.bl (!dU c)) h:=rfl
theorem Lc: ∀ c:Nat,c < 128->dU c=decide (48<=c/\c<=57):=by decide +kernel
def aZ(w:Str):Bool:= !decide (w= "")&&(decide (w.length<=40)&&(w.cps.toList.all dU&&(decide (w= "0")|| !decide (w.cps.toList.head?=UU 48))))
noncomputable def cW(w:Str):Int:=(XN w.cps.toList:Nat)
theorem lZ{w:Str}(a:asc w)(h:w.cps.toList.all dU=true):Ym w.cps.toList:=λc m=>by
 have:=VT.mp h c m;rw[Lc c (a c m),decide_eq_true_eq] at this;exact this
theorem CH{w:Str}(a:asc w)(h:w.cps.toList.all dU=true)(l:w.length<=40):0<=cW w/\cW w<=big:=by
 have h1:=Cv (lZ a h);have h2:XN w.cps.toList < 10 ^ 40:=Vg h1 (abz (by decide) l);have h3:(10:Nat) ^ 40=10000000000000000000000000000000000000000:=by decide +kernel
 unfold cW big;omega
theorem qE{w:Str}(a:asc w)(h:w.cps.toList.all dU=true)(l:w.length<=40)(ne:w≠ "")(g:PH):dh [.str w] g= .ok (.int (cW w)) g:=by
 show(if w.length<=640 then _ else _)=_;rw[if_pos (by omega)];have e:abx w=UU (cW w):=PySem.intText_digits (lZ a h) (λz=>ne (gO (by rw[z];decide +kernel))) (by omega);rw[e]
theorem v7{i:Int}(h0:0<=i)(h9:i<=big):i.natAbs.log2 < 1920:=by
 by_cases z:i.natAbs=0
 . rw[z];decide
 . have h3:(2:Nat) ^ 140=1393796574908163946345982392040522594123776:=by decide +kernel
   have:i.natAbs.log2 < 140:=(Nat.log2_lt z).mpr (by rw[h3];unfold big at h9;omega);omega
theorem eK{i:Int}{h:PH}(h0:0<=i)(h9:i<=big):el [.int i] h= .ok (.str (aL i)) h:=if_pos (v7 h0 h9)
theorem pW{i:Int}(h0:0<=i)(h9:i<=big):(aL i).length<=40/\asc (aL i):=by
 obtain⟨m,rfl⟩:=WS h0;have e:=jv m;constructor
 . have:(aL (m:Int)).length=(aL (m:Int)).cps.toList.length:=rfl;rw[this,e,U3];have h3:(10:Nat) ^ 40=10000000000000000000000000000000000000000:=by decide +kernel
   exact js 39 m (by rw[h3];unfold big at h9;omega)
 . intro c hc;rw[e] at hc;obtain⟨ch,hch,rfl⟩:=WA.mp hc;have:=PyProof.Rows.digit_range (Nat.isDigit_of_mem_toDigits (by decide) (by decide) hch);have:ch.toNat<=57:=this.2;omega
theorem oa{s:Str}{h:PH}(l:s.length<=100000):aP [.str s] h= .ok (.int s.length) h:=by
 show oX s.length _=_;exact iu (by omega)
theorem sQ{s:Str}{h:PH}:iH (.str s) h= .ok ⟨UX,s.cps.toList.map λc=> .str ⟨#[c]⟩⟩ h:=rfl
theorem aW{h g:PH}{b:Bool}:P3.settle h (.bl b) (h++g)= .ok (.bl b) h:=a8 rfl
theorem AO{h g:PH}{i:Int}:P3.settle h (.int i) (h++g)= .ok (.int i) h:=a8 rfl
end K72
end
section
open PySem L2 P3
local macro_rules
 | `(tactic| simp? [$ls,*])=> `(tactic| simp? (disch:=omega) only [$ls,*])
 | `(tactic| simp? (disch:= $t) only [$ls,*])=> do
  let xs ← ("↓NV ↓PQ ↓N8 ↓Pe ↓NN ↓Ha sI zv ↓OJ Iv ↓Q8 Ma K7 ↓K4 FY Gb DQ NY Ef Fm A3 ↓OA ↓Q1 ↓Qz Q7 ↓Qk JK Nn ↓PD LY ↓Hc KS KY ↓PY Nc Kw JQ ↓HJ CZ ↓Ow ↓zS xI ↓RU L9 ↓Io FU DD FV ↓Qt Jg Na Mh ↓Iu Gy ↓Rf M4 Lr LQ LD ↓MY ↓E1 Au AH Bz CC ↓Mi DK DC DI Fn ↓ET Ca ↓Dv ↓vY ↓tD pQ p7 ↓IT Em ↓AU wZ iu ↓Fo ↓SK ↓du ↓PL Ik Jq DP FA Eg ↓vS wL vZ Fq FE ↓O0 ↓FZ Bj ↓KR GI ↓Jl Dm GL Gh FW ↓Km Ea E7 KI jc MK MB LF L5 Qu Kt Lp ↓Iq D2 GP DU Lz ↓Ja EJ jE ↓M3 qL Jv zZ AJ IA ↓LG Ep ↓L4 GW ↓Iz GY Ax B3 ↓PZ Mp Mq O5 IG Gd ED GF Fv Lj bE BJ m6 Ew fH List.getElem?_cons_zero List.getElem?_cons_succ List.set_cons_zero List.set_cons_succ List.map_cons List.map_nil List.cons_append List.nil_append List.replicate_succ List.replicate_zero List.length_cons List.length_nil FK Ft lQ FI zg F5 GQ Ln MZ JJ Ee DW EC Gm E8 Sh Sz Sx SU eO eA GS xN Bq jD len_T O1 Ni j1 au aG yP G9 Ce Pz Mg Le Nl G7 ↓HI Cn BG ↓Cm ↓Pj ML tK kU QU List.append_assoc List.length_append N3 in_K ↓Q3 ID L7 NU Qj P1 Qo qQ decide_true decide_false Bool.not_true Bool.not_false if_true if_false reduceIte ite_self Bool.false_eq_true String.reduceEq String.reduceNe reduceCtorEq Int.reduceEq Int.reduceNe Int.reduceLT Int.reduceLE Int.reduceSub Int.reduceAdd Int.reduceMul Int.reduceToNat Int.reduceNeg".splitOn " ").toArray.mapM λw=>if w.startsWith "↓" then `(Lean.Parser.Tactic.simpLemma| ↓$(Lean.mkIdent (w.drop 1).toName):term) else `(Lean.Parser.Tactic.simpLemma| $(Lean.mkIdent w.toName):term)
  let ys : Lean.TSyntaxArray [`Lean.Parser.Tactic.simpStar,`Lean.Parser.Tactic.simpErase,`Lean.Parser.Tactic.simpLemma] := ls.getElems ++ xs.map (λx=>⟨x.raw⟩)
  `(tactic| simp (disch:= $t) only [$ys,*])
section
set_option maxHeartbeats 1000000
namespace K72
section
variable{pg:Tb}{aNoLines:Nat}(T:cN aNoLines pg)
include T
theorem yf(j:Nat){h:PH}{w:Str}(a:asc w)(l:w.length<=100000):run pg (j+1) "writes_number" [.str w,.int 0,.int big] h= .ok (.bl (aZ w)) h:=by
 have st: ∀ g,el [.int big] g= .ok (.str (aL big)) g:=λg=>eK (by decide) (Int.le_refl _);have lb:(aL big).length=40:=by decide +kernel
 have lS:=λg=>oa (h:=g) l;have lS2: ∀ g,aP [.str (aL big)] g= .ok (.int 40) g:=λg=>by rw[oa (by omega),lb];rfl
 rw[run_eq T.lI rfl (by rw[T.fD];rfl)];unfold aZ;by_cases ne:w= ""
 . simp? [bj,bP,ne];rfl
 . by_cases l40:w.length<=40
   . have gt: ¬ (40:Int) < (w.length:Int):=by omega
     have lc: ∀ g,P3.hU ⟨UX,w.cps.toList.map λc=> .str ⟨#[c]⟩⟩ (bN 1 (gN 3) bf (ay kZ (aa 3) (eS "0123456789")) (run pg j) [UU (.str w),UU (.int 0),UU (.int big)]) (w.cps.toList.map λc=> .str ⟨#[c]⟩) [] g= .ok ((w.cps.toList.map dU).map PV.bl) g:=λg=>by
      have z:w.cps.toList.length<=40:=l40;refine(cR (α :=Nat) rfl w.cps.toList [] (f:=λc=>UU (.bl (dU c))) (λc mc=>?_) (by simp only[U6];omega)).trans ?_
      . have si: ∀ h,kZ (.str ⟨#[c]⟩) (.str "0123456789") h= .ok (.bl (dU c)) h:=λh=>JL;simp? [si]
      . rw[VW,WC,WY];rfl
     have al:vh [.ref h.length] (h++[.lst ((w.cps.toList.map dU).map PV.bl)])= .ok (.bl (w.cps.toList.all dU)) (h++[.lst ((w.cps.toList.map dU).map PV.bl)]):=by
      rw[Ii (bs:=w.cps.toList.map dU) au];simp
     by_cases af:w.cps.toList.all dU=true
     . have it:=qE a af l40 ne;obtain⟨v0,v9⟩:=CH a af l40;have sn: ∀ g,el [.int (cW w)] g= .ok (.str (aL (cW w))) g:=λg=>eK v0 v9;have ni:=xh (lZ a af) ne;rw[af] at al;by_cases q:aL (cW w)=w
       . have q2:=ni.mp q;have q3:(decide (w= "0")|| !decide (w.cps.toList.head?=UU 48))=true:=by
          rcases q2 with z | z
          . rw[decide_eq_true z];rfl
          . rw[decide_eq_false z];simp
         simp? [bj,bP,ne,lS,lS2,st,gt,sQ,lc,al,it,sn,q,v0,v9,aW];simp only[l40,af,q3,decide_true,abV]
       . have q2: ¬ (w= "0" \/w.cps.toList.head?≠UU 48):=λz=>q (ni.mpr z);have q3:(decide (w= "0")|| !decide (w.cps.toList.head?=UU 48))=false:=by
          rw[not_or,Decidable.not_not] at q2;rw[decide_eq_false q2.1,decide_eq_true q2.2];rfl
         simp? [bj,bP,ne,lS,lS2,st,gt,sQ,lc,al,it,sn,q,v0,v9,aW];simp only[q3,WX]
     . rw[YC] at af;rw[af] at al;simp? [bj,bP,ne,lS,lS2,st,gt,sQ,lc,al,aW];simp only[af,Wj,WX]
   . have gt:(40:Int) < (w.length:Int):=by omega
     simp? [bj,bP,ne,lS,lS2,st,gt,aW];simp only[l40,decide_false,Wj,WX]
theorem iW(j:Nat){h:PH}{w:Str}(a:asc w)(l:w.length<=100000):run pg (j+1) "_law_is_figures" [.str w] h= .ok (.bl (aZ w)) h:=by
 have lS:=λg=>oa (h:=g) l;rw[run_eq T.jI rfl (by rw[T.fD];rfl)];unfold aZ;by_cases ne:w= ""
 . simp? [aV,bD,ne];rfl
 . by_cases l40:w.length<=40
   . have gt: ¬ (40:Int) < (w.length:Int):=by omega
     have z:w.cps.toList.length<=40:=l40
     let F:List Str:=(w.cps.toList.filter λc=> !dU c).map λc=>⟨#[c]⟩
     have lc: ∀ g,P3.hU ⟨UX,w.cps.toList.map λc=> .str ⟨#[c]⟩⟩ (bN 1 (gN 1) (aC (ay b6 (aa 1) (eS "0123456789"))) (aa 1) (run pg j) [UU (.str w)]) (w.cps.toList.map λc=> .str ⟨#[c]⟩) [] g= .ok (F.map PV.str) g:=λg=>by
      refine(cR (α :=Nat) rfl w.cps.toList [] (f:=λc=>if dU c=true then UX else UU (.str ⟨#[c]⟩)) (λc mc=>?_) (by simp only[U6];omega)).trans ?_
      . have si: ∀ h,b6 (.str ⟨#[c]⟩) (.str "0123456789") h= .ok (.bl (!dU c)) h:=λh=>zB;cases q:dU c
        . rw[q] at si;simp? [si]
        . rw[q] at si;simp? [si]
      . rw[VW];congr 1;show _=((w.cps.toList.filter λc=> !dU c).map λc=>(⟨#[c]⟩:Str)).map PV.str;generalize w.cps.toList=L
        induction L with
        | nil=>rfl
        | cons c L ih=>cases q:dU c<;>simp[q,ih]
     have ok: ∀ x∈F,W0 x=true:=λx m=>by
      obtain⟨c,mc,rfl⟩:=WA.mp m;have:=a c (W2.mp mc).1;have:decide (c < 1114112)=true:=decide_eq_true (by omega);unfold W0;simp[this]
     have nn:gG (.ref h.length) (.ref (h.length+(0+1))) (h++[.lst (F.map PV.str),.lst []])= .ok (.bl (!decide (F=[]))) (h++[.lst (F.map PV.str),.lst []]):=ne_nil (by rw[au]) (by rw[aG];rfl) ok;have fi:F=[]↔w.cps.toList.all dU=true:=by
      show(w.cps.toList.filter λc=> !dU c).map _=[]↔_;rw[List.map_eq_nil_iff,Yb,VT];simp
     by_cases af:w.cps.toList.all dU=true
     . have e0:=fi.mpr af;obtain⟨c,t,q⟩: ∃ c t,w.cps.toList=c::t:=by
        cases q:w.cps.toList with
        | nil=>exact absurd (gO (by rw[q];decide +kernel)) ne
        | cons c t=>exact⟨c,t,rfl⟩
       have ix: ∀ g,ck (.str w) (.int 0) g= .ok (.str ⟨#[c]⟩) g:=λg=>by
        show oX w.length (match gf w.cps.toList 0 with | some c=>RV.ok (PV.str ⟨#[c]⟩) g | none=> .no)=_;rw[iu (by omega),q,show gf (c::t) 0=UU c from P3.cw (n:=0) rfl rfl]
       have s48:U0 "0" =⟨#[48]⟩:=by decide +kernel
       have e48:((⟨#[c]⟩:Str)= "0")↔c=48:=by rw[s48];simp
       have h48:w.cps.toList.head?=UU 48↔c=48:=by rw[q];simp
       rw[decide_eq_true e0] at nn;by_cases z0:w= "0"
       . have z1:=eq_true z0;simp? [aV,bD,ne,lS,gt,sQ,lc,nn,z1,aW];simp only[l40,af,decide_true,VQ,XM]
       . simp? [aV,bD,ne,lS,gt,sQ,lc,nn,z0,ix,aW];simp only[e48,h48,l40,af,decide_true,decide_false,VQ,aaD]
     . have e0: ¬ F=[]:=λz=>af (fi.mp z);simp? [aV,bD,ne,lS,gt,sQ,lc,nn,e0,aW];rw[YC] at af;simp only[af,Wj,WX]
   . have gt:(40:Int) < (w.length:Int):=by omega
     simp? [aV,bD,ne,lS,gt,aW];simp only[l40,decide_false,Wj,WX]
end
theorem blank_eq:U0 " " =⟨#[32]⟩:=by decide +kernel
noncomputable def jn(ws:List Str):Str:=acz " " ws
theorem wj(ws:List Str):jn ws=Str.join ⟨#[32]⟩ ws:=by unfold jn;rw[blank_eq];exact abk _ _
theorem app_list(a b:Str):(a++b).cps.toList=a.cps.toList++b.cps.toList:=by rw[Str.cps_append,Array.toList_append]
theorem dn(a b:Str):(a++b).length=a.length+b.length:=by
 show(a++b).cps.toList.length=a.cps.toList.length+b.cps.toList.length;rw[app_list,U7]
theorem gj(a b c:Str):a++b++c=a++(b++c):=gO (by simp only[app_list,Vd])
theorem gJ(w:Str):jn [w]=w:=by rw[wj];rfl
theorem fS(p q:Str)(r:List Str):jn (p::q::r)=p++ " " ++jn (q::r):=by rw[wj,wj,blank_eq];rfl
theorem uL(p x:Str)(r:List Str):jn ((p++x)::r)=p++jn (x::r):=by
 cases r with
 | nil=>rw[gJ,gJ]
 | cons y r=>rw[fS,fS,gj,gj,gj]
theorem xi: ∀(ws:List Str)(a:Str),jn (a::ws)=ws.foldl (λ(a x:Str)=>a++ " " ++x) a
 | [],a=>gJ a
 | x::ws,a=>by rw[YT,<- xi ws,fS,uL]
theorem Bf: ∀{ws:List Str},ws.length<=(jn ws).length+1/\ ∀ w∈ws,w.length<=(jn ws).length/\ ∀ c∈w.cps.toList,c∈(jn ws).cps.toList
 | []=>⟨V2 _,λw m=>nomatch m⟩
 | [w]=>⟨by simp,λv m=>by rw[Vm.mp m,gJ];exact⟨Vb _,λc mc=>mc⟩⟩
 | p::q::r=>by
  obtain⟨h1,h2⟩:=Bf (ws:=q::r);have l1:(U0 " ").length=1:=by decide +kernel
  have l:(jn (p::q::r)).length=p.length+1+(jn (q::r)).length:=by rw[fS,dn,dn,l1]
  refine⟨by rw[l];simp only[UZ] at h1 ⊢; omega,λw m=>?_⟩;rw[l,fS];rcases Vt.mp m with rfl | m
  . exact⟨by omega,λc mc=>by rw[app_list,app_list];exact VO _ (VO _ mc)⟩
  . obtain⟨a,b⟩:=h2 w m;exact⟨by omega,λc mc=>by rw[app_list];exact Vi _ (b c mc)⟩
noncomputable def aQ(x:Str):List Str:=WR x " "
theorem rX(x:Str):aQ x≠[]:=by
 unfold aQ WR;split
 . simp
 . split
   . simp
   . rw[aaN];obtain⟨p,r,e⟩:=abA x (U0 " ").length 0 (V3 x " " 0 x.length (x.length+1));rw[e];simp
theorem vN(x:Str):jn (aQ x)=x:=by rw[wj];unfold aQ;rw[blank_eq];exact acf _ _
def Tx(n:Nat)(x:Str):Prop:=asc x/\x.length<=n
theorem Tx.mono{n m:Nat}{x:Str}(h:Tx n x)(l:n<=m):Tx m x:=⟨h.1,Vn h.2 l⟩
theorem Tx.wd{n:Nat}{x:Str}(h:Tx n x):(aQ x).length<=n+1/\ ∀ w∈aQ x,Tx n w:=by
 have j:=Bf (ws:=aQ x);rw[vN] at j;exact⟨by have:=j.1;have:=h.2;omega,λw m=>⟨λc mc=>h.1 c ((j.2 w m).2 c mc),Vn (j.2 w m).1 h.2⟩⟩
theorem Tx.ok{n:Nat}{x:Str}(h:Tx n x):W0 x=true:=by
 unfold W0;rw[Array.all_eq_true'];intro c m;have:=h.1 c (by simpa using m);simp;omega
theorem Tx.app{n m:Nat}{x y:Str}(h:Tx n x)(k:Tx m y):Tx (n+m) (x++y):=⟨λc mc=>by
 rw[app_list] at mc;rcases Vz.mp mc with z | z
 . exact h.1 c z
 . exact k.1 c z,by rw[dn];have:=h.2;have:=k.2;omega⟩
instance {n:Nat} {x:Str}:Decidable (Tx n x):=by unfold Tx asc;infer_instance
theorem Cb:Tx 1 " " :=by decide +kernel
theorem Tx.jo: ∀{ws:List Str}{n:Nat},(∀ w∈ws,Tx n w)->Tx (ws.length*(n+1)) (jn ws)
 | [],n,_=>⟨λc m=>absurd m (by rw[show(jn []).cps.toList=[] by decide +kernel];simp),by rw[show(jn []).length=0 by decide +kernel];exact V2 _⟩
 | [w],n,h=>by rw[gJ];exact(h w Ve).mono (by simp)
 | p::q::r,n,h=>by
  have i:=Tx.jo (ws:=q::r) λw m=>h w (Vl _ m);rw[fS];exact(((h p Ve).app Cb).app i).mono (by simp only[UZ];rw[abB (r.length+1) 1];omega)
theorem j6{n:Nat}{x:Str}{h:PH}(t:Tx n x)(l:n<=100000):cV (.str x) [.str " "] h= .ok (.ref h.length) (h++[.lst ((aQ x).map PV.str)]):=by
 have:=t.wd.1;have:=t.2;exact xt (by decide +kernel) (by omega) (show(aQ x).length<=_ by omega)
theorem qG{ws:List Str}{n:Nat}(h: ∀ w∈ws,w.length<=n)(l:ws.length*(n+1)<=1000000):JoinOk (U0 " ") ws=true:=by
 refine X1 ?_ (by decide +kernel);have: ∀{ws:List Str},(∀ w∈ws,w.length<=n)->(ws.map aa5).sum<=ws.length*n:=λ{ws}=>by
  induction ws with
  | nil=>intro _;simp
  | cons x r ih =>
   intro h
   have:=ih λw m=>h w (Vl _ m)
   have:=h x Ve
   simp only[U2,adf,UZ]
   rw[abB];omega
 have:=this h;rw[Nat.mul_add] at l;show(ws.map aa5).sum+ws.length<=1048576;omega
abbrev oJ(C:Nat)(r:Nat)(h:PH):RV PV:= .ex C [("row",.int r)] h
def wb(ls:List Str)(r:Nat)(w:Str):Option (List Str):=(ls[r]?).bind λx=>if (aQ x).head?=UU w then UU (aQ x).tail else UX
def yx(n:Nat)(ls:List Str):Prop:=ls.length<=1000/\ ∀ x∈ls,Tx n x
theorem zY{ws:List Str}:dN (ws.map PV.str) (UU 1) UX=ws.tail.map PV.str:=by
 rw[P3.gh (by decide)];cases ws<;>rfl
theorem C6{h:PH}{C:Nat}{f:Str}{i:Int}:dg h C [(f,.int i)] h= .ex C [(f,.int i)] h:=by
 have:=k8 (h:=h) (g:=[]) (C:=C) (us:=[(f,.int i)]) rfl
 rwa[VM] at this
theorem zD{h g:PH}{C:Nat}{f:Str}{i:Int}:dg h C [(f,.int i)] (h++g)= .ex C [(f,.int i)] h:=k8 (us:=[(f,.int i)]) rfl
section
variable{pg:Tb}{aNoLines:Nat}(T:cN aNoLines pg)
include T
theorem jK(j:Nat){h:PH}{w:Str}{n:Nat}(r:Nat)(t:Tx n w)(l:n<=100000):run pg (j+2) "number_in" [.str w,.int r] h=if aZ w=true then .ok (.int (cW w)) h else oJ aNoLines r h:=by
 have w1:=λg=>yf T j (h:=g) t.1 (Vn t.2 l);unfold big at w1;rw[fK T.se rfl (by rw[T.fD];rfl)];by_cases f:aZ w=true
 . have f':=f;unfold aZ at f';simp only[Vc,Xg,decide_eq_false_iff_not,decide_eq_true_eq] at f';have it:=qE t.1 f'.2.2.1 f'.2.1 f'.1;rw[f] at w1;simp? [dS,iw,w1,it,f]
 . rw[YC] at f;rw[f] at w1;simp? [dS,iw,w1,f];exact C6
theorem jR(j:Nat){h:PH}{w:Str}{n:Nat}(r:Nat)(t:Tx n w)(l:n<=100000):run pg (j+3) "number_or_none" [.str w,.int r] h=if w= "-" then .ok .non h else if aZ w=true then .ok (.int (cW w)) h else oJ aNoLines r h:=by
 have w1:=λg=>jK T j (h:=g) r t l;rw[fK T.kD rfl (by rw[T.fD];rfl)];by_cases z:w= "-"
 . simp? [bL,cQ,z]
 . by_cases f:aZ w=true
   . simp only[f,eq_self,if_true] at w1;simp? [bL,cQ,z,w1,f]
   . rw[YC] at f;simp only[f,VS,if_false] at w1;simp? [bL,cQ,z,w1,f];exact C6
theorem qa(j:Nat){h:PH}{n m:Nat}{ls:List Str}(e:h[n]?=UU (.lst (ls.map PV.str)))(t:yx m ls)(l:m<=10000){r:Nat}(hr:r<=ls.length)(w:Str) :
  run pg (j+1) "words_behind" [.ref n,.int r,.str w] h=match wb ls r w,ls[r]? with
   | some ws,UU x=> .ok (.ref (h.length+1)) (h++[.lst ((aQ x).map PV.str),.lst (ws.map PV.str)])
   | _,_=>oJ aNoLines r h:=by
 rw[fK T.mV rfl (by rw[T.fD];rfl)];have ln:aP [.ref n] h= .ok (.int ls.length) h:=by rw[dy (xs:=ls.map PV.str) e,U3]
 by_cases z:r=ls.length
 . have z1:=eq_true (show(r:Int)=(ls.length:Int) by omega);have z2:ls[r]?=UX:=XC (by omega);have hb:wb ls r w=UX:=by simp only[wb,z2,acO]
   rw[hb];simp? [b9,dq,ln,z1];exact C6
 . have z1: ¬ (r:Int)=(ls.length:Int):=by omega
   obtain⟨x,ex⟩: ∃ x,ls[r]?=UU x:=⟨_,VG (by omega)⟩
   have tx:=t.2 x (VU ex);have sp:=j6 (h:=h) tx (by omega);have ix:ck (.ref n) (.int r) h= .ok (.str x) h:=by
    rw[eO,e,eA];rw[P3.cw rfl (by rw[VI,ex];rfl)];rfl
   obtain⟨p,q,ew⟩: ∃ p q,aQ x=p::q:=by
    cases y:aQ x with
    | nil=>exact absurd y (rX x)
    | cons p q=>exact⟨p,q,rfl⟩
   have e2:(h++[PO.lst ((aQ x).map PV.str)])[h.length]?=UU (.lst ((aQ x).map PV.str)):=au;have i0:ck (.ref h.length) (.int 0) (h++[.lst ((aQ x).map PV.str)])= .ok (.str p) (h++[.lst ((aQ x).map PV.str)]):=by
    rw[eO,e2,eA,ew,U2,fj];rfl
   have sl:yU (.ref h.length) (UU 1) UX (h++[.lst ((aQ x).map PV.str)])= .ok (.ref (h.length+1)) (h++[.lst ((aQ x).map PV.str),.lst ((aQ x).tail.map PV.str)]):=by
    rw[tK,e2,kU,zY,U7,Vd];rfl
   by_cases y:p=w
   . have hb:wb ls r w=UU (aQ x).tail:=by simp only[wb,ex,Xv,ew,abc,y,if_true]
     rw[hb,ex];simp? [b9,dq,ln,z1,du,jz,aJ,ix,sp,i0,y,sl];exact bF rfl
   . have hb:wb ls r w=UX:=by simp only[wb,ex,Xv,ew,abc,Zn,y,if_false]
     rw[hb];simp? [b9,dq,ln,z1,du,jz,aJ,ix,sp,i0,y];exact zD
end
noncomputable def lets:Str:= "abcdefghijklmnopqrstuvwxyz"
def cT(c:Nat):Bool:= !(V3 lets ⟨#[c]⟩ 0 lets.length 1).isEmpty
noncomputable def W5:List Str:=["box", "lock", "lane", "door", "hand"]
noncomputable def Rj:List Str:=["let", "leap", "get", "put", "take", "free", "send", "fetch", "say", "clock", "lot", "hear"]
noncomputable def W6:List Str:=["add", "sub", "mul", "less", "same", "not"]
def p8(s:Str):Bool:=decide (s∈W5)||(decide (s∈Rj)||decide (s∈W6))
def gS:PV->Bool
 | .str s=>decide (1<=s.length∧s.length<=8)&&((s.cps.toList.all cT)&& !p8 s)
 | _=>false
theorem l7{s:Str}: ∀{kvs:List (Key × PV)}{ws:List Str},(kvs.map λkv:Key × PV=>kv.1)=ws.map ZC->(ft kvs (.inr s)).isSome=decide (s∈ws)
 | [],[],_=>rfl
 | [],w::t,e=>by cases e
 | kv::r,[],e=>by cases e
 | kv::r,w::t,e=>by
  obtain⟨k,v⟩:=kv;rw[U2,U2] at e;obtain⟨e1,e2⟩:=List.cons.inj e;simp only at e1;subst e1;by_cases c:w=s
  . subst c;rw[xN];simp
  . rw[C3 (by simpa using c),l7 e2];simp[Xf c]
theorem Fi{c:Nat}{h:PH}:kZ (.str ⟨#[c]⟩) (.str lets) h= .ok (.bl (cT c)) h:=rfl
section
variable{pg:Tb}{aNoLines:Nat}(T:cN aNoLines pg)
include T
theorem Ht(j:Nat){h:PH}(s:Str):run pg (j+1) "is_word" [.str s] h= .ok (.bl (p8 s)) h:=by
 rw[run_eq T.yL rfl (by rw[T.fD];rfl)];have e1: ∀ h,kZ (.str s) (.ktup [.str "box",.str "lock",.str "lane",.str "door",.str "hand"]) h= .ok (.bl (decide (s∈W5))) h:=λh=>in_K (ss:=W5);have e2:(ft dP (.inr s)).isSome=decide (s∈Rj):=l7 rfl;have e3:(ft dO (.inr s)).isSome=decide (s∈W6):=l7 rfl;simp? [iM,qg,e1,e2,e3];unfold p8;by_cases a:s∈W5
 . simp only[a,if_true,decide_true,XM,m6,fH]
 . by_cases b:s∈Rj
   . simp only[a,b,if_true,if_false,decide_true,decide_false,XM,Yz,m6,fH]
   . simp only[a,b,if_false,decide_false,aaD,m6,fH]
theorem En(j:Nat){h:PH}{s:Str}(l:s.length<=100000):run pg (j+2) "is_name" [.str s] h= .ok (.bl (gS (.str s))) h:=by
 rw[run_eq T.xP rfl (by rw[T.fD];rfl)];by_cases e:1<=s.length/\s.length<=8
 . have e1:(1:Int)<=(s.length:Int):=by omega
   have e2:(s.length:Int)<=8:=by omega
   have z:s.cps.toList.length<=8:=e.2;have lc: ∀(g:CF)(E:aM),P3.hU ⟨UX,s.cps.toList.map λc=> .str ⟨#[c]⟩⟩ (bN 1 (gN 1) bf (ay kZ (aa 1) (eS "abcdefghijklmnopqrstuvwxyz")) g [UU (.str s)]) (s.cps.toList.map λc=> .str ⟨#[c]⟩) [] h= .ok ((s.cps.toList.map cT).map PV.bl) h:=λg E=>by
    refine(cR (α :=Nat) rfl s.cps.toList [] (f:=λc=>UU (.bl (cT c))) (λc _=>?_) (by simp only[U6];omega)).trans ?_
    . have si: ∀ h,kZ (.str ⟨#[c]⟩) (.str "abcdefghijklmnopqrstuvwxyz") h= .ok (.bl (cT c)) h:=λh=>Fi;simp? [si]
    . rw[VW,WC,WY];rfl
   have al:vh [.ref h.length] (h++[.lst ((s.cps.toList.map cT).map PV.bl)])= .ok (.bl (s.cps.toList.all cT)) (h++[.lst ((s.cps.toList.map cT).map PV.bl)]):=by
    rw[Ii (bs:=s.cps.toList.map cT) au];simp
   simp? [fc,iN,rG,oa l,e1,e2,sQ,lc _ [],al,Ht T j s];simp only[gS,e,and_self,decide_true,VQ];cases s.cps.toList.all cT<;>simp? [Ht T j s,aW,VQ,Wj]
 . have n:gS (.str s)=false:=by simp only[gS,e,decide_false,Wj]
   rw[n];by_cases e1:(1:Int)<=(s.length:Int)
   . have e2: ¬ (s.length:Int)<=8:=by omega
     simp? [fc,iN,rG,oa l,e1,e2]
   . simp? [fc,iN,rG,oa l,e1]
end
noncomputable def WK:List Str:=["get", "put", "take", "free", "send", "fetch", "say", "clock", "lot", "hear"]
noncomputable def WO:List Str:=["let", "leap", "add", "sub", "mul", "less", "same", "not", "box", "lock", "lane", "door", "hand"]
theorem Al{h:PH}{n:Nat}{a:Str}{ss:List Str}(e:h[n]?=UU (.lst (ss.map PV.str))):kZ (.str a) (.ref n) h= .ok (.bl (decide (a∈ss))) h:=by
 have:isIn (.str a) (.ref n) h=UU (decide (a∈ss)):=by
  unfold P3.isIn;simp only[itemsOf,bQ,e,P3.all_strs,fN,Xt,if_true,kc]
 unfold kZ;rw[this]
theorem D3(s:Str):p8 s=(decide (s∈WO)||decide (s∈WK)):=by
 unfold p8;rw[<- Yt,<- Yt,<- Yt];refine decide_eq_decide.mpr ?_;simp only[W5,Rj,W6,WO,WK,Vt,WB,or_false];constructor<;>intro h<;>simp only[or_assoc] at h ⊢ <;>(rcases h with h | h | h | h | h | h | h | h | h | h | h | h | h | h | h | h | h | h | h | h | h | h | h<;>simp[h])
theorem yS{c:Nat}{h:PH}:b6 (.str ⟨#[c]⟩) (.str lets) h= .ok (.bl (!cT c)) h:=rfl
section
variable{pg:Tb}{aNoLines:Nat}(T:cN aNoLines pg)
include T
theorem mJ(j:Nat)(h:PH):run pg (j+1) "_law_kinds" [] h= .ok (.ref h.length) (h++[.lst (WK.map PV.str)]):=by
 rw[run_eq T.qp rfl (by rw[T.fD];rfl)];simp? [eP,jZ];exact bF rfl
end
section
variable{pg:Tb}{aNoLines:Nat}(T:cN aNoLines pg)
include T
theorem sW(j:Nat){h:PH}{s:Str}(l:s.length<=100000):run pg (j+2) "_law_is_name" [.str s] h= .ok (.bl (gS (.str s))) h:=by
 rw[run_eq T.nH rfl (by rw[T.fD];rfl)]
 let L1:List PV:=[.str "let",.str "leap",.str "add",.str "sub",.str "mul",.str "less",.str "same",.str "not"]
 let L2:List PV:=[.str "box",.str "lock",.str "lane",.str "door",.str "hand"]
 have ad:aF (.ref h.length) (.ref (h.length+(0+1))) (h++[.lst L1,.lst L2])= .ok (.ref (h.length+(0+1+1))) (h++[.lst L1,.lst L2,.lst (WO.map PV.str)]):=by
  rw[iL (xs:=L1) (ys:=L2) au (by rw[aG];rfl) (show 8+5<=16777216 by decide),U7,Vd];rfl
 have i1:kZ (.str s) (.ref (h.length+(0+1+1))) (h++[.lst L1,.lst L2,.lst (WO.map PV.str)])= .ok (.bl (decide (s∈WO))) _:=Al (by rw[aG];rfl);have kn:run pg (j+1) "_law_kinds" [] (h++[.lst L1,.lst L2,.lst (WO.map PV.str)])= .ok (.ref (h.length+(0+1+1+1))) (h++[.lst L1,.lst L2,.lst (WO.map PV.str),.lst (WK.map PV.str)]):=by
  rw[mJ T j,U7,Vd];rfl
 have i2:kZ (.str s) (.ref (h.length+(0+1+1+1))) (h++[.lst L1,.lst L2,.lst (WO.map PV.str),.lst (WK.map PV.str)])= .ok (.bl (decide (s∈WK))) _:=Al (by rw[aG];rfl);have lS:=λg=>oa (h:=g) l;have wo:=D3 s;generalize hO:WO.map PV.str=OL at ad i1 kn i2;generalize hK:WK.map PV.str=KL at kn i2;simp only[L1,L2] at ad i1 kn i2;unfold gS;by_cases e:1<=s.length/\s.length<=8
 . have e1: ¬ (s.length:Int) < 1:=by omega
   have e2: ¬ (8:Int) < (s.length:Int):=by omega
   simp only[e,and_self,decide_true,VQ];by_cases o:s∈WO
   . have o1:=eq_true o;rw[wo];simp? [bw,bZ,ad,lS,e1,e2,i1,o1,aW];simp only[XM,adg,WX]
   . by_cases k:s∈WK
     . have k1:=eq_true k;rw[wo];simp? [bw,bZ,ad,lS,e1,e2,i1,o,kn,i2,k1,aW];simp only[Yz,adg,WX]
     . have z:s.cps.toList.length<=8:=e.2;have wf:p8 s=false:=by rw[wo,decide_eq_false o,decide_eq_false k];rfl
       let F:List Str:=(s.cps.toList.filter λc=> !cT c).map λc=>⟨#[c]⟩
       have lc: ∀ g,P3.hU ⟨UX,s.cps.toList.map λc=> .str ⟨#[c]⟩⟩ (bN 1 (gN 2) (aC (ay b6 (aa 2) (eS "abcdefghijklmnopqrstuvwxyz"))) (aa 2) (run pg (j+1)) [UU (.str s),UU (.ref (h.length+(0+1+1)))]) (s.cps.toList.map λc=> .str ⟨#[c]⟩) [] g= .ok (F.map PV.str) g:=λg=>by
        refine(cR (α :=Nat) rfl s.cps.toList [] (f:=λc=>if cT c=true then UX else UU (.str ⟨#[c]⟩)) (λc mc=>?_) (by simp only[U6];omega)).trans ?_
        . have si: ∀ h,b6 (.str ⟨#[c]⟩) (.str "abcdefghijklmnopqrstuvwxyz") h= .ok (.bl (!cT c)) h:=λh=>yS;cases q:cT c
          . rw[q] at si;simp? [si]
          . rw[q] at si;simp? [si]
        . rw[VW];congr 1;show _=((s.cps.toList.filter λc=> !cT c).map λc=>(⟨#[c]⟩:Str)).map PV.str;generalize s.cps.toList=L
          induction L with
          | nil=>rfl
          | cons c L ih=>cases q:cT c<;>simp[q,ih]
       have fl:((F.map PV.str).length:Int)=0↔s.cps.toList.all cT=true:=by
        have:F.length=(s.cps.toList.filter λc=> !cT c).length:=U3 _;rw[U3,this];rw[VT];constructor
        . intro q c mc;have q2:(s.cps.toList.filter λc=> !cT c)=[]:=Za.mp (by omega);have:=Yb.mp q2 c mc;simpa using this
        . intro q;have:(s.cps.toList.filter λc=> !cT c)=[]:=Yb.mpr λc mc=>by rw[q c mc];simp
          rw[this];rfl
       have dd:decide (((F.map PV.str).length:Int)=0)=s.cps.toList.all cT:=by
        rw[XJ,decide_eq_true_eq];exact fl
       generalize F.map PV.str=FL at lc dd;simp? [bw,bZ,ad,lS,e1,e2,i1,o,kn,i2,k,sQ,lc,dd,aW];simp only[wf,ada,abV]
 . simp only[e,decide_false,Wj];by_cases e1:(s.length:Int) < 1
   . simp? [bw,bZ,ad,lS,e1,aW]
   . have e2:(8:Int) < (s.length:Int):=by omega
     simp? [bw,bZ,ad,lS,e1,e2,aW]
end
noncomputable def jd(ws:List Str):Str:=acz "." ws
theorem mS:U0 "." =⟨#[46]⟩:=by decide +kernel
theorem xo(ws:List Str):jd ws=Str.join ⟨#[46]⟩ ws:=by unfold jd;rw[mS];exact abk _ _
theorem uT(w:Str):jd [w]=w:=by rw[xo];rfl
theorem qH(p q:Str)(r:List Str):jd (p::q::r)=p++ "." ++jd (q::r):=by rw[xo,xo,mS];rfl
theorem zR: ∀{ws:List Str},ws.length<=(jd ws).length+1/\ ∀ w∈ws,w.length<=(jd ws).length/\ ∀ c∈w.cps.toList,c∈(jd ws).cps.toList
 | []=>⟨V2 _,λw m=>nomatch m⟩
 | [w]=>⟨by simp,λv m=>by rw[Vm.mp m,uT];exact⟨Vb _,λc mc=>mc⟩⟩
 | p::q::r=>by
  obtain⟨h1,h2⟩:=zR (ws:=q::r);have l1:(U0 ".").length=1:=by decide +kernel
  have l:(jd (p::q::r)).length=p.length+1+(jd (q::r)).length:=by rw[qH,dn,dn,l1]
  refine⟨by rw[l];simp only[UZ] at h1 ⊢; omega,λw m=>?_⟩;rw[l,qH];rcases Vt.mp m with rfl | m
  . exact⟨by omega,λc mc=>by rw[app_list,app_list];exact VO _ (VO _ mc)⟩
  . obtain⟨a,b⟩:=h2 w m;exact⟨by omega,λc mc=>by rw[app_list];exact Vi _ (b c mc)⟩
noncomputable def d6(x:Str):List Str:=WR x "."
theorem CA(x:Str):d6 x≠[]:=by
 unfold d6 WR;split
 . simp
 . split
   . simp
   . rw[aaN];obtain⟨p,r,e⟩:=abA x (U0 ".").length 0 (V3 x "." 0 x.length (x.length+1));rw[e];simp
theorem vg(x:Str):jd (d6 x)=x:=by rw[xo];unfold d6;rw[mS];exact acf _ _
theorem Tx.dt{n:Nat}{x:Str}(h:Tx n x):(d6 x).length<=n+1/\ ∀ w∈d6 x,Tx n w:=by
 have j:=zR (ws:=d6 x);rw[vg] at j;exact⟨by have:=j.1;have:=h.2;omega,λw m=>⟨λc mc=>h.1 c ((j.2 w m).2 c mc),Vn (j.2 w m).1 h.2⟩⟩
theorem rL{n:Nat}{x:Str}{h:PH}(t:Tx n x)(l:n<=100000):cV (.str x) [.str "."] h= .ok (.ref h.length) (h++[.lst ((d6 x).map PV.str)]):=by
 have:=t.dt.1;have:=t.2;exact xt (by decide +kernel) (by omega) (show(d6 x).length<=_ by omega)
theorem xK{x:Str}(h:(d6 x).length=1):d6 x=[x]:=by
 obtain⟨p,e⟩:=Xp.mp h;have:=vg x;rw[e,uT] at this;rw[e,this]
theorem tT{x:Str}(h:2<=(d6 x).length):46∈x.cps.toList:=by
 obtain⟨p,q,r,e⟩: ∃ p q r,d6 x=p::q::r:=by
  generalize d6 x=t at h;rcases t with _ | ⟨p,_ | ⟨q,r⟩⟩
  . cases h
  . simp at h
  . exact⟨p,q,r,rfl⟩
 have:=vg x;rw[e,qH] at this;rw[<- this,app_list,app_list];exact VO _ (Vi _ (by decide +kernel))
theorem qV{x:Str}(h:2<=(d6 x).length):aZ x=false:=by
 have m:=tT h;have f:x.cps.toList.all dU=false:=by
  rw[acw];intro a;have:=VT.mp a 46 m;rw[show dU 46=false by decide +kernel] at this;cases this
 unfold aZ;rw[f];simp
theorem m8{x:Str}(h:2<=(d6 x).length):x≠ "-" :=λz=>by
 have m:=tT h;rw[z] at m
 revert m
 decide +kernel
theorem Ut{α :Type}{it:qw}{h:PH}(fi:it.lC h=true){st:PV->PH->RV (Option PV)}{g: α ->PV}{f: α ->Option PV}{C:Nat}{us: α ->List (Str × PV)}: ∀(l:List α)(ys:List PV),(∀ x∈l,st (g x) h=match f x with | some v=> .ok (UU v) h | none=> .ex C (us x) h)->l.length+ys.length<=16777216->P3.hU it st (l.map g) ys h=match l.find? (λx=>(f x).isNone) with | none=> .ok (ys++l.filterMap f) h | some x=> .ex C (us x) h
 | [],ys,_,_=>by rw[VP,P3.hU,if_pos fi,List.find?_nil];simp
 | x::xs,ys,hs,hl=>by
  have hl':ys.length < Vj:=by rw[UZ] at hl;show ys.length < 16777216;omega
  rw[U2,P3.hU,if_pos ⟨fi,hl'⟩,hs x Ve];cases q:f x with
  | none=>rw[List.find?_cons_of_pos (by rw[q];rfl)];rfl
  | some y =>
   rw[aa2 (by rw[q];simp),iJ]
   refine(Ut fi xs (ys++[y]) (λz m=>hs z (Vl _ m)) (by rw[UZ] at hl;simp;omega)).trans ?_
   rw[YM q,Vd];rfl
theorem Br{α :Type}{l:List α}{p q: α ->Bool}(h: ∀ x∈l,p x= !q x):(l.all q=true->l.find? p=UX)/\(l.all q=false-> ∃ x∈l,l.find? p=UU x):=by
 constructor
 . intro a;rw[acg];intro x m;rw[h x m,VT.mp a x m];simp
 . intro a;cases e:l.find? p with
   | some x=>exact⟨x,XH e,rfl⟩
   | none =>
    rw[acg] at e
    have:l.all q=true:=VT.mpr λx m=>by have:=e x m;rw[h x m] at this;simpa using this
    rw[this] at a;cases a
def gX(w:Str):PV:=if w= "-" then .non else .int (cW w)
def d7(w:Str):Bool:=decide (w= "-")||aZ w
def eY(w:Str):PV:= .int (cW w)
theorem lX{ls:List Str}{r:Nat}{w:Str}{ws:List Str}(e:wb ls r w=UU ws): ∃ x,ls[r]?=UU x/\ws=(aQ x).tail:=by
 unfold wb at e;cases q:ls[r]? with
 | none=>rw[q] at e;nomatch e
 | some x =>
  rw[q,Xv] at e
  split at e
  . cases e;exact⟨x,rfl,rfl⟩
  . nomatch e
theorem CP{ls:List Str}{r m:Nat}{w:Str}{ws:List Str}(t:yx m ls)(e:wb ls r w=UU ws):ws.length<=m+1/\ ∀ v∈ws,Tx m v:=by
 obtain⟨x,ex,rfl⟩:=lX e;obtain⟨a,b⟩:=(t.2 x (VU ex)).wd;exact⟨by rw[aaO];omega,λv mv=>b v (ZO mv)⟩
theorem j8: ∀{l:List Str}{f:Str->PV},(∀ x,(f x).flat=true)->PV.c6 (l.map f)=true
 | [],_,_=>rfl
 | x::l,f,h=>by rw[U2,PV.c6,h x,j8 h];rfl
theorem qe(w:Str):(gX w).flat=true:=by unfold gX;split<;>rfl
theorem C4{q:Str->Bool}{f:Str->PV}: ∀{ws:List Str},ws.all q=true->ws.filterMap (λw=>if q w=true then UU (f w) else UX)=ws.map f
 | [],_=>rfl
 | w::ws,a=>by
  rw[Yf,Vc] at a;rw[YM (b:=f w) (by rw[a.1];rfl),U2,C4 a.2]
def zd(w:Str):Bool:=if (d6 w).length=2 then(d6 w).all aZ else d7 w
def vz(w:Str):PV:=if (d6 w).length=2 then .tup ((d6 w).map eY) else gX w
theorem Gk(w:Str):(vz w).flat=true:=by
 unfold vz;split
 . rw[PV.flat];exact j8 λ_=>rfl
 . exact qe w
section
variable{pg:Tb}{aNoLines:Nat}(T:cN aNoLines pg)
include T
theorem lU(j:Nat){X:PH}{m i q:Nat}{E:aM}{ws:List Str}(e:X[q]?=UU (.lst (ws.map PV.str)))(w1:ws.length<=m+1)(w2: ∀ v∈ws,Tx m v)(l:m<=10000){r:Nat}{er:ME}(hE:E.length=i)(he: ∀ w g,er (run pg (j+2)) (E++[UU w]) g= .ok (.int r) g) :
  P3.hU ⟨UU q,ws.map PV.str⟩ (bN 1 (nG (gN i)) (nT bf) (ai "number_in" (nA (a2 (aa i) er))) (run pg (j+2)) E) (ws.map PV.str) [] X=if ws.all aZ=true then .ok (ws.map eY) X else .ex aNoLines [("row",.int r)] X:=by
 refine(Ut (jF e) (g:=PV.str) (f:=λw=>if aZ w=true then UU (eY w) else UX) (C:=aNoLines) (us:=λ_=>[("row",.int r)]) ws [] (λw mw=>?_) (by simp only[U6];omega)).trans ?_
 . have nm:=λg=>jK T j (h:=g) r (w2 w mw) (by omega);have gn: ∀ g,gN i (.str w) (E++[UX]) g= .ok (E++[UU (.str w)]) g:=λg=>by
    rw[jc];simp[<- hE]
   have vi:(E++[UU (PV.str w)])[i]?=UU (UU (.str w)):=by rw[<- hE];simp
   have he':=λg=>he (.str w) g;by_cases f:aZ w=true
   . simp only[f,eq_self,if_true] at nm;simp? [gn,vi,he',nm,f,eY]
   . rw[YC] at f;simp only[f,VS,if_false] at nm;simp? [gn,vi,he',nm,f]
 . obtain⟨f1,f2⟩:=Br (l:=ws) (p:=λw=>((if aZ w=true then UU (eY w) else UX:Option PV)).isNone) (q:=aZ) (λw _=>by cases aZ w<;>rfl);cases a:ws.all aZ with
   | true=>rw[f1 a,VW,C4 a];rfl
   | false =>
    obtain⟨v,_,fv⟩:=f2 a
    rw[fv];rfl
theorem rJ(j:Nat){h:PH}{w:Str}{m:Nat}(r:Nat)(t:Tx m w)(l:m<=10000):run pg (j+4) "read_mark" [.str w,.int r] h=if zd w=true then .ok (vz w) h else oJ aNoLines r h:=by
 rw[fK T.tF rfl (by rw[T.fD];rfl)];have sp:=rL (h:=h) t (by omega);obtain⟨d1,d2⟩:=t.dt;have ln:aP [.ref h.length] (h++[.lst ((d6 w).map PV.str)])= .ok (.int (d6 w).length) (h++[.lst ((d6 w).map PV.str)]):=by rw[dy (xs:=(d6 w).map PV.str) au,U3]
 unfold zd vz;by_cases z:(d6 w).length=2
 . have z1:=eq_true (show((d6 w).length:Int)=2 by omega);have lc:=lU T (j+1) (X:=h++[.lst ((d6 w).map PV.str)]) (q:=h.length) (i:=3) (E:=[UU (.str w),UU (.int r),UU (.ref h.length)]) (ws:=d6 w) au d1 d2 l (r:=r) (er:=aa 1) rfl (λ_ _=>rfl);simp only[z,if_true];cases a:(d6 w).all aZ with
   | true =>
    simp only[a,if_true] at lc
    simp? [cq,da,du,jz,aJ,sp,ln,z1,lc]
    exact a8 (by rw[PV.flat];exact j8 λ_=>rfl)
   | false =>
    simp only[a,VS,if_false] at lc
    simp? [cq,da,du,jz,aJ,sp,ln,z1,lc]
    exact zD
 . have z1: ¬ ((d6 w).length:Int)=2:=by omega
   have nm:=jR T j (h:=h++[.lst ((d6 w).map PV.str)]) r t (by omega);simp only[z,if_false];unfold d7 gX;by_cases y:w= "-"
   . have y1:=eq_true y;simp only[y1,if_true] at nm ⊢;simp? [cq,da,du,jz,aJ,sp,ln,z1,nm,XM];exact a8 rfl
   . cases f:aZ w with
     | true =>
      simp only[y,f,eq_self,if_true,if_false] at nm ⊢
      simp? [cq,da,du,jz,aJ,sp,ln,z1,nm,Yz]
      exact a8 rfl
     | false =>
      simp only[y,f,VS,if_false] at nm ⊢
      simp? [cq,da,du,jz,aJ,sp,ln,z1,nm,abW]
      exact zD
end
noncomputable def W7:List Str:=["get", "put", "take", "free", "send", "fetch", "say"]
noncomputable def W3:List Str:=["clock", "lot", "hear"]
theorem ES{h:PH}{a:Str}{ss:List Str}:b6 (.str a) (.ktup (ss.map PV.str)) h= .ok (.bl (!decide (a∈ss))) h:=by
 have k:=in_K (h:=h) (a:=a) (ss:=ss);unfold kZ at k;unfold b6;cases q:isIn (.str a) (.ktup (ss.map PV.str)) h with
 | none=>rw[q] at k;cases k
 | some b =>
  rw[q] at k
  have:b=decide (a∈ss):=by injection k with k;injection k
  rw[this]
theorem EH(s:Str):decide (s∈WK)=(decide (s∈W7)||decide (s∈W3)):=by
 rw[<- Yt];refine decide_eq_decide.mpr ?_;rw[show WK=W7++W3 from rfl,Vz]
def Gg(w:Str):Bool:=decide (w= "-")||gS (.str w)
noncomputable def uQ(w:Str):Str:=if w= "-" then "" else w
def zK(a b c d:Str):Bool:=decide (a∈WK)&&(Gg b&&(d7 c&&zd d))
def mC(a b c d:Str):PV:= .tup [.str a,.str (uQ b),gX c,vz d]
theorem Ek(a b c d:Str):(mC a b c d).flat=true:=by
 simp only[mC,PV.flat,PV.c6,qe,Gk,Xt]
section
variable{pg:Tb}{aNoLines:Nat}(T:cN aNoLines pg)
include T
theorem rp(j:Nat){h:PH}{q m:Nat}{a b c d:Str}(r:Nat)(e:h[q]?=UU (.lst [.str a,.str b,.str c,.str d]))(tb:Tx m b)(tc:Tx m c)(td:Tx m d)(l:m<=10000) :
  run pg (j+5) "read_look" [.ref q,.int r] h=if zK a b c d=true then .ok (mC a b c d) h else oJ aNoLines r h:=by
 rw[fK T.uk rfl (by rw[T.fD];rfl)];have k7:(ft dB (.inr a)).isSome=decide (a∈W7):=l7 rfl;have k3: ∀ h,b6 (.str a) (.ktup [.str "clock",.str "lot",.str "hear"]) h= .ok (.bl (!decide (a∈W3))) h:=λh=>ES (ss:=W3);have nm:=λg=>En T (j+2) (h:=g) (s:=b) (Vn tb.2 (by omega));have nc:=λg=>jR T (j+1) (h:=g) r tc (by omega);have nd:=λg=>rJ T j (h:=g) r td l;unfold zK mC;rw[EH];by_cases z:a∈W7\/a∈W3
 . have z0:(decide (a∈W7)||decide (a∈W3))=true:=by rw[<- Yt];exact decide_eq_true z
   rw[z0,VQ];have A: ∀ rest,ah (cE (nT (iE (aC (uR true dB (eX 0 0))) (aC (ay b6 (eX 0 0) (eC (.ktup [(.str "clock"),(.str "lot"),(.str "hear")])))))) (dA aNoLines ["row"] (nA (a1 (aa 1)))) dk) rest (run pg (j+4)) [UU (.ref q),UU (.int r),UX] h=rest (run pg (j+4)) [UU (.ref q),UU (.int r),UX] h:=λrest=>by
    by_cases y:a∈W7
    . have y1:=eq_true y;simp? [e,fj,k7,y1,k3]
    . have y2:=eq_true (z.resolve_left y);simp? [e,fj,k7,y,k3,y2]
   have B: ∀(v:PV),Gg b=true->ah (cE (nT (iE (aC (ay gG (eX 0 1) (eS "-"))) (fB (aC (ai "is_name" (a1 (eX 0 1))))))) (dA aNoLines ["row"] (nA (a1 (aa 1)))) dk) (ah (nS (aA (yZ (mQ (eX 0 1) (eS "-")) (eS "") (eX 0 1)) (gN 2))) (aK (cU (ae (nX (eX 0 0)) (ae (nX (aa 2)) (ae (ai "number_or_none" (nA (a2 (eX 0 2) (aa 1)))) (ae (ai "read_mark" (nA (a2 (eX 0 3) (aa 1)))) aj))))))) (run pg (j+4)) [UU (.ref q),UU (.int r),UX] h=(aK (cU (ae (nX (eX 0 0)) (ae (nX (aa 2)) (ae (ai "number_or_none" (nA (a2 (eX 0 2) (aa 1)))) (ae (ai "read_mark" (nA (a2 (eX 0 3) (aa 1)))) aj)))))) (run pg (j+4)) [UU (.ref q),UU (.int r),UU (.str (uQ b))] h:=λ_ tb=>by
    unfold Gg at tb;unfold uQ;by_cases y:b= "-"
    . have y1:=eq_true y;simp? [e,fT,y1]
    . have y2:gS (.str b)=true:=by simpa [y] using tb
      rw[y2] at nm;simp? [e,fT,y,nm]
   cases f:Gg b with
   | false =>
    unfold Gg at f
    have y: ¬ b= "-" :=λy=>by rw[y] at f;simp at f
    have y2:gS (.str b)=false:=by simpa [y] using f
    rw[y2] at nm
    simp only[c7,fQ]
    show uJ h (ah _ _ (run pg (j+4)) [UU (.ref q),UU (.int r),UX] h)=_
    rw[A]
    simp? [e,fT,y,nm]
    exact C6
   | true =>
    simp only[c7,fQ]
    show uJ h (ah _ _ (run pg (j+4)) [UU (.ref q),UU (.int r),UX] h)=_
    rw[A,B .non f,VQ]
    have gc:(if c= "-" then RV.ok PV.non h else if aZ c=true then RV.ok (.int (cW c)) h else oJ aNoLines r h)=if d7 c=true then RV.ok (gX c) h else oJ aNoLines r h:=by
     unfold d7 gX;by_cases y:c= "-"
     . simp[y]
     . cases aZ c<;>simp[y]
    have nc':=nc h
    rw[gc] at nc'
    cases g:d7 c with
    | false =>
     rw[g] at nc'
     simp only[VS,if_false] at nc'
     simp? [e,fj,fT,lP,nc']
     exact C6
    | true =>
     rw[g] at nc'
     simp only[if_true] at nc'
     have nd':=nd h
     cases g2:zd d with
     | false =>
      rw[g2] at nd'
      simp only[VS,if_false] at nd'
      simp? [e,fj,fT,lP,qO,nc',nd']
      exact C6
     | true =>
      rw[g2] at nd'
      simp only[if_true] at nd'
      simp? [e,fj,fT,lP,qO,nc',nd',Xt]
 . have z0:(decide (a∈W7)||decide (a∈W3))=false:=by rw[<- Yt];exact decide_eq_false z
   rw[z0,Wj];have y1: ¬ a∈W7:=λy=>z (.inl y);have y2: ¬ a∈W3:=λy=>z (.inr y);simp? [c7,fQ,e,fj,k7,k3,y1,y2];exact C6
theorem ny(j:Nat){h:PH}{n m:Nat}{ls:List Str}(e:h[n]?=UU (.lst (ls.map PV.str)))(t:yx m ls)(l:m<=10000){r:Nat}{x:Str}(ex:ls[r]?=UU x)(g k:Nat) :
  run pg (j+1) "touch_words" [.ref n,.int r,.int g,.int k] h=if g≠0/\(aQ x).length=4+k then .ok (.ref h.length) (h++[.lst ((aQ x).map PV.str)]) else oJ aNoLines r h:=by
 rw[fK T.oA rfl (by rw[T.fD];rfl)];have tx:=t.2 x (VU ex);have sp:=j6 (h:=h) tx (by omega);have ix:ck (.ref n) (.int r) h= .ok (.str x) h:=by
  rw[eO,e,eA];rw[P3.cw rfl (by rw[VI,ex];rfl)];rfl
 have ln:aP [.ref h.length] (h++[.lst ((aQ x).map PV.str)])= .ok (.int (aQ x).length) (h++[.lst ((aQ x).map PV.str)]):=by rw[dy (xs:=(aQ x).map PV.str) au,U3]
 by_cases g0:g=0
 . have g1:=eq_true (show(g:Int)=0 by omega);rw[if_neg (λz=>z.1 g0)];simp? [cF,dH,du,jz,aJ,ix,sp,g1];exact zD
 . have g1: ¬ (g:Int)=0:=by omega
   by_cases z:(aQ x).length=4+k
   . have z1:=eq_true (show((aQ x).length:Int)=4+(k:Int) by omega);rw[if_pos ⟨g0,z⟩];simp? [cF,dH,du,jz,aJ,ix,sp,g1,ln,z1];exact bF rfl
   . have z1: ¬ ((aQ x).length:Int)=4+(k:Int):=by omega
     rw[if_neg (λy=>z y.2)];simp? [cF,dH,du,jz,aJ,ix,sp,g1,ln,z1];exact zD
end
noncomputable def C8(ws:List Str):Str:=ws.headD ""
def C0(ls:List Str):Option Nat:=(wb ls 0 "paper").bind λws=>if ws.all aZ=true/\ws.length=1/\1<=cW (C8 ws)/\cW (C8 ws)<=4 then UU (cW (C8 ws)).toNat else UX
def DS(ls:List Str):Option (List Str):=(wb ls 1 "order").bind λws=>if ws.all aZ=true then UU ws else UX
section
variable{pg:Tb}{aNoLines:Nat}(T:cN aNoLines pg)
include T
theorem rC(j:Nat){h:PH}{n m:Nat}{ls:List Str}(e:h[n]?=UU (.lst (ls.map PV.str)))(t:yx m ls)(l:m<=10000) :
  run pg (j+4) "read_many" [.ref n] h=match C0 ls with
   | some k=> .ok (.int (k:Nat)) h
   | none=>oJ aNoLines 0 h:=by
 rw[fK T.um rfl (by rw[T.fD];rfl)];have b:run pg (j+3) "words_behind" [.ref n,.int 0,.str "paper"] h=_:=qa T (j+2) e t l (V2 _) "paper";unfold C0;cases q:wb ls 0 "paper" with
 | none =>
  rw[q] at b
  simp? [bS,cM,b]
  exact C6
 | some ws =>
  obtain⟨x,ex,ew⟩:=lX q
  obtain⟨w1,w2⟩:=CP t q
  rw[q,ex] at b
  have lc:=lU T (j+1) (X:=h++[.lst ((aQ x).map PV.str),.lst (ws.map PV.str)]) (q:=h.length+1) (i:=2) (E:=[UU (.ref n),UX]) (ws:=ws) (by rw[aG];rfl) w1 w2 l (r:=0) (er:=eI 0) rfl (λ_ _=>rfl)
  rw[Xv]
  cases a:ws.all aZ with
  | false =>
   simp only[a,VS,if_false] at lc
   simp? [bS,cM,b,lc]
   simp only[VS,false_and,if_false]
   exact zD
  | true =>
   simp only[a,if_true] at lc
   by_cases z:ws.length=1
   . obtain⟨w,rfl⟩:=Xp.mp z;have hh:C8 [w]=w:=rfl;simp only[U2,VP,eY] at lc;simp only[hh,UZ,U6,true_and,eq_self];by_cases y1:1<=cW w
     . by_cases y2:cW w<=4
       . have tn:((cW w).toNat:Int)=cW w:=by omega
         simp? [bS,cM,b,lc,y1,y2,fj,and_self];rw[tn];exact AO
       . simp? [bS,cM,b,lc,y1,y2,fj,and_false];exact zD
     . simp? [bS,cM,b,lc,y1,fj,false_and];exact zD
   . have z1: ¬ (ws.length:Int)=1:=by omega
     simp? [bS,cM,b,lc,U3,z1];simp only[z,false_and,and_false,if_false];exact zD
end
theorem HR{ls:List Str}{k:Nat}(h:C0 ls=UU k):0 < ls.length/\1<=k/\k<=4:=by
 unfold C0 at h;obtain⟨ws,h1,h2⟩:=aaP.mp h;obtain⟨x,ex,_⟩:=lX h1;split at h2
 . rename_i a;cases h2;exact⟨(Vk.mp ex).1,by omega,by omega⟩
 . nomatch h2
abbrev Ts:=List (List (List Str))
def ND:List Str->Bool
 | a::b::c::d::_=>zK a b c d
 | _=>false
def yg:List Str->PV
 | a::b::c::d::_=>mC a b c d
 | _=> .non
def zH(ws:List Str):PV:= .tup ((ws.drop 4).map eY)
def pM(k:Nat)(ws:List Str):Bool:=decide (ws.length=4+k)&&(ND ws&&(ws.drop 4).all aZ)
noncomputable def pu:Ts->List Str->Ts
 | [],_=>[]
 | [t],ws=>[t++[ws]]
 | t::u::r,ws=>t::pu (u::r) ws
theorem mY(t:List (List Str))(ws:List Str): ∀ ys:Ts,pu (ys++[t]) ws=ys++[t++[ws]]
 | []=>rfl
 | [y]=>rfl
 | y::z::ys=>by
  have:=mY t ws (z::ys);rw[WQ,WQ,pu];rw[WQ] at this;rw[this];rfl
def BY(k:Nat)(st:Ts)(x:Str):Option Ts:=if x= "hand" /\st.length < k then UU (st++[[]]) else if st≠[]/\pM k (aQ x)=true then UU (pu st (aQ x)) else UX
def wk(k:Nat):List Str->Ts->Nat->Nat ⊕ Ts
 | [],st,_=> .inr st
 | x::xs,st,r=>match BY k st x with
  | none=> .inl r
  | some s=>wk k xs s (r+1)
def rS(t:List (List Str)):PV:= .tup (t.map yg)
def wK(t:List (List Str)):PV:= .tup (t.map zH)
def rP(os:List Str)(st:Ts):PV:= .tup [.tup (os.map eY),.tup (st.map rS),.tup (st.map wK)]
def rr(ls:List Str):Nat ⊕ PV:=match C0 ls with
 | none=> .inl 0
 | some k=>match DS ls with
  | none=> .inl 1
  | some os=>match wk k (ls.drop 2) [] 2 with
   | .inl r=> .inl r
   | .inr st=>if st.length < k then .inl ls.length else .inr (rP os st)
theorem Ac(ws:List Str):(yg ws).flat=true:=by
 unfold yg;split
 . exact Ek _ _ _ _
 . rfl
theorem iy{α :Type}{f: α ->PV}(h: ∀ a,(f a).flat=true): ∀ l:List α,PV.c6 (l.map f)=true
 | []=>rfl
 | x::l=>by rw[U2,PV.c6,h x,iy h l];rfl
theorem mX(os:List Str)(st:Ts):(rP os st).flat=true:=by
 have k1:PV.c6 (os.map eY)=true:=j8 λ_=>rfl;have k2:=iy (f:=rS) (λt=>by rw[rS,PV.flat];exact iy Ac t) st;have k3:=iy (f:=wK) (λt=>by rw[wK,PV.flat];exact iy (λws=>by rw[zH,PV.flat];exact j8 λ_=>rfl) t) st;simp only[rP,PV.flat,PV.c6,k1,k2,k3,Xt]
def Bd(N:Nat)(st:Ts):Prop:=st.length<=N/\ ∀ t∈st,t.length<=N
theorem vP{N k:Nat}{st s:Ts}{x:Str}(b:Bd N st)(e:BY k st x=UU s):Bd (N+1) s:=by
 unfold BY at e;split at e
 . cases e;refine⟨by rw[U7];have:=b.1;simp only[UZ,U6];omega,λt m=>?_⟩;rcases Vz.mp m with m | m
   . have:=b.2 t m;omega
   . rw[Vm.mp m];exact V2 _
 . split at e
   . rename_i z;cases e;obtain⟨ys,t,rfl⟩: ∃ ys t,st=ys++[t]:=⟨st.dropLast,st.getLast z.1,(Xk z.1).symm⟩
     rw[mY];refine⟨by have:=b.1;simp only[U7,UZ,U6] at this ⊢; omega,λu m=>?_⟩;rcases Vz.mp m with m | m
     . have:=b.2 u (VO _ m);omega
     . rw[Vm.mp m,U7];have:=b.2 t (Vi _ Ve);simp only[UZ,U6];omega
   . nomatch e
def Hd:MT:=nT (iE (aC (ay fZ (ay ck (aa 0) (aa 5)) (eS "hand"))) (aC (ay zq (eB aP (a1 (aa 3))) (aa 1))))
def Ny:MS:=ah (nS (bM (eM az aO (aa 3) (a1 (bh aj))))) (nS (bM (eM az aO (aa 4) (a1 (bh aj)))))
def oU:MS:=(aA (ai "touch_words" (nA (ae (aa 0) (ae (aa 5) (ae (eB aP (a1 (aa 3))) (a1 (aa 1))))))) (gN 6))
def rf:MS:=(bM (Jx az aO (ay ck (aa 3) (jV jW (eI 1))) (ae (ai "read_look" (nA (ae (de (aa 6) aI (aB (eI 4))) (a1 (aa 5))))) aj)))
def uI:MS:=(bM (Jx az aO (ay ck (aa 4) (jV jW (eI 1))) (ae (Nu aH (ae (fg 1 (nI (iY (de (aa 6) (aB (eI 4)) aI))) (nG (gN 7)) (nT bf) (ai "number_in" (nA (a2 (aa 7) (aa 5))))) aj)) aj)))
def zF:MS:=cE Hd Ny (ah oU (ah rf uI))
def Kn(f:PV->List PV->PH->RV PV)(x:PV)(xs:List PV)(h:PH):RV PV:=(f x xs h).strip
def OV(f:PV->List PV->PH->RV PV)(ty:PV->PH->Bool)(r:MA)(c:CF)(e:aM)(x:PV)(h:PH):RV PV:=if ty x h=true then(r c e h).bind (Kn f x) else .no
theorem Ci{f:PV->List PV->PH->RV PV}{ty:PV->PH->Bool}{a:ME}{r:MA}{c:CF}{e:aM}{h:PH}:Jx f ty a r c e h=((a c e h).strip).bind (OV f ty r c e):=(rfl)
theorem vC{f:PV->List PV->PH->RV PV}{ty:PV->PH->Bool}{r:MA}{c:CF}{e:aM}{x:PV}{h:PH}:OV f ty r c e x h=if ty x h=true then(r c e h).bind (Kn f x) else .no:=(rfl)
theorem vE{f:PV->List PV->PH->RV PV}{x:PV}{xs:List PV}{h:PH}:Kn f x xs h=(f x xs h).strip:=(rfl)
theorem qP{xs:List PV}{v:PV}:gf (xs++[v]) (-1)=UU v:=by
 have e:mK (xs++[v]).length (-1)=UU xs.length:=by
  unfold mK;rw[U7,Yi,if_neg (by decide),if_pos (by omega),show(-1+((xs.length+1:Nat):Int)).toNat=xs.length by omega]
 unfold gf;rw[e];show(xs++[v])[xs.length]?=_;rw[VJ (Vb _),Zr];rfl
abbrev Zl:=List (Nat × Nat × List PV × List PV)
structure PS(h H:PH)(p:Nat)(zs:Zl):Prop where
 gr: ∃ G,H=h++G
 hp:h.length<=p
 t:H[p]?=UU (.lst (zs.map λc=> .ref c.1))
 c:H[p+1]?=UU (.lst (zs.map λc=> .ref c.2.1))
 a: ∀ c∈zs,H[c.1]?=UU (.lst c.2.2.1)/\H[c.2.1]?=UU (.lst c.2.2.2)/\p+1 < c.1/\p+1 < c.2.1
 s: ∀ ys d,zs=ys++[d]->d.1 < d.2.1/\ ∀ c∈ys,c.1 < d.1/\c.2.1 < d.1
theorem gx{H:PH}{n:Nat}{o:PO}(e:H[n]?=UU o)(X:PH):(H++X)[n]?=UU o:=by
 rw[Vx ((Vk.mp e).1)];exact e
theorem iz{H:PH}{n:Nat}{o:PO}(e:H[n]?=UU o):n < H.length:=(Vk.mp e).1
theorem kr{h H:PH}{i:Nat}{o:PO}(g: ∃ G,H=h++G)(l:h.length<=i): ∃ G,H.set i o=h++G:=by
 obtain⟨G,rfl⟩:=g;exact⟨_,Wu _ _ l⟩
section
variable{h H:PH}{p:Nat}{zs ys:Zl}
theorem PS.app(s:PS h H p zs)(X:PH):PS h (H++X) p zs:=by
 refine⟨?_,s.hp,gx s.t X,gx s.c X,λc m=>⟨gx (s.a c m).1 X,gx (s.a c m).2.1 X,(s.a c m).2.2⟩,s.s⟩;obtain⟨G,rfl⟩:=s.gr;exact⟨G++X,by rw[Vd]⟩
theorem PS.at(s:PS h H p zs){n:Nat}{o:PO}(e:h[n]?=UU o):H[n]?=UU o:=by
 obtain⟨G,rfl⟩:=s.gr;exact gx e G
theorem PS.new(s:PS h H p zs):PS h ((((H++[PO.lst []]).set p (PO.lst ((zs.map λc=>PV.ref c.1)++[PV.ref H.length])))++[PO.lst []]).set (p+1) (PO.lst ((zs.map λc=>PV.ref c.2.1)++[PV.ref (H.length+1)]))) p (zs++[(H.length,H.length+1,[],[])]):=by
 have l1:=iz s.t;have l2:=iz s.c;have hp:=s.hp;have le: ∀ o,((H++[PO.lst []]).set p o).length=H.length+1:=λo=>by simp
 have e2:H++[PO.lst [],PO.lst []]=(H++[PO.lst []])++[PO.lst []]:=by simp
 have k0: ∀(o o':PO)(i:Nat),i≠p->i≠p+1->((((H++[PO.lst []]).set p o)++[PO.lst []]).set (p+1) o')[i]?=(H++[PO.lst [],PO.lst []])[i]?:=λo o' i a b=>by
  rw[Vp (by omega),e2];rcases X7 i (H.length+1) with z | z
  . exact(Vx (by rw[le];exact z)).trans ((Vp (by omega)).trans (Vx (by simp;omega)).symm)
  . exact(VJ (by rw[le];exact z)).trans ((by rw[le];simp:_=[PO.lst []][i - (H++[PO.lst []]).length]?).trans (VJ (by simp;omega)).symm)
 refine⟨kr ?_ (by omega),hp,?_,?_,?_,?_⟩
 . obtain⟨G,e⟩:=kr (o:= .lst ((zs.map λc=> .ref c.1)++[.ref H.length])) (s.app [.lst []]).gr hp;exact⟨G++[.lst []],by rw[e,Vd]⟩
 . rw[Vp (by omega),Vx (by rw[le];omega),VL (by simp;omega),Vu];rfl
 . rw[VL (by simp;omega),Vu];rfl
 . intro c m;rcases Vz.mp m with m | m
   . obtain⟨a1,a2,a3,a4⟩:=s.a c m;exact⟨(k0 _ _ _ (by omega) (by omega)).trans (gx a1 _),(k0 _ _ _ (by omega) (by omega)).trans (gx a2 _),a3,a4⟩
   . rw[Vm.mp m];exact⟨(k0 _ _ _ (by show H.length≠p;omega) (by show H.length≠p+1;omega)).trans au,(k0 _ _ _ (by show H.length+1≠p;omega) (by show H.length+1≠p+1;omega)).trans (by rw[aG];rfl),by show p+1 < H.length;omega,by show p+1 < H.length+1;omega⟩
 . intro ys d e;obtain⟨e1,e2⟩:=aaQ e rfl;subst e1;cases e2;exact⟨aaG _,λc m=>⟨iz (s.a c m).1,iz (s.a c m).2.1⟩⟩
theorem PS.RY{a b:Nat}{us vs:List PV}(s:PS h H p (ys++[(a,b,us,vs)]))(us':List PV):PS h (H.set a (.lst us')) p (ys++[(a,b,us',vs)]):=by
 obtain⟨ab,sp⟩:=s.s ys _ rfl;obtain⟨a1,a2,a3,a4⟩:=s.a (a,b,us,vs) (Vi _ Ve);simp only at ab sp a1 a2 a3 a4;have hp:=s.hp;refine⟨kr s.gr (by omega),hp,?_,?_,?_,?_⟩
 . rw[Vp (by omega),s.t];simp
 . rw[Vp (by omega),s.c];simp
 . intro c m;rcases Vz.mp m with m | m
   . obtain⟨b1,b2,b3,b4⟩:=s.a c (VO _ m);have:=sp c m;exact⟨by rw[Vp (by omega)];exact b1,by rw[Vp (by omega)];exact b2,b3,b4⟩
   . rw[Vm.mp m];exact⟨VL (iz a1),(Vp (show a≠b by omega)).trans a2,a3,a4⟩
 . intro zs d e;obtain⟨e1,e2⟩:=aaQ e rfl;subst e1;cases e2;exact⟨ab,sp⟩
theorem PS.setB{a b:Nat}{us vs:List PV}(s:PS h H p (ys++[(a,b,us,vs)]))(vs':List PV):PS h (H.set b (.lst vs')) p (ys++[(a,b,us,vs')]):=by
 obtain⟨ab,sp⟩:=s.s ys _ rfl;obtain⟨a1,a2,a3,a4⟩:=s.a (a,b,us,vs) (Vi _ Ve);simp only at ab sp a1 a2 a3 a4;have hp:=s.hp;refine⟨kr s.gr (by omega),hp,?_,?_,?_,?_⟩
 . rw[Vp (by omega),s.t];simp
 . rw[Vp (by omega),s.c];simp
 . intro c m;rcases Vz.mp m with m | m
   . obtain⟨b1,b2,b3,b4⟩:=s.a c (VO _ m);have:=sp c m;exact⟨by rw[Vp (by omega)];exact b1,by rw[Vp (by omega)];exact b2,b3,b4⟩
   . rw[Vm.mp m];exact⟨(Vp (show b≠a by omega)).trans a1,VL (iz a2),a3,a4⟩
 . intro zs d e;obtain⟨e1,e2⟩:=aaQ e rfl;subst e1;cases e2;exact⟨ab,sp⟩
theorem PS.Te(s:PS h H p zs)(X:PH): ∃ G,H++X=h++G:=(s.app X).gr
end
def tv(t:List (List Str)):List PV × List PV:=(t.map yg,t.map zH)
theorem Je{zs:Zl}{st:Ts}(e:zs.map (λc=>c.2.2)=st.map tv)(ne:st≠[]): ∃ ys a b t0 t,zs=ys++[(a,b,t.map yg,t.map zH)]/\st=t0++[t]/\ys.map (λc=>c.2.2)=t0.map tv:=by
 obtain⟨t0,t,rfl⟩: ∃ ys t,st=ys++[t]:=⟨st.dropLast,st.getLast ne,(Xk ne).symm⟩
 rw[Vu] at e;obtain⟨y1,y2,rfl,e1,e2⟩:=List.map_eq_append_iff.mp e;obtain⟨c,rfl⟩: ∃ c,y2=[c]:=by
  have:=congrArg Yp e2;rw[U3,U3] at this;exact Xp.mp this
 obtain⟨a,b,us,vs⟩:=c;simp only[U2,VP,acZ,and_true,tv,Prod.mk.injEq] at e2;obtain⟨rfl,rfl⟩:=e2;exact⟨y1,a,b,t0,t,rfl,rfl,e1⟩
theorem lR(x:Str):(x= "hand")↔aQ x=[U0 "hand"]:=by
 constructor
 . intro e;rw[e];decide +kernel
 . intro e;have:=vN x;rw[e,gJ] at this;exact this.symm
section
variable{pg:Tb}{aNoLines:Nat}(T:cN aNoLines pg)
include T
section
variable{h H:PH}{p n m r k:Nat}{zs:Zl}{st:Ts}{x:Str}{ls:List Str}(s:PS h H p zs)(ez:zs.map (λc=>c.2.2)=st.map tv)(bd:Bd 2000 st)(en:h[n]?=UU (.lst (ls.map PV.str)))(t:yx m ls)(ex:ls[r]?=UU x)(l:m<=10000)
include s ez bd en t ex l
theorem Bh(j:Nat){e2 e5 e6:Option PV}(c1:x= "hand")(c2:st.length < k): ∃ H' zs',PS h H' p zs'/\zs'.map (λc=>c.2.2)=(st++[[]]).map tv /\
  aN (nG (gN 5)) zF (run pg (j+6)) (.int r) [UU (.ref n),UU (.int k),e2,UU (.ref p),UU (.ref (p+1)),e5,e6] H= .ok (.nx [UU (.ref n),UU (.int k),e2,UU (.ref p),UU (.ref (p+1)),UU (.int r),e6]) H':=by
 have zl:zs.length=st.length:=by have:=congrArg Yp ez;rwa[U3,U3] at this
 have b1:=bd.1;have ix:ck (.ref n) (.int r) H= .ok (.str x) H:=by
  rw[eO,s.at en,eA,P3.cw rfl (by rw[VI,ex];rfl)];rfl
 have ln:aP [.ref p] H= .ok (.int st.length) H:=by rw[dy s.t,U3,zl]
 have lt:(st.length:Int) < (k:Int):=by omega
 have cx:=eq_true c1;obtain⟨H1,e1⟩: ∃ H1,H1=(H++[PO.lst []]).set p (PO.lst ((zs.map λc=>PV.ref c.1)++[PV.ref H.length])):=⟨_,rfl⟩
 have L1:H1.length=H.length+1:=by rw[e1];simp
 have i1:aO (.ref p) H=true:=cH s.t;have a1':az (.ref p) [.ref H.length] (H++[.lst []])= .ok .non H1:=by
  rw[jD,gx s.t,j1 (by rw[U3];omega),e1]
 have g2:H1[p+1]?=UU (.lst (zs.map λc=> .ref c.2.1)):=by rw[e1,Vp (by omega)];exact gx s.c _
 have i2:aO (.ref (p+1)) H1=true:=cH g2;have a2':az (.ref (p+1)) [.ref H1.length] (H1++[.lst []])= .ok .non ((H1++[PO.lst []]).set (p+1) (PO.lst ((zs.map λc=>PV.ref c.2.1)++[PV.ref (H.length+1)]))):=by
  rw[jD,gx g2,j1 (by rw[U3];omega),L1]
 refine⟨_,_,s.new,?_,?_⟩
 . rw[Vu,Vu,ez];rfl
 . rw[<- e1];simp? [zF,Hd,Ny,ix,cx,ln,lt,du,jz,i1,a1',i2,a2']
theorem Gp(j:Nat){e2 e6:Option PV}{A B:MS}(c1: ¬ (x= "hand" /\st.length < k)):cE Hd A B (run pg (j+6)) [UU (.ref n),UU (.int k),e2,UU (.ref p),UU (.ref (p+1)),UU (.int r),e6] H=B (run pg (j+6)) [UU (.ref n),UU (.int k),e2,UU (.ref p),UU (.ref (p+1)),UU (.int r),e6] H:=by
 have zl:zs.length=st.length:=by have:=congrArg Yp ez;rwa[U3,U3] at this
 have ix:ck (.ref n) (.int r) H= .ok (.str x) H:=by
  rw[eO,s.at en,eA,P3.cw rfl (by rw[VI,ex];rfl)];rfl
 have ln:aP [.ref p] H= .ok (.int st.length) H:=by rw[dy s.t,U3,zl]
 by_cases cx:x= "hand"
 . have c2:=eq_true cx;have lt: ¬ (st.length:Int) < (k:Int):=λz=>c1 ⟨cx,by omega⟩;simp? [Hd,ix,c2,ln,lt]
 . simp? [Hd,ix,cx]
theorem yT(j:Nat){e2 e5 e6:Option PV}(c1: ¬ (x= "hand" /\st.length < k)) :
  (st≠[]/\pM k (aQ x)=true/\ ∃ H' zs' e6',PS h H' p zs'/\zs'.map (λc=>c.2.2)=(pu st (aQ x)).map tv/\aN (nG (gN 5)) zF (run pg (j+6)) (.int r) [UU (.ref n),UU (.int k),e2,UU (.ref p),UU (.ref (p+1)),e5,e6] H= .ok (.nx [UU (.ref n),UU (.int k),e2,UU (.ref p),UU (.ref (p+1)),UU (.int r),e6']) H') \/
  (¬ (st≠[]/\pM k (aQ x)=true)/\ ∃ G,aN (nG (gN 5)) zF (run pg (j+6)) (.int r) [UU (.ref n),UU (.int k),e2,UU (.ref p),UU (.ref (p+1)),e5,e6] H= .ex aNoLines [("row",.int r)] (h++G)):=by
 have zl:zs.length=st.length:=by have:=congrArg Yp ez;rwa[U3,U3] at this
 have tx:=t.2 x (VU ex);obtain⟨w1,w2⟩:=tx.wd;have no:=λA B=>Gp T s ez bd en t ex l j (k:=k) (e2:=e2) (e6:=e6) (A:=A) (B:=B) c1;have ln:aP [.ref p] H= .ok (.int st.length) H:=by rw[dy s.t,U3,zl]
 have tw:=ny T (j+5) (s.at en) t l ex st.length k;obtain⟨g0,eg⟩: ∃ g0,g0=st.length:=⟨_,rfl⟩
 obtain⟨W,eW⟩: ∃ W,W=(aQ x).map PV.str:=⟨_,rfl⟩
 rw[<- eg] at ln tw;rw[<- eW] at tw;have F: ∀ R,(ah oU (ah rf uI)) (run pg (j+6)) [UU (.ref n),UU (.int k),e2,UU (.ref p),UU (.ref (p+1)),UU (.int r),e6] H=R->aN (nG (gN 5)) zF (run pg (j+6)) (.int r) [UU (.ref n),UU (.int k),e2,UU (.ref p),UU (.ref (p+1)),e5,e6] H=R:=λR q=>by
  have q1:=(no Ny (ah oU (ah rf uI))).trans q;rw[<- q1];unfold zF;generalize Hd=C;generalize Ny=A;generalize ah oU (ah rf uI)=B;simp(disch:=omega) only[jE,↓Ha,jc,sI,bE,Y2,Y3]
 by_cases g:g0≠0/\(aQ x).length=4+k
 . rw[if_pos g] at tw;have ne:st≠[]:=λz=>g.1 (by rw[eg,z];rfl);obtain⟨a,b,c,d,w,ew⟩: ∃ a b c d w,aQ x=a::b::c::d::w:=by
    generalize aQ x=u at g;rcases u with _ | ⟨a,_ | ⟨b,_ | ⟨c,_ | ⟨d,w⟩⟩⟩⟩
    . exact absurd g.2 (by rw[U6];omega)
    . exact absurd g.2 (by simp only[UZ,U6];omega)
    . exact absurd g.2 (by simp only[UZ,U6];omega)
    . exact absurd g.2 (by simp only[UZ,U6];omega)
    . exact⟨_,_,_,_,_,rfl⟩
   obtain⟨ys,ad,bd',t0,tt,rfl,rfl,ey⟩:=Je ez ne;have tl:tt.length<=2000:=bd.2 tt (Vi _ Ve);have zt:=s.t;have zc:=s.c;rw[Vu,U2,VP] at zt zc;have p1: ∀ X,ck (.ref p) (.int (-1)) (H++X)= .ok (.ref ad) (H++X):=λX=>by rw[eO,gx zt,eA,qP];rfl
   obtain⟨q1,q2,q3,q4⟩:=s.a _ (Vi _ Ve);simp only at q1 q2 q3 q4;have ab:ad < bd':=(s.s ys _ rfl).1;have lh:=s.hp;have lA:=iz q1;rw[ew] at w1 w2 g eW;have i1: ∀ X,aO (.ref ad) (H++X)=true:=λX=>cH (gx q1 X);have e4:(H++[PO.lst W,PO.lst [.str a,.str b,.str c,.str d]])[H.length+1]?=UU (.lst [.str a,.str b,.str c,.str d]):=by rw[aG];rfl
   have rl:=rp T (j+1) r e4 (w2 b (by simp)) (w2 c (by simp)) (w2 d (by simp)) l;have cu1:dN W UX (UU 4)=[.str a,.str b,.str c,.str d]:=by rw[eW,P3.qR (by decide)];rfl
   have cu2:dN W (UU 4) UX=w.map PV.str:=by rw[eW,P3.gh (by decide)];rfl
   have sl1:yU (.ref H.length) UX (UU 4) (H++[.lst W])= .ok (.ref (H.length+1)) (H++[.lst W,.lst [.str a,.str b,.str c,.str d]]):=by
    rw[tK,au,kU,cu1,U7,Vd];rfl
   rw[ew];cases f:zK a b c d with
   | false =>
    rw[f] at rl
    simp only[VS,if_false] at rl
    obtain⟨G,eG⟩:=s.Te [.lst W,.lst [.str a,.str b,.str c,.str d]]
    refine .inr ⟨λz=>?_,G,?_⟩
    . have:=z.2;unfold pM at this;rw[show ND (a::b::c::d::w)=zK a b c d from rfl,f] at this;simp at this
    . rw[<- eG];refine F _ ?_;simp? [oU,rf,ln,tw,Ci,vC,vE,p1,i1,sl1,rl]
   | true =>
    rw[f] at rl
    simp only[if_true] at rl
    obtain⟨H2,e2'⟩: ∃ H2,H2=H++[PO.lst W,PO.lst [.str a,.str b,.str c,.str d]]:=⟨_,rfl⟩
    have s2:PS h H2 p (ys++[(ad,bd',tt.map yg,tt.map zH)]):=by rw[e2'];exact s.app _
    have gw:H2[H.length]?=UU (.lst W):=by rw[e2'];exact au
    have ap1:az (.ref ad) [mC a b c d] H2= .ok .non (H2.set ad (.lst (tt.map yg++[mC a b c d]))):=by
     rw[jD,(s2.a _ (Vi _ Ve)).1,j1 (by rw[U3];omega)]
    obtain⟨H3,e3⟩: ∃ H3,H3=H2.set ad (.lst (tt.map yg++[mC a b c d])):=⟨_,rfl⟩
    have s3:PS h H3 p (ys++[(ad,bd',tt.map yg++[mC a b c d],tt.map zH)]):=by rw[e3];exact s2.RY _
    have gw3:H3[H.length]?=UU (.lst W):=by rw[e3,Vp (by omega)];exact gw
    rw[<- e3] at ap1
    rw[<- e2'] at rl sl1
    have zc3:=s3.c
    rw[Vu,U2,VP] at zc3
    have p2:ck (.ref (p+1)) (.int (-1)) H3= .ok (.ref bd') H3:=by rw[eO,zc3,eA,qP];rfl
    obtain⟨o1,o2,_,_⟩:=s3.a _ (Vi _ Ve)
    simp only at o1 o2
    have i2:aO (.ref bd') H3=true:=cH o2
    have sl2:yU (.ref H.length) (UU 4) UX H3= .ok (.ref H3.length) (H3++[.lst (w.map PV.str)]):=by
     rw[tK,gw3,kU,cu2]
    have lc:=lU T (j+4) (X:=H3++[.lst (w.map PV.str)]) (q:=H3.length) (i:=7) (E:=[UU (.ref n),UU (.int k),e2,UU (.ref p),UU (.ref (p+1)),UU (.int r),UU (.ref H.length)]) (ws:=w) au (m:=m) (by simp only[UZ] at w1;omega) (λv mv=>w2 v (by simp[mv])) l (r:=r) (er:=aa 5) rfl (λ_ _=>rfl)
    cases f2:w.all aZ with
    | false =>
     simp only[f2,VS,if_false] at lc
     obtain⟨G,eG⟩:=s3.Te [.lst (w.map PV.str)]
     refine .inr ⟨λz=>?_,G,?_⟩
     . have:=z.2;unfold pM at this;rw[show(a::b::c::d::w).drop 4=w from rfl,f2] at this;simp at this
     . rw[<- eG];refine F _ ?_;simp? [oU,rf,uI,ln,tw,Ci,vC,vE,p1,i1,sl1,rl,ap1,p2,i2,sl2,lc]
    | true =>
     simp only[f2,if_true] at lc
     have tp:aH [.ref (H3.length+(0+1))] (H3++[.lst (w.map PV.str),.lst (w.map eY)])= .ok (.tup (w.map eY)) _:=cO (by rw[aG];rfl)
     have ap2:az (.ref bd') [.tup (w.map eY)] (H3++[.lst (w.map PV.str),.lst (w.map eY)])= .ok .non ((H3++[PO.lst (w.map PV.str),PO.lst (w.map eY)]).set bd' (PO.lst (tt.map zH++[PV.tup (w.map eY)]))):=by
      rw[jD,gx o2,j1 (by rw[U3];omega)]
     refine .inl ⟨ne,?_,_,_,UU (.ref H.length),(s3.app [.lst (w.map PV.str),.lst (w.map eY)]).setB (tt.map zH++[.tup (w.map eY)]),?_,?_⟩
     . unfold pM;rw[decide_eq_true g.2,show(a::b::c::d::w).drop 4=w from rfl,f2,show ND (a::b::c::d::w)=zK a b c d from rfl,f];rfl
     . rw[mY,Vu,ey,Vu];simp only[U2,VP,tv,Vu];rfl
     . refine F _ ?_;simp? [oU,rf,uI,ln,tw,Ci,vC,vE,p1,i1,sl1,rl,ap1,p2,i2,sl2,lc,tp,ap2]
 . rw[if_neg g] at tw;obtain⟨G,eG⟩:=s.gr;refine .inr ⟨λz=>g ⟨λy=>z.1 (Za.mp (eg ▸ y)),?_⟩,G,?_⟩
   . have:=z.2;unfold pM at this;rw[Vc,decide_eq_true_eq] at this;exact this.1
   . rw[<- eG];refine F _ ?_;simp? [oU,ln,tw]
end
end
theorem Bd.mono{N M:Nat}{st:Ts}(b:Bd N st)(l:N<=M):Bd M st:=⟨Vn b.1 l,λt m=>Vn (b.2 t m) l⟩
theorem QZ{zs:Zl}{st:Ts}(e:zs.map (λc=>c.2.2)=st.map tv):zs.map (λc=>PV.tup c.2.2.1)=st.map rS/\zs.map (λc=>PV.tup c.2.2.2)=st.map wK:=by
 have k1:=congrArg (abv λq:List PV × List PV=>PV.tup q.1) e;have k2:=congrArg (abv λq:List PV × List PV=>PV.tup q.2) e;rw[WY,WY] at k1 k2;exact⟨k1,k2⟩
section
variable{pg:Tb}{aNoLines:Nat}(T:cN aNoLines pg)
include T
theorem Fw(j:Nat){h:PH}{p n m k:Nat}{ls:List Str}(en:h[n]?=UU (.lst (ls.map PV.str)))(t:yx m ls)(l:m<=10000){e2:Option PV}{xs0:List PV}: ∀ d i,2+i+d=ls.length-> ∀ H zs st e5 e6,PS h H p zs->zs.map (λc=>c.2.2)=st.map tv->Bd (2+i) st ->
  match wk k (ls.drop (2+i)) st (2+i) with
  | .inl r=> ∃ G,aS ⟨UX,xs0⟩ (aN (nG (gN 5)) zF (run pg (j+6))) ((Xd i d).map λi:Nat=>PV.int (2+(i:Int))) [UU (.ref n),UU (.int k),e2,UU (.ref p),UU (.ref (p+1)),e5,e6] H= .ex aNoLines [("row",.int r)] (h++G)
  | .inr s=> ∃ H' zs' e5' e6',PS h H' p zs'/\zs'.map (λc=>c.2.2)=s.map tv/\s.length<=2000/\aS ⟨UX,xs0⟩ (aN (nG (gN 5)) zF (run pg (j+6))) ((Xd i d).map λi:Nat=>PV.int (2+(i:Int))) [UU (.ref n),UU (.int k),e2,UU (.ref p),UU (.ref (p+1)),e5,e6] H= .ok (.nx [UU (.ref n),UU (.int k),e2,UU (.ref p),UU (.ref (p+1)),e5',e6']) H':=by
 intro d
 induction d with
 | zero =>
  intro i il H zs st e5 e6 s ez bd
  have l9:=t.1
  rw[V5 (by omega),wk]
  exact⟨H,zs,e5,e6,s,ez,by have:=bd.1;omega,fh⟩
 | succ d ih =>
  intro i il H zs st e5 e6 s ez bd
  have l9:=t.1
  have hl:2+i < ls.length:=by omega
  have ex:ls[2+i]?=UU ls[2+i]:=VG hl
  have ci:(2:Int)+(i:Int)=((2+i:Nat):Int):=by omega
  have b2:Bd 2000 st:=bd.mono (by omega)
  rw[Wd hl,wk,X0,U2]
  generalize ls[2+i]=x at ex
  have sp:BY k st x=if x= "hand" /\st.length < k then UU (st++[[]]) else if st≠[]/\pM k (aQ x)=true then UU (pu st (aQ x)) else UX:=rfl
  by_cases c1:x= "hand" /\st.length < k
  . obtain⟨H',zs',s',ez',st'⟩:=Bh T s ez b2 en t ex l j (k:=k) (e2:=e2) (e5:=e5) (e6:=e6) c1.1 c1.2;rw[if_pos c1] at sp;have b3:=vP bd sp;have k:=ih (i+1) (by omega) H' zs' _ (UU (.int ((2+i:Nat):Int))) e6 s' ez' b3;simp only[sp];rw[bY,ci,st',bE,bX];exact k
  . rw[if_neg c1] at sp;rcases yT T s ez b2 en t ex l j (k:=k) (e2:=e2) (e5:=e5) (e6:=e6) c1 with⟨ne,tc,H',zs',f6,s',ez',st'⟩ | ⟨no,G,st'⟩
    . rw[if_pos ⟨ne,tc⟩] at sp;have b3:=vP bd sp;have k:=ih (i+1) (by omega) H' zs' _ (UU (.int ((2+i:Nat):Int))) f6 s' ez' b3;simp only[sp];rw[bY,ci,st',bE,bX];exact k
    . rw[if_neg no] at sp;simp only[sp];exact⟨G,by rw[bY,ci,st'];rfl⟩
theorem gM{c:CF}{E:aM}{X:PH}{q:Nat}{zs:Zl}{f:Nat × Nat × List PV × List PV->Nat}{g:Nat × Nat × List PV × List PV->List PV}(hE:E.length=7)(e:X[q]?=UU (.lst (zs.map λc=> .ref (f c))))(l:zs.length<=100000)(a: ∀ c∈zs,X[f c]?=UU (.lst (g c))) :
  P3.hU ⟨UU q,zs.map λc=> .ref (f c)⟩ (bN 1 (gN 7) bf (eB aH (a1 (aa 7))) c E) (zs.map λc=> .ref (f c)) [] X= .ok (zs.map λc=> .tup (g c)) X:=by
 refine(cR (α :=Nat × Nat × List PV × List PV) (g:=λc=> .ref (f c)) (jF e) zs [] (f:=λc=>UU (.tup (g c))) (λw mw=>?_) (by simp only[U6];omega)).trans ?_
 . have gn: ∀ v g,gN 7 v (E++[UX]) g= .ok (E++[UU v]) g:=λv g=>by rw[jc];simp[<- hE]
   have vi: ∀ v:PV,(E++[UU v])[7]?=UU (UU v):=λv=>by rw[<- hE];simp
   have tp:aH [.ref (f w)] X= .ok (.tup (g w)) X:=cO (a w mw);simp? [gn,vi,tp]
 . rw[VW,WC]
theorem oY(j:Nat){h:PH}{n m:Nat}{ls:List Str}(en:h[n]?=UU (.lst (ls.map PV.str)))(t:yx m ls)(l:m<=10000) :
  run pg (j+7) "read_paper" [.ref n] h=match rr ls with
   | .inl r=>oJ aNoLines r h
   | .inr v=> .ok v h:=by
 rw[fK T.qu rfl (by rw[T.fD];rfl)];have rm:=rC T (j+2) en t l;have l9:=t.1;unfold rr;cases q:C0 ls with
 | none =>
  rw[q] at rm
  simp? [bH,cB,rm]
  exact C6
 | some k =>
  obtain⟨l0,k1,k4⟩:=HR q
  rw[q] at rm
  have b:run pg (j+6) "words_behind" [.ref n,.int 1,.str "order"] h=_:=qa T (j+5) en t l (r:=1) (by omega) "order"
  unfold DS
  cases q2:wb ls 1 "order" with
  | none =>
   rw[q2] at b
   simp? [bH,cB,rm,b,acO]
   exact C6
  | some ws =>
   obtain⟨x,ex,ew⟩:=lX q2
   obtain⟨w1,w2⟩:=CP t q2
   have l2:=(Vk.mp ex).1
   rw[q2,ex] at b
   have lc:=lU T (j+4) (X:=h++[.lst ((aQ x).map PV.str),.lst (ws.map PV.str)]) (q:=h.length+1) (i:=7) (E:=[UU (.ref n),UU (.int k),UX,UX,UX,UX,UX]) (ws:=ws) (by rw[aG];rfl) w1 w2 l (r:=1) (er:=eI 1) rfl (λ_ _=>rfl)
   rw[Xv]
   cases a:ws.all aZ with
   | false =>
    simp only[a,VS,if_false] at lc
    simp? [bH,cB,rm,b,lc]
    exact zD
   | true =>
    simp only[a,if_true] at lc
    simp only[if_true]
    have s0:PS h (h++[.lst ((aQ x).map PV.str),.lst (ws.map PV.str),.lst (ws.map eY),.lst [],.lst []]) (h.length+3) []:=⟨⟨_,rfl⟩,by omega,by rw[aG];rfl,by rw[Nat.add_assoc,aG];rfl,λc m=>(nomatch m),λys d e=>by cases ys<;>cases e⟩
    have lp:=Fw T j en t l (k:=k) (e2:=UU (.tup (ws.map eY))) (xs0:=ao 2 (ls.length - 2)) (ls.length - 2) 0 (by omega) _ [] [] UX UX s0 rfl ⟨V2 _,λt m=>nomatch m⟩
    rw[Nat.add_zero,<- Yu] at lp
    have tn:((ls.length:Int) - 2).toNat=ls.length - 2:=by omega
    have ln: ∀ X,aP [.ref n] (h++X)= .ok (.int ls.length) (h++X):=λX=>by rw[dy (xs:=ls.map PV.str) (gx en X),U3]
    cases y:wk k (ls.drop 2) [] 2 with
    | inl r =>
     rw[y] at lp
     obtain⟨G,lp⟩:=lp
     have lp':aS ⟨UX,ao 2 (ls.length - 2)⟩ (aN (nG (gN 5)) zF (run pg (j+6))) (ao 2 (ls.length - 2)) [UU (.ref n),UU (.int k),UU (.tup (ws.map eY)),UU (.ref (h.length+(0+1+1+1))),UU (.ref (h.length+(0+1+1+1+1))),UX,UX] (h++[.lst ((aQ x).map PV.str),.lst (ws.map PV.str),.lst (ws.map eY),.lst [],.lst []])=_:=lp
     unfold zF Hd Ny oU rf uI at lp'
     simp? [bH,cB,rm,b,lc,ln,tn,lp']
     exact zD
    | inr st =>
     rw[y] at lp
     obtain⟨H',zs,e5',e6',s',ez,sl,lp⟩:=lp
     obtain⟨p,ep⟩: ∃ p,p=h.length+3:=⟨_,rfl⟩
     rw[<- ep] at s'
     have lp':aS ⟨UX,ao 2 (ls.length - 2)⟩ (aN (nG (gN 5)) zF (run pg (j+6))) (ao 2 (ls.length - 2)) [UU (.ref n),UU (.int k),UU (.tup (ws.map eY)),UU (.ref (h.length+(0+1+1+1))),UU (.ref (h.length+(0+1+1+1+1))),UX,UX] (h++[.lst ((aQ x).map PV.str),.lst (ws.map PV.str),.lst (ws.map eY),.lst [],.lst []])= .ok (.nx [UU (.ref n),UU (.int k),UU (.tup (ws.map eY)),UU (.ref p),UU (.ref (p+1)),e5',e6']) H':=by rw[ep];exact lp
     unfold zF Hd Ny oU rf uI at lp'
     have zl:zs.length=st.length:=by have:=congrArg Yp ez;rwa[U3,U3] at this
     have lz:aP [.ref p] H'= .ok (.int st.length) H':=by rw[dy s'.t,U3,zl]
     have lN:aP [.ref n] H'= .ok (.int ls.length) H':=by rw[dy (s'.at en),U3]
     obtain⟨G,eG⟩:=s'.gr
     by_cases z:st.length < k
     . have z1:(st.length:Int) < (k:Int):=by omega
       simp only[z,if_true];simp? [bH,cB,rm,b,lc,ln,tn,lp',lz,z1,lN];rw[eG];exact zD
     . have z1: ¬ (st.length:Int) < (k:Int):=by omega
       simp only[z,if_false];obtain⟨t1,t2⟩:=QZ ez;have c1:=λc E hE=>gM T (c:=c) (E:=E) hE s'.t (by omega) λc m=>(s'.a c m).1;have s2:=s'.app [.lst (st.map rS)];have c2:=λc E hE=>gM T (c:=c) (E:=E) hE s2.c (by omega) λc m=>(s2.a c m).2.1;rw[t1] at c1;rw[t2] at c2;have c1':=λc=>c1 c [UU (.ref n),UU (.int k),UU (.tup (ws.map eY)),UU (.ref p),UU (.ref (p+1)),e5',e6'] rfl;have c2':=λc=>c2 c [UU (.ref n),UU (.int k),UU (.tup (ws.map eY)),UU (.ref p),UU (.ref (p+1)),e5',e6'] rfl;have Eo:iH (.ref p) H'= .ok ⟨UU p,zs.map λc=> .ref c.1⟩ H':=by simp only[iH,bQ,s'.t]
       have EY:iH (.ref (p+1)) (H'++[.lst (st.map rS)])= .ok ⟨UU (p+1),zs.map λc=> .ref c.2.1⟩ (H'++[.lst (st.map rS)]):=by simp only[iH,bQ,s2.c]
       have u1:aH [.ref H'.length] (H'++[.lst (st.map rS)])= .ok (.tup (st.map rS)) _:=cO au;have u2:aH [.ref (H'.length+1)] (H'++[.lst (st.map rS),.lst (st.map wK)])= .ok (.tup (st.map wK)) _:=cO (by rw[aG];rfl);generalize hz1:(zs.map λc=>PV.ref c.1)=Z1 at c1' Eo;generalize hz2:(zs.map λc=>PV.ref c.2.1)=Z2 at c2' EY;simp? [bH,cB,rm,b,lc,ln,tn,lp',lz,z1,Eo,c1',EY,c2',u1,u2];rw[eG,Vd];exact a8 (mX ws st)
def rY(ls:List Str):PV:=match rr ls with
 | .inl r=> .tup [.str "row",.int r]
 | .inr v=> .tup [.str "paper",v]
theorem wF(j:Nat){h:PH}{n m:Nat}{ls:List Str}(e:h[n]?=UU (.lst (ls.map PV.str)))(t:yx m ls)(l:m<=10000) :
  run pg (j+8) "_law_told" [.ref n] h= .ok (rY ls) h:=by
 have r1:=oY T j e t l;rw[run_eq T.uB rfl (by rw[T.fD];rfl)];unfold rY;cases q:rr ls with
 | inl r =>
  simp only[q] at r1
  have hx:(h++[.exc aNoLines [("row",.int r)]]:PH)[h.length]?=UU (.exc aNoLines [("row",.int r)]):=au
  have i1:j4 [(aNoLines,false)] (.ref h.length) (h++[.exc aNoLines [("row",.int r)]])= .ok (.bl false) (h++[.exc aNoLines [("row",.int r)]]):=AN hx (by simp)
  have i2:j4 [(aNoLines,true)] (.ref h.length) (h++[.exc aNoLines [("row",.int r)]])= .ok (.bl true) (h++[.exc aNoLines [("row",.int r)]]):=AN hx (by simp)
  have x1:IE [aNoLines] "row" (.ref h.length) (h++[.exc aNoLines [("row",.int r)]])= .ok (.int r) (h++[.exc aNoLines [("row",.int r)]]):=Oi hx (by simp) (by simp)
  have tx: ∀ mh,CG [aNoLines] 2 4 mh (run pg (j+7)) (.ex aNoLines [("row",.int r)] h)=_:=λmh=>DO (by simp)
  simp? [dR,ij,r1,tx,i1,i2,x1]
  exact a8 rfl
 | inr v =>
  simp only[q] at r1
  simp? [dR,ij,r1]
end
theorem uw: ∀ ss tt:List Str,adh (ss.map Wt) (tt.map Wt)=decide (ss=tt)
 | [],[]=>rfl
 | [],b::t=>by simp only[reduceCtorEq,decide_false];rfl
 | a::s,[]=>by simp only[reduceCtorEq,decide_false];rfl
 | a::s,b::t=>by
  show((a == b)&&adh (s.map Wt) (t.map Wt))=_;rw[uw s t,XJ];simp
theorem sv: ∀ ss:List Str,W4 (ss.map Wt)=0
 | []=>rfl
 | a::r=>by show max 0 (W4 (r.map Wt))=0;rw[sv r];rfl
theorem iO{h:PH}{n m:Nat}{ss tt:List Str}(e1:h[n]?=UU (.lst (ss.map PV.str)))(e2:h[m]?=UU (.lst (tt.map PV.str)))(o1: ∀ x∈ss,W0 x=true)(o2: ∀ x∈tt,W0 x=true) :
  fZ (.ref n) (.ref m) h= .ok (.bl (decide (ss=tt))) h/\gG (.ref n) (.ref m) h= .ok (.bl (!decide (ss=tt))) h:=by
 have d1:=jN (k:=5) e1;have d2:=jN (k:=5) e2;have sc:i7 (.ref n) (.ref m)=false:=rfl;have cl: ∀{ss:List Str},(∀ x∈ss,W0 x=true)->(Ys (ss.map Wt)).canLay0=true:=λok=>by rw[Zq,ZT];exact VT.mpr ok
 have c1:=cl o1;have c2:=cl o2;have c3:min (Ys (ss.map Wt)).depth (Ys (tt.map Wt)).depth<=64:=Vn (Zx _ _) (by
  show W4 (tt.map Wt)+1<=64;rw[sv];decide)
 have al:alike (.ref n) (.ref m) h=UU (decide (ss=tt)):=by
  unfold alike;rw[sc,d1,d2];simp only[VS,if_false,c1,c2,c3,and_self,if_true];exact congrArg UU (uw ss tt)
 have nd:iZ h (.ref n)=false:=by simp only[iZ,e1]
 constructor
 . unfold fZ;rw[al]
 . unfold gG;rw[al,nd];rfl
theorem rD{q:Str->Bool}{ws:List Str}:decide (ws.filter (λw=> !q w)=[])=ws.all q:=by
 rw[XJ,decide_eq_true_eq,Yb,VT];simp
theorem AF{h:PH}{n:Nat}{a:Str}{ss:List Str}(e:h[n]?=UU (.lst (ss.map PV.str))):b6 (.str a) (.ref n) h= .ok (.bl (!decide (a∈ss))) h:=by
 have k:=Al (a:=a) e;unfold kZ at k;unfold b6;cases q:P3.isIn (.str a) (.ref n) h with
 | none=>rw[q] at k;cases k
 | some b =>
  rw[q] at k
  have:b=decide (a∈ss):=by injection k with k;injection k
  rw[this]
theorem By(w:Str):zd w=(decide (¬ 2 < (d6 w).length)&&(decide (w= "-")||(d6 w).all aZ)):=by
 have p0:0 < (d6 w).length:=Xl.mpr (CA w);unfold zd d7;by_cases z:(d6 w).length=2
 . have d:=m8 (x:=w) (by omega);rw[if_pos z,decide_eq_true (show ¬ 2 < (d6 w).length by omega),decide_eq_false d];rfl
 . rw[if_neg z];by_cases y:2 < (d6 w).length
   . have d:=m8 (x:=w) (by omega);have f:=qV (x:=w) (by omega);rw[decide_eq_false d,f,decide_eq_false (λk=>k y)];rfl
   . have o:=xK (x:=w) (by omega);rw[decide_eq_true y,o,VQ];simp
def Jr:MS:=cE (rF (aC (ay gG (eB aP (a1 (aa 0))) (ay aF (eI 4) (aa 1)))) (aC (ay b6 (eX 0 0) (ai "_law_kinds" aj)))) (aK (eC (.bl false))) dk
def Eo:MS:=cE (iE (aC (ay gG (eX 0 1) (eS "-"))) (fB (aC (ai "_law_is_name" (a1 (eX 0 1)))))) (aK (eC (.bl false))) dk
def EY:MS:=cE (iE (aC (ay gG (eX 0 2) (eS "-"))) (fB (aC (ai "_law_is_figures" (a1 (eX 0 2)))))) (aK (eC (.bl false))) dk
def Ru:MS:=aA (eM cV aJ (eX 0 3) (a1 (eS "."))) (gN 2)
def Rz:MS:=aA (fg 1 (iY (aa 2)) (gN 4) (fB (aC (ai "_law_is_figures" (a1 (aa 4))))) (aa 4)) (gN 3)
def Kc:MS:=cE (rF (aC (ay HE (eB aP (a1 (aa 2))) (eI 2))) (iE (aC (ay gG (eX 0 3) (eS "-"))) (aC (ay gG (aa 3) (bh aj))))) (aK (eC (.bl false))) dk
def Rm:MS:=aK (ay fZ (fg 1 (iY (de (aa 0) (aB (eI 4)) aI)) (gN 4) (fB (aC (ai "_law_is_figures" (a1 (aa 4))))) (aa 4)) (bh aj))
theorem F0:dZ=ah Jr (ah Eo (ah EY (ah Ru (ah Rz (ah Kc Rm))))):=rfl
theorem cZ{A B:MS}{c:CF}{e e':aM}{h h':PH}(q:A c e h= .ok (.nx e') h'):ah A B c e h=B c e' h':=by rw[vS,q,bE,wL]
theorem pR{A B:MS}{c:CF}{e:aM}{v:PV}{h h':PH}(q:A c e h= .ok (.rt v) h'):ah A B c e h= .ok (.rt v) h':=by rw[vS,q,bE,vZ]
section
variable{pg:Tb}{aNoLines:Nat}(T:cN aNoLines pg)
include T
theorem m5(j:Nat){X:PH}{q i m:Nat}{E:aM}{ws:List Str}(e:X[q]?=UU (.lst (ws.map PV.str)))(w1:ws.length<=20000)(w2: ∀ v∈ws,Tx m v)(l:m<=10000)(hE:E.length=i) :
  P3.hU ⟨UU q,ws.map PV.str⟩ (bN 1 (gN i) (fB (aC (ai "_law_is_figures" (a1 (aa i))))) (aa i) (run pg (j+1)) E) (ws.map PV.str) [] X= .ok ((ws.filter λw=> !aZ w).map PV.str) X:=by
 refine(cR (α :=Str) (jF e) ws [] (f:=λw=>if aZ w=true then UX else UU (.str w)) (λw mw=>?_) (by simp only[U6];omega)).trans ?_
 . have g:=λg=>iW T j (h:=g) (w2 w mw).1 (Vn (w2 w mw).2 (by omega));have gn: ∀ g,gN i (.str w) (E++[UX]) g= .ok (E++[UU (.str w)]) g:=λg=>by rw[jc];simp[<- hE]
   have vi:(E++[UU (PV.str w)])[i]?=UU (UU (.str w)):=by rw[<- hE];simp
   cases y:aZ w
   . rw[y] at g;simp? [gn,vi,g]
   . rw[y] at g;simp? [gn,vi,g]
 . rw[VW];congr 1
   clear w1 w2 e
   induction ws with
   | nil=>rfl
   | cons w t ih=>cases y:aZ w<;>simp[y,ih]
theorem kQ(j:Nat){h:PH}{q m k:Nat}{ws:List Str}(e:h[q]?=UU (.lst (ws.map PV.str)))(w1:ws.length<=m+1)(w2: ∀ v∈ws,Tx m v)(l:m<=10000) :
  run pg (j+3) "_law_is_touch" [.ref q,.int k] h= .ok (.bl (pM k ws)) h:=by
 rw[run_eq T.lJ rfl (by rw[T.fD];rfl)];have ln:aP [.ref q] h= .ok (.int ws.length) h:=by rw[dy e,U3]
 have kn:=mJ T (j+1) h;have fb: ∀{X:PH}{b:Bool},(ah Jr (ah Eo (ah EY (ah Ru (ah Rz (ah Kc Rm)))))) (run pg (j+2)) [UU (.ref q),UU (.int k),UX,UX] h= .ok (.rt (.bl b)) (h++X)->fin h (cC.body (run pg (j+2)) ([PV.ref q,.int k].map UU++U8 cC.nl UX) h)= .ok (.bl b) h:=λ{X b} z=>by
  show fin h (dZ (run pg (j+2)) [UU (.ref q),UU (.int k),UX,UX] h)=_;rw[F0,z,m6];exact aW
 unfold pM;by_cases z:ws.length=4+k
 . have z1:=eq_true (show(ws.length:Int)=4+(k:Int) by omega);obtain⟨a,b,c,d,w,rfl⟩: ∃ a b c d w,ws=a::b::c::d::w:=by
    rcases ws with _ | ⟨a,_ | ⟨b,_ | ⟨c,_ | ⟨d,w⟩⟩⟩⟩
    . exact absurd z (by rw[U6];omega)
    . exact absurd z (by simp only[UZ,U6];omega)
    . exact absurd z (by simp only[UZ,U6];omega)
    . exact absurd z (by simp only[UZ,U6];omega)
    . exact⟨_,_,_,_,_,rfl⟩
   obtain⟨N0,eN⟩: ∃ N0,N0=(a::b::c::d::w).length:=⟨_,rfl⟩
   rw[<- eN] at ln z1;have wl:w.length<=20000:=by simp only[UZ] at w1;omega
   have ww: ∀ v∈w,Tx m v:=λv mv=>w2 v (by simp[mv]);have tb:=w2 b (by simp);have tc:=w2 c (by simp);have td:=w2 d (by simp);have nm:=λg=>sW T j (h:=g) (s:=b) (Vn tb.2 (by omega));have nc:=λg=>iW T (j+1) (h:=g) tc.1 (Vn tc.2 (by omega));have i0:b6 (.str a) (.ref h.length) (h++[.lst (WK.map PV.str)])= .ok (.bl (!decide (a∈WK))) _:=AF au;have x0:ck (.ref q) (.int 0) h= .ok (.str a) h:=by rw[eO,e,eA,U2,fj];rfl
   have x1: ∀ X,ck (.ref q) (.int 1) (h++X)= .ok (.str b) (h++X):=λX=>by rw[eO,gx e,eA,U2,U2,fT];rfl
   have x2: ∀ X,ck (.ref q) (.int 2) (h++X)= .ok (.str c) (h++X):=λX=>by rw[eO,gx e,eA,U2,U2,U2,lP];rfl
   have x3: ∀ X,ck (.ref q) (.int 3) (h++X)= .ok (.str d) (h++X):=λX=>by rw[eO,gx e,eA,U2,U2,U2,U2,qO];rfl
   rw[decide_eq_true z,show(a::b::c::d::w).drop 4=w from rfl,show ND (a::b::c::d::w)=zK a b c d from rfl,VQ];unfold zK;generalize WK.map PV.str=KL at kn i0;have r0:Jr (run pg (j+2)) [UU (.ref q),UU (.int k),UX,UX] h=if a∈WK then .ok (.nx [UU (.ref q),UU (.int k),UX,UX]) (h++[.lst KL]) else .ok (.rt (.bl false)) (h++[.lst KL]):=by
    by_cases y:a∈WK
    . have y':=eq_true y;simp? [Jr,ln,z1,x0,kn,i0,y']
    . simp? [Jr,ln,z1,x0,kn,i0,y]
   have r1: ∀ X,Eo (run pg (j+2)) [UU (.ref q),UU (.int k),UX,UX] (h++X)=if Gg b=true then .ok (.nx [UU (.ref q),UU (.int k),UX,UX]) (h++X) else .ok (.rt (.bl false)) (h++X):=λX=>by
    unfold Gg;by_cases y:b= "-"
    . have y':=eq_true y;simp? [Eo,x1,y',XM]
    . cases y2:gS (.str b)
      . rw[y2] at nm;simp? [Eo,x1,y,nm,abW]
      . rw[y2] at nm;simp? [Eo,x1,y,nm,Yz]
   have r2: ∀ X,EY (run pg (j+2)) [UU (.ref q),UU (.int k),UX,UX] (h++X)=if d7 c=true then .ok (.nx [UU (.ref q),UU (.int k),UX,UX]) (h++X) else .ok (.rt (.bl false)) (h++X):=λX=>by
    unfold d7;by_cases y:c= "-"
    . have y':=eq_true y;simp? [EY,x2,y',XM]
    . cases y2:aZ c
      . rw[y2] at nc;simp? [EY,x2,y,nc,abW]
      . rw[y2] at nc;simp? [EY,x2,y,nc,Yz]
   let D:List Str:=d6 d
   let F:List Str:=D.filter λw=> !aZ w
   obtain⟨d1,d2⟩:=td.dt;have okF: ∀ x∈F,W0 x=true:=λx mx=>(d2 x (W2.mp mx).1).ok;have fF:decide (F=[])=D.all aZ:=rD;have r3: ∀ X,Ru (run pg (j+2)) [UU (.ref q),UU (.int k),UX,UX] (h++X)= .ok (.nx [UU (.ref q),UU (.int k),UU (.ref (h++X).length),UX]) (h++X++[.lst (D.map PV.str)]):=λX=>by
    have sp:=rL (h:=h++X) td (by omega);have x3':=x3 X;generalize h++X=Y at sp x3' ⊢;simp? [Ru,du,jz,aJ,x3',sp,D]
   have r4: ∀ X,Rz (run pg (j+2)) [UU (.ref q),UU (.int k),UU (.ref X.length),UX] (X++[.lst (D.map PV.str)])= .ok (.nx [UU (.ref q),UU (.int k),UU (.ref X.length),UU (.ref (X.length+1))]) (X++[.lst (D.map PV.str),.lst (F.map PV.str)]):=λX=>by
    have lc:=m5 T (j+1) (X:=X++[.lst (D.map PV.str)]) (q:=X.length) (i:=4) (E:=[UU (.ref q),UU (.int k),UU (.ref X.length),UX]) (ws:=D) au (show(d6 d).length<=20000 by omega) d2 l rfl;simp? [Rz,lc,F]
   have r5: ∀ X,∃ Y,Kc (run pg (j+2)) [UU (.ref q),UU (.int k),UU (.ref (h++X).length),UU (.ref ((h++X).length+1))] (h++X++[.lst (D.map PV.str),.lst (F.map PV.str)])=if zd d=true then .ok (.nx [UU (.ref q),UU (.int k),UU (.ref (h++X).length),UU (.ref ((h++X).length+1))]) (h++Y) else .ok (.rt (.bl false)) (h++Y):=λX=>by
    have x3':=x3 (X++[.lst (D.map PV.str),.lst (F.map PV.str)]);rw[<- Vd] at x3';have lD:aP [.ref (h++X).length] (h++X++[.lst (D.map PV.str),.lst (F.map PV.str)])= .ok (.int D.length) (h++X++[.lst (D.map PV.str),.lst (F.map PV.str)]):=by rw[dy au,U3]
    have n1:gG (.ref ((h++X).length+1)) (.ref ((h++X).length+(0+1+1))) (h++X++[.lst (D.map PV.str),.lst (F.map PV.str),.lst []])= .ok (.bl (!decide (F=[]))) _:=ne_nil (by rw[aG];rfl) (by rw[aG];rfl) okF;rw[fF] at n1;have mk:=By d;rw[show d6 d=D from rfl] at mk;rw[mk];have hX: ∀ Z,h++X++Z=h++(X++Z):=λZ=>Vd _ _ _
    clear_value D F
    by_cases y:2 < D.length
    . have y1:(2:Int) < (D.length:Int):=by omega
      refine⟨X++[.lst (D.map PV.str),.lst (F.map PV.str)],?_⟩;rw[<- hX];generalize h++X=Y at x3' lD n1 ⊢;simp? [Kc,lD,y1,y,not_true,Wj]
    . have y1: ¬ (2:Int) < (D.length:Int):=by omega
      by_cases y2:d= "-"
      . have y2':=eq_true y2;refine⟨X++[.lst (D.map PV.str),.lst (F.map PV.str)],?_⟩;rw[<- hX];generalize h++X=Y at x3' lD n1 ⊢;simp? [Kc,lD,y1,y,not_false_eq_true,VQ,XM,x3',y2']
      . refine⟨X++[.lst (D.map PV.str),.lst (F.map PV.str),.lst []],?_⟩;rw[<- hX];generalize h++X=Y at x3' lD n1 ⊢;cases y3:D.all aZ
        . rw[y3] at n1;simp? [Kc,lD,y1,y,not_false_eq_true,VQ,aaD,x3',y2,n1]
        . rw[y3] at n1;simp? [Kc,lD,y1,y,not_false_eq_true,VQ,Yz,x3',y2,n1]
   have r6: ∀(X:PH)(u v:Option PV),∃ Y,Rm (run pg (j+2)) [UU (.ref q),UU (.int k),u,v] (h++X)= .ok (.rt (.bl (w.all aZ))) (h++Y):=λX u v=>by
    have cu:dN ((a::b::c::d::w).map PV.str) (UU 4) UX=w.map PV.str:=by rw[P3.gh (by decide)];rfl
    have sl:yU (.ref q) (UU 4) UX (h++X)= .ok (.ref (h++X).length) (h++X++[.lst (w.map PV.str)]):=by rw[tK,gx e,kU,cu]
    have lc:=m5 T (j+1) (X:=h++X++[.lst (w.map PV.str)]) (q:=(h++X).length) (i:=4) (E:=[UU (.ref q),UU (.int k),u,v]) (ws:=w) au wl ww l rfl;have n1:fZ (.ref ((h++X).length+(0+1))) (.ref ((h++X).length+(0+1+1))) (h++X++[.lst (w.map PV.str),.lst ((w.filter λw=> !aZ w).map PV.str),.lst []])=_:=(iO (ss:=w.filter λw=> !aZ w) (tt:=[]) (by rw[aG];rfl) (by rw[aG];rfl) (λx mx=>(ww x (W2.mp mx).1).ok) (λ_ m=>nomatch m)).1;rw[rD] at n1;refine⟨X++[.lst (w.map PV.str),.lst ((w.filter λw=> !aZ w).map PV.str),.lst []],?_⟩;rw[<- Vd];generalize h++X=Y at sl lc n1 ⊢;simp? [Rm,sl,lc,n1]
   by_cases y0:a∈WK
   . rw[if_pos y0] at r0;rw[decide_eq_true y0,VQ];cases y1:Gg b
     . have r1':=r1 [.lst KL];rw[y1] at r1';exact fb ((cZ r0).trans (pR r1'))
     . have r1':=r1 [.lst KL];rw[y1,if_pos rfl] at r1';rw[VQ];cases y2:d7 c
       . have r2':=r2 [.lst KL];rw[y2] at r2';exact fb ((cZ r0).trans ((cZ r1').trans (pR r2')))
       . have r2':=r2 [.lst KL];rw[y2,if_pos rfl] at r2';rw[VQ];obtain⟨Y,r5'⟩:=r5 [.lst KL];have r4':=r4 (h++[.lst KL]);cases y3:zd d
         . rw[y3] at r5';exact fb ((cZ r0).trans ((cZ r1').trans ((cZ r2').trans ((cZ (r3 _)).trans ((cZ r4').trans (pR r5'))))))
         . rw[y3,if_pos rfl] at r5';obtain⟨Z,r6'⟩:=r6 Y (UU (.ref (h++[PO.lst KL]).length)) (UU (.ref ((h++[PO.lst KL]).length+1)));rw[VQ];exact fb ((cZ r0).trans ((cZ r1').trans ((cZ r2').trans ((cZ (r3 _)).trans ((cZ r4').trans ((cZ r5').trans r6'))))))
   . rw[if_neg y0] at r0;rw[decide_eq_false y0];exact fb (pR r0)
 . have z1: ¬ (ws.length:Int)=4+(k:Int):=by omega
   have r0:Jr (run pg (j+2)) [UU (.ref q),UU (.int k),UX,UX] h= .ok (.rt (.bl false)) (h++[]):=by
    rw[VM];simp? [Jr,ln,z1]
   rw[decide_eq_false z];exact fb (pR r0)
end
noncomputable def N4:List Str:=["1", "2", "3", "4"]
theorem Jb: ∀ w:Str,aZ w=true->asc w->(w∈N4↔1<=cW w∧cW w<=4):=λw f a=>by
 have f':=f;unfold aZ at f';simp only[Vc,Xg,decide_eq_false_iff_not,decide_eq_true_eq] at f';constructor
 . intro m;have k: ∀ w∈N4,1<=cW w/\cW w<=4:=by decide +kernel
   exact k w m
 . intro ⟨v1,v4⟩;have e:aL (cW w)=w:=(xh (lZ a f'.2.2.1) f'.1).mpr (by
    have:=f'.2.2.2;simp only[YU,decide_eq_true_eq,Xg,decide_eq_false_iff_not] at this;exact this)
   rw[<- e];have:cW w=1\/cW w=2\/cW w=3\/cW w=4:=by omega
   rcases this with z | z | z | z<;>rw[z]<;>decide +kernel
theorem Ba: ∀ w∈N4,aZ w=true:=by decide +kernel
def mz(r k g:Nat)(ws:List Str):Bool:=if r=0 then decide (ws.length=2)&&(decide (ws.head?=UU (U0 "paper"))&&decide (C8 ws.tail∈N4)) else if r=1 then decide (ws.head?=UU (U0 "order"))&&ws.tail.all aZ else if ws=[U0 "hand"] then decide (g < k) else decide (0 < g)&&pM k ws
section
variable{pg:Tb}{aNoLines:Nat}(T:cN aNoLines pg)
include T
theorem yM(j:Nat){h:PH}{q m:Nat}{ws:List Str}(e:h[q]?=UU (.lst (ws.map PV.str)))(wn:ws≠[])(w1:ws.length<=m+1)(w2: ∀ v∈ws,Tx m v)(l:m<=10000)(r k g:Nat) :
  run pg (j+4) "_law_stands" [.int r,.ref q,.int k,.int g] h= .ok (.bl (mz r k g ws)) h:=by
 rw[run_eq T.pd rfl (by rw[T.fD];rfl)];have ln:aP [.ref q] h= .ok (.int ws.length) h:=by rw[dy e,U3]
 obtain⟨N0,eN⟩: ∃ N0,N0=ws.length:=⟨_,rfl⟩
 rw[<- eN] at ln;have tc:=kQ T j (k:=k) e w1 w2 l;have okW: ∀ x∈ws,W0 x=true:=λx mx=>(w2 x mx).ok;obtain⟨p,t,rfl⟩: ∃ p t,ws=p::t:=by
  cases ws with
  | nil=>exact absurd rfl wn
  | cons p t=>exact⟨p,t,rfl⟩
 have hd: ∀ w:Str,((p::t).head?=UU w)=(p=w):=λw=>by simp
 have x0: ∀ X,ck (.ref q) (.int 0) (h++X)= .ok (.str p) (h++X):=λX=>by rw[eO,gx e,eA,U2,fj];rfl
 have x0':ck (.ref q) (.int 0) h= .ok (.str p) h:=by rw[eO,e,eA,U2,fj];rfl
 unfold mz;simp only[hd,List.tail_cons];by_cases r0:r=0
 . have r1:=eq_true (show(r:Int)=0 by omega);simp only[eq_true r0,if_true,<- eN];by_cases z:N0=2
   . obtain⟨u,rfl⟩: ∃ u,t=[u]:=by
      rw[eN,UZ] at z;exact Xp.mp (by omega)
     have z1:=eq_true (show(N0:Int)=2 by omega);have x1:ck (.ref q) (.int 1) h= .ok (.str u) h:=by rw[eO,e,eA,U2,U2,fT];rfl
     have i4: ∀ h,kZ (.str u) (.tup [.str "1",.str "2",.str "3",.str "4"]) h= .ok (.bl (decide (u∈N4))) h:=λh=>N3 (ss:=N4);show _=RV.ok (PV.bl (decide (N0=2)&&(decide (p=U0 "paper")&&decide (u∈N4)))) h;rw[decide_eq_true z];by_cases y:p= "paper"
     . have y1:=eq_true y;simp? [aT,bg,r1,ln,z1,x0',x1,y1,i4,VQ]
     . simp? [aT,bg,r1,ln,z1,x0',y,VQ,Wj]
   . have z1: ¬ (N0:Int)=2:=by omega
     simp? [aT,bg,r1,ln,z1,z,Wj]
 . have r1: ¬ (r:Int)=0:=by omega
   simp only[r0,if_false];by_cases r2:r=1
   . have r3:=eq_true (show(r:Int)=1 by omega);simp only[eq_true r2,if_true];have tl:t.length<=20000:=by rw[UZ] at w1;omega
     have tt: ∀ v∈t,Tx m v:=λv mv=>w2 v (Vl _ mv);have cu:dN ((p::t).map PV.str) (UU 1) UX=t.map PV.str:=zY (ws:=p::t);have sl:yU (.ref q) (UU 1) UX h= .ok (.ref h.length) (h++[.lst (t.map PV.str)]):=by rw[tK,e,kU,cu]
     have lc:=m5 T (j+2) (X:=h++[.lst (t.map PV.str)]) (q:=h.length) (i:=5) (E:=[UU (.int r),UU (.ref q),UU (.int k),UU (.int g),UX]) (ws:=t) au tl tt l rfl;have n1:fZ (.ref (h.length+(0+1))) (.ref (h.length+(0+1+1))) (h++[.lst (t.map PV.str),.lst ((t.filter λw=> !aZ w).map PV.str),.lst []])=_:=(iO (ss:=t.filter λw=> !aZ w) (tt:=[]) (by rw[aG];rfl) (by rw[aG];rfl) (λx mx=>(tt x (W2.mp mx).1).ok) (λ_ m=>nomatch m)).1;rw[rD] at n1;by_cases y:p= "order"
     . have y1:=eq_true y;simp? [aT,bg,r1,r3,sl,lc,x0,y1,n1,aW,VQ]
     . simp? [aT,bg,r1,r3,sl,lc,x0,y,aW,Wj]
   . have r3: ¬ (r:Int)=1:=by omega
     simp only[r2,if_false];have n1:fZ (.ref q) (.ref h.length) (h++[.lst [.str "hand"]])= .ok (.bl (decide (p::t=[U0 "hand"]))) (h++[.lst [.str "hand"]]):=(iO (ss:=p::t) (tt:=[U0 "hand"]) (gx e _) (by rw[au];rfl) okW (by decide +kernel)).1;have tc2:=kQ T j (h:=h++[.lst [.str "hand"]]) (k:=k) (gx e _) w1 w2 l;generalize pM k (p::t)=TB at tc tc2 ⊢;by_cases y:p::t=[U0 "hand"]
     . rw[if_pos y];rw[decide_eq_true y] at n1;by_cases y2:g < k
       . have y3:(g:Int) < (k:Int):=by omega
         simp? [aT,bg,r1,r3,n1,y3,y2,aW]
       . have y3: ¬ (g:Int) < (k:Int):=by omega
         simp? [aT,bg,r1,r3,n1,y3,y2,aW]
     . rw[if_neg y];rw[decide_eq_false y] at n1;by_cases y2:0 < g
       . have y3:(0:Int) < (g:Int):=by omega
         simp? [aT,bg,r1,r3,n1,y3,y2,tc2,aW,VQ]
       . have y3: ¬ (0:Int) < (g:Int):=by omega
         simp? [aT,bg,r1,r3,n1,y3,y2,aW,Wj]
end
theorem HK{w:Str}{m:Nat}(t:Tx m w)(f:aZ w=true)(g:PH):dh [.str w] g= .ok (eY w) g:=by
 unfold aZ at f;simp only[Vc,Xg,decide_eq_false_iff_not,decide_eq_true_eq] at f;exact qE t.1 f.2.2.1 f.2.1 f.1 g
theorem om{c:CF}{E:aM}{X:PH}{q m i:Nat}{t:List Str}(hE:E.length=i)(e:X[q]?=UU (.lst (t.map PV.str)))(l:t.length<=100000)(tx: ∀ w∈t,Tx m w)(f:t.all aZ=true) :
  P3.hU ⟨UU q,t.map PV.str⟩ (bN 1 (gN i) bf (eB dh (a1 (aa i))) c E) (t.map PV.str) [] X= .ok (t.map eY) X:=by
 refine(cR (α :=Str) (jF e) t [] (f:=λw=>UU (eY w)) (λw mw=>?_) (by simp only[U6];omega)).trans ?_
 . have it:=HK (tx w mw) (VT.mp f w mw);have gn: ∀ g,gN i (.str w) (E++[UX]) g= .ok (E++[UU (.str w)]) g:=λg=>by rw[jc];simp[<- hE]
   have vi:(E++[UU (PV.str w)])[i]?=UU (UU (.str w)):=by rw[<- hE];simp
   simp? [gn,vi,it]
 . rw[VW,WC]
theorem yc{w:Str}(b:d7 w=true):zd w=true/\vz w=gX w:=by
 have n2: ¬ (d6 w).length=2:=λz=>by
  have f:=qV (x:=w) (by omega);have d:=m8 (x:=w) (by omega);unfold d7 at b;rw[f,decide_eq_false d] at b;cases b
 unfold zd vz;rw[if_neg n2,if_neg n2];exact⟨b,rfl⟩
section
variable{pg:Tb}{aNoLines:Nat}(T:cN aNoLines pg)
include T
theorem pN(j:Nat){h:PH}{w:Str}{m:Nat}(t:Tx m w)(l:m<=10000)(b:zd w=true):run pg (j+1) "_law_in" [.str w] h= .ok (vz w) h:=by
 rw[run_eq T.yQ rfl (by rw[T.fD];rfl)];by_cases y:w= "-"
 . have v:vz w= .non:=by rw[y];decide +kernel
   have y1:=eq_true y;rw[v];simp? [eV,iR,y1]
 . have sp:=rL (h:=h) t (by omega);obtain⟨d1,d2⟩:=t.dt;have af:(d6 w).all aZ=true:=by
    have k:=By w;rw[b,decide_eq_false y,aaD] at k;exact(Vc _ _ ▸ k.symm:_/\_).2
   have lc:=λc=>om (c:=c) (E:=[UU (.str w),UX]) (X:=h++[.lst ((d6 w).map PV.str)]) (q:=h.length) (m:=m) (t:=d6 w) (i:=2) rfl au (by omega) d2 af;by_cases z:(d6 w).length=2
   . have v:vz w= .tup ((d6 w).map eY):=by unfold vz;rw[if_pos z]
     rw[v];obtain⟨p,q,e2⟩: ∃ p q,d6 w=[p,q]:=by
      generalize d6 w=u at z;rcases u with _ | ⟨p,_ | ⟨q,_ | ⟨_,_⟩⟩⟩
      . cases z
      . cases z
      . exact⟨_,_,rfl⟩
      . simp at z
     rw[e2] at lc sp ⊢;simp only[U2,VP] at lc sp ⊢;simp? [eV,iR,y,du,jz,aJ,sp,lc,fj,fT];exact a8 rfl
   . have gb:d7 w=true:=by unfold zd at b;rw[if_neg z] at b;exact b
     have fw:aZ w=true:=by unfold d7 at gb;simpa [y] using gb
     have p0:0 < (d6 w).length:=Xl.mpr (CA w);have n2: ¬ 2<=(d6 w).length:=λk=>by have:=qV k;rw[fw] at this;cases this
     have e1:=xK (x:=w) (by omega);have v:vz w=eY w:=by unfold vz gX;rw[if_neg z,if_neg y];rfl
     rw[v];rw[e1] at lc sp;simp only[U2,VP] at lc sp;simp? [eV,iR,y,du,jz,aJ,sp,lc,fj];exact a8 rfl
end
def K8:MS:=(aA (eM cV aJ (ay ck (aa 0) (aa 5)) (a1 (eS " "))) (gN 6))
def Hi:MS:=(cE (fB (aC (ai "_law_stands" (ae (aa 5) (ae (aa 6) (ae (aa 1) (ae (eB aP (a1 (aa 3))) aj))))))) (aK (cU (a2 (eS "row") (aa 5)))) dk)
def RJ:MS:=(aA (eB aH (ae (fg 1 (iY (de (aa 6) (aB (eI 1)) aI)) (gN 9) bf (eB dh (a1 (aa 9)))) aj)) (gN 2))
def RB:MS:=(ah (bM (eM az aO (aa 3) (a1 (cU aj)))) (bM (eM az aO (aa 4) (a1 (cU aj)))))
def uV:MS:=(aA (yZ (aC (ay gG (eX 6 1) (eS "-"))) (eX 6 1) (eS "")) (gN 7))
def yr:MS:=(aA (cU (ae (eX 6 0) (ae (aa 7) (ae (ai "_law_in" (a1 (eX 6 2))) (ae (ai "_law_in" (a1 (eX 6 3))) aj))))) (gN 8))
def yE:MS:=(lK jj (aa 3) (jV jW (eI 1)) (ay aF (ay ck (aa 3) (jV jW (eI 1))) (cU (a1 (aa 8)))))
def xZ:MS:=(lK jj (aa 4) (jV jW (eI 1)) (ay aF (ay ck (aa 4) (jV jW (eI 1))) (cU (ae (eB aH (ae (fg 1 (iY (de (aa 6) (aB (eI 4)) aI)) (gN 9) bf (eB dh (a1 (aa 9)))) aj)) aj))))
def y7:MS:=(cE (mQ (aa 5) (eI 0)) (aA (eB dh (a1 (eX 6 1))) (gN 1)) (cE (mQ (aa 5) (eI 1)) RJ (cE (aC (ay fZ (aa 6) (bh (a1 (eS "hand"))))) RB (ah uV (ah yr (ah yE xZ))))))
def pb:MS:=ah K8 (ah Hi y7)
theorem wA{n:Nat}{v y:PV}{h:PH}{xs:List PV}:vI n (.int (-1)) v h (UU (.lst (xs++[y])))= .ok () (h.set n (.lst (xs++[v]))):=by
 have e:mK (xs++[y]).length (-1)=UU xs.length:=by
  unfold mK;rw[U7,Yi,if_neg (by decide),if_pos (by omega),show(-1+((xs.length+1:Nat):Int)).toNat=xs.length by omega]
 simp only[vI,e];rw[Wu _ _ (Vb _),Zr];rfl
structure LS(h H:PH)(gs es:List PV):Prop where
 gr: ∃ G,H=h++G
 g:H[h.length]?=UU (.lst gs)
 e:H[h.length+1]?=UU (.lst es)
section
variable{h H:PH}{gs es:List PV}
theorem LS.app(s:LS h H gs es)(X:PH):LS h (H++X) gs es:=by
 obtain⟨G,rfl⟩:=s.gr;exact⟨⟨G++X,by rw[Vd]⟩,gx s.g X,gx s.e X⟩
theorem LS.setG(s:LS h H gs es)(gs':List PV):LS h (H.set h.length (.lst gs')) gs' es :=
 ⟨kr s.gr (Vb _),by rw[VL (iz s.g)],by rw[Vp (by omega)];exact s.e⟩
theorem LS.Ph(s:LS h H gs es)(es':List PV):LS h (H.set (h.length+1) (.lst es')) gs es' :=
 ⟨kr s.gr (by omega),by rw[Vp (by omega)];exact s.g,by rw[VL (iz s.e)]⟩
theorem LS.at(s:LS h H gs es){n:Nat}{o:PO}(e:h[n]?=UU o):H[n]?=UU o:=by
 obtain⟨G,rfl⟩:=s.gr;exact gx e G
end
section
variable{pg:Tb}{aNoLines:Nat}(T:cN aNoLines pg)
include T
section
variable{h H:PH}{gs es:List PV}{n m i k:Nat}{x:Str}{ls:List Str}(s:LS h H gs es)(en:h[n]?=UU (.lst (ls.map PV.str)))(ex:ls[i]?=UU x)(tx:Tx m x)(l:m<=10000)
include s en ex tx l
theorem HH(j:Nat){u e6 e7 e8:Option PV}:K8 (run pg (j+4)) [UU (.ref n),UU (.int k),u,UU (.ref h.length),UU (.ref (h.length+1)),UU (.int i),e6,e7,e8] H= .ok (.nx [UU (.ref n),UU (.int k),u,UU (.ref h.length),UU (.ref (h.length+1)),UU (.int i),UU (.ref H.length),e7,e8]) (H++[.lst ((aQ x).map PV.str)]):=by
 have sp:=j6 (h:=H) tx (by omega);have ix:ck (.ref n) (.int i) H= .ok (.str x) H:=by
  rw[eO,s.at en,eA,P3.cw rfl (by rw[VI,ex];rfl)];rfl
 simp? [K8,du,jz,aJ,ix,sp]
theorem HG(j:Nat){u e7 e8:Option PV}:Hi (run pg (j+4)) [UU (.ref n),UU (.int k),u,UU (.ref h.length),UU (.ref (h.length+1)),UU (.int i),UU (.ref H.length),e7,e8] (H++[.lst ((aQ x).map PV.str)])=if mz i k gs.length (aQ x)=true then .ok (.nx [UU (.ref n),UU (.int k),u,UU (.ref h.length),UU (.ref (h.length+1)),UU (.int i),UU (.ref H.length),e7,e8]) (H++[.lst ((aQ x).map PV.str)]) else .ok (.rt (.tup [.str "row",.int i])) (H++[.lst ((aQ x).map PV.str)]):=by
 have ln:aP [.ref h.length] (H++[.lst ((aQ x).map PV.str)])= .ok (.int gs.length) (H++[.lst ((aQ x).map PV.str)]):=dy (gx s.g _);have st:=yM T j (h:=H++[.lst ((aQ x).map PV.str)]) (q:=H.length) au (rX x) tx.wd.1 tx.wd.2 l i k gs.length;cases b:mz i k gs.length (aQ x) with
 | false =>
  rw[b] at st
  simp? [Hi,ln,st]
 | true =>
  rw[b] at st
  simp? [Hi,ln,st]
theorem qJ(j:Nat){u e5 e6 e7 e8:Option PV}(b:mz i k gs.length (aQ x)=false) :
  aN (gN 5) pb (run pg (j+4)) (.int i) [UU (.ref n),UU (.int k),u,UU (.ref h.length),UU (.ref (h.length+1)),e5,e6,e7,e8] H= .ok (.rt (.tup [.str "row",.int i])) (H++[.lst ((aQ x).map PV.str)]):=by
 have rb:=HG T s en ex tx l j (k:=k) (u:=u) (e7:=e7) (e8:=e8);rw[b] at rb;have k:=(cZ (HH T s en ex tx l j (k:=k) (u:=u) (e6:=e6) (e7:=e7) (e8:=e8))).trans (pR (B:=y7) rb);rw[<- k];unfold pb;generalize K8=A;generalize ah Hi y7=B;simp(disch:=omega) only[jE,jc,bE,Y2,Y3]
theorem jL(j:Nat){u e5 e6 e7 e8:Option PV}{R:RV Fl}(b:mz i k gs.length (aQ x)=true)(c:y7 (run pg (j+4)) [UU (.ref n),UU (.int k),u,UU (.ref h.length),UU (.ref (h.length+1)),UU (.int i),UU (.ref H.length),e7,e8] (H++[.lst ((aQ x).map PV.str)])=R) :
  aN (gN 5) pb (run pg (j+4)) (.int i) [UU (.ref n),UU (.int k),u,UU (.ref h.length),UU (.ref (h.length+1)),e5,e6,e7,e8] H=R:=by
 have rb:=HG T s en ex tx l j (k:=k) (u:=u) (e7:=e7) (e8:=e8);rw[b,if_pos rfl] at rb;have k:=(cZ (HH T s en ex tx l j (k:=k) (u:=u) (e6:=e6) (e7:=e7) (e8:=e8))).trans ((cZ (B:=y7) rb).trans c);rw[<- k];unfold pb;generalize K8=A;generalize ah Hi y7=B;simp(disch:=omega) only[jE,jc,bE,Y2,Y3]
theorem CL(j:Nat){u e5 e6 e7 e8:Option PV}(i0:i=0)(b:mz i k gs.length (aQ x)=true) :
  aN (gN 5) pb (run pg (j+4)) (.int i) [UU (.ref n),UU (.int k),u,UU (.ref h.length),UU (.ref (h.length+1)),e5,e6,e7,e8] H= .ok (.nx [UU (.ref n),UU (eY (C8 (aQ x).tail)),u,UU (.ref h.length),UU (.ref (h.length+1)),UU (.int i),UU (.ref H.length),e7,e8]) (H++[.lst ((aQ x).map PV.str)]):=by
 refine jL T s en ex tx l j b ?_;have i1:=eq_true (show(i:Int)=0 by omega);unfold mz at b;rw[if_pos i0,Vc,Vc,decide_eq_true_eq,decide_eq_true_eq,decide_eq_true_eq] at b;obtain⟨b1,b2,b3⟩:=b;obtain⟨p,v,ew⟩: ∃ p v,aQ x=[p,v]:=by
  generalize aQ x=t at b1;rcases t with _ | ⟨p,_ | ⟨v,_ | ⟨_,_⟩⟩⟩<;>first | exact⟨_,_,rfl⟩ | (simp at b1)
 have w2:=tx.wd.2;rw[ew] at b3 w2 ⊢;have it:=HK (w2 v (by simp)) (Ba v b3);rw[show C8 [p,v].tail=v from rfl];simp? [y7,i1,fT,it]
theorem Fc(j:Nat){u e5 e6 e7 e8:Option PV}(i0:i=1)(b:mz i k gs.length (aQ x)=true) :
  aN (gN 5) pb (run pg (j+4)) (.int i) [UU (.ref n),UU (.int k),u,UU (.ref h.length),UU (.ref (h.length+1)),e5,e6,e7,e8] H= .ok (.nx [UU (.ref n),UU (.int k),UU (.tup ((aQ x).tail.map eY)),UU (.ref h.length),UU (.ref (h.length+1)),UU (.int i),UU (.ref H.length),e7,e8]) (H++[.lst ((aQ x).map PV.str),.lst ((aQ x).tail.map PV.str),.lst ((aQ x).tail.map eY)]):=by
 refine jL T s en ex tx l j b ?_;have i1: ¬ (i:Int)=0:=by omega
 have i2:=eq_true (show(i:Int)=1 by omega);have af:(aQ x).tail.all aZ=true:=by
  unfold mz at b;rw[if_neg (by omega),if_pos i0,Vc] at b;exact b.2
 have wl:=tx.wd.1;have lc:=λc=>om (c:=c) (E:=[UU (.ref n),UU (.int k),u,UU (.ref h.length),UU (.ref (h.length+1)),UU (.int i),UU (.ref H.length),e7,e8]) (X:=H++[.lst ((aQ x).map PV.str),.lst ((aQ x).tail.map PV.str)]) (q:=H.length+(0+1)) (m:=m) (i:=9) rfl (by rw[aG];rfl) (by rw[aaO];omega) (λw mw=>tx.wd.2 w (ZO mw)) af;simp? [y7,RJ,i1,i2,zY,lc]
end
end
section
variable{pg:Tb}{aNoLines:Nat}(T:cN aNoLines pg)
include T
section
variable{h H:PH}{gs es:List PV}{n m i k:Nat}{x:Str}{ls:List Str}(s:LS h H gs es)(en:h[n]?=UU (.lst (ls.map PV.str)))(ex:ls[i]?=UU x)(tx:Tx m x)(l:m<=10000)
include s en ex tx l
theorem DX(j:Nat){u e5 e6 e7 e8:Option PV}(i0:2<=i)(b:mz i k gs.length (aQ x)=true)(c1:aQ x=[U0 "hand"])(g9:gs.length<=10000)(h9:es.length<=10000) :
  ∃ H',LS h H' (gs++[.tup []]) (es++[.tup []])/\aN (gN 5) pb (run pg (j+4)) (.int i) [UU (.ref n),UU (.int k),u,UU (.ref h.length),UU (.ref (h.length+1)),e5,e6,e7,e8] H= .ok (.nx [UU (.ref n),UU (.int k),u,UU (.ref h.length),UU (.ref (h.length+1)),UU (.int i),UU (.ref H.length),e7,e8]) H':=by
 have i1: ¬ (i:Int)=0:=by omega
 have i2: ¬ (i:Int)=1:=by omega
 obtain⟨H2,e2⟩: ∃ H2,H++[PO.lst ((aQ x).map PV.str),.lst [.str "hand"]]=H2:=⟨_,rfl⟩
 have s2:LS h H2 gs es:=by rw[<- e2];exact s.app _
 have n1:fZ (.ref H.length) (.ref (H.length+(0+1))) H2= .ok (.bl (decide (aQ x=[U0 "hand"]))) H2:=by
  rw[<- e2];exact(iO (ss:=aQ x) (tt:=[U0 "hand"]) au (by rw[aG];rfl) (λy my=>(tx.wd.2 y my).ok) (by decide +kernel)).1
 rw[decide_eq_true c1] at n1;have a1':aO (.ref h.length) H2=true:=cH s2.g;have p1:az (.ref h.length) [.tup []] H2= .ok .non (H2.set h.length (.lst (gs++[.tup []]))):=by rw[jD,s2.g,j1 (by omega)]
 obtain⟨H3,e3⟩: ∃ H3,H2.set h.length (.lst (gs++[.tup []]))=H3:=⟨_,rfl⟩
 have s3:LS h H3 (gs++[.tup []]) es:=by rw[<- e3];exact s2.setG _
 rw[e3] at p1;have a2':aO (.ref (h.length+1)) H3=true:=cH s3.e;have p2:az (.ref (h.length+1)) [.tup []] H3= .ok .non (H3.set (h.length+1) (.lst (es++[.tup []]))):=by rw[jD,s3.e,j1 (by omega)]
 refine⟨_,s3.Ph _,jL T s en ex tx l j b ?_⟩;simp? [y7,RB,i1,i2,e2,n1,du,jz,a1',p1,a2',p2]
theorem E4(j:Nat){u e5 e6 e7 e8:Option PV}{g0 e0 Tq Cq:List PV}(i0:2<=i)(b:mz i k gs.length (aQ x)=true)(c1: ¬ aQ x=[U0 "hand"])(eg:gs=g0++[.tup Tq])(ee:es=e0++[.tup Cq])(g9:Tq.length<=10000)(h9:Cq.length<=10000) :
  ∃ H' e7' e8',LS h H' (g0++[.tup (Tq++[yg (aQ x)])]) (e0++[.tup (Cq++[zH (aQ x)])])/\aN (gN 5) pb (run pg (j+4)) (.int i) [UU (.ref n),UU (.int k),u,UU (.ref h.length),UU (.ref (h.length+1)),e5,e6,e7,e8] H= .ok (.nx [UU (.ref n),UU (.int k),u,UU (.ref h.length),UU (.ref (h.length+1)),UU (.int i),UU (.ref H.length),e7',e8']) H':=by
 have i1: ¬ (i:Int)=0:=by omega
 have i2: ¬ (i:Int)=1:=by omega
 obtain⟨H2,e2⟩: ∃ H2,H++[PO.lst ((aQ x).map PV.str),.lst [.str "hand"]]=H2:=⟨_,rfl⟩
 have s2:LS h H2 gs es:=by rw[<- e2];exact s.app _
 have n1:fZ (.ref H.length) (.ref (H.length+(0+1))) H2= .ok (.bl (decide (aQ x=[U0 "hand"]))) H2:=by
  rw[<- e2];exact(iO (ss:=aQ x) (tt:=[U0 "hand"]) au (by rw[aG];rfl) (λy my=>(tx.wd.2 y my).ok) (by decide +kernel)).1
 rw[decide_eq_false c1] at n1;have gw:H2[H.length]?=UU (.lst ((aQ x).map PV.str)):=by rw[<- e2];exact au
 obtain⟨w1,w2⟩:=tx.wd;have b':=b;unfold mz at b';rw[if_neg (by omega),if_neg (by omega),if_neg c1,Vc] at b';have tc:=b'.2;unfold pM at tc;rw[Vc,Vc,decide_eq_true_eq] at tc;obtain⟨t1,t2,t3⟩:=tc;refine(?_: ∃ H' e7' e8',_/\y7 (run pg (j+4)) [UU (.ref n),UU (.int k),u,UU (.ref h.length),UU (.ref (h.length+1)),UU (.int i),UU (.ref H.length),e7,e8] (H++[.lst ((aQ x).map PV.str)])=_).elim λH' q=>q.elim λf7 q=>q.elim λf8 q=>⟨H',f7,f8,q.1,jL T s en ex tx l j b q.2⟩
 obtain⟨a,c,d,f,w,ew⟩: ∃ a b c d w,aQ x=a::b::c::d::w:=by
  generalize aQ x=v at t1;rcases v with _ | ⟨a,_ | ⟨b,_ | ⟨c,_ | ⟨d,w⟩⟩⟩⟩
  . exact absurd t1 (by rw[U6];omega)
  . exact absurd t1 (by simp only[UZ,U6];omega)
  . exact absurd t1 (by simp only[UZ,U6];omega)
  . exact absurd t1 (by simp only[UZ,U6];omega)
  . exact⟨_,_,_,_,_,rfl⟩
 obtain⟨W,eW⟩: ∃ W,(aQ x).map PV.str=W:=⟨_,rfl⟩
 rw[eW] at e2 gw ⊢;rw[ew] at eW w1 w2 t2 t3 ⊢;rw[show yg (a::c::d::f::w)=mC a c d f from rfl,show zH (a::c::d::f::w)= .tup (w.map eY) from rfl];have t2':zK a c d f=true:=t2;have t3':w.all aZ=true:=t3;unfold zK at t2';rw[Vc,Vc,Vc] at t2';obtain⟨_,_,gd,mf⟩:=t2';obtain⟨gm,gv⟩:=yc gd;have in1:=λg=>pN T (j+3) (h:=g) (w2 d (by simp)) l gm;have in2:=λg=>pN T (j+3) (h:=g) (w2 f (by simp)) l mf;rw[gv] at in1;have x0:ck (.ref H.length) (.int 0) H2= .ok (.str a) H2:=by rw[eO,gw,eA,<- eW,U2,fj];rfl
 have x1:ck (.ref H.length) (.int 1) H2= .ok (.str c) H2:=by rw[eO,gw,eA,<- eW,U2,U2,fT];rfl
 have x2:ck (.ref H.length) (.int 2) H2= .ok (.str d) H2:=by rw[eO,gw,eA,<- eW,U2,U2,U2,lP];rfl
 have x3:ck (.ref H.length) (.int 3) H2= .ok (.str f) H2:=by rw[eO,gw,eA,<- eW,U2,U2,U2,U2,qO];rfl
 have th: ∀ e7:Option PV,uV (run pg (j+4)) [UU (.ref n),UU (.int k),u,UU (.ref h.length),UU (.ref (h.length+1)),UU (.int i),UU (.ref H.length),e7,e8] H2= .ok (.nx [UU (.ref n),UU (.int k),u,UU (.ref h.length),UU (.ref (h.length+1)),UU (.int i),UU (.ref H.length),UU (.str (uQ c)),e8]) H2:=λe7=>by
  unfold uQ;by_cases y:c= "-"
  . have y':=eq_true y;simp? [uV,x1,y']
  . simp? [uV,x1,y]
 have lk:yr (run pg (j+4)) [UU (.ref n),UU (.int k),u,UU (.ref h.length),UU (.ref (h.length+1)),UU (.int i),UU (.ref H.length),UU (.str (uQ c)),e8] H2= .ok (.nx [UU (.ref n),UU (.int k),u,UU (.ref h.length),UU (.ref (h.length+1)),UU (.int i),UU (.ref H.length),UU (.str (uQ c)),UU (mC a c d f)]) H2:=by
  unfold mC;simp? [yr,x0,x2,x3,in1,in2]
 subst eg ee;have y1:ck (.ref h.length) (.int (-1)) H2= .ok (.tup Tq) H2:=by rw[eO,s2.g,eA,qP];rfl
 have p1: ∀ v,jj (.ref h.length) (.int (-1)) v H2= .ok () (H2.set h.length (.lst (g0++[v]))):=λv=>by rw[Bq,s2.g,wA]
 have ad1: ∀ v g,aF (.tup Tq) (.tup [v]) g= .ok (.tup (Tq++[v])) g:=λv g=>lQ (by simp only[UZ,U6];omega);have ad2: ∀ v g,aF (.tup Cq) (.tup [v]) g= .ok (.tup (Cq++[v])) g:=λv g=>lQ (by simp only[UZ,U6];omega);obtain⟨H3,e3⟩: ∃ H3,H2.set h.length (.lst (g0++[.tup (Tq++[mC a c d f])]))=H3:=⟨_,rfl⟩
 have s3:LS h H3 (g0++[.tup (Tq++[mC a c d f])]) (e0++[.tup Cq]):=by rw[<- e3];exact s2.setG _
 have p1':=p1 (.tup (Tq++[mC a c d f]));rw[e3] at p1';obtain⟨G,eG⟩:=s.gr;have hl:h.length < H.length:=iz s.g;have gw3:H3[H.length]?=UU (.lst W):=by rw[<- e3,Vp (by omega)];exact gw
 have lk3:yE (run pg (j+4)) [UU (.ref n),UU (.int k),u,UU (.ref h.length),UU (.ref (h.length+1)),UU (.int i),UU (.ref H.length),UU (.str (uQ c)),UU (mC a c d f)] H2= .ok (.nx [UU (.ref n),UU (.int k),u,UU (.ref h.length),UU (.ref (h.length+1)),UU (.int i),UU (.ref H.length),UU (.str (uQ c)),UU (mC a c d f)]) H3:=by
  generalize mC a c d f=LV at p1' ⊢;simp? [yE,y1,ad1,p1']
 have y2:ck (.ref (h.length+1)) (.int (-1)) H3= .ok (.tup Cq) H3:=by rw[eO,s3.e,eA,qP];rfl
 have cu:dN W (UU 4) UX=w.map PV.str:=by rw[<- eW,P3.gh (by decide)];rfl
 have sl:yU (.ref H.length) (UU 4) UX H3= .ok (.ref H3.length) (H3++[.lst (w.map PV.str)]):=by rw[tK,gw3,kU,cu]
 have lc:=λc0=>om (c:=c0) (E:=[UU (.ref n),UU (.int k),u,UU (.ref h.length),UU (.ref (h.length+1)),UU (.int i),UU (.ref H.length),UU (.str (uQ c)),UU (mC a c d f)]) (X:=H3++[.lst (w.map PV.str)]) (q:=H3.length) (m:=m) (i:=9) (t:=w) rfl au (by simp only[UZ] at w1;omega) (λv mv=>w2 v (by simp[mv])) t3';have tp:aH [.ref (H3.length+(0+1))] (H3++[.lst (w.map PV.str),.lst (w.map eY)])= .ok (.tup (w.map eY)) _:=cO (by rw[aG];rfl);obtain⟨H4,e4⟩: ∃ H4,H3++[PO.lst (w.map PV.str),.lst (w.map eY)]=H4:=⟨_,rfl⟩
 have s4:LS h H4 (g0++[.tup (Tq++[mC a c d f])]) (e0++[.tup Cq]):=by rw[<- e4];exact s3.app _
 rw[e4] at tp;have p2: ∀ v,jj (.ref (h.length+1)) (.int (-1)) v H4= .ok () (H4.set (h.length+1) (.lst (e0++[v]))):=λv=>by rw[Bq,s4.e,wA]
 have ND:xZ (run pg (j+4)) [UU (.ref n),UU (.int k),u,UU (.ref h.length),UU (.ref (h.length+1)),UU (.int i),UU (.ref H.length),UU (.str (uQ c)),UU (mC a c d f)] H3= .ok (.nx [UU (.ref n),UU (.int k),u,UU (.ref h.length),UU (.ref (h.length+1)),UU (.int i),UU (.ref H.length),UU (.str (uQ c)),UU (mC a c d f)]) (H4.set (h.length+1) (.lst (e0++[.tup (Cq++[.tup (w.map eY)])]))):=by
  generalize mC a c d f=LV at lc ⊢;simp? [xZ,y2,sl,lc,e4,tp,ad2,p2]
 refine⟨_,UU (.str (uQ c)),UU (mC a c d f),s4.Ph _,?_⟩;rw[<- (cZ (th e7)).trans ((cZ lk).trans ((cZ lk3).trans ND))];unfold y7;generalize ah uV (ah yr (ah yE xZ))=B;simp? [i1,i2,e2,n1]
end
end
theorem F4{k r:Nat}{st:Ts}{x:Str}(r2:2<=r):mz r k st.length (aQ x)=(BY k st x).isSome:=by
 unfold mz BY;rw[if_neg (by omega),if_neg (by omega)];by_cases c:x= "hand"
 . rw[if_pos ((lR x).mp c)];by_cases g:st.length < k
   . rw[if_pos ⟨c,g⟩,decide_eq_true g];rfl
   . have tf:pM k (aQ x)=false:=by
      unfold pM;rw[(lR x).mp c,decide_eq_false (by simp only[UZ,U6];omega)];rfl
     rw[if_neg (λz=>g z.2),decide_eq_false g,if_neg (λz=>by rw[tf] at z;nomatch z.2)];rfl
 . rw[if_neg (λz=>c ((lR x).mpr z)),if_neg (λz=>c z.1)];by_cases g:st=[]
   . subst g;rfl
   . have p0:0 < st.length:=Xl.mpr g;rw[decide_eq_true p0,VQ];cases t:pM k (aQ x)
     . rw[if_neg (λz=>nomatch z.2)];rfl
     . rw[if_pos ⟨g,rfl⟩];rfl
section
variable{pg:Tb}{aNoLines:Nat}(T:cN aNoLines pg)
include T
theorem EN(j:Nat){h:PH}{n m k:Nat}{ls:List Str}(en:h[n]?=UU (.lst (ls.map PV.str)))(t:yx m ls)(l:m<=10000){u:Option PV}{xs0:List PV}: ∀ d i,2<=i->i+d=ls.length-> ∀ H st e5 e6 e7 e8,LS h H (st.map rS) (st.map wK)->Bd i st ->
  match wk k (ls.drop i) st i with
  | .inl r=> ∃ G,aS ⟨UX,xs0⟩ (aN (gN 5) pb (run pg (j+4))) ((Xd i d).map λi:Nat=>PV.int (0+(i:Int))) [UU (.ref n),UU (.int k),u,UU (.ref h.length),UU (.ref (h.length+1)),e5,e6,e7,e8] H= .ok (.rt (.tup [.str "row",.int r])) (h++G)
  | .inr s=> ∃ H' e5' e6' e7' e8',LS h H' (s.map rS) (s.map wK)/\aS ⟨UX,xs0⟩ (aN (gN 5) pb (run pg (j+4))) ((Xd i d).map λi:Nat=>PV.int (0+(i:Int))) [UU (.ref n),UU (.int k),u,UU (.ref h.length),UU (.ref (h.length+1)),e5,e6,e7,e8] H= .ok (.nx [UU (.ref n),UU (.int k),u,UU (.ref h.length),UU (.ref (h.length+1)),e5',e6',e7',e8']) H':=by
 intro d
 induction d with
 | zero =>
  intro i i2 il H st e5 e6 e7 e8 s bd
  rw[V5 (by omega),wk]
  exact⟨H,e5,e6,e7,e8,s,fh⟩
 | succ d ih =>
  intro i i2 il H st e5 e6 e7 e8 s bd
  have l9:=t.1
  have hl:i < ls.length:=by omega
  have ex:ls[i]?=UU ls[i]:=VG hl
  have ci:(0:Int)+(i:Int)=(i:Int):=aa6 _
  have b1:=bd.1
  rw[Wd hl,wk,X0,U2]
  generalize ls[i]=x at ex
  have tx:=t.2 x (VU ex)
  have sb:=F4 (k:=k) (st:=st) (x:=x) i2
  have gl:(st.map rS).length=st.length:=U3 _
  rw[<- gl] at sb
  cases q:BY k st x with
  | none =>
   rw[q] at sb
   have rb:=qJ T s en ex tx l j (k:=k) (u:=u) (e5:=e5) (e6:=e6) (e7:=e7) (e8:=e8) sb
   obtain⟨G,eG⟩:=(s.app [.lst ((aQ x).map PV.str)]).gr
   exact⟨G,by rw[bY,ci,rb,bE,rW,eG]⟩
  | some s2 =>
   rw[q] at sb
   have b3:=vP bd q
   have q':=q
   unfold BY at q'
   simp only[]
   split at q'
   . rename_i c;cases q';obtain⟨H',s',st'⟩:=DX T s en ex tx l j (k:=k) (u:=u) (e5:=e5) (e6:=e6) (e7:=e7) (e8:=e8) i2 sb ((lR x).mp c.1) (by omega) (by rw[U3];omega);have s'':LS h H' ((st++[[]]).map rS) ((st++[[]]).map wK):=by rw[Vu,Vu];exact s'
     have k:=ih (i+1) (by omega) (by omega) H' _ (UU (.int (i:Int))) (UU (.ref H.length)) e7 e8 s'' b3;rw[bY,ci,st',bE,bX];exact k
   . rename_i c;split at q'
     . rename_i z;cases q';have nh: ¬ aQ x=[U0 "hand"]:=λy=>by
        have:=z.2;unfold pM at this;rw[y,decide_eq_false (by simp only[UZ,U6];omega)] at this;cases this
       obtain⟨t0,tt,rfl⟩: ∃ ys t,st=ys++[t]:=⟨st.dropLast,st.getLast z.1,(Xk z.1).symm⟩
       have tl:tt.length<=i:=bd.2 tt (Vi _ Ve);obtain⟨H',f7,f8,s',st'⟩:=E4 T s en ex tx l j (k:=k) (u:=u) (e5:=e5) (e6:=e6) (e7:=e7) (e8:=e8) (g0:=t0.map rS) (e0:=t0.map wK) (Tq:=tt.map yg) (Cq:=tt.map zH) i2 sb nh (by rw[Vu];rfl) (by rw[Vu];rfl) (by rw[U3];omega) (by rw[U3];omega);have s'':LS h H' ((pu (t0++[tt]) (aQ x)).map rS) ((pu (t0++[tt]) (aQ x)).map wK):=by
        rw[mY,Vu,Vu,U2,VP,U2,VP,rS,wK,Vu,Vu];exact s'
       have k:=ih (i+1) (by omega) (by omega) H' _ (UU (.int (i:Int))) (UU (.ref H.length)) f7 f8 s'' b3;rw[bY,ci,st',bE,bX];exact k
     . cases q'
end
theorem EF(ls:List Str):(rY ls).flat=true:=by
 unfold rY rr;split
 . rfl
 . rename_i v e
   revert e
   split
   . intro e;cases e
   . split
     . intro e;cases e
     . split
       . intro e;cases e
       . split
         . intro e;cases e
         . intro e;cases e;have:=mX;simp only[PV.flat,PV.c6,mX,Xt]
theorem KH{ls:List Str}{x:Str}{m g k:Nat}(ex:ls[0]?=UU x)(tx:Tx m x):(mz 0 k g (aQ x)=true-> ∃ k',C0 ls=UU k'/\eY (C8 (aQ x).tail)= .int (k':Nat))/\(mz 0 k g (aQ x)=false->C0 ls=UX):=by
 have wbe:wb ls 0 "paper" =if (aQ x).head?=UU (U0 "paper") then UU (aQ x).tail else UX:=by unfold wb;rw[ex];rfl
 have wp:0 < (aQ x).length:=Xl.mpr (rX x);have tl:(aQ x).tail.length=(aQ x).length - 1:=aaO;have key:C0 ls=if mz 0 k g (aQ x)=true then UU (cW (C8 (aQ x).tail)).toNat else UX:=by
  unfold C0 mz;rw[if_pos rfl,wbe];by_cases y:(aQ x).head?=UU (U0 "paper")
  . rw[if_pos y,Xv,decide_eq_true y,VQ];by_cases z:(aQ x).length=2
    . rw[decide_eq_true z,VQ];obtain⟨w,ew⟩:=Xp.mp (show(aQ x).tail.length=1 by omega);have tw:Tx m w:=tx.wd.2 w (ZO (by rw[ew];exact Ve));rw[ew,show C8 [w]=w from rfl];cases f:aZ w
      . have n: ¬ w∈N4:=λmw=>by have:=Ba w mw;rw[f] at this;cases this
        rw[if_neg (λq=>by have:=q.1;simp[f] at this),decide_eq_false n];rfl
      . have nv:=Jb w f tw.1;by_cases v:w∈N4
        . rw[if_pos ⟨by simp[f],rfl,nv.mp v⟩,decide_eq_true v];rfl
        . rw[if_neg (λq=>v (nv.mpr q.2.2)),decide_eq_false v];rfl
    . rw[decide_eq_false z,if_neg (λq=>z (by have:=q.2.1;omega))];rfl
  . rw[if_neg y,decide_eq_false y];simp
 constructor
 . intro b;rw[b,if_pos rfl] at key;refine⟨_,key,?_⟩;unfold mz at b;rw[if_pos rfl,Vc,Vc,decide_eq_true_eq,decide_eq_true_eq,decide_eq_true_eq] at b;have k4: ∀ w∈N4,1<=cW w/\cW w<=4:=by decide +kernel
   have:=k4 _ b.2.2;unfold eY;exact congrArg PV.int (by omega)
 . intro b;rw[b] at key;exact key
theorem KG{ls:List Str}{x:Str}{g k:Nat}(ex:ls[1]?=UU x):DS ls=if mz 1 k g (aQ x)=true then UU (aQ x).tail else UX:=by
 have wbe:wb ls 1 "order" =if (aQ x).head?=UU (U0 "order") then UU (aQ x).tail else UX:=by unfold wb;rw[ex];rfl
 have sb:mz 1 k g (aQ x)=(decide ((aQ x).head?=UU (U0 "order"))&&(aQ x).tail.all aZ):=rfl;unfold DS;rw[sb,wbe];by_cases y:(aQ x).head?=UU (U0 "order")
 . rw[if_pos y,Xv,decide_eq_true y,VQ]
 . rw[if_neg y,decide_eq_false y];rfl
section
variable{pg:Tb}{aNoLines:Nat}(T:cN aNoLines pg)
include T
theorem ug(j:Nat){h:PH}{n m:Nat}{ls:List Str}(en:h[n]?=UU (.lst (ls.map PV.str)))(t:yx m ls)(l:m<=10000) :
  run pg (j+5) "_law_read" [.ref n] h= .ok (rY ls) h:=by
 rw[run_eq T.ua rfl (by rw[T.fD];rfl)];have ln:=λg=>dy (h:=h++g) (xs:=ls.map PV.str) (n:=n) (gx en g);simp only[U3] at ln;have l9:=t.1;have tn:Yh (ls.length:Int)=ls.length:=V7 _;have s0:LS h (h++[.lst [],.lst []]) [] []:=⟨⟨_,rfl⟩,au,by rw[aG];rfl⟩
 have A: ∀(r:Nat)(G:PH),rr ls= .inl r->aS ⟨UX,ao 0 ls.length⟩ (aN (gN 5) pb (run pg (j+4))) (ao 0 ls.length) [UU (.ref n),UU (.int 0),UU (.tup []),UU (.ref h.length),UU (.ref (h.length+1)),UX,UX,UX,UX] (h++[.lst [],.lst []])= .ok (.rt (.tup [.str "row",.int r])) (h++G)->fin h (bA.body (run pg (j+4)) ([PV.ref n].map UU++U8 bA.nl UX) h)= .ok (rY ls) h:=λr G er lp=>by
  unfold pb K8 Hi y7 RJ RB uV yr yE xZ at lp;simp? [bA,dQ,ln,tn,lp,YB];unfold rY;rw[er];exact a8 rfl
 have B: ∀(k:Nat)(u:PV)(gs es:List PV)(H':PH)(e5 e6 e7 e8:Option PV),LS h H' gs es->aS ⟨UX,ao 0 ls.length⟩ (aN (gN 5) pb (run pg (j+4))) (ao 0 ls.length) [UU (.ref n),UU (.int 0),UU (.tup []),UU (.ref h.length),UU (.ref (h.length+1)),UX,UX,UX,UX] (h++[.lst [],.lst []])= .ok (.nx [UU (.ref n),UU (.int k),UU u,UU (.ref h.length),UU (.ref (h.length+1)),e5,e6,e7,e8]) H'->(rY ls=if ls.length < 2\/gs.length < k then .tup [.str "row",.int ls.length] else .tup [.str "paper",.tup [u,.tup gs,.tup es]])->fin h (bA.body (run pg (j+4)) ([PV.ref n].map UU++U8 bA.nl UX) h)= .ok (rY ls) h:=λk u gs es H' e5 e6 e7 e8 s lp rv=>by
  unfold pb K8 Hi y7 RJ RB uV yr yE xZ at lp;have fl:=EF ls;have lL:aP [.ref n] H'= .ok (.int ls.length) H':=by rw[dy (xs:=ls.map PV.str) (s.at en),U3]
  have lG:aP [.ref h.length] H'= .ok (.int gs.length) H':=dy s.g;have t1:aH [.ref h.length] H'= .ok (.tup gs) H':=cO s.g;have t2:aH [.ref (h.length+1)] H'= .ok (.tup es) H':=cO s.e;obtain⟨G,eG⟩:=s.gr;have fz: ∀ v,v.flat=true->P3.settle h v H'= .ok v h:=λv fv=>by rw[eG];exact a8 fv
  by_cases z:ls.length < 2
  . have z1:(ls.length:Int) < 2:=by omega
    rw[if_pos (.inl z)] at rv;rw[rv] at fl ⊢;simp? [bA,dQ,ln,tn,lp,lL,z1,YB];exact fz _ fl
  . have z1: ¬ (ls.length:Int) < 2:=by omega
    by_cases y:gs.length < k
    . have y1:(gs.length:Int) < (k:Int):=by omega
      rw[if_pos (.inr y)] at rv;rw[rv] at fl ⊢;simp? [bA,dQ,ln,tn,lp,lL,lG,z1,y1,YB];exact fz _ fl
    . have y1: ¬ (gs.length:Int) < (k:Int):=by omega
      rw[if_neg (λq=>q.elim z y)] at rv;rw[rv] at fl ⊢;simp? [bA,dQ,ln,tn,lp,lL,lG,z1,y1,t1,t2,YB];exact fz _ fl
 cases q:ls.length with
 | zero =>
  have z:ls=[]:=Za.mp q
  refine B 0 (.tup []) [] [] (h++[.lst [],.lst []]) UX UX UX UX s0 (by rw[q];rfl) ?_
  rw[if_pos (.inl (by omega))]
  subst z
  rfl
 | succ d =>
  obtain⟨x,ex⟩: ∃ x,ls[0]?=UU x:=⟨_,VG (by omega)⟩
  have tx:=t.2 x (VU ex)
  have rg:ao 0 ls.length= .int ((0:Nat):Int)::(Xd 1 d).map λi:Nat=>PV.int (0+(i:Int)):=by
   unfold P3.ao;rw[q,Yu,X0,U2];rfl
  have sr: ∀{F:List PV->RV Fl}{r:RV Fl},F (.int ((0:Nat):Int)::(Xd 1 d).map λi:Nat=>PV.int (0+(i:Int)))=r->F (ao 0 ls.length)=r:=λz=>by rw[rg];exact z
  obtain⟨m1,m2⟩:=KH (g:=0) (k:=0) ex tx
  cases b:mz 0 0 0 (aQ x) with
  | false =>
   have rb:=qJ T s0 en ex tx l j (k:=0) (u:=UU (.tup [])) (e5:=UX) (e6:=UX) (e7:=UX) (e8:=UX) b
   refine A 0 [.lst [],.lst [],.lst ((aQ x).map PV.str)] ?_ (sr (F:=λz=>aS ⟨UX,ao 0 ls.length⟩ (aN (gN 5) pb (run pg (j+4))) z [UU (.ref n),UU (.int 0),UU (.tup []),UU (.ref h.length),UU (.ref (h.length+1)),UX,UX,UX,UX] (h++[.lst [],.lst []])) ?_)
   . unfold rr;rw[m2 b]
   . show aS _ _ _ _ _=_;rw[bY];refine(congrArg (RV.bind · _) rb).trans ?_
     rw[bE,rW,Vd];rfl
  | true =>
   obtain⟨k,hk,nv⟩:=m1 b
   have r0:=CL T s0 en ex tx l j (k:=0) (u:=UU (.tup [])) (e5:=UX) (e6:=UX) (e7:=UX) (e8:=UX) rfl b
   rw[nv] at r0
   obtain⟨H1,e1⟩: ∃ H1,h++[PO.lst [],PO.lst []]++[PO.lst ((aQ x).map PV.str)]=H1:=⟨_,rfl⟩
   have s1:LS h H1 [] []:=by rw[<- e1];exact s0.app _
   rw[e1] at r0
   have S0: ∀ ys,aS ⟨UX,ao 0 ls.length⟩ (aN (gN 5) pb (run pg (j+4))) (.int ((0:Nat):Int)::ys) [UU (.ref n),UU (.int 0),UU (.tup []),UU (.ref h.length),UU (.ref (h.length+1)),UX,UX,UX,UX] (h++[.lst [],.lst []])=aS ⟨UX,ao 0 ls.length⟩ (aN (gN 5) pb (run pg (j+4))) ys [UU (.ref n),UU (.int k),UU (.tup []),UU (.ref h.length),UU (.ref (h.length+1)),UU (.int ((0:Nat):Int)),UU (.ref (h++[PO.lst [],PO.lst []]).length),UX,UX] H1:=λys=>by
    rw[bY];exact(congrArg (RV.bind · _) r0).trans (by rw[bE,bX])
   have hk1:rr ls=match DS ls with
     | none=> .inl 1
     | some os=>match wk k (ls.drop 2) [] 2 with
      | .inl r=> .inl r
      | .inr st=>if st.length < k then .inl ls.length else .inr (rP os st):=by unfold rr;rw[hk]<;>rfl
   cases d with
   | zero =>
    have on:DS ls=UX:=by unfold DS wb;rw[XC (by omega)];rfl
    refine B k (.tup []) [] [] H1 _ _ UX UX s1 (sr (F:=λz=>aS ⟨UX,ao 0 ls.length⟩ (aN (gN 5) pb (run pg (j+4))) z [UU (.ref n),UU (.int 0),UU (.tup []),UU (.ref h.length),UU (.ref (h.length+1)),UX,UX,UX,UX] (h++[.lst [],.lst []])) (S0 ((Xd 1 0).map λi:Nat=>PV.int (0+(i:Int))))) ?_
    rw[if_pos (.inl (by omega))]
    unfold rY
    rw[hk1,on]
    simp only[]
    rw[show ls.length=1 by omega]
   | succ d =>
    obtain⟨x2,ex2⟩: ∃ x,ls[1]?=UU x:=⟨_,VG (by omega)⟩
    have tx2:=t.2 x2 (VU ex2)
    have od:=KG (g:=0) (k:=k) ex2
    have rg2:(Xd 1 (d+1)).map (λi:Nat=>PV.int (0+(i:Int)))= .int ((1:Nat):Int)::(Xd 2 d).map λi:Nat=>PV.int (0+(i:Int)):=by
     rw[X0,U2];rfl
    have S1:=S0 ((Xd 1 (d+1)).map (λi:Nat=>PV.int (0+(i:Int))))
    cases b2:mz 1 k 0 (aQ x2) with
    | false =>
     have rb:=qJ T s1 en ex2 tx2 l j (k:=k) (u:=UU (.tup [])) (e5:=UU (.int ((0:Nat):Int))) (e6:=UU (.ref (h++[PO.lst [],PO.lst []]).length)) (e7:=UX) (e8:=UX) b2
     rw[b2,if_neg (by decide)] at od
     obtain⟨G,eG⟩:=(s1.app [.lst ((aQ x2).map PV.str)]).gr
     refine A 1 G (by rw[hk1,od]) (sr (F:=λz=>aS ⟨UX,ao 0 ls.length⟩ (aN (gN 5) pb (run pg (j+4))) z [UU (.ref n),UU (.int 0),UU (.tup []),UU (.ref h.length),UU (.ref (h.length+1)),UX,UX,UX,UX] (h++[.lst [],.lst []])) (S1.trans ?_))
     rw[rg2,bY,rb,bE,rW,eG]
    | true =>
     have r1:=Fc T s1 en ex2 tx2 l j (k:=k) (u:=UU (.tup [])) (e5:=UU (.int ((0:Nat):Int))) (e6:=UU (.ref (h++[PO.lst [],PO.lst []]).length)) (e7:=UX) (e8:=UX) rfl b2
     rw[b2,if_pos rfl] at od
     obtain⟨H2,e2⟩: ∃ H2,H1++[PO.lst ((aQ x2).map PV.str),PO.lst ((aQ x2).tail.map PV.str),PO.lst ((aQ x2).tail.map eY)]=H2:=⟨_,rfl⟩
     have s2:LS h H2 [] []:=by rw[<- e2];exact s1.app _
     rw[e2] at r1
     have rl:=EN T j en t l (k:=k) (u:=UU (.tup ((aQ x2).tail.map eY))) (xs0:=ao 0 ls.length) d 2 (Vb 2) (by omega) H2 [] (UU (.int ((1:Nat):Int))) (UU (.ref H1.length)) UX UX s2 ⟨V2 _,λt m=>nomatch m⟩
     rw[hk1,od] at A
     have rvk:rY ls=match (match wk k (ls.drop 2) [] 2 with
       | .inl r=> .inl r
       | .inr st=>if st.length < k then .inl ls.length else .inr (rP (aQ x2).tail st):Nat ⊕ PV) with
      | .inl r=> .tup [.str "row",.int r]
      | .inr v=> .tup [.str "paper",v]:=by unfold rY;rw[hk1,od]<;>rfl
     cases y:wk k (ls.drop 2) [] 2 with
     | inl r =>
      rw[y] at rl
      obtain⟨G,lp⟩:=rl
      refine A r G (by rw[y]) (sr (F:=λz=>aS ⟨UX,ao 0 ls.length⟩ (aN (gN 5) pb (run pg (j+4))) z [UU (.ref n),UU (.int 0),UU (.tup []),UU (.ref h.length),UU (.ref (h.length+1)),UX,UX,UX,UX] (h++[.lst [],.lst []])) (S1.trans ?_))
      rw[rg2,bY,r1,bE,bX]
      exact lp
     | inr st =>
      rw[y] at rl rvk
      obtain⟨H',f5,f6,f7,f8,s',lp⟩:=rl
      refine B k (.tup ((aQ x2).tail.map eY)) _ _ H' f5 f6 f7 f8 s' (sr (F:=λz=>aS ⟨UX,ao 0 ls.length⟩ (aN (gN 5) pb (run pg (j+4))) z [UU (.ref n),UU (.int 0),UU (.tup []),UU (.ref h.length),UU (.ref (h.length+1)),UX,UX,UX,UX] (h++[.lst [],.lst []])) (S1.trans ?_)) ?_
      . rw[rg2,bY,r1,bE,bX];exact lp
      . rw[rvk,U3];by_cases z:st.length < k
        . rw[if_pos (.inr z)];simp only[z,if_true]
        . rw[if_neg (λq=>q.elim (λq=>by omega) z)];simp only[z,if_false];rfl
end
noncomputable def qC:Option Int->PV
 | none=> .non
 | some i=> .int i
def sh:Option Int->Str
 | none=> "-"
 | some i=>aL i
def oQ(o:Option Int):Prop:= ∀ i,o=UU i->0<=i/\i<=big
theorem HS{o:Option Int}(h:oQ o):Tx 40 (sh o):=by
 cases o with
 | none=>exact(by decide +kernel:Tx 40 (U0 "-"))
 | some i =>
  obtain⟨a,b⟩:=h i rfl
  have:=pW a b
  exact⟨this.2,this.1⟩
abbrev Mk:=Option (Int × Option Int)
noncomputable def Bw:Mk->PV
 | none=> .non
 | some (i,UX)=> .int i
 | some (i,UU j)=> .tup [.int i,.int j]
def C7:Mk->Str
 | none=> "-"
 | some (i,UX)=>aL i
 | some (i,UU j)=>aL i++ "." ++aL j
def Rx(m:Mk):Prop:= ∀ i o,m=UU (i,o)->oQ (UU i)/\oQ o
structure Lk where
 k:Str
 t:Str
 v:Option Int
 m:Mk
noncomputable def T6:List Str:=["", "a", "ab", "gets", "abcdefgh", "h"]
noncomputable def uH(t:Str):Str:=if t= "" then "-" else t
def Lk.p(l:Lk):PV:= .tup [.str l.k,.str l.t,qC l.v,Bw l.m]
def Lk.ws(l:Lk):List Str:=[l.k,uH l.t,sh l.v,C7 l.m]
structure Lk.Ok(l:Lk):Prop where
 k:l.k∈WK
 t:l.t∈T6
 v:oQ l.v
 m:Rx l.m
abbrev Tc:=Lk × List Int
noncomputable def aX(is:List Int):PV:= .tup (is.map PV.int)
def mE(c:Tc):Str:=jn (c.1.ws++c.2.map aL)
def kz(c:Tc):Prop:=c.1.Ok/\c.2.length<=4/\ ∀ i∈c.2,oQ (UU i)
structure Pp where
 od:List Int
 tb:List (List Tc)
def Pp.v(p:Pp):PV:= .tup [aX p.od,.tup (p.tb.map λt=> .tup (t.map λc=>c.1.p)),.tup (p.tb.map λt=> .tup (t.map λc=>aX c.2))]
def nq(t:List Tc):List Str:=U0 "hand" ::t.map mE
def Pp.ls(p:Pp):List Str:=jn [U0 "paper",aL p.tb.length]::jn (U0 "order" ::p.od.map aL)::(p.tb.map nq).flatten
structure Pp.Ok(p:Pp):Prop where
 o:p.od.length<=4/\ ∀ i∈p.od,oQ (UU i)
 t:p.tb.length<=4/\ ∀ t∈p.tb,t.length<=3/\ ∀ c∈t,kz c
theorem fC{i:Int}(b:oQ (UU i)):Tx 40 (aL i):=HS b
theorem OK{m:Mk}(h:Rx m):Tx 81 (C7 m):=by
 rcases m with _ | ⟨i,_ | j⟩
 . exact(by decide +kernel:Tx 81 (U0 "-"))
 . exact(fC (h i UX rfl).1).mono (by decide)
 . obtain⟨a,b⟩:=h i (UU j) rfl;have p1:Tx 1 (U0 "."):=by decide +kernel
   exact((fC a).app p1).app (fC b)
theorem B4: ∀ w∈WK,Tx 40 w/\w≠ "" :=by decide +kernel
theorem O3: ∀ w∈T6,Tx 40 (uH w)/\Tx 40 w:=by decide +kernel
theorem Lk.Ok.tx{l:Lk}(o:l.Ok): ∀ w∈l.ws,Tx 81 w:=Va.mpr ⟨(B4 _ o.k).1.mono (by decide),Va.mpr ⟨(O3 _ o.t).1.mono (by decide),Va.mpr ⟨(HS o.v).mono (by decide),Va.mpr ⟨OK o.m,λ_ m=>nomatch m⟩⟩⟩⟩
theorem mB{is:List Int}(b: ∀ i∈is,oQ (UU i)): ∀ w∈is.map aL,Tx 40 w:=λw m=>by
 obtain⟨i,mi,rfl⟩:=WA.mp m;exact fC (b i mi)
theorem HW: ∀(r:List Str)(p:Str)(t:List Str),jn (jn (p::r)::t)=jn (p::(r++t))
 | [],p,t=>by rw[gJ];rfl
 | q::r,p,t=>by
  rw[fS,gj,uL,WQ,fS p q,gj];congr 1;rw[uL,HW r q t]
theorem QC{c:Tc}(o:kz c):Tx 656 (mE c):=by
 have k:=Tx.jo (ws:=c.1.ws++c.2.map aL) (n:=81) (λw m=>by
  rcases Vz.mp m with m | m
  . exact o.1.tx w m
  . exact(mB o.2.2 w m).mono (by decide))
 refine k.mono ?_;rw[U7,U3,show c.1.ws.length=4 from rfl];have:=o.2.1;have:(4+c.2.length)*(81+1)<=8*82:=Xe _ (by omega);omega
theorem Pp.Ok.tx{p:Pp}(o:p.Ok):p.ls.length<=18/\ ∀ x∈p.ls,Tx 656 x:=by
 have nB:oQ (UU (p.tb.length:Int)):=λi e=>by cases e;have:=o.t.1;unfold big;omega
 constructor
 . unfold Pp.ls;rw[UZ,UZ,List.length_flatten,WY];have: ∀ tb:List (List Tc),(∀ t∈tb,t.length<=3/\ ∀ c∈t,kz c)->(tb.map (Yp ∘ nq)).sum<=4*tb.length:=λtb=>by
    induction tb with
    | nil=>intro _;simp
    | cons t tb ih =>
     intro h
     have:=ih λu m=>h u (Vl _ m)
     have k:=(h t Ve).1
     rw[U2,adf,UZ]
     have:(Yp ∘ nq) t=t.length+1:=by simp[nq]
     omega
   have:=this p.tb o.t.2;have:=o.t.1;omega
 . intro x m;unfold Pp.ls at m;rcases Vt.mp m with rfl | m
   . refine(Tx.jo (ws:=[U0 "paper",aL p.tb.length]) (n:=40) (Va.mpr ⟨by decide +kernel,Va.mpr ⟨fC nB,λ_ m=>nomatch m⟩⟩)).mono (show 2*41<=656 by decide)
   rcases Vt.mp m with rfl | m
   . refine(Tx.jo (ws:=U0 "order" ::p.od.map aL) (n:=40) (Va.mpr ⟨by decide +kernel,mB o.o.2⟩)).mono ?_;rw[UZ,U3];have:=o.o.1;have:(p.od.length+1)*(40+1)<=5*41:=Xe _ (by omega);omega
   . obtain⟨u,mu,mx⟩:=List.mem_flatten.mp m;obtain⟨t,mt,rfl⟩:=WA.mp mu;rcases Vt.mp mx with rfl | mx
     . exact(by decide +kernel:Tx 656 (U0 "hand"))
     . obtain⟨c,mc,rfl⟩:=WA.mp mx;exact QC ((o.t.2 t mt).2 c mc)
section
variable{pg:Tb}{aNoLines:Nat}(T:cN aNoLines pg)
include T
theorem cY(j:Nat){h:PH}{o:Option Int}(b:oQ o):run pg (j+1) "shown_number" [qC o] h= .ok (.str (sh o)) h:=by
 rw[run_eq T.nM rfl (by rw[T.fD];rfl)];cases o with
 | none=>simp? [cJ,fA,qC,sh]
 | some i =>
  obtain⟨a,c⟩:=b i rfl
  have st:=λg=>eK (h:=g) a c
  simp? [cJ,fA,qC,sh,st]
theorem ju(j:Nat){h:PH}{w:Str}{os:List Int}{v:PV}{g:Option Nat}(hi: ∀ X,iH v (h++X)= .ok ⟨g,os.map PV.int⟩ (h++X))(hf: ∀ X,qw.lC ⟨g,os.map PV.int⟩ (h++X)=true)(hw:Tx 400 w)(l:os.length<=4)(b: ∀ o∈os,oQ (UU o)):run pg (j+2) "line_of" [.str w,v] h= .ok (.str (jn (w::os.map aL))) h:=by
 rw[run_eq T.yK rfl (by rw[T.fD];rfl)];have lc:P3.hU ⟨g,os.map PV.int⟩ (bN 1 (gN 2) bf (ai "shown_number" (a1 (aa 2))) (run pg (j+1)) [UU (.str w),UU v]) (os.map PV.int) [] (h++[.lst [.str w]])= .ok ((os.map aL).map PV.str) (h++[.lst [.str w]]):=by
  refine(cR (α :=Int) (hf _) os [] (f:=λo=>UU (.str (aL o))) (λo mo=>?_) (by simp only[U6];omega)).trans ?_
  . have g: ∀ g,run pg (j+1) "shown_number" [.int o] g= .ok (.str (aL o)) g:=λg=>cY T j (h:=g) (b o mo);simp? [g]
  . rw[VW,WC,WY];rfl
 have hi1:=hi [.lst [.str w]];have ad:aF (.ref h.length) (.ref (h.length+(0+1))) (h++[.lst [.str w],.lst ((os.map aL).map PV.str)])= .ok (.ref (h.length+(0+1+1))) (h++[.lst [.str w],.lst ((os.map aL).map PV.str),.lst ((w::os.map aL).map PV.str)]):=by
  rw[iL (xs:=[.str w]) (ys:=(os.map aL).map PV.str) au (by rw[aG];rfl) (by simp only[U3,UZ,U6];omega),U7,Vd];rfl
 have jo:dX (.str " ") [.ref (h.length+(0+1+1))] (h++[.lst [.str w],.lst ((os.map aL).map PV.str),.lst ((w::os.map aL).map PV.str)])= .ok (.str (jn (w::os.map aL))) _:=nE (ss:=w::os.map aL) (by rw[aG];rfl) (qG (n:=400) (λv mv=>by
  rcases Vt.mp mv with rfl | mv
  . exact hw.2
  . exact Vn (mB b v mv).2 (by decide)) (by
  rw[UZ,U3];have:(os.length+1)*(400+1)<=5*401:=Xe _ (by omega);omega))
 rw[U2 (f:=PV.str)] at jo ad;simp? [iP,pC,du,jz,aJ,hi1,lc,ad,jo];exact a8 rfl
theorem oB(j:Nat){h:PH}{m:Mk}(b:Rx m):run pg (j+2) "shown_mark" [Bw m] h= .ok (.str (C7 m)) h:=by
 rw[run_eq T.qZ rfl (by rw[T.fD];rfl)];rcases m with _ | ⟨i,_ | k⟩
 . have s: ∀ g,run pg (j+1) "shown_number" [.non] g= .ok (.str "-") g:=λg=>cY T j (o:=UX) (λ_ e=>nomatch e);simp? [cS,eL,Bw,C7,Mt,s]
 . have s: ∀ g,run pg (j+1) "shown_number" [.int i] g= .ok (.str (aL i)) g:=λg=>cY T j (o:=UU i) (b i UX rfl).1;simp? [cS,eL,Bw,C7,CU,s]
 . obtain⟨b1,b2⟩:=b i (UU k) rfl;obtain⟨i0,i9⟩:=b1 i rfl;obtain⟨k0,k9⟩:=b2 k rfl;have lc:P3.hU ⟨UX,[.int i,.int k]⟩ (bN 1 (gN 1) bf (eB el (a1 (aa 1))) (run pg (j+1)) [UU (.tup [.int i,.int k])]) [.int i,.int k] [] h= .ok ([aL i,aL k].map PV.str) h:=by
    refine(cR (α :=Int) (g:=PV.int) rfl [i,k] [] (f:=λo=>UU (.str (aL o))) (λo mo=>?_) (show 2+0<=16777216 by decide)).trans rfl;have ob:0<=o/\o<=big:=by
     simp only[Vt,WB,or_false] at mo;rcases mo with rfl | rfl
     . exact⟨i0,i9⟩
     . exact⟨k0,k9⟩
    have st:=λg=>eK (h:=g) ob.1 ob.2;simp? [st]
   have t1:=(fC b1).2;have t2:=(fC b2).2;have jo:dX (.str ".") [.ref h.length] (h++[.lst ([aL i,aL k].map PV.str)])= .ok (.str (jd [aL i,aL k])) _:=nE (ss:=[aL i,aL k]) au (X1 (by show(aL i).length+((aL k).length+0)+2<=1048576;omega) (by decide +kernel));rw[qH,uT] at jo;simp only[U2,VP] at lc jo;simp? [cS,eL,Bw,C7,Av,lc,du,jz,aJ,jo];exact a8 rfl
theorem oz(j:Nat){h:PH}{c:Tc}(o:kz c):run pg (j+3) "touch_line" [c.1.p,aX c.2] h= .ok (.str (mE c)) h:=by
 rw[run_eq T.qo rfl (by rw[T.fD];rfl)];obtain⟨lk,is⟩:=c;obtain⟨ol,il,ib⟩:=o;simp only at ol il ib;have s1:=λg=>cY T (j+1) (h:=g) ol.v;have s2:=λg=>oB T j (h:=g) ol.m;have tw:=ol.tx;have jo:dX (.str " ") [.ref h.length] (h++[.lst (lk.ws.map PV.str)])= .ok (.str (jn lk.ws)) (h++[.lst (lk.ws.map PV.str)]):=nE (ss:=lk.ws) au (qG (n:=81) (λv mv=>(tw v mv).2) (by rw[show lk.ws.length=4 from rfl];decide));have wt:Tx 400 (jn lk.ws):=(Tx.jo tw).mono (by rw[show lk.ws.length=4 from rfl];decide);have lo:run pg (j+2) "line_of" [.str (jn lk.ws),aX is] (h++[.lst (lk.ws.map PV.str)])= .ok (.str (mE (lk,is))) (h++[.lst (lk.ws.map PV.str)]):=by
  refine(ju T j (os:=is) (v:=aX is) (g:=UX) (λX=>qL) (λX=>rfl) wt il ib).trans ?_;unfold mE Lk.ws;rw[HW];rfl
 have e4:lk.ws.map PV.str=[.str lk.k,.str (uH lk.t),.str (sh lk.v),.str (C7 lk.m)]:=rfl;rw[e4] at jo lo;unfold Lk.p;generalize mE (lk,is)=R at lo ⊢;generalize jn lk.ws=Jn at jo lo;generalize aX is=IV at lo ⊢;have th:(if lk.t= "" then U0 "-" else lk.t)=uH lk.t:=rfl;by_cases z:lk.t= ""
 . have z2:uH lk.t= "-" :=by unfold uH;rw[if_pos z]
   have z1:=eq_true z;rw[z2] at jo lo;simp? [di,gH,fj,fT,lP,qO,z1,s1,s2,du,jz,aJ,jo,lo];exact a8 rfl
 . have z2:uH lk.t=lk.t:=by unfold uH;rw[if_neg z]
   rw[z2] at jo lo;simp? [di,gH,fj,fT,lP,qO,z,s1,s2,du,jz,aJ,jo,lo];exact a8 rfl
end
def RM:MS:=(ah (bM (eM az aO (aa 1) (a1 (eS "hand")))) (bM (eM iU aO (aa 1) (ae (fg 2 (Bk (aa 2) (aa 3)) (gT 2 (cA (gN 4) (cA (gN 5) ia))) bf (ai "touch_line" (a2 (aa 4) (aa 5)))) aj))))
theorem su{α :Type}(f g: α ->PV)(l:List α):((l.map f).zip (l.map g)).map (λp:PV × PV=>PV.tup [p.1,p.2])=l.map λa=> .tup [f a,g a]:=by
 rw[List.zip_map',WY];rfl
section
variable{pg:Tb}{aNoLines:Nat}(T:cN aNoLines pg)
include T
theorem IL(j:Nat){h:PH}{n:Nat}{acc:List Str}{t:List Tc}(e:h[n]?=UU (.lst (acc.map PV.str)))(la:acc.length<=1000)(tl:t.length<=3)(to: ∀ c∈t,kz c){e0 e2 e3:Option PV}: ∃ X,
  aN (gT 2 (cA (gN 2) (cA (gN 3) ia))) RM (run pg (j+3)) (.tup [.tup (t.map λc=>c.1.p),.tup (t.map λc=>aX c.2)]) [e0,UU (.ref n),e2,e3] h= .ok (.nx [e0,UU (.ref n),UU (.tup (t.map λc=>c.1.p)),UU (.tup (t.map λc=>aX c.2))]) ((h++X).set n (.lst ((acc++nq t).map PV.str))):=by
 have hl:=iz e;have ap:az (.ref n) [.str "hand"] h= .ok .non (h.set n (.lst ((acc++[U0 "hand"]).map PV.str))):=by
  rw[jD,e,j1 (by rw[U3];omega),Vu];rfl
 obtain⟨H1,e1⟩: ∃ H1,h.set n (.lst ((acc++[U0 "hand"]).map PV.str))=H1:=⟨_,rfl⟩
 rw[e1] at ap;have g1:H1[n]?=UU (.lst ((acc++[U0 "hand"]).map PV.str)):=by rw[<- e1,VL hl]
 have i0:aO (.ref n) h=true:=cH e;have i1:aO (.ref n) H1=true:=cH g1;have lc:P3.hU ⟨UX,t.map λc=> .tup [c.1.p,aX c.2]⟩ (bN 2 (gT 2 (cA (gN 4) (cA (gN 5) ia))) bf (ai "touch_line" (a2 (aa 4) (aa 5))) (run pg (j+3)) [e0,UU (.ref n),UU (.tup (t.map λc=>c.1.p)),UU (.tup (t.map λc=>aX c.2))]) (t.map λc=> .tup [c.1.p,aX c.2]) [] H1= .ok ((t.map mE).map PV.str) H1:=by
  refine(cR (α :=Tc) rfl t [] (f:=λc=>UU (.str (mE c))) (λc mc=>?_) (by simp only[U6];omega)).trans ?_
  . have q:=λk=>oz T j (h:=k) (to c mc);simp? [q]
  . rw[VW,WC,WY];rfl
 have zz:=su (λc:Tc=>c.1.p) (λc:Tc=>aX c.2) t;have ex:iU (.ref n) [.ref H1.length] (H1++[.lst ((t.map mE).map PV.str)])= .ok .non ((H1++[PO.lst ((t.map mE).map PV.str)]).set n (.lst ((acc++nq t).map PV.str))):=by
  unfold iU;simp only[gx g1,au];rw[iu (by simp only[U3,U7,UZ,U6];omega),<- Vu,Vd];rfl
 refine⟨[.lst ((t.map mE).map PV.str)],?_⟩;have hs:(H1++[PO.lst ((t.map mE).map PV.str)]).set n (.lst ((acc++nq t).map PV.str))=(h++[PO.lst ((t.map mE).map PV.str)]).set n (.lst ((acc++nq t).map PV.str)):=by
  rw[<- e1,ZN _ _ (by rw[aa8];exact hl),List.set_set,ZN _ _ hl]
 rw[<- hs];generalize (t.map mE).map PV.str=TL at lc ex ⊢;simp? [RM,du,jz,i0,ap,i1,zz,lc,ex]
theorem Fx(j:Nat){h:PH}{A:PO}{xs0:List PV}{e0:Option PV}: ∀(tb:List (List Tc))(acc:List Str)(G:PH)(e2 e3:Option PV),(∀ t∈tb,t.length<=3/\ ∀ c∈t,kz c)->acc.length+4*tb.length<=1000-> ∃(G':PH)(e2' e3':Option PV),
  aS ⟨UX,xs0⟩ (aN (gT 2 (cA (gN 2) (cA (gN 3) ia))) RM (run pg (j+3))) (tb.map λt=> .tup [.tup (t.map λc=>c.1.p),.tup (t.map λc=>aX c.2)]) [e0,UU (.ref (h.length+1)),e2,e3] (h++A:: .lst (acc.map PV.str)::G)= .ok (.nx [e0,UU (.ref (h.length+1)),e2',e3']) (h++A:: .lst ((acc++(tb.map nq).flatten).map PV.str)::G'):=by
 intro tb
 induction tb with
 | nil=>intro acc G e2 e3 _ _;exact⟨G,e2,e3,by rw[VP,VP,acP,VM];exact fh⟩
 | cons t tb ih =>
  intro acc G e2 e3 o l
  rw[UZ] at l
  obtain⟨t3,tc⟩:=o t Ve
  obtain⟨X,st⟩:=IL T j (h:=h++A:: .lst (acc.map PV.str)::G) (n:=h.length+1) (acc:=acc) (t:=t) (by rw[aG];rfl) (by omega) t3 tc (e0:=e0) (e2:=e2) (e3:=e3)
  have es:((h++A:: .lst (acc.map PV.str)::G)++X).set (h.length+1) (.lst ((acc++nq t).map PV.str))=h++A:: .lst ((acc++nq t).map PV.str)::(G++X):=by
   rw[Vd,Wu _ _ (by omega),show h.length+1 - h.length=1 by omega];rfl
  rw[es] at st
  have lt:(nq t).length=t.length+1:=by simp[nq]
  obtain⟨G2,f2,f3,k⟩:=ih (acc++nq t) (G++X) _ _ (λu m=>o u (Vl _ m)) (by rw[U7];omega)
  refine⟨G2,f2,f3,?_⟩
  rw[U2,bY,st,bE,bX,k,U2,aam,Vd]
theorem ip(j:Nat){h:PH}{p:Pp}(ok:p.Ok): ∃ A G,run pg (j+4) "paper_lines" [p.v] h= .ok (.ref (h.length+1)) (h++A:: .lst (p.ls.map PV.str)::G):=by
 rw[run_eq T.o6 rfl (by rw[T.fD];rfl)];have nB:oQ (UU (p.tb.length:Int)):=λi e=>by cases e;have:=ok.t.1;unfold big;omega
 have t4:=ok.t.1;have l1:=ju T (j+1) (os:=[(p.tb.length:Int)]) (g:=UU h.length) (v:= .ref h.length) (h:=h++[.lst [.int p.tb.length]]) (w:=U0 "paper") (λX=>by rw[zZ,gx (H:=h++[PO.lst [.int p.tb.length]]) au X,AJ];rfl) (λX=>jF (gx au X)) (by decide +kernel) (Nat.le_add_left 1 3) (λo mo=>by rw[Vm.mp mo];exact nB);rw[U2,VP] at l1;have l2: ∀ g,run pg (j+3) "line_of" [.str "order",aX p.od] g= .ok (.str (jn (U0 "order" ::p.od.map aL))) g:=λg=>ju T (j+1) (os:=p.od) (v:=aX p.od) (g:=UX) (λX=>qL) (λX=>rfl) (by decide +kernel) ok.o.1 ok.o.2;obtain⟨a,ea⟩: ∃ a,jn [U0 "paper",aL p.tb.length]=a:=⟨_,rfl⟩
 obtain⟨b,eb⟩: ∃ b,jn (U0 "order" ::p.od.map aL)=b:=⟨_,rfl⟩
 rw[ea] at l1;simp only[eb] at l2;obtain⟨G,f2,f3,lp⟩:=Fx T j (h:=h) (A:= .lst [.int p.tb.length]) (xs0:=p.tb.map λt=> .tup [.tup (t.map λc=>c.1.p),.tup (t.map λc=>aX c.2)]) (e0:=UU p.v) p.tb [a,b] [] UX UX ok.t.2 (by simp only[UZ,U6];omega);have els:p.ls=[a,b]++(p.tb.map nq).flatten:=by unfold Pp.ls;rw[ea,eb];rfl
 rw[<- els] at lp;have zz:=su (λt:List Tc=> .tup (t.map λc=>c.1.p)) (λt:List Tc=> .tup (t.map λc=>aX c.2)) p.tb;refine⟨.lst [.int p.tb.length],G,?_⟩;unfold RM at lp;simp only[U2,VP] at lp;have pv:p.v= .tup [aX p.od,.tup (p.tb.map λt=> .tup (t.map λc=>c.1.p)),.tup (p.tb.map λt=> .tup (t.map λc=>aX c.2))]:=rfl;rw[pv] at lp ⊢;generalize p.ls.map PV.str=L at lp ⊢;generalize aX p.od=OD at l2 lp ⊢;simp? [dM,ja,fj,fT,lP,U3,l1,l2,zz,lp];exact bF rfl
end
theorem P8{i:Int}{x:Str}{h:PH}:fZ (.int i) (.str x) h= .ok (.bl false) h:=by simp[fZ,alike,i7]
theorem Od{i k:Int}{x:Str}{h:PH}(ok:W0 x=true):fZ (.tup [.int i,.int k]) (.str x) h= .ok (.bl false) h:=by
 have d1:dat 6 h (.tup [.int i,.int k])=UU (.tuple [.int i,.int k]):=rfl;have d2:dat 6 h (.str x)=UU (.str x):=rfl;have sc:i7 (.tup [.int i,.int k]) (.str x)=false:=rfl;have c1:(acB [.int i,.int k]).canLay0=true:=by simp[Zq,Zp]
 have c2:(Wt x).canLay0=true:=by rw[Zq];exact ok
 have c3:min (acB [.int i,.int k]).depth (Wt x).depth<=64:=Vn (Zx _ _) (show 0<=64 by decide);unfold fZ alike;rw[sc,d1,d2];simp only[VS,if_false,c1,c2,c3,and_self,if_true];rfl
noncomputable def Ms(L:List (PV × Str)):PV:= .tup (L.map λq=>q.1)
def r9(c:Tc):List (PV × Str):=[(.str c.1.k,c.1.k),(.str c.1.t,uH c.1.t),(qC c.1.v,sh c.1.v),(Bw c.1.m,C7 c.1.m)]++c.2.map λi=>(.int i,aL i)
theorem OI(c:Tc):(r9 c).map (λq=>q.2)=c.1.ws++c.2.map aL:=by unfold r9 Lk.ws;rw[Vu,WY];rfl
theorem Qs(c:Tc):Ms (r9 c)= .tup ([.str c.1.k,.str c.1.t,qC c.1.v,Bw c.1.m]++c.2.map PV.int):=by unfold Ms r9;rw[Vu,WY];rfl
def Rk:MS:=(lK jj (aa 1) (eI 1) (ay aF (ay aF (eX 1 1) (eS " ")) (eB el (a1 (aa 2)))))
def NF:MS:=(ah (aA (ay aF (ay ck (ay ck (eX 0 1) (aa 2)) (aa 3)) (ay ck (ay ck (eX 0 2) (aa 2)) (aa 3))) (gN 4)) (bM (eM az aO (aa 1) (ae (eM dX aJ (eS " ") (ae (fg 1 (iY (aa 4)) (gN 5) bf (ai "_law_shown" (a1 (aa 5)))) aj)) aj))))
def QR:MS:=(ah (bM (eM az aO (aa 1) (a1 (eS "hand")))) (gL (bJ (ae (eB aP (ae (ay ck (eX 0 1) (aa 2)) aj)) aj)) (gN 3) NF))
theorem K6{h:PH}{n:Nat}{x y v:PV}:vI n (.int 1) v h (UU (.lst [x,y]))= .ok () (h.set n (.lst [x,v])):=rfl
section
variable{pg:Tb}{aNoLines:Nat}(T:cN aNoLines pg)
include T
theorem qN(j:Nat){h:PH}{c:Tc}(o:kz c): ∀ q∈r9 c,run pg (j+1) "_law_shown" [q.1] h= .ok (.str q.2) h:=by
 obtain⟨⟨SD,ok2,ok3,ok4⟩,_,ib⟩:=o;have I: ∀ i,oQ (UU i)->run pg (j+1) "_law_shown" [.int i] h= .ok (.str (aL i)) h:=λi b=>by
  obtain⟨i0,i9⟩:=b i rfl;have st:=λg=>eK (h:=g) i0 i9;rw[run_eq T.eQ rfl (by rw[T.fD];rfl)];simp? [bT,cP,P8,CU,Mz,st]
 have N:run pg (j+1) "_law_shown" [.non] h= .ok (.str "-") h:=by
  rw[run_eq T.eQ rfl (by rw[T.fD];rfl)];simp? [bT,cP]
 have S: ∀ s:Str,run pg (j+1) "_law_shown" [.str s] h= .ok (.str (uH s)) h:=λs=>by
  rw[run_eq T.eQ rfl (by rw[T.fD];rfl)];unfold uH;by_cases z:s= ""
  . have z1:=eq_true z;simp? [bT,cP,z1]
  . simp? [bT,cP,z,JM,rG]
 intro q mq;unfold r9 at mq;rcases Vz.mp mq with mq | mq
 . simp only[Vt,WB,or_false] at mq;rcases mq with rfl | rfl | rfl | rfl
   . have:=S c.1.k;unfold uH at this;rw[if_neg (B4 _ SD).2] at this;exact this
   . exact S c.1.t
   . show run pg (j+1) "_law_shown" [qC c.1.v] h= .ok (.str (sh c.1.v)) h;cases e:c.1.v with
     | none=>exact N
     | some i=>rw[e] at ok3;exact I i ok3
   . show run pg (j+1) "_law_shown" [Bw c.1.m] h= .ok (.str (C7 c.1.m)) h;rcases e:c.1.m with _ | ⟨i,_ | k⟩
     . exact N
     . rw[e] at ok4;exact I i (ok4 i UX rfl).1
     . rw[e] at ok4;obtain⟨b1,b2⟩:=ok4 i (UU k) rfl;obtain⟨i0,i9⟩:=b1 i rfl;obtain⟨k0,k9⟩:=b2 k rfl;have s1:=λg=>eK (h:=g) i0 i9;have s2:=λg=>eK (h:=g) k0 k9;have t1:=(fC b1).2;have t2:=(fC b2).2;have l1:(U0 ".").length=1:=by decide +kernel
       have p1: ∀ g,aF (.str (aL i)) (.str ".") g= .ok (.str (aL i++ ".")) g:=λg=>j7 (by omega);have p2: ∀ g,aF (.str (aL i++ ".")) (.str (aL k)) g= .ok (.str (aL i++ "." ++aL k)) g:=λg=>j7 (by rw[dn];omega);have eq:=λg=>Od (i:=i) (k:=k) (x:= "") (h:=g) (by decide +kernel);rw[run_eq T.eQ rfl (by rw[T.fD];rfl)];simp? [bT,cP,Bw,C7,eq,Av,s1,s2,p1,p2]
 . obtain⟨i,mi,rfl⟩:=WA.mp mq;exact I i (ib i mi)
theorem Ko(j:Nat){h:PH}{v0:PV}{a:Str}{xs0:List PV}: ∀(xs:List Int)(b:Str)(e2:Option PV),(∀ i∈xs,oQ (UU i))->b.length+41*xs.length<=5000-> ∃ e2':Option PV,
  aS ⟨UX,xs0⟩ (aN (gN 2) Rk (run pg j)) (xs.map PV.int) [UU v0,UU (.ref h.length),e2,UX,UX] (h++[.lst [.str a,.str b]])= .ok (.nx [UU v0,UU (.ref h.length),e2',UX,UX]) (h++[.lst [.str a,.str ((xs.map aL).foldl (λ(a x:Str)=>a++ " " ++x) b)]]):=by
 intro xs
 induction xs with
 | nil=>intro b e2 _ _;exact⟨e2,fh⟩
 | cons i xs ih =>
  intro b e2 ib l
  have bi:=ib i Ve
  rw[UZ] at l
  obtain⟨i0,i9⟩:=bi i rfl
  have st:=λg=>eK (h:=g) i0 i9
  have t1:=(fC bi).2
  have l1:(U0 " ").length=1:=by decide +kernel
  have p1: ∀ g,aF (.str b) (.str " ") g= .ok (.str (b++ " ")) g:=λg=>j7 (by omega)
  have p2: ∀ g,aF (.str (b++ " ")) (.str (aL i)) g= .ok (.str (b++ " " ++aL i)) g:=λg=>j7 (by rw[dn];omega)
  obtain⟨e2',g⟩:=ih (b++ " " ++aL i) (UU (.int i)) (λq m=>ib q (Vl _ m)) (by rw[dn,dn];omega)
  refine⟨e2',?_⟩
  have s1:aN (gN 2) Rk (run pg j) (.int i) [UU v0,UU (.ref h.length),e2,UX,UX] (h++[.lst [.str a,.str b]])= .ok (.nx [UU v0,UU (.ref h.length),UU (.int i),UX,UX]) (h++[.lst [.str a,.str (b++ " " ++aL i)]]):=by
   simp? [Rk,fT,p1,p2,st,K6]
  rw[U2,bY,s1,bE,bX,g]
  rfl
theorem An(j:Nat){h:PH}{p:Pp}{n i k:Nat}{acc:List Str}{t:List Tc}{c:Tc}(e:h[n]?=UU (.lst (acc.map PV.str)))(la:acc.length<=1000)(et:p.tb[i]?=UU t)(ec:t[k]?=UU c)(o:kz c){e3 e4:Option PV}: ∃ X e4',
  aN (gN 3) NF (run pg (j+1)) (.int k) [UU p.v,UU (.ref n),UU (.int i),e3,e4] h= .ok (.nx [UU p.v,UU (.ref n),UU (.int i),UU (.int k),e4']) ((h++X).set n (.lst ((acc++[mE c]).map PV.str))):=by
 have x1: ∀ g,ck (.tup (p.tb.map λt=> .tup (t.map λc=>c.1.p))) (.int i) g= .ok (.tup (t.map λc=>c.1.p)) g:=λg=>Bm (P3.cw rfl (by rw[VI,et];rfl));have x2: ∀ g,ck (.tup (p.tb.map λt=> .tup (t.map λc=>aX c.2))) (.int i) g= .ok (.tup (t.map λc=>aX c.2)) g:=λg=>Bm (P3.cw rfl (by rw[VI,et];rfl));have x3: ∀ g,ck (.tup (t.map λc=>c.1.p)) (.int k) g= .ok c.1.p g:=λg=>Bm (P3.cw rfl (by rw[VI,ec];rfl));have x4: ∀ g,ck (.tup (t.map λc=>aX c.2)) (.int k) g= .ok (aX c.2) g:=λg=>Bm (P3.cw rfl (by rw[VI,ec];rfl));have c4:=o.2.1;have ad: ∀ g,aF c.1.p (aX c.2) g= .ok (Ms (r9 c)) g:=λg=>by
  rw[Qs];exact lQ (xs:=[.str c.1.k,.str c.1.t,qC c.1.v,Bw c.1.m]) (ys:=c.2.map PV.int) (by simp only[UZ,U6,U3];omega)
 have ll:(r9 c).length<=8:=by unfold r9;rw[U7,U3];simp only[UZ,U6];omega
 have lc:P3.hU ⟨UX,(r9 c).map λq=>q.1⟩ (bN 1 (gN 5) bf (ai "_law_shown" (a1 (aa 5))) (run pg (j+1)) [UU p.v,UU (.ref n),UU (.int i),UU (.int k),UU (Ms (r9 c))]) ((r9 c).map λq=>q.1) [] h= .ok ((c.1.ws++c.2.map aL).map PV.str) h:=by
  refine(cR (α :=PV × Str) rfl (r9 c) [] (f:=λq=>UU (.str q.2)) (λq mq=>?_) (by simp only[U6];omega)).trans ?_
  . have g:=qN T j (h:=h) o q mq;simp? [g]
  . rw[VW,WC,<- OI,WY];rfl
 have jo:dX (.str " ") [.ref h.length] (h++[.lst ((c.1.ws++c.2.map aL).map PV.str)])= .ok (.str (mE c)) (h++[.lst ((c.1.ws++c.2.map aL).map PV.str)]):=nE (ss:=c.1.ws++c.2.map aL) au (qG (n:=81) (λw m=>by
  rcases Vz.mp m with m | m
  . exact(o.1.tx w m).2
  . exact Vn (mB o.2.2 w m).2 (by decide)) (by
  rw[U7,U3,show c.1.ws.length=4 from rfl];have:(4+c.2.length)*(81+1)<=8*82:=Xe _ (by omega);omega))
 have i0:aO (.ref n) h=true:=cH e;refine⟨[.lst ((c.1.ws++c.2.map aL).map PV.str)],UU (Ms (r9 c)),?_⟩;have ap:az (.ref n) [.str (mE c)] (h++[.lst ((c.1.ws++c.2.map aL).map PV.str)])= .ok .non ((h++[PO.lst ((c.1.ws++c.2.map aL).map PV.str)]).set n (.lst ((acc++[mE c]).map PV.str))):=by
  rw[jD,gx e,j1 (by rw[U3];omega),Vu (l₁ :=acc)];rfl
 have itL: ∀ g,iH (Ms (r9 c)) g= .ok ⟨UX,(r9 c).map λq=>q.1⟩ g:=λg=>qL;have pv:p.v= .tup [aX p.od,.tup (p.tb.map λt=> .tup (t.map λc=>c.1.p)),.tup (p.tb.map λt=> .tup (t.map λc=>aX c.2))]:=rfl;generalize (c.1.ws++c.2.map aL).map PV.str=WL at lc jo ap ⊢;generalize (acc++[mE c]).map PV.str=AL at ap ⊢;generalize Ms (r9 c)=LT at ad lc itL ⊢;generalize (r9 c).map (λq=>q.1)=LI at lc itL;generalize (p.tb.map λt=>PV.tup (t.map λc=>c.1.p))=A1 at x1 pv;generalize (p.tb.map λt=>PV.tup (t.map λc=>aX c.2))=A2 at x2 pv;rw[pv] at lc ⊢;simp? [NF,fT,lP,x1,x2,x3,x4,ad,du,jz,aJ,i0,itL,lc,jo,ap]
end
section
variable{pg:Tb}{aNoLines:Nat}(T:cN aNoLines pg)
include T
theorem PM(j:Nat){h:PH}{p:Pp}{i:Nat}{t:List Tc}(et:p.tb[i]?=UU t)(o: ∀ c∈t,kz c){xs0:List PV}: ∀ d k,k+d=t.length-> ∀(acc:List Str)(G:PH)(e3 e4:Option PV),acc.length+d<=1000-> ∃(G':PH)(e3' e4':Option PV),
  aS ⟨UX,xs0⟩ (aN (gN 3) NF (run pg (j+1))) ((Xd k d).map λi:Nat=>PV.int (0+(i:Int))) [UU p.v,UU (.ref h.length),UU (.int i),e3,e4] (h++ .lst (acc.map PV.str)::G)= .ok (.nx [UU p.v,UU (.ref h.length),UU (.int i),e3',e4']) (h++ .lst ((acc++(t.drop k).map mE).map PV.str)::G'):=by
 intro d
 induction d with
 | zero =>
  intro k hk acc G e3 e4 _
  rw[V5 (by omega),VP,VM]
  exact⟨G,e3,e4,fh⟩
 | succ d ih =>
  intro k hk acc G e3 e4 l
  have hl:k < t.length:=by omega
  have ec:t[k]?=UU t[k]:=VG hl
  rw[Wd hl,X0,U2,U2]
  generalize t[k]=c at ec
  have oc:=o c (VU ec)
  obtain⟨X,f4,st⟩:=An T j (h:=h++ .lst (acc.map PV.str)::G) (p:=p) (n:=h.length) (acc:=acc) au (by omega) et ec oc (e3:=e3) (e4:=e4)
  have es:((h++ .lst (acc.map PV.str)::G)++X).set h.length (.lst ((acc++[mE c]).map PV.str))=h++ .lst ((acc++[mE c]).map PV.str)::(G++X):=by
   rw[Vd,Wu _ _ (Vb _),Zr];rfl
  rw[es] at st
  obtain⟨G2,f3,f5,q⟩:=ih (k+1) (by omega) (acc++[mE c]) (G++X) (UU (.int k)) f4 (by rw[U7];simp only[UZ,U6];omega)
  have ci:(0:Int)+(k:Int)=(k:Int):=aa6 _
  refine⟨G2,f3,f5,?_⟩
  rw[bY,ci,st,bE,bX,q,Vd]
  rfl
theorem D5(j:Nat){h:PH}{p:Pp}{i:Nat}{t:List Tc}(et:p.tb[i]?=UU t)(o: ∀ c∈t,kz c)(tl:t.length<=3)(acc:List Str)(la:acc.length<=900)(G:PH){e2 e3 e4:Option PV}: ∃(G':PH)(e3' e4':Option PV),
  aN (gN 2) QR (run pg (j+1)) (.int i) [UU p.v,UU (.ref h.length),e2,e3,e4] (h++ .lst (acc.map PV.str)::G)= .ok (.nx [UU p.v,UU (.ref h.length),UU (.int i),e3',e4']) (h++ .lst ((acc++nq t).map PV.str)::G'):=by
 have x1: ∀ g,ck (.tup (p.tb.map λt=> .tup (t.map λc=>c.1.p))) (.int i) g= .ok (.tup (t.map λc=>c.1.p)) g:=λg=>Bm (P3.cw rfl (by rw[VI,et];rfl));have i0:aO (.ref h.length) (h++ .lst (acc.map PV.str)::G)=true:=cH au;have ap:az (.ref h.length) [.str "hand"] (h++ .lst (acc.map PV.str)::G)= .ok .non (h++ .lst ((acc++[U0 "hand"]).map PV.str)::G):=by
  rw[jD,au,j1 (by rw[U3];omega),Wu _ _ (Vb _),Zr,Vu];rfl
 obtain⟨G',f3,f4,lp⟩:=PM T j (h:=h) et o (xs0:=ao 0 t.length) t.length 0 (YB _) (acc++[U0 "hand"]) G e3 e4 (by rw[U7];simp only[UZ,U6];omega);rw[Zo,<- Yu,Vd] at lp;have lp':aS ⟨UX,ao 0 t.length⟩ (aN (gN 3) NF (run pg (j+1))) (ao 0 t.length) [UU p.v,UU (.ref h.length),UU (.int i),e3,e4] (h++ .lst ((acc++[U0 "hand"]).map PV.str)::G)= .ok (.nx [UU p.v,UU (.ref h.length),UU (.int i),f3,f4]) (h++ .lst ((acc++nq t).map PV.str)::G'):=lp;refine⟨G',f3,f4,?_⟩;have pv:p.v= .tup [aX p.od,.tup (p.tb.map λt=> .tup (t.map λc=>c.1.p)),.tup (p.tb.map λt=> .tup (t.map λc=>aX c.2))]:=rfl;have tn:Yh (t.length:Int)=t.length:=V7 _;generalize (acc++nq t).map PV.str=L2 at lp' ⊢;generalize (acc++[U0 "hand"]).map PV.str=L1 at ap lp';generalize (p.tb.map λt=>PV.tup (t.map λc=>c.1.p))=A1 at x1 pv;generalize (p.tb.map λt=>PV.tup (t.map λc=>aX c.2))=A2 at pv;rw[pv] at lp' ⊢;unfold QR;simp? [du,jz,i0,ap,fT,x1,U3,tn,lp']
theorem Lv(j:Nat){h:PH}{p:Pp}(o:p.Ok){xs0:List PV}: ∀ d i,i+d=p.tb.length-> ∀(acc:List Str)(G:PH)(e2 e3 e4:Option PV),acc.length+4*d<=900-> ∃(G':PH)(e2' e3' e4':Option PV),
  aS ⟨UX,xs0⟩ (aN (gN 2) QR (run pg (j+1))) ((Xd i d).map λi:Nat=>PV.int (0+(i:Int))) [UU p.v,UU (.ref h.length),e2,e3,e4] (h++ .lst (acc.map PV.str)::G)= .ok (.nx [UU p.v,UU (.ref h.length),e2',e3',e4']) (h++ .lst ((acc++((p.tb.drop i).map nq).flatten).map PV.str)::G'):=by
 intro d
 induction d with
 | zero =>
  intro i hi acc G e2 e3 e4 _
  rw[V5 (by omega),VP,acP,VM]
  exact⟨G,e2,e3,e4,fh⟩
 | succ d ih =>
  intro i hi acc G e2 e3 e4 l
  have hl:i < p.tb.length:=by omega
  have et:p.tb[i]?=UU p.tb[i]:=VG hl
  rw[Wd hl,X0,U2,U2,aam]
  generalize p.tb[i]=t at et
  obtain⟨t3,tc⟩:=o.t.2 t (VU et)
  obtain⟨G1,f3,f4,st⟩:=D5 T j (h:=h) et tc t3 acc (by omega) G (e2:=e2) (e3:=e3) (e4:=e4)
  have lt:(nq t).length=t.length+1:=by simp[nq]
  obtain⟨G2,g2,g3,g4,q⟩:=ih (i+1) (by omega) (acc++nq t) G1 (UU (.int i)) f3 f4 (by rw[U7];omega)
  have ci:(0:Int)+(i:Int)=(i:Int):=aa6 _
  refine⟨G2,g2,g3,g4,?_⟩
  rw[bY,ci,st,bE,bX,q,Vd]
theorem jH(j:Nat){h:PH}{p:Pp}(ok:p.Ok): ∃ G,run pg (j+2) "_law_lines" [p.v] h= .ok (.ref h.length) (h++ .lst (p.ls.map PV.str)::G):=by
 rw[run_eq T.qq rfl (by rw[T.fD];rfl)];have nB:oQ (UU (p.tb.length:Int)):=λi e=>by cases e;have:=ok.t.1;unfold big;omega
 have t4:=ok.t.1;have o4:=ok.o.1;obtain⟨n0,n9⟩:=nB _ rfl;have st:=λg=>eK (h:=g) n0 n9;have l6:(U0 "paper ").length=6:=by decide +kernel
 have l5:(U0 "order").length=5:=by decide +kernel
 have tn2:=(fC nB).2;have ad: ∀ g,aF (.str "paper ") (.str (aL p.tb.length)) g= .ok (.str (jn [U0 "paper",aL p.tb.length])) g:=λg=>by
  rw[j7 (by omega),fS,gJ,show U0 "paper" ++U0 " " =U0 "paper " by decide +kernel]
 obtain⟨a,ea⟩: ∃ a,jn [U0 "paper",aL p.tb.length]=a:=⟨_,rfl⟩
 obtain⟨b,eb⟩: ∃ b,jn (U0 "order" ::p.od.map aL)=b:=⟨_,rfl⟩
 rw[ea] at ad;obtain⟨f2,lp1⟩:=Ko T (j+1) (h:=h) (v0:=p.v) (a:=a) (xs0:=p.od.map PV.int) p.od "order" UX ok.o.2 (by omega);rw[<- xi,eb] at lp1;obtain⟨G,g2,g3,g4,lp2⟩:=Lv T j (h:=h) ok (xs0:=ao 0 p.tb.length) p.tb.length 0 (YB _) [a,b] [] f2 UX UX (by simp only[UZ,U6];omega);have els:p.ls=[a,b]++(p.tb.map nq).flatten:=by unfold Pp.ls;rw[ea,eb];rfl
 rw[Zo,<- Yu,<- els,U2,U2,VP] at lp2;have lp2':aS ⟨UX,ao 0 p.tb.length⟩ (aN (gN 2) QR (run pg (j+1))) (ao 0 p.tb.length) [UU p.v,UU (.ref h.length),f2,UX,UX] (h++[.lst [.str a,.str b]])=_:=lp2;refine⟨G,?_⟩;unfold Rk at lp1;unfold QR NF at lp2';have pv:p.v= .tup [.tup (p.od.map PV.int),.tup (p.tb.map λt=> .tup (t.map λc=>c.1.p)),.tup (p.tb.map λt=> .tup (t.map λc=>aX c.2))]:=rfl;have tn:Yh (p.tb.length:Int)=p.tb.length:=V7 _;generalize p.ls.map PV.str=L at lp2' ⊢;have ln: ∀ g,aP [.tup (p.tb.map λt=> .tup (t.map λc=>c.1.p))] g= .ok (.int p.tb.length) g:=λg=>by rw[len_T,U3]
 generalize (p.tb.map λt=>PV.tup (t.map λc=>c.1.p))=A1 at pv ln;generalize (p.tb.map λt=>PV.tup (t.map λc=>aX c.2))=A2 at pv;rw[pv] at lp1 lp2' ⊢;generalize p.od.map PV.int=OD at lp1 lp2' ⊢;generalize p.tb.length=N at *;simp? [eU,jT,fj,fT,ln,st,ad,lp1,tn,lp2'];exact bF rfl
end
noncomputable def yz(ns:List Int):PO:= .jA (ns.map PV.int)
abbrev Fd:=Int × Int × Int
noncomputable def Dd(t:Fd):PO:= .lst [.ref 5,.int t.1,.int t.2.1,.int t.2.2]
def hp(ns:List Int)(x1 x2 x3 x4:PO)(cs:List Int)(t:Fd)(g:PH):PH:=yz ns::x1::x2::x3::x4:: .lst (cs.map PV.int)::Dd t::g
theorem MU{t:Fd}{n:Nat}:(Dd t).iF (n+6)=true:=by simp[Dd,PO.iF,PV.iG,PV.iF]
theorem vW{xs:List Int}{v:Int}(h0:0<=v)(h1:v < xs.length): ∃ x∈xs,gf (xs.map PV.int) v=UU (.int x):=by
 obtain⟨n,en⟩:=WS h0;subst en;have hn:n < xs.length:=by omega
 exact⟨xs[n],acQ hn,P3.cw rfl (by rw[VI,VG hn];rfl)⟩
theorem ve{ss:List Str}{v:Int}(h0:0<=v)(h1:v < ss.length): ∃ x∈ss,gf (ss.map PV.str) v=UU (.str x):=by
 obtain⟨n,en⟩:=WS h0;subst en;have hn:n < ss.length:=by omega
 exact⟨ss[n],acQ hn,P3.cw rfl (by rw[VI,VG hn];rfl)⟩
section
variable{h:PH}{n:Nat}{x y z w v:PV}
theorem BM:vI n (.int 1) v h (UU (.lst [x,y,z,w]))= .ok () (h.set n (.lst [x,v,z,w])):=rfl
theorem vO:vI n (.int 2) v h (UU (.lst [x,y,z,w]))= .ok () (h.set n (.lst [x,y,v,w])):=rfl
theorem vF:vI n (.int 3) v h (UU (.lst [x,y,z,w]))= .ok () (h.set n (.lst [x,y,z,v])):=rfl
end
section
variable{ns cs:List Int}{x1 x2 x3 x4:PO}{t t':Fd}{g g':PH}{v:PV}
theorem DH(hv:v.flat=true):P3.settle (hp ns x1 x2 x3 x4 cs t g) v (hp ns x1 x2 x3 x4 cs t' (g++g'))= .ok v (hp ns x1 x2 x3 x4 cs t' g) :=
 uP (h:=hp ns x1 x2 x3 x4 cs t g) (g:=g') (i:=6) (o:=Dd t) (o':=Dd t') hv rfl rfl (by rw[show(hp ns x1 x2 x3 x4 cs t g).length=(g.length+1)+6 from rfl];exact MU)
theorem t8:P3.settle (hp ns x1 x2 x3 x4 cs t g) v (hp ns x1 x2 x3 x4 cs t' g)= .ok v (hp ns x1 x2 x3 x4 cs t' g):=tH (h:=hp ns x1 x2 x3 x4 cs t g) (i:=6) (o:=Dd t) (o':=Dd t')
end
section
variable{pg:Tb}{aNoLines:Nat}(T:cN aNoLines pg)
include T
theorem N1(j:Nat){ns cs:List Int}(hc:cs≠[]){x1 x2 x3 x4:PO}(t:Fd)(m:Int)(m0:0 < m)(m9:m<=1000000): ∃(v:Int)(t':Fd),0<=v/\v < m/\ ∀ g,run pg (j+1) "_law_take" [.ref 6,.int m] (hp ns x1 x2 x3 x4 cs t g)= .ok (.int v) (hp ns x1 x2 x3 x4 cs t' g):=by
 obtain⟨a,b,c⟩:=t;have t18:(10:Int) ^ Yh 18=1000000000000000000:=by decide +kernel
 have t18b:(10:Int) ^ 18=1000000000000000000:=by decide +kernel
 have mm:0 < m/\m < 18446744073709551616:=by omega
 have b0: ∀{t t':Fd}{g:PH}{v:PV},P3.settle (hp ns x1 x2 x3 x4 cs t g) v (hp ns x1 x2 x3 x4 cs t' g)= .ok v (hp ns x1 x2 x3 x4 cs t' g):=t8;have m1: ∀(i:Int) h,gY (.int i) (.int 48271) h= .ok (.int (i*48271)) h:=λi h=>xE (by omega);have m2: ∀(i:Int) h,gY (.int i) (.int 69621) h= .ok (.int (i*69621)) h:=λi h=>xE (by omega);by_cases z:b=0
 . subst z;have cl:0 < (cs.length:Int):=by have:=Xl.mpr hc;omega
   obtain⟨x,_,ex⟩:=vW (xs:=cs) (v:=a % (cs.length:Int)) (YV _ (by omega)) (Yc _ cl);by_cases y:x < 1000000000000000000
   . let u:Int:=(x % 2147483629+1009*(c+1))*48271 % 2147483647
     let w:Int:=(u / 11+31*(c+1))*69621 % 2147483587
     refine⟨w / 7 % m,(a+1,0,c+1),YV _ (by omega),Yc _ m0,λg=>?_⟩;rw[run_eq T.iq rfl (by rw[T.fD];rfl)];simp only[hp,Dd] at b0 ⊢;simp? (disch:=first | omega | exact mm) only[dc,fR,U3,ex,y,t18,t18b,m1,m2,fj,fT,lP,qO,BM,vO,vF];exact b0 (t:=(a,0,c)) (t':=(a+1,0,c+1))
   . refine⟨x % m,(a+1,x / m,c+1),YV _ (by omega),Yc _ m0,λg=>?_⟩;rw[run_eq T.iq rfl (by rw[T.fD];rfl)];simp only[hp,Dd] at b0 ⊢;simp? (disch:=first | omega | exact mm) only[dc,fR,U3,ex,y,t18,t18b,fj,fT,lP,qO,BM,vO,vF];exact b0 (t:=(a,0,c)) (t':=(a+1,x / m,c+1))
 . refine⟨b % m,(a,b / m,c+1),YV _ (by omega),Yc _ m0,λg=>?_⟩;rw[run_eq T.iq rfl (by rw[T.fD];rfl)];simp only[hp,Dd] at b0 ⊢;simp? (disch:=first | omega | exact mm) only[dc,fR,z,fj,fT,lP,qO,vO,vF];exact b0 (t:=(a,b,c)) (t':=(a,b / m,c+1))
theorem GU(j:Nat)(ns:List Int): ∃ x1 x2 x3 x4 cs,cs≠[]/\run pg (j+1) "_law_feed" [.ref 0,.int 0] [yz ns]= .ok (.ref 6) (hp ns x1 x2 x3 x4 cs (0,0,0) []):=by
 have cu:dN (ns.map PV.int) UX (UU 63)=(ns.take 63).map PV.int:=by rw[P3.qR (by decide),abX];rfl
 rw[run_eq T.sO rfl (by rw[T.fD];rfl)];by_cases z:ns=[]
 . subst z;refine⟨.lst [],.lst [],.lst [.int 0],.lst [.int 0],[0],by simp,?_⟩;rfl
 . have ln: ∀ g,aP [.ref 0] (yz ns::g)= .ok (.int ns.length) (yz ns::g):=λg=>by rw[Oh (xs:=ns.map PV.int) rfl,U3]
   have z1: ¬ (ns.length:Int)=0:=by have:=Xl.mpr z;omega
   have iB: ∀ g,dh [.bl false] g= .ok (.int 0) g:=λg=>rfl;have mu: ∀ a b:PO,gY (.ref (0+1+1+1)) (.int 0) [yz ns,a,b,.lst [.int 0]]= .ok (.ref 4) [yz ns,a,b,.lst [.int 0],.lst []]:=λa b=>rfl;have ad: ∀(xs:List PV)(a b:PO),xs.length<=1000->aF (.ref (0+1+1)) (.ref 4) [yz ns,a,.lst xs,b,.lst []]= .ok (.ref 5) [yz ns,a,.lst xs,b,.lst [],.lst (xs++[])]:=λxs a b l=>iL rfl rfl (by simp;omega);refine⟨.lst ((ns.take 63).map PV.int),.lst ((ns.take 63).map PV.int),.lst [.int 0],.lst [],ns.take 63,by simpa using z,?_⟩;have l63:((ns.take 63).map PV.int).length<=1000:=by rw[U3,We];omega
   have ad':=λa b=>ad _ a b l63;rw[VM] at ad';simp? [fO,lu,yz,cu];simp only[yz] at ln mu ad';simp? [U3,ln,z1,iB,mu,ad'];exact bF rfl
end
abbrev Bs:=List Int × (PO × PO × PO × PO) × List Int
def hq(B:Bs)(t:Fd)(J:PH):PH:=hp B.1 B.2.1.1 B.2.1.2.1 B.2.1.2.2.1 B.2.1.2.2.2 B.2.2 t J
section
variable{B:Bs}{t t':Fd}{J X:PH}{k:Nat}{o:PO}{v:PV}
theorem ql:hq B t J++X=hq B t (J++X):=rfl
theorem pF:(hq B t J).length=J.length+7:=rfl
theorem hR:(hq B t J)[k+7]?=J[k]?:=rfl
theorem Rq:(hq B t J).set (k+7) o=hq B t (J.set k o):=rfl
theorem lY(hv:v.flat=true):P3.settle (hq B t J) v (hq B t' (J++X))= .ok v (hq B t' J):=DH hv
theorem A4:P3.settle (hq B t J) v (hq B t' J)= .ok v (hq B t' J):=t8
end
theorem vL{α :Type}{f: α ->PV}{P: α ->Prop}: ∀{vs:List PV},(∀ v∈vs,∃ a,v=f a/\P a)-> ∃ as:List α,vs=as.map f/\ ∀ a∈as,P a
 | [],_=>⟨[],rfl,λ_ m=>nomatch m⟩
 | v::vs,h=>by
  obtain⟨a,rfl,p⟩:=h v Ve;obtain⟨as,rfl,q⟩:=vL (vs:=vs) λw m=>h w (Vl _ m);exact⟨a::as,rfl,Va.mpr ⟨p,q⟩⟩
theorem R7{B:Bs}{J:PH}{it:qw}(fi: ∀ t,it.lC (hq B t J)=true){Q:PV->Prop}{st:PV->PH->RV (Option PV)}: ∀(xs ys:List PV)(t:Fd),(∀ x∈xs,∀ t,∃ v t',Q v/\st x (hq B t J)= .ok (UU v) (hq B t' J))->xs.length+ys.length<=16777216-> ∃ vs t',vs.length=xs.length/\(∀ v∈vs,Q v)/\P3.hU it st xs ys (hq B t J)= .ok (ys++vs) (hq B t' J)
 | [],ys,t,_,_=>⟨[],t,rfl,λ_ m=>(nomatch m),by rw[P3.hU,if_pos (fi t),VM]⟩
 | x::xs,ys,t,hs,hl=>by
  have hl':ys.length < Vj:=by rw[UZ] at hl;show ys.length < 16777216;omega
  obtain⟨v,t1,q,e⟩:=hs x Ve t;obtain⟨vs,t2,l2,q2,e2⟩:=R7 fi xs (ys++[v]) t1 (λy m=>hs y (Vl _ m)) (by rw[UZ] at hl;simp;omega);refine⟨v::vs,t2,by rw[UZ,UZ,l2],Va.mpr ⟨q,q2⟩,?_⟩;rw[P3.hU,if_pos ⟨fi t,hl'⟩,e,iJ];exact e2.trans (by rw[Vd];rfl)
def S4(v:PV):Prop:= ∃ i:Int,v= .int i/\oQ (UU i)
section
variable{pg:Tb}{aNoLines:Nat}(T:cN aNoLines pg)
include T
theorem gC(j:Nat){B:Bs}(hc:B.2.2≠[])(t:Fd)(m:Int)(m0:0 < m)(m9:m<=1000000): ∃(v:Int)(t':Fd),0<=v/\v < m/\ ∀ J,run pg (j+1) "_law_take" [.ref 6,.int m] (hq B t J)= .ok (.int v) (hq B t' J):=N1 T j hc t m m0 m9
theorem iK(j:Nat){B:Bs}(hc:B.2.2≠[])(t:Fd): ∃(v:Int)(t':Fd),oQ (UU v)/\ ∀ J,run pg (j+2) "_law_number" [.ref 6] (hq B t J)= .ok (.int v) (hq B t' J):=by
 obtain⟨w,t1,w0,w9,e1⟩:=gC T j hc t 12 (by decide) (by decide);have t40:(10:Int) ^ Yh 40=10000000000000000000000000000000000000000:=by decide +kernel
 have t40b:(10:Int) ^ 40=10000000000000000000000000000000000000000:=by decide +kernel
 by_cases z:w=0
 . obtain⟨x,t2,x0,x9,e2⟩:=gC T j hc t1 1000 (by decide) (by decide);refine⟨10000000000000000000000000000000000000000 - 1 - x,t2,λi e=>by cases e;unfold big;omega,λJ=>?_⟩;rw[run_eq T.i6 rfl (by rw[T.fD];rfl)];subst z;simp? [cX,fV,e1,e2,t40,t40b];exact A4
 . obtain⟨i,mi,ei⟩:=vW (xs:=[0,1,2,9,10,60,101]) (v:=w % 7) (YV _ (by decide)) (Yc _ (by decide));have ib:0<=i/\i<=101:=by
    simp only[Vt,WB,or_false] at mi;omega
   refine⟨i,t1,λk e=>by cases e;unfold big;omega,λJ=>?_⟩;rw[run_eq T.i6 rfl (by rw[T.fD];rfl)];simp only[U2,VP] at ei;simp? [cX,fV,e1,z,ql,pF,hR,ei];exact lY rfl
theorem xH(j:Nat){B:Bs}(hc:B.2.2≠[]){J:PH}{E:aM}(hE:E.length=9)(h0:E[0]?=UU (UU (.ref 6)))(n:Nat)(n9:n<=1000)(t:Fd)(xs0:List PV): ∃(is:List Int)(t':Fd),is.length=n/\(∀ i∈is,oQ (UU i)) /\
  P3.hU ⟨UX,xs0⟩ (bN 1 (gN 9) bf (ai "_law_number" (a1 (aa 0))) (run pg (j+2)) E) (ao 0 n) [] (hq B t J)= .ok (is.map PV.int) (hq B t' J):=by
 obtain⟨vs,t',l,q,e⟩:=R7 (B:=B) (J:=J) (it:=⟨UX,xs0⟩) (λ_=>rfl) (Q:=S4) (st:=bN 1 (gN 9) bf (ai "_law_number" (a1 (aa 0))) (run pg (j+2)) E) (ao 0 n) [] t (λx _ t=>by
  obtain⟨v,t1,b,e1⟩:=iK T j hc t;refine⟨.int v,t1,⟨v,rfl,b⟩,?_⟩;have gn: ∀ g,gN 9 x (E++[UX]) g= .ok (E++[UU x]) g:=λg=>by rw[jc];simp[<- hE]
  have vi:(E++[UU x])[0]?=UU (UU (.ref 6)):=by rw[Vx (by omega)];exact h0
  simp? [gn,vi,e1]) (by simp[P3.ao];omega)
 obtain⟨is,rfl,b⟩:=vL (f:=PV.int) (P:=λi=>oQ (UU i)) q;exact⟨is,t',by rw[U3] at l;rw[l];simp[P3.ao],b,e⟩
end
theorem Hx(l:Lk):l.p.flat=true:=by
 obtain⟨k,t,v,m⟩:=l;rcases v with _ | v<;>rcases m with _ | ⟨i,_ | j⟩<;>rfl
section
variable{pg:Tb}{aNoLines:Nat}(T:cN aNoLines pg)
include T
theorem EV(j:Nat){B:Bs}(hc:B.2.2≠[])(t:Fd): ∃(l:Lk)(t':Fd),l.Ok/\ ∀ J,run pg (j+3) "_law_look" [.ref 6] (hq B t J)= .ok l.p (hq B t' J):=by
 obtain⟨w1,t1,a0,a9,h1⟩:=gC T (j+1) hc t 6 (by decide) (by decide);obtain⟨v,t2,bv,h2⟩:=iK T j hc t1;obtain⟨w3,t3,c0,c9,h3⟩:=gC T (j+1) hc t2 3 (by decide) (by decide);obtain⟨p,t4,bp,h4⟩:=iK T j hc t3;obtain⟨q,t5,bq,h5⟩:=iK T j hc t4;obtain⟨w6,t6,d0,d9,h6⟩:=gC T (j+1) hc t5 3 (by decide) (by decide);obtain⟨w7,t7,f0,f9,h7⟩:=gC T (j+1) hc t6 10 (by decide) (by decide);obtain⟨x,mx,ex⟩:=ve (ss:=T6) (v:=w1) a0 a9;obtain⟨k,mk,ek⟩:=ve (ss:=WK) (v:=w7) f0 f9;obtain⟨n,vo,iv,av,bo⟩: ∃(n:Int)(vo:Option Int),(∀ g,dh [.bl (decide (w3=0))] g= .ok (.int n) g)/\gf [PV.int v,.non] n=UU (qC vo)/\oQ vo:=by
  by_cases z:w3=0
  . exact⟨1,UX,λg=>by rw[decide_eq_true z];rfl,rfl,λ_ e=>nomatch e⟩
  . exact⟨0,UU v,λg=>by rw[decide_eq_false z];rfl,rfl,bv⟩
 obtain⟨m,am,bm⟩: ∃ m:Mk,gf [PV.non,.int p,.tup [.int p,.int q]] w6=UU (Bw m)/\Rx m:=by
  have:w6=0\/w6=1\/w6=2:=by omega
  rcases this with rfl | rfl | rfl
  . exact⟨UX,rfl,λ_ _ e=>nomatch e⟩
  . exact⟨UU (p,UX),rfl,λi o e=>by cases e;exact⟨bp,λ_ e=>nomatch e⟩⟩
  . exact⟨UU (p,UU q),rfl,λi o e=>by cases e;exact⟨bp,bq⟩⟩
 refine⟨⟨k,x,vo,m⟩,t7,⟨mk,mx,bo,bm⟩,λJ=>?_⟩;rw[run_eq T.ue rfl (by rw[T.fD];rfl)];have fl:=Hx ⟨k,x,vo,m⟩;simp only[Lk.p] at fl ⊢;have kn:=λg=>mJ T (j+1) g;generalize WK.map PV.str=KL at ek kn;simp only[T6,U2,VP] at ex;simp? [fL,kN,h1,h2,h3,h4,h5,h6,h7,ql,pF,hR,ex,iv,av,am,kn,ek];exact lY fl
end
def PX:MS:=(bM (eM az aO (aa 6) (ae (eB aH (ae (fg 1 (bJ (a1 (aa 1))) (gN 9) bf (ai "_law_number" (a1 (aa 0)))) aj)) aj)))
def Qe:MS:=(ah (aA (ai "_law_take" (a2 (aa 0) (eI 4))) (gN 5)) (ah (bM (eM az aO (aa 2) (ae (eB aH (ae (fg 1 (bJ (a1 (aa 5))) (gN 9) bf (ai "_law_look" (a1 (aa 0)))) aj)) aj))) (ah (aA (bh aj) (gN 6)) (ah (gL (bJ (a1 (aa 5))) (gN 7) PX) (bM (eM az aO (aa 3) (ae (eB aH (a1 (aa 6))) aj)))))))
theorem HZ{α β γ :Type}{f: α -> γ}: ∀{xs:List α}{ys:List β},xs.length=ys.length->(xs.zip ys).map (λc=>f c.1)=xs.map f
 | [],[],_=>rfl
 | x::xs,y::ys,h=>by rw[aae,U2,U2,HZ (by simpa using h)]
theorem Hg{α β γ :Type}{f: β -> γ}: ∀{xs:List α}{ys:List β},xs.length=ys.length->(xs.zip ys).map (λc=>f c.2)=ys.map f
 | [],[],_=>rfl
 | x::xs,y::ys,h=>by rw[aae,U2,U2,Hg (by simpa using h)]
def UH(v:PV):Prop:= ∃ l:Lk,v=l.p/\l.Ok
section
variable{pg:Tb}{aNoLines:Nat}(T:cN aNoLines pg)
include T
theorem sC(j:Nat){B:Bs}(hc:B.2.2≠[]){J:PH}{n:Nat}(n4:n<=4){e2 e3 e4 e5 e8:Option PV}{xs0:List PV}: ∀(xs acc:List PV)(t:Fd)(G:PH)(e7:Option PV),acc.length+xs.length<=1000-> ∃(cs:List (List Int))(t':Fd)(G':PH)(e7':Option PV),cs.length=xs.length/\(∀ c∈cs,c.length<=4/\ ∀ i∈c,oQ (UU i)) /\
  aS ⟨UX,xs0⟩ (aN (gN 7) PX (run pg (j+2))) xs [UU (.ref 6),UU (.int n),e2,e3,e4,e5,UU (.ref (J.length+7)),e7,e8] (hq B t (J++ .lst acc::G))= .ok (.nx [UU (.ref 6),UU (.int n),e2,e3,e4,e5,UU (.ref (J.length+7)),e7',e8]) (hq B t' (J++ .lst (acc++cs.map aX)::G')):=by
 intro xs
 induction xs with
 | nil=>intro acc t G e7 _;exact⟨[],t,G,e7,rfl,λ_ m=>(nomatch m),by rw[VP,VM];exact fh⟩
 | cons x xs ih =>
  intro acc t G e7 l
  rw[UZ] at l
  obtain⟨is,t1,il,ib,h1⟩:=xH T j hc (J:=J++ .lst acc::G) (E:=[UU (.ref 6),UU (.int n),e2,e3,e4,e5,UU (.ref (J.length+7)),UU x,e8]) rfl rfl n (by omega) t (ao 0 n)
  have tp:aH [.ref ((J++ .lst acc::G).length+7)] (hq B t1 (J++ .lst acc::G++[.lst (is.map PV.int)]))= .ok (aX is) (hq B t1 (J++ .lst acc::G++[.lst (is.map PV.int)])):=cO (by rw[hR];exact au)
  have il2:aO (.ref (J.length+7)) (hq B t (J++ .lst acc::G))=true:=cH (by rw[hR];exact au)
  have ap:az (.ref (J.length+7)) [aX is] (hq B t1 (J++ .lst acc::G++[.lst (is.map PV.int)]))= .ok .non (hq B t1 (J++ .lst (acc++[aX is])::(G++[.lst (is.map PV.int)]))):=by
   rw[jD,hR,gx (H:=J++ .lst acc::G) au,j1 (by omega),Rq,Vd,Wu _ _ (Vb _),Zr];rfl
  have tn:Yh (n:Int)=n:=V7 _
  have st:aN (gN 7) PX (run pg (j+2)) x [UU (.ref 6),UU (.int n),e2,e3,e4,e5,UU (.ref (J.length+7)),e7,e8] (hq B t (J++ .lst acc::G))= .ok (.nx [UU (.ref 6),UU (.int n),e2,e3,e4,e5,UU (.ref (J.length+7)),UU x,e8]) (hq B t1 (J++ .lst (acc++[aX is])::(G++[.lst (is.map PV.int)]))):=by
   generalize J++ .lst acc::G=J1 at h1 tp il2 ap ⊢;generalize aX is=IV at tp ap ⊢;generalize J++ .lst (acc++[IV])::(G++[.lst (is.map PV.int)])=J2 at ap ⊢;simp? [PX,du,jz,il2,tn,h1,ql,pF,tp,ap]
  obtain⟨cs,t2,G2,f7,cl,cb,k⟩:=ih (acc++[aX is]) t1 (G++[.lst (is.map PV.int)]) (UU x) (by rw[U7];simp only[UZ,U6];omega)
  refine⟨is::cs,t2,G2,f7,by rw[UZ,UZ,cl],Va.mpr ⟨⟨by omega,ib⟩,cb⟩,?_⟩
  rw[bY,st,bE,bX,k,U2,Vd]
  rfl
theorem CI(j:Nat){B:Bs}(hc:B.2.2≠[]){J:PH}{E:aM}(hE:E.length=9)(h0:E[0]?=UU (UU (.ref 6)))(n:Nat)(n9:n<=1000)(t:Fd)(xs0:List PV): ∃(ls:List Lk)(t':Fd),ls.length=n/\(∀ l∈ls,l.Ok) /\
  P3.hU ⟨UX,xs0⟩ (bN 1 (gN 9) bf (ai "_law_look" (a1 (aa 0))) (run pg (j+3)) E) (ao 0 n) [] (hq B t J)= .ok (ls.map Lk.p) (hq B t' J):=by
 obtain⟨vs,t',l,q,e⟩:=R7 (B:=B) (J:=J) (it:=⟨UX,xs0⟩) (λ_=>rfl) (Q:=UH) (st:=bN 1 (gN 9) bf (ai "_law_look" (a1 (aa 0))) (run pg (j+3)) E) (ao 0 n) [] t (λx _ t=>by
  obtain⟨v,t1,b,e1⟩:=EV T j hc t;refine⟨v.p,t1,⟨v,rfl,b⟩,?_⟩;have gn: ∀ g,gN 9 x (E++[UX]) g= .ok (E++[UU x]) g:=λg=>by rw[jc];simp[<- hE]
  have vi:(E++[UU x])[0]?=UU (UU (.ref 6)):=by rw[Vx (by omega)];exact h0
  simp? [gn,vi,e1]) (by simp[P3.ao];omega)
 obtain⟨ls,rfl,b⟩:=vL (f:=Lk.p) (P:=Lk.Ok) q;exact⟨ls,t',by rw[U3] at l;rw[l];simp[P3.ao],b,e⟩
theorem Gq(j:Nat){B:Bs}(hc:B.2.2≠[]){J:PH}{n:Nat}(n4:n<=4)(A C:List PV)(la:A.length<=900)(lb:C.length<=900)(t:Fd)(G:PH)(x:PV)(e4 e5 e6 e7:Option PV): ∃(tt:List Tc)(t':Fd)(G':PH)(e5' e6' e7':Option PV),tt.length<=3/\(∀ c∈tt,kz c) /\
  aN (gN 4) Qe (run pg (j+3)) x [UU (.ref 6),UU (.int n),UU (.ref (J.length+7)),UU (.ref (J.length+1+7)),e4,e5,e6,e7,UX] (hq B t (J++ .lst A:: .lst C::G))= .ok (.nx [UU (.ref 6),UU (.int n),UU (.ref (J.length+7)),UU (.ref (J.length+1+7)),UU x,e5',e6',e7',UX]) (hq B t' (J++ .lst (A++[.tup (tt.map λc=>c.1.p)]):: .lst (C++[.tup (tt.map λc=>aX c.2)])::G')):=by
 obtain⟨w,t1,w0,w9,h1⟩:=gC T (j+2) hc t 4 (by decide) (by decide);obtain⟨m,rfl⟩:=WS w0;have tm:Yh (m:Int)=m:=V7 _;obtain⟨ls,t2,ll,lo,h2⟩:=CI T j hc (J:=J++ .lst A:: .lst C::G) (E:=[UU (.ref 6),UU (.int n),UU (.ref (J.length+7)),UU (.ref (J.length+1+7)),UU x,UU (.int m),e6,e7,UX]) rfl rfl m (by omega) t1 (ao 0 m);have tp:aH [.ref ((J++ .lst A:: .lst C::G).length+7)] (hq B t2 (J++ .lst A:: .lst C::G++[.lst (ls.map Lk.p)]))= .ok (.tup (ls.map Lk.p)) (hq B t2 (J++ .lst A:: .lst C::G++[.lst (ls.map Lk.p)])):=cO (by rw[hR];exact au);have il2: ∀ t,aO (.ref (J.length+7)) (hq B t (J++ .lst A:: .lst C::G))=true:=λt=>cH (by rw[hR];exact au);have ap:az (.ref (J.length+7)) [.tup (ls.map Lk.p)] (hq B t2 (J++ .lst A:: .lst C::G++[.lst (ls.map Lk.p)]))= .ok .non (hq B t2 (J++ .lst (A++[.tup (ls.map Lk.p)]):: .lst C::(G++[.lst (ls.map Lk.p)]))):=by
  rw[jD,hR,gx (H:=J++ .lst A:: .lst C::G) au,j1 (by omega),Rq,Vd,Wu _ _ (Vb _),Zr];rfl
 obtain⟨J2,e2⟩: ∃ J2,J++ .lst (A++[.tup (ls.map Lk.p)]):: .lst C::(G++[.lst (ls.map Lk.p)])=J2:=⟨_,rfl⟩
 obtain⟨cs,t3,G3,f7,cl,cb,h3⟩:=sC T (j+1) hc (J:=J2) (n:=n) n4 (e2:=UU (.ref (J.length+7))) (e3:=UU (.ref (J.length+1+7))) (e4:=UU x) (e5:=UU (.int m)) (e8:=UX) (xs0:=ao 0 m) (ao 0 m) [] t2 [] e7 (by simp[P3.ao];omega);rw[VW] at h3;have cl':cs.length=m:=by rw[cl];simp[P3.ao]
 have tp2:aH [.ref (J2.length+7)] (hq B t3 (J2++ .lst (cs.map aX)::G3))= .ok (.tup (cs.map aX)) (hq B t3 (J2++ .lst (cs.map aX)::G3)):=cO (by rw[hR];exact au);have il3:aO (.ref (J.length+1+7)) (hq B t3 (J2++ .lst (cs.map aX)::G3))=true:=cH (xs:=C) (by rw[hR];exact gx (by rw[<- e2,aG];rfl) _);have ap2:az (.ref (J.length+1+7)) [.tup (cs.map aX)] (hq B t3 (J2++ .lst (cs.map aX)::G3))= .ok .non (hq B t3 (J++ .lst (A++[.tup (ls.map Lk.p)]):: .lst (C++[.tup (cs.map aX)])::(G++[.lst (ls.map Lk.p)]++ .lst (cs.map aX)::G3))):=by
  rw[jD,hR,gx (H:=J2) (o:= .lst C) (by rw[<- e2,aG];rfl),j1 (by omega),Rq,<- e2,Vd,Wu _ _ (by omega),show J.length+1 - J.length=1 by omega];rfl
 rw[e2] at ap;refine⟨ls.zip cs,t3,G++[.lst (ls.map Lk.p)]++ .lst (cs.map aX)::G3,UU (.int m),UU (.ref (J2.length+7)),f7,?_,?_,?_⟩
 . rw[List.length_zip];omega
 . intro c mc;obtain⟨m1,m2⟩:=YS (show(c.1,c.2)∈ls.zip cs from mc);exact⟨lo _ m1,cb _ m2⟩
 . rw[HZ (f:=Lk.p) (by omega),Hg (f:=aX) (by omega)];generalize hL:PV.tup (ls.map Lk.p)=TL at tp ap ap2 ⊢;generalize hC:PV.tup (cs.map aX)=TC at tp2 ap2 ⊢;generalize J++ .lst (A++[TL]):: .lst (C++[TC])::(G++[.lst (ls.map Lk.p)]++ .lst (cs.map aX)::G3)=J9 at ap2 ⊢;generalize J++ .lst A:: .lst C::G=J1 at h2 tp il2 ap ⊢;generalize J2++ .lst (cs.map aX)::G3=J3 at h3 tp2 il3 ap2;simp? [Qe,du,jz,h1,il2,tm,h2,ql,pF,tp,ap,h3,il3,tp2,ap2]
theorem vv(j:Nat){B:Bs}(hc:B.2.2≠[]){J:PH}{n:Nat}(n4:n<=4){xs0:List PV}: ∀(xs:List PV)(tb:List (List Tc))(t:Fd)(G:PH)(e4 e5 e6 e7:Option PV),tb.length+xs.length<=900->(∀ t∈tb,t.length<=3/\ ∀ c∈t,kz c)-> ∃(tb':List (List Tc))(t':Fd)(G':PH)(e4' e5' e6' e7':Option PV),tb'.length=tb.length+xs.length/\(∀ t∈tb',t.length<=3/\ ∀ c∈t,kz c) /\
  aS ⟨UX,xs0⟩ (aN (gN 4) Qe (run pg (j+3))) xs [UU (.ref 6),UU (.int n),UU (.ref (J.length+7)),UU (.ref (J.length+1+7)),e4,e5,e6,e7,UX] (hq B t (J++ .lst (tb.map λt=> .tup (t.map λc=>c.1.p)):: .lst (tb.map λt=> .tup (t.map λc=>aX c.2))::G))= .ok (.nx [UU (.ref 6),UU (.int n),UU (.ref (J.length+7)),UU (.ref (J.length+1+7)),e4',e5',e6',e7',UX]) (hq B t' (J++ .lst (tb'.map λt=> .tup (t.map λc=>c.1.p)):: .lst (tb'.map λt=> .tup (t.map λc=>aX c.2))::G')):=by
 intro xs
 induction xs with
 | nil=>intro tb t G e4 e5 e6 e7 _ o;exact⟨tb,t,G,e4,e5,e6,e7,rfl,o,fh⟩
 | cons x xs ih =>
  intro tb t G e4 e5 e6 e7 l o
  rw[UZ] at l
  obtain⟨tt,t1,G1,f5,f6,f7,t3,tc,st⟩:=Gq T j hc (J:=J) n4 (tb.map λt=> .tup (t.map λc=>c.1.p)) (tb.map λt=> .tup (t.map λc=>aX c.2)) (by rw[U3];omega) (by rw[U3];omega) t G x e4 e5 e6 e7
  obtain⟨tb',t2,G2,g4,g5,g6,g7,bl,bo,k⟩:=ih (tb++[tt]) t1 G1 (UU x) f5 f6 f7 (by rw[U7];simp only[UZ,U6];omega) (λu m=>by
   rcases Vz.mp m with m | m
   . exact o u m
   . rw[Vm.mp m];exact⟨t3,tc⟩)
  refine⟨tb',t2,G2,g4,g5,g6,g7,by rw[bl,U7,UZ];simp only[UZ,U6];omega,bo,?_⟩
  rw[Vu,Vu] at k
  rw[bY,st,bE,bX]
  exact k
end
theorem kh{α :Type}{f: α ->PV}(h: ∀ a,(f a).flat=true): ∀ l:List α,PV.c6 (l.map f)=true
 | []=>rfl
 | x::l=>by rw[U2,PV.c6,h x,kh h l];rfl
theorem EI(p:Pp):p.v.flat=true:=by
 have i1: ∀ is:List Int,(aX is).flat=true:=λis=>by rw[aX,PV.flat];exact kh (f:=PV.int) (λ_=>rfl) is
 have k1:=kh (f:=λt:List Tc=> .tup (t.map λc=>c.1.p)) (λt=>by rw[PV.flat];exact kh (λc=>Hx c.1) t) p.tb;have k2:=kh (f:=λt:List Tc=> .tup (t.map λc=>aX c.2)) (λt=>by rw[PV.flat];exact kh (λc=>i1 c.2) t) p.tb;simp only[Pp.v,PV.flat,PV.c6,i1,k1,k2,Xt]
section
variable{pg:Tb}{aNoLines:Nat}(T:cN aNoLines pg)
include T
theorem AI(j:Nat){B:Bs}(hc:B.2.2≠[])(t:Fd)(J:PH): ∃(p:Pp)(t':Fd),p.Ok/\run pg (j+4) "_law_paper" [.ref 6] (hq B t J)= .ok p.v (hq B t' J):=by
 obtain⟨v,t1,v0,v9,h1⟩:=gC T (j+2) hc t 4 (by decide) (by decide);obtain⟨n,en⟩:=WS (show 0<=1+v by omega);have n4:n<=4:=by omega
 obtain⟨tb,t2,G,f4,f5,f6,f7,bl,bo,h2⟩:=vv T j hc (J:=J) (n:=n) n4 (xs0:=ao 0 n) (ao 0 n) [] t1 [] UX UX UX UX (by simp[P3.ao];omega) (λ_ m=>nomatch m);have bl':tb.length=n:=by rw[bl];simp[P3.ao]
 simp only[VP] at h2;obtain⟨w,t3,w0,w9,h3⟩:=gC T (j+2) hc t2 5 (by decide) (by decide);obtain⟨m,rfl⟩:=WS w0;obtain⟨J2,e2⟩: ∃ J2,J++ .lst (tb.map λt=> .tup (t.map λc=>c.1.p)):: .lst (tb.map λt=> .tup (t.map λc=>aX c.2))::G=J2:=⟨_,rfl⟩
 rw[e2] at h2;obtain⟨os,t4,ol,ob,h4⟩:=xH T (j+1) hc (J:=J2) (E:=[UU (.ref 6),UU (.int n),UU (.ref (J.length+7)),UU (.ref (J.length+1+7)),f4,f5,f6,f7,UX]) rfl rfl m (by omega) t3 (ao 0 m);have tn:Yh (n:Int)=n:=V7 _;have tm:Yh (m:Int)=m:=V7 _;have tp:aH [.ref (J2.length+7)] (hq B t4 (J2++[.lst (os.map PV.int)]))= .ok (aX os) (hq B t4 (J2++[.lst (os.map PV.int)])):=cO (by rw[hR];exact au);have tp1:aH [.ref (J.length+7)] (hq B t4 (J2++[.lst (os.map PV.int)]))= .ok (.tup (tb.map λt=> .tup (t.map λc=>c.1.p))) (hq B t4 (J2++[.lst (os.map PV.int)])):=cO (by rw[hR];exact gx (by rw[<- e2];exact au) _);have tp2:aH [.ref (J.length+1+7)] (hq B t4 (J2++[.lst (os.map PV.int)]))= .ok (.tup (tb.map λt=> .tup (t.map λc=>aX c.2))) (hq B t4 (J2++[.lst (os.map PV.int)])):=cO (by rw[hR];exact gx (by rw[<- e2,aG];rfl) _);obtain⟨Z,eZ⟩: ∃ Z,J2++[.lst (os.map PV.int)]=J++Z:=⟨_,by rw[<- e2,Vd]⟩
 refine⟨⟨os,tb⟩,t4,⟨⟨by show os.length<=4;omega,ob⟩,⟨by show tb.length<=4;omega,bo⟩⟩,?_⟩;have fl:=EI ⟨os,tb⟩;simp only[Pp.v] at fl ⊢;rw[run_eq T.rH rfl (by rw[T.fD];rfl)];generalize PV.tup (tb.map λt=> .tup (t.map λc=>c.1.p))=T1 at tp1 fl ⊢;generalize PV.tup (tb.map λt=> .tup (t.map λc=>aX c.2))=T2 at tp2 fl ⊢;generalize aX os=IO at tp fl ⊢;have h2':aS ⟨UX,ao 0 n⟩ (aN (gN 4) Qe (run pg (j+3))) (ao 0 n) [UU (.ref 6),UU (.int n),UU (.ref (J.length+7)),UU (.ref (J.length+(0+1)+7)),UX,UX,UX,UX,UX] (hq B t1 (J++[.lst [],.lst []]))=_:=h2;unfold Qe PX at h2';simp? [eR,j3,h1,en,ql,pF,tn,h2',h3,tm,h4,tp,tp1,tp2];rw[eZ];exact lY fl
end
noncomputable def RN(x:Str):Bool:=x.cps.toList.all λc=>decide (c < 16 ^ 8)
mutual
def yI:PV->Bool
 | .non=>true
 | .int i=>decide (0<=i/\i<=big)
 | .str x=>RN x
 | .tup xs=>jt xs
 | _=>false
def jt:List PV->Bool
 | []=>true
 | x::r=>yI x&&jt r
end
mutual
def Ig:PV->Nat
 | .str x=>x.cps.size
 | .tup xs=>AW xs
 | _=>0
def AW:List PV->Nat
 | []=>0
 | x::r=>Ig x+1+AW r
end
mutual
def Pd:PV->Nat
 | .tup xs=>oR xs+1
 | _=>0
def oR:List PV->Nat
 | []=>0
 | x::r=>max (Pd x) (oR r)
end
theorem sN{i:Int}(h0:0<=i)(h9:i<=big):(PyData.int i).shown.length<=42:=Vn (pW h0 h9).1 (by decide)
theorem y9{i:Int}(h0:0<=i)(h9:i<=big):i.natAbs.log2 < 1920:=v7 h0 h9
mutual
theorem yI.d: ∀(v:PV),yI v=true-> ∃ d:Yk,(∀ sub,jh sub v=UU d)/\d.showable=true/\d.hasDict=false/\d.depth=Pd v/\d.bulk=Ig v/\XA 42 d=true
 | .non,_=>⟨.none,λ_=>rfl,rfl,rfl,rfl,rfl,rfl⟩
 | .int i,h=>by
  rw[yI,decide_eq_true_eq] at h;exact⟨.int i,λ_=>rfl,by rw[ZU,decide_eq_true_eq];exact y9 h.1 h.2,rfl,rfl,rfl,by rw[XA,decide_eq_true_eq];exact sN h.1 h.2⟩
 | .str x,h=>by
  rw[yI,RN] at h;exact⟨.str x,λ_=>rfl,rfl,rfl,rfl,rfl,by rw[XA];exact h⟩
 | .tup xs,h=>by
  rw[yI] at h;obtain⟨ds,e,h1,h2,h3,h4,h5⟩:=jt.d xs h;exact⟨.tuple ds,λsub=>by rw[jh,e];rfl,by rw[ZU];exact h1,by rw[abC];exact h2,by rw[acC,h3,Pd],by rw[acW,h4,Ig],by rw[XA];exact h5⟩
theorem jt.d: ∀(xs:List PV),jt xs=true-> ∃ ds:List Yk,(∀ sub,cK sub xs=UU ds)/\aai ds=true/\aaq ds=false/\W4 ds=oR xs/\abD ds=AW xs/\Zv 42 ds=true
 | [],_=>⟨[],λ_=>rfl,rfl,rfl,rfl,rfl,rfl⟩
 | x::r,h=>by
  rw[jt,Vc] at h;obtain⟨d,e,h1,h2,h3,h4,h5⟩:=yI.d x h.1;obtain⟨ds,e',i1,i2,i3,i4,i5⟩:=jt.d r h.2;exact⟨d::ds,λsub=>by rw[cK,e,e'],by rw[aai,h1,i1];rfl,by rw[aaq,h2,i2];rfl,by rw[W4,h3,i3,oR],by rw[abD,h4,i4,AW],by rw[Zv,h5,i5];rfl⟩
end
theorem pG{d:Yk}(hl:d.leavesShort 42=true)(hw:d.bulk<=300001):d.shown.length<=Vj:=by
 have h:=PyData.shown_le_bulk 42 (by decide) d hl;show d.shown.length<=16777216;omega
theorem xy{ys : List PV}{ds : List Yk}(h1 : aai ds = true)(h2 : aaq ds = false)(h3 : W4 ds <= 60)(h4 : abD ds <= 300000)(h5 : Zv 42 ds = true) : ye (.tuple ds) /\ ye (.list ds) :=
  ⟨⟨by rw [ZU]; exact h1, by rw [abC]; exact h2, by rw [acC]; omega, pG (by rw [XA]; exact h5) (by rw [acW]; omega)⟩,
   ⟨by rw [ZU]; exact h1, by rw [abC]; exact h2, by rw [acC]; omega, pG (by rw [XA]; exact h5) (by rw [acW]; omega)⟩⟩
theorem xF{ys:List PV}(h:jt ys=true)(hd:oR ys<=60)(hb:AW ys<=300000): ∃ x:Str,∀ g,bt [.tup ys] g= .ok (.str x) g:=by
 obtain ⟨ds,e,h1,h2,h3,h4,h5⟩:=jt.d ys h;refine ⟨(acB ds).shown,λg=>?_⟩;have e2:dat 6 g (.tup ys)=UU (.tuple ds):=by unfold dat;rw[jh,e];rfl
 unfold bt;simp only[e2];exact if_pos (xy (ys:=ys) h1 h2 (by omega) (by omega) h5).1
theorem Kq{ys:List PV}(h:jt ys=true)(hd:oR ys<=60)(hb:AW ys<=300000): ∃ x:Str,∀(g:PH)(n:Nat),g[n]?=UU (.lst ys)->bt [.ref n] g= .ok (.str x) g:=by
 obtain⟨ds,e,h1,h2,h3,h4,h5⟩:=jt.d ys h;refine⟨(Ys ds).shown,λg n en=>?_⟩;have e2:dat 6 g (.ref n)=UU (.list ds):=by unfold dat;simp only[jh,en,e,ZR]
 unfold bt;simp only[e2];exact if_pos (xy (ys:=ys) h1 h2 (by omega) (by omega) h5).2
theorem wu: ∀{ss:List Str}{n:Nat},(∀ x∈ss,Tx n x)->jt (ss.map PV.str)=true/\oR (ss.map PV.str)=0/\AW (ss.map PV.str)<=ss.length*(n+1)
 | [],_,_=>⟨rfl,rfl,V2 _⟩
 | x::ss,n,h=>by
  obtain⟨a,b,c⟩:=wu (ss:=ss) λy m=>h y (Vl _ m);have tx:=h x Ve;rw[U2];refine⟨?_,?_,?_⟩
  . rw[jt,a,yI,RN,abV,VT];intro c mc;have:=tx.1 c mc;rw[decide_eq_true_eq];have:(16:Nat) ^ 8=4294967296:=by decide
    omega
  . rw[oR,b];rfl
  . have:x.cps.size<=n:=tx.2;rw[AW,show Ig (.str x)=x.cps.size from rfl,UZ,abB];omega
theorem vM{ss:List Str}(l:ss.length<=100)(h: ∀ x∈ss,Tx 2000 x): ∃ x:Str,∀(g:PH)(n:Nat),g[n]?=UU (.lst (ss.map PV.str))->bt [.ref n] g= .ok (.str x) g:=by
 obtain⟨a,b,c⟩:=wu h;refine Kq a (by omega) (Vn c ?_);have:ss.length*(2000+1)<=100*2001:=Xe _ l;omega
def Sm(v:PV)(k d:Nat):Prop:=yI v=true/\Ig v<=k/\Pd v<=d
theorem q8: ∀{xs:List PV}{k d:Nat},(∀ x∈xs,Sm x k d)->jt xs=true/\AW xs<=xs.length*(k+1)/\oR xs<=d
 | [],_,_,_=>⟨rfl,V2 _,V2 _⟩
 | x::xs,k,d,h=>by
  obtain⟨a,b,c⟩:=q8 (xs:=xs) λy m=>h y (Vl _ m);obtain⟨p,q,r⟩:=h x Ve;exact⟨by rw[jt,p,a];rfl,by rw[AW,UZ,abB];omega,by rw[oR];exact Nat.max_le.mpr ⟨r,c⟩⟩
theorem Sm.tup{xs:List PV}{k d n:Nat}(h: ∀ x∈xs,Sm x k d)(l:xs.length<=n):Sm (.tup xs) (n*(k+1)) (d+1):=by
 obtain⟨a,b,c⟩:=q8 h;exact⟨by rw[yI];exact a,by rw[Ig];exact Vn b (Xe _ l),by rw[Pd];omega⟩
theorem Sm.mono{v:PV}{k d k' d':Nat}(h:Sm v k d)(a:k<=k')(b:d<=d'):Sm v k' d':=⟨h.1,Vn h.2.1 a,Vn h.2.2 b⟩
theorem vU{w:Str}{m:Nat}(t:Tx m w)(f:aZ w=true):Sm (eY w) 0 0:=by
 unfold aZ at f;simp only[Vc,Xg,decide_eq_false_iff_not,decide_eq_true_eq] at f;have:=CH t.1 f.2.2.1 f.2.1;exact⟨by rw[eY,yI,decide_eq_true_eq];exact this,Vb _,Vb _⟩
theorem wO{w:Str}{m:Nat}(t:Tx m w)(f:d7 w=true):Sm (gX w) 0 0:=by
 unfold gX;split
 . exact⟨rfl,Vb _,Vb _⟩
 . rename_i z;refine vU t ?_;unfold d7 at f;simpa [z] using f
theorem vx{w:Str}{m:Nat}(t:Tx m w):Sm (.str w) m 0:=by
 refine⟨?_,t.2,Vb _⟩;rw[yI,RN,VT];intro c mc;have:=t.1 c mc;rw[decide_eq_true_eq];have:(16:Nat) ^ 8=4294967296:=by decide
 omega
structure Good(k m N:Nat)(st:Ts):Prop where
 l:st.length<=4
 t: ∀ t∈st,t.length<=N/\ ∀ ws∈t,pM k ws=true/\ ∀ v∈ws,Tx m v
theorem AB{k m N:Nat}{st s:Ts}{x:Str}(k4:k<=4)(g:Good k m N st)(tx:Tx m x)(e:BY k st x=UU s):Good k m (N+1) s:=by
 unfold BY at e;split at e
 . rename_i c;cases e;refine⟨by rw[U7];simp only[UZ,U6];omega,λt mt=>?_⟩;rcases Vz.mp mt with mt | mt
   . exact⟨Yl (g.t t mt).1,(g.t t mt).2⟩
   . rw[Vm.mp mt];exact⟨V2 _,λ_ m=>nomatch m⟩
 . split at e
   . rename_i z;cases e;obtain⟨ys,t,rfl⟩: ∃ ys t,st=ys++[t]:=⟨st.dropLast,st.getLast z.1,(Xk z.1).symm⟩
     rw[mY];refine⟨by have:=g.l;simp only[U7,UZ,U6] at this ⊢; omega,λu mu=>?_⟩;rcases Vz.mp mu with mu | mu
     . have:=g.t u (VO _ mu);exact⟨Yl this.1,this.2⟩
     . rw[Vm.mp mu];have gt:=g.t t (Vi _ Ve);refine⟨by rw[U7];simp only[UZ,U6];omega,λws mw=>?_⟩;rcases Vz.mp mw with mw | mw
       . exact gt.2 ws mw
       . rw[Vm.mp mw];exact⟨z.2,tx.wd.2⟩
   . nomatch e
theorem xM{k m:Nat}(k4:k<=4): ∀(xs:List Str)(st:Ts)(r N:Nat),(∀ x∈xs,Tx m x)->Good k m N st->match wk k xs st r with
  | .inl q=>q < r+xs.length
  | .inr s=>Good k m (N+xs.length) s
 | [],st,r,N,_,g=>g
 | x::xs,st,r,N,tx,g=>by
  rw[wk];cases q:BY k st x with
  | none=>simp only[UZ];omega
  | some s =>
   have i:=xM k4 xs s (r+1) (N+1) (λy my=>tx y (Vl _ my)) (AB k4 g (tx x Ve) q)
   dsimp only
   cases q2:wk k xs s (r+1) with
   | inl p=>rw[q2] at i;simp only[UZ] at i ⊢; omega
   | inr p =>
    rw[q2] at i
    simp only[UZ] at i ⊢
    rw[show N+(xs.length+1)=N+1+xs.length by omega];exact i
theorem tV{k m:Nat}{ws:List Str}(k4:k<=4)(tc:pM k ws=true)(tx: ∀ v∈ws,Tx m v):Sm (yg ws) 200 2/\Sm (zH ws) 200 2:=by
 unfold pM at tc;rw[Vc,Vc,decide_eq_true_eq] at tc;obtain⟨t1,t2,t3⟩:=tc;obtain⟨a,b,c,d,w,rfl⟩: ∃ a b c d w,ws=a::b::c::d::w:=by
  rcases ws with _ | ⟨a,_ | ⟨b,_ | ⟨c,_ | ⟨d,w⟩⟩⟩⟩
  . exact absurd t1 (by rw[U6];omega)
  . exact absurd t1 (by simp only[UZ,U6];omega)
  . exact absurd t1 (by simp only[UZ,U6];omega)
  . exact absurd t1 (by simp only[UZ,U6];omega)
  . exact⟨_,_,_,_,_,rfl⟩
 have t2':zK a b c d=true:=t2;have t3':w.all aZ=true:=t3;unfold zK at t2';rw[Vc,Vc,Vc,decide_eq_true_eq] at t2';obtain⟨ka,tb,gc,md⟩:=t2';have nm: ∀{u:List Str},u.all aZ=true->(∀ v∈u,Tx m v)-> ∀ v∈u.map eY,Sm v 0 0:=λ{u} f t v mv=>by
  obtain⟨x,mx,rfl⟩:=WA.mp mv;exact vU (t x mx) (VT.mp f x mx)
 constructor
 . have s1:Sm (.str a) 40 0:=vx (B4 a ka).1;have s2:Sm (.str (uQ b)) 40 0:=by
    unfold uQ;unfold Gg at tb;by_cases y:b= "-"
    . rw[if_pos y];exact vx (m:=40) (by decide +kernel)
    . rw[if_neg y];have nb:gS (.str b)=true:=by simpa [y] using tb
      simp only[gS,Vc,decide_eq_true_eq] at nb;exact vx ⟨(tx b (by simp)).1,Vn nb.1.2 (by decide)⟩
   have s3:Sm (gX c) 0 0:=wO (tx c (by simp)) gc;have s4:Sm (vz d) 4 1:=by
    unfold zd at md;unfold vz;by_cases y:(d6 d).length=2
    . rw[if_pos y] at md ⊢;exact(Sm.tup (k:=0) (d:=0) (n:=2) (nm md λv mv=>(tx d (by simp)).dt.2 v mv) (by rw[U3];omega)).mono (by decide) (by decide)
    . rw[if_neg y] at md ⊢;exact(wO (tx d (by simp)) md).mono (by decide) (by decide)
   exact(Sm.tup (xs:=[_,_,_,_]) (k:=40) (d:=1) (n:=4) (Va.mpr ⟨s1.mono (by decide) (by decide),Va.mpr ⟨s2.mono (by decide) (by decide),Va.mpr ⟨s3.mono (by decide) (by decide),Va.mpr ⟨s4.mono (by decide) (by decide),λ_ m=>nomatch m⟩⟩⟩⟩) (Vb 4)).mono (by decide) (by decide)
 . have:=Sm.tup (k:=0) (d:=0) (n:=4) (nm t3' λv mv=>tx v (by simp[mv])) (by simp only[UZ] at t1;rw[U3];omega);exact this.mono (by decide) (by decide)
theorem Jp{k m N:Nat}{st:Ts}{os:List Str}(k4:k<=4)(N9:N<=100)(g:Good k m N st)(ol:os.length<=2001)(ot: ∀ v∈os,Tx m v)(of:os.all aZ=true):Sm (rP os st) 250000 5:=by
 have s1:=Sm.tup (xs:=os.map eY) (k:=0) (d:=0) (n:=2001) (λv mv=>by
  obtain⟨x,mx,rfl⟩:=WA.mp mv;exact vU (ot x mx) (VT.mp of x mx)) (by rw[U3];exact ol)
 have tb: ∀ t∈st,Sm (rS t) (100*201) 3/\Sm (wK t) (100*201) 3:=λt mt=>by
  obtain⟨tl,tw⟩:=g.t t mt;exact⟨Sm.tup (k:=200) (d:=2) (λv mv=>by obtain⟨ws,mw,rfl⟩:=WA.mp mv;exact(tV k4 (tw ws mw).1 (tw ws mw).2).1) (by rw[U3];omega),
   Sm.tup (k:=200) (d:=2) (λv mv=>by obtain⟨ws,mw,rfl⟩:=WA.mp mv;exact(tV k4 (tw ws mw).1 (tw ws mw).2).2) (by rw[U3];omega)⟩
 have s2:=Sm.tup (xs:=st.map rS) (k:=20100) (d:=3) (n:=4) (λv mv=>by obtain⟨t,mt,rfl⟩:=WA.mp mv;exact(tb t mt).1) (by rw[U3];exact g.l);have s3:=Sm.tup (xs:=st.map wK) (k:=20100) (d:=3) (n:=4) (λv mv=>by obtain⟨t,mt,rfl⟩:=WA.mp mv;exact(tb t mt).2) (by rw[U3];exact g.l);exact(Sm.tup (xs:=[_,_,_]) (k:=80404) (d:=4) (n:=3) (Va.mpr ⟨s1.mono (by decide) (by decide),Va.mpr ⟨s2.mono (by decide) (by decide),Va.mpr ⟨s3.mono (by decide) (by decide),λ_ m=>nomatch m⟩⟩⟩) (Vb 3)).mono (by decide) (by decide)
theorem xj{ls:List Str}{m:Nat}(t:yx m ls)(l:m<=2000)(ll:ls.length<=100): ∃ x:Str,∀ g,bt [rY ls] g= .ok (.str x) g:=by
 have st: ∀ s:Str,(s= "row" \/s= "paper")->Sm (.str s) 20 0:=λs hs=>by
  rcases hs with rfl | rfl
  . exact⟨by decide +kernel,by decide +kernel,by decide +kernel⟩
  . exact⟨by decide +kernel,by decide +kernel,by decide +kernel⟩
 have row: ∀ r:Nat,r<=1000-> ∃ x:Str,∀ g,bt [.tup [.str "row",.int r]] g= .ok (.str x) g:=λr hr=>by
  have sr:Sm (.int r) 20 0:=⟨by rw[yI,decide_eq_true_eq];unfold big;omega,V2 _,Vb _⟩
  obtain⟨a,b,c⟩:=q8 (xs:=[.str "row",.int r]) (k:=20) (d:=0) (Va.mpr ⟨st _ (.inl rfl),Va.mpr ⟨sr,λ_ m=>nomatch m⟩⟩);exact xF a (by omega) (Vn b (show 2*(20+1)<=300000 by decide))
 unfold rY rr;cases hk:C0 ls with
 | none=>exact row 0 (by decide)
 | some k =>
  obtain⟨_,_,k4⟩:=HR hk
  dsimp only
  cases ho:DS ls with
  | none=>exact row 1 (by decide)
  | some os =>
   dsimp only
   have ho':=ho
   unfold DS at ho'
   obtain⟨ws,h1,h2⟩:=aaP.mp ho'
   split at h2
   . rename_i af;cases h2;obtain⟨w1,w2⟩:=CP t h1;have wg:=xM (m:=m) k4 (ls.drop 2) [] 2 0 (λx mx=>t.2 x (Yv mx)) ⟨V2 _,λ_ m=>nomatch m⟩;have dl:(ls.drop 2).length<=100:=by rw[Wy];omega
     cases q:wk k (ls.drop 2) [] 2 with
     | inl r =>
      rw[q] at wg
      simp only at wg
      exact row r (by omega)
     | inr s =>
      rw[q] at wg
      simp only at wg
      dsimp only
      by_cases z:s.length < k
      . simp only[z,if_true];exact row ls.length (by omega)
      . simp only[z,if_false];have sp:=Jp (N:=0+(ls.drop 2).length) k4 (by omega) wg (by omega) w2 af;obtain⟨a,b,c⟩:=q8 (xs:=[.str "paper",rP os s]) (k:=250000) (d:=5) (Va.mpr ⟨(st _ (.inr rfl)).mono (by decide) (by decide),Va.mpr ⟨sp,λ_ m=>nomatch m⟩⟩);have b2:AW [.str "paper",rP os s]<=300000:=by
         have k:=sp.2.1;have k2:=(st _ (.inr rfl)).2.1;show Ig _+1+(Ig (rP os s)+1+0)<=300000;omega
        exact xF a (by omega) b2
   . nomatch h2
theorem xm{a:Str}{n:Int}{h:PH}(c:2<=n∧n<=1000∧1<=a.length∧a.length<=1000∧(rn a n.toNat).length<=16777216):lq (.str a) (.int n) h= .ok (.str (rn a n.toNat)) h:=by
 unfold lq;exact if_pos c
noncomputable def Ky:List Str:=["-", "", "0", "00", "+1", "1.0", "1.", ".1", "1.2.3", "01.2", "1_0", "7", "9999999999999999999999999999999999999999", "99999999999999999999999999999999999999999", "paper", "order", "hand", "get", "lot", "let", "a", "A", "abcdefghi", "5", "-1", "-.1"]
theorem Ji: ∀ w∈Ky,Tx 41 w:=by decide +kernel
def Tl(n m:Nat)(ls:List Str):Prop:=ls.length<=n∧ ∀ x∈ls,Tx m x
theorem Tl.mono{n m n' m':Nat}{ls:List Str}(h:Tl n m ls)(a:n<=n')(b:m<=m'):Tl n' m' ls:=⟨Vn h.1 a,λx mx=>(h.2 x mx).mono b⟩
theorem Tl.app{n m k:Nat}{a b:List Str}(h1: ∀ x∈a,Tx m x)(h2: ∀ x∈b,Tx m x)(l:a.length+b.length<=k):Tl k m (a++b):=⟨by rw[U7];exact l,λx mx=>by
 rcases Vz.mp mx with z | z
 . exact h1 x z
 . exact h2 x z⟩
section
variable{pg:Tb}{aNoLines:Nat}(T:cN aNoLines pg)
include T
theorem wR(j:Nat){B:Bs}(hc:B.2.2≠[])(t:Fd): ∃(w:Str)(t':Fd),Tx 41 w/\ ∀ J,run pg (j+2) "_law_word" [.ref 6] (hq B t J)= .ok (.str w) (hq B t' J):=by
 obtain⟨v,t1,v0,v9,h1⟩:=gC T j hc t 26 (by decide) (by decide);obtain⟨w,mw,ew⟩:=ve (ss:=Ky) (v:=v) v0 v9;refine⟨w,t1,Ji w mw,λJ=>?_⟩;rw[run_eq T.sV rfl (by rw[T.fD];rfl)];have r1:rn "9" 40= "9999999999999999999999999999999999999999" :=by decide +kernel
 have r2:rn "9" 41= "99999999999999999999999999999999999999999" :=by decide +kernel
 have m1: ∀ g,lq (.str "9") (.int 40) g= .ok (.str "9999999999999999999999999999999999999999") g:=λg=>by
  rw[<- r1];exact xm (by decide +kernel)
 have m2: ∀ g,lq (.str "9") (.int 41) g= .ok (.str "99999999999999999999999999999999999999999") g:=λg=>by
  rw[<- r2];exact xm (by decide +kernel)
 let L1:List PV:=[.str "-",.str "",.str "0",.str "00",.str "+1",.str "1.0",.str "1.",.str ".1",.str "1.2.3",.str "01.2",.str "1_0",.str "7",.str "9999999999999999999999999999999999999999"]
 let L2:List PV:=[.str "99999999999999999999999999999999999999999",.str "paper",.str "order"]
 let L3:List PV:=[.str "hand",.str "get",.str "lot",.str "let",.str "a",.str "A",.str "abcdefghi",.str "5",.str "-1",.str "-.1"]
 have ad:aF (.ref (J.length+7)) (.ref (J.length+(0+1)+7)) (hq B t (J++[.lst L1,.lst L2]))= .ok (.ref (J.length+(0+1+1)+7)) (hq B t (J++[.lst L1,.lst L2,.lst (L1++L2)])):=by
  rw[iL (xs:=L1) (ys:=L2) (by rw[hR];exact au) (by rw[hR,aG];rfl) (show 13+3<=16777216 by decide),pF,ql,U7,Vd];rfl
 have ad2:aF (.ref (J.length+(0+1+1)+7)) (.ref (J.length+(0+1+1+1)+7)) (hq B t (J++[.lst L1,.lst L2,.lst (L1++L2),.lst L3]))= .ok (.ref (J.length+(0+1+1+1+1)+7)) (hq B t (J++[.lst L1,.lst L2,.lst (L1++L2),.lst L3,.lst (Ky.map PV.str)])):=by
  rw[iL (xs:=L1++L2) (ys:=L3) (by rw[hR,aG];rfl) (by rw[hR,aG];rfl) (show 16+10<=16777216 by decide),pF,ql,U7,Vd];rfl
 have ix:ck (.ref (J.length+(0+1+1+1+1)+7)) (.int v) (hq B t1 (J++[.lst L1,.lst L2,.lst (L1++L2),.lst L3,.lst (Ky.map PV.str)]))= .ok (.str w) (hq B t1 (J++[.lst L1,.lst L2,.lst (L1++L2),.lst L3,.lst (Ky.map PV.str)])):=by
  rw[eO,hR,aG];show Sy _ _ (UU (.lst (Ky.map PV.str)))=_;rw[eA,ew];rfl
 generalize hW:Ky.map PV.str=WL at ad2 ix;generalize hV:L1++L2=WM at ad ad2 ix;simp? [fM,kP,m1,m2,ql,pF];simp only[L1,L2,L3] at ad ad2 ix;simp? [ad,ql,pF];simp? [ad2,h1,ix,ql,pF];exact lY rfl
end
def Ua:ME:=(ay aF (de (aa 1) aI (aB (aa 2))) (de (aa 1) (aB (ay aF (aa 2) (eI 1))) aI))
def TQ:ME:=(ay aF (ay aF (de (aa 1) aI (aB (aa 2))) (de (aa 1) (aB (aa 2)) (aB (ay aF (aa 2) (eI 1))))) (de (aa 1) (aB (aa 2)) aI))
def Uj:ME:=(ay aF (de (aa 1) (aB (aa 2)) aI) (de (aa 1) aI (aB (aa 2))))
def TX:ME:=(ay aF (ay aF (de (aa 1) aI (aB (aa 2))) (bh (ae (ai "_law_word" (a1 (aa 0))) aj))) (de (aa 1) (aB (aa 2)) aI))
def Uq:ME:=(ay aF (ay aF (de (aa 1) aI (aB (aa 2))) (bh (ae (eM dX aJ (eS " ") (a1 (aa 4))) aj))) (de (aa 1) (aB (ay aF (aa 2) (eI 1))) aI))
def SJ:ME:=(ay aF (ay aF (de (aa 4) aI (aB (aa 5))) (bh (ae (ai "_law_word" (a1 (aa 0))) aj))) (de (aa 4) (aB (ay aF (aa 5) (eI 1))) aI))
def Sf:ME:=(ay aF (de (aa 4) aI (aB (aa 5))) (de (aa 4) (aB (ay aF (aa 5) (eI 1))) aI))
def So:ME:=(ay aF (ay aF (de (aa 4) aI (aB (aa 5))) (bh (ae (ai "_law_word" (a1 (aa 0))) aj))) (de (aa 4) (aB (aa 5)) aI))
def R1:ME:=(ay aF (ay aF (de (aa 4) aI (aB (aa 5))) (bh (a1 (eS "")))) (de (aa 4) (aB (aa 5)) aI))
theorem iI:kL=(ah (aA (ai "_law_take" (ae (aa 0) (ae (ay aF (eB aP (a1 (aa 1))) (eI 1)) aj))) (gN 2)) (ah (aA (ai "_law_take" (a2 (aa 0) (eI 9))) (gN 3)) (ah (cE (mQ (aa 3) (eI 0)) (aK Ua) dk) (ah (cE (mQ (aa 3) (eI 1)) (aK TQ) dk) (ah (cE (mQ (aa 3) (eI 2)) (aK Uj) dk) (ah (cE (mQ (aa 3) (eI 3)) (aK TX) dk) (ah (cE (aC (ay fZ (aa 2) (eB aP (a1 (aa 1))))) (aK (aa 1)) dk) (ah (aA (eM cV aJ (ay ck (aa 1) (aa 2)) (a1 (eS " "))) (gN 4)) (ah (aA (ai "_law_take" (ae (aa 0) (ae (ay aF (eB aP (a1 (aa 4))) (eI 1)) aj))) (gN 5)) (ah (cE (aC (ay zq (aa 3) (eI 6))) (aA SJ (gN 4)) (cE (mQ (aa 3) (eI 6)) (aA Sf (gN 4)) (cE (mQ (aa 3) (eI 7)) (aA So (gN 4)) (aA R1 (gN 4))))) (aK Uq))))))))))):=rfl
def jf(c:CF)(E:aM)(e:ME)(B:Bs)(t t':Fd)(J:PH)(ys:List Str):Prop:= ∃ X i,e c E (hq B t J)= .ok (.ref (i+7)) (hq B t' (J++X))/\(J++X)[i]?=UU (.lst (ys.map PV.str))
theorem gu{J:PH}{k:Nat}{o:PO}(e:J[k]?=UU o)(X:PH):(J++X)[k]?=UU o:=by rw[Vx ((Vk.mp e).1)];exact e
section
variable{c:CF}{E:aM}{a b m:ME}{B:Bs}{t t1 t2:Fd}{J:PH}{ys zs ls:List Str}
theorem jf.add(h1:jf c E a B t t1 J ys)(h2: ∀ X,jf c E b B t1 t2 (J++X) zs)(l:ys.length+zs.length<=10000):jf c E (ay aF a b) B t t2 J (ys++zs):=by
 obtain⟨X,i,e1,g1⟩:=h1;obtain⟨Y,k,e2,g2⟩:=h2 X;refine⟨X++(Y++[.lst ((ys++zs).map PV.str)]),(J++X++Y).length,?_,?_⟩
 . rw[HJ,e1,bE,CZ,e2,bE,iL (xs:=ys.map PV.str) (ys:=zs.map PV.str) (by rw[hR];exact gu g1 Y) (by rw[hR];exact g2) (by rw[U3,U3];omega),pF,ql,<- Vu];simp only[Vd]
 . rw[<- Vd,<- Vd];exact au
theorem jf.sl{q k:Nat}{lo hi:MO}{l u:Option Int}(hE:E[q]?=UU (UU (.ref (k+7))))(hl: ∀ h,lo c E h= .ok l h)(hu: ∀ h,hi c E h= .ok u h)(e:J[k]?=UU (.lst (ls.map PV.str)))(hc:dN (ls.map PV.str) l u=ys.map PV.str):jf c E (de (aa q) lo hi) B t t J ys:=by
 refine⟨[.lst (ys.map PV.str)],J.length,?_,au⟩;rw[HI,zS,hE,xI,bE,Cn,hl,bE,BG,hu,bE,tK,hR,e,kU,hc,pF,ql]
theorem jf.one{w:Str}(h:m c E (hq B t J)= .ok (.str w) (hq B t1 J)):jf c E (bh (ae m aj)) B t t1 J [w]:=by
 refine⟨[.lst [.str w]],J.length,?_,au⟩;rw[AU,tD,h,bE,pQ,vY,bE,p7,bE,wZ,iu (by simp),pF,ql]
end
def wt(ws:List Str):Nat:=(ws.map λw=>w.length+1).sum
theorem Aa: ∀{ws:List Str},ws≠[]->(jn ws).length+1=wt ws
 | [],h=>absurd rfl h
 | [w],_=>by rw[gJ];rfl
 | p::q::r,_=>by
  have i:=Aa (ws:=q::r) (by simp);have l1:(U0 " ").length=1:=by decide +kernel
  rw[fS,dn,dn,l1];show _=(p.length+1)+wt (q::r);omega
theorem iA(a b:List Str):wt (a++b)=wt a+wt b:=by unfold wt;rw[Vu,List.sum_append]
theorem vA(ws:List Str)(s:Nat):wt (ws.take s)+wt (ws.drop s)=wt ws:=by rw[<- iA,List.take_append_drop]
theorem DA(ws:List Str)(s:Nat):wt (ws.take s)+wt (ws.drop (s+1))<=wt ws:=by
 have h1:=vA ws s;have h2:=vA (ws.drop s) 1;rw[List.drop_drop] at h2;omega
theorem Qd(ws:List Str):(jn ws).length<=wt ws:=by
 by_cases z:ws=[]
 . subst z;exact(by decide +kernel:(jn []).length<=0)
 . have:=Aa z;omega
theorem MJ{ws:List Str}(h: ∀ w∈ws,asc w):asc (jn ws):=by
 have: ∀(ws:List Str),(∀ w∈ws,asc w)-> ∃ n,∀ w∈ws,Tx n w:=λws=>by
  induction ws with
  | nil=>exact λ_=>⟨0,λ_ m=>nomatch m⟩
  | cons w ws ih =>
   intro h
   obtain⟨n,k⟩:=ih λv m=>h v (Vl _ m)
   exact⟨n+w.length,Va.mpr ⟨⟨h w Ve,by omega⟩,λv m=>(k v m).mono (by omega)⟩⟩
 obtain⟨n,k⟩:=this ws h;exact(Tx.jo k).1
theorem Fb{ws:List Str}(h:wt ws<=1000000):JoinOk (U0 " ") ws=true:=by
 refine X1 ?_ (by decide +kernel);have:wt ws=(ws.map aa5).sum+ws.length:=by
  clear h
  induction ws with
  | nil=>rfl
  | cons w ws ih =>
   show(w.length+1)+wt ws=(w.length+(ws.map aa5).sum)+(ws.length+1)
   omega
 show(ws.map aa5).sum+ws.length<=1048576;omega
theorem HU{ls:List Str}{v:Int}(h:0<=v):dN (ls.map PV.str) UX (UU v)=(ls.take v.toNat).map PV.str:=by rw[P3.qR h,abX]
theorem wU{ls:List Str}{v:Int}(h:0<=v):dN (ls.map PV.str) (UU v) UX=(ls.drop v.toNat).map PV.str:=by rw[P3.gh h,adi]
theorem Og(ls:List Str)(l u:Option Int): ∃ ys:List Str,dN (ls.map PV.str) l u=ys.map PV.str/\ys.length<=ls.length/\ ∀ y∈ys,y∈ls:=by
 unfold P3.dN;rw[<- adi,<- abX];exact⟨_,rfl,by rw[We,Wy];omega,λy m=>Yv (ZP m)⟩
section
variable{pg:Tb}{aNoLines:Nat}(T:cN aNoLines pg)
include T
theorem Bp(j:Nat){B:Bs}(hc:B.2.2≠[])(t:Fd){J:PH}{k:Nat}{ws:List Str}(e:J[k]?=UU (.lst (ws.map PV.str)))(l:ws.length<=4000){s w:Int}(s0:0<=s)(w4:4<=w)(w9:w < 9){e1 e2:Option PV}: ∃(ws':List Str)(t':Fd)(X:PH)(i:Nat),wt ws'<=wt ws+42/\(∀ v∈ws',v∈ws\/Tx 41 v)/\(J++X)[i]?=UU (.lst (ws'.map PV.str)) /\
  (cE (aC (ay zq (aa 3) (eI 6))) (aA SJ (gN 4)) (cE (mQ (aa 3) (eI 6)) (aA Sf (gN 4)) (cE (mQ (aa 3) (eI 7)) (aA So (gN 4)) (aA R1 (gN 4))))) (run pg (j+2)) [UU (.ref 6),e1,e2,UU (.int w),UU (.ref (k+7)),UU (.int s)] (hq B t J)= .ok (.nx [UU (.ref 6),e1,e2,UU (.int w),UU (.ref (i+7)),UU (.int s)]) (hq B t' (J++X)):=by
 have oN: ∀ h,aI (run pg (j+2)) [UU (.ref 6),e1,e2,UU (.int w),UU (.ref (k+7)),UU (.int s)] h= .ok UX h:=λ_=>Cm;have oS: ∀ h,aB (aa 5) (run pg (j+2)) [UU (.ref 6),e1,e2,UU (.int w),UU (.ref (k+7)),UU (.int s)] h= .ok (UU s) h:=λ_=>rfl;have oP: ∀ h,aB (ay aF (aa 5) (eI 1)) (run pg (j+2)) [UU (.ref 6),e1,e2,UU (.int w),UU (.ref (k+7)),UU (.int s)] h= .ok (UU (s+1)) h:=λ_=>rfl;have sT:jf (run pg (j+2)) [UU (.ref 6),e1,e2,UU (.int w),UU (.ref (k+7)),UU (.int s)] (de (aa 4) aI (aB (aa 5))) B t t J (ws.take s.toNat):=jf.sl rfl oN oS e (HU s0);have sD: ∀ t X,jf (run pg (j+2)) [UU (.ref 6),e1,e2,UU (.int w),UU (.ref (k+7)),UU (.int s)] (de (aa 4) (aB (aa 5)) aI) B t t (J++X) (ws.drop s.toNat):=λt X=>jf.sl rfl oS oN (gu e X) (wU s0);have sP: ∀ t X,jf (run pg (j+2)) [UU (.ref 6),e1,e2,UU (.int w),UU (.ref (k+7)),UU (.int s)] (de (aa 4) (aB (ay aF (aa 5) (eI 1))) aI) B t t (J++X) (ws.drop (s.toNat+1)):=λt X=>jf.sl rfl oP oN (gu e X) (by rw[wU (by omega),show(s+1).toNat=s.toNat+1 by omega]);obtain⟨x,t1,tx,ex⟩:=wR T j hc t;have eW: ∀ X,jf (run pg (j+2)) [UU (.ref 6),e1,e2,UU (.int w),UU (.ref (k+7)),UU (.int s)] (bh (ae (ai "_law_word" (a1 (aa 0))) aj)) B t t1 (J++X) [x]:=λX=>jf.one (by simp? [ex]);have eE: ∀ X,jf (run pg (j+2)) [UU (.ref 6),e1,e2,UU (.int w),UU (.ref (k+7)),UU (.int s)] (bh (a1 (eS ""))) B t t (J++X) [""]:=λX=>jf.one (m:=eS "") rfl;have lt:(ws.take s.toNat).length<=4000:=by rw[We];omega
 have ld: ∀ n,(ws.drop n).length<=4000:=λn=>by rw[Wy];omega
 have wx:wt [x]<=42:=by show x.length+1+0<=42;have:=tx.2;omega
 have we:wt [""]=1:=by decide +kernel
 have c0:=vA ws s.toNat;have c1:=DA ws s.toNat;have mT: ∀ v∈ws.take s.toNat,v∈ws:=λv m=>ZP m;have mD: ∀ n,∀ v∈ws.drop n,v∈ws:=λn v m=>Yv m;by_cases w6:w < 6
 . obtain⟨X,i,ev,g⟩:=(sT.add eW (by simp only[UZ,U6];omega)).add (sP t1) (by rw[U7];simp only[UZ,U6];have:=ld (s.toNat+1);omega);refine⟨_,t1,X,i,?_,λv m=>?_,g,?_⟩
   . rw[iA,iA];omega
   . rcases Vz.mp m with m | m
     . rcases Vz.mp m with m | m
       . exact .inl (mT v m)
       . rw[Vm.mp m];exact .inr tx
     . exact .inl (mD _ v m)
   . have ev':SJ (run pg (j+2)) [UU (.ref 6),e1,e2,UU (.int w),UU (.ref (k+7)),UU (.int s)] (hq B t J)=_:=ev;simp? [w6,ev']
 . by_cases w6':w=6
   . obtain⟨X,i,ev,g⟩:=sT.add (sP t) (by have:=ld (s.toNat+1);omega);refine⟨_,t,X,i,?_,λv m=>?_,g,?_⟩
     . rw[iA];omega
     . rcases Vz.mp m with m | m
       . exact .inl (mT v m)
       . exact .inl (mD _ v m)
     . have ev':Sf (run pg (j+2)) [UU (.ref 6),e1,e2,UU (.int w),UU (.ref (k+7)),UU (.int s)] (hq B t J)=_:=ev;have z:=eq_true w6';simp? [w6,z,ev']
   . by_cases w7:w=7
     . obtain⟨X,i,ev,g⟩:=(sT.add eW (by simp only[UZ,U6];omega)).add (sD t1) (by rw[U7];simp only[UZ,U6];have:=ld s.toNat;omega);refine⟨_,t1,X,i,?_,λv m=>?_,g,?_⟩
       . rw[iA,iA];omega
       . rcases Vz.mp m with m | m
         . rcases Vz.mp m with m | m
           . exact .inl (mT v m)
           . rw[Vm.mp m];exact .inr tx
         . exact .inl (mD _ v m)
       . have ev':So (run pg (j+2)) [UU (.ref 6),e1,e2,UU (.int w),UU (.ref (k+7)),UU (.int s)] (hq B t J)=_:=ev;have z:=eq_true w7;simp? [w6,w6',z,ev']
     . obtain⟨X,i,ev,g⟩:=(sT.add eE (by simp only[UZ,U6];omega)).add (sD t) (by rw[U7];simp only[UZ,U6];have:=ld s.toNat;omega);refine⟨_,t,X,i,?_,λv m=>?_,g,?_⟩
       . rw[iA,iA];omega
       . rcases Vz.mp m with m | m
         . rcases Vz.mp m with m | m
           . exact .inl (mT v m)
           . rw[Vm.mp m];exact .inr (by decide +kernel)
         . exact .inl (mD _ v m)
       . have ev':R1 (run pg (j+2)) [UU (.ref 6),e1,e2,UU (.int w),UU (.ref (k+7)),UU (.int s)] (hq B t J)=_:=ev;simp? [w6,w6',w7,ev']
end
section
variable{pg:Tb}{aNoLines:Nat}(T:cN aNoLines pg)
include T
theorem Gf(j:Nat){B:Bs}(hc:B.2.2≠[])(t:Fd){J:PH}{k N M:Nat}{ls:List Str}(e:J[k]?=UU (.lst (ls.map PV.str)))(tl:Tl N M ls)(n9:N<=50)(m9:M<=1000): ∃(ls':List Str)(k':Nat)(t':Fd)(X:PH),Tl (2*N+1) (M+50) ls'/\(J++X)[k']?=UU (.lst (ls'.map PV.str))/\run pg (j+3) "_law_bent" [.ref 6,.ref (k+7)] (hq B t J)= .ok (.ref (k'+7)) (hq B t' (J++X)):=by
 have ll:=tl.1;have tM: ∀ x∈ls,Tx (M+50) x:=λx m=>(tl.2 x m).mono (by omega);have ln: ∀ t X,aP [.ref (k+7)] (hq B t (J++X))= .ok (.int ls.length) (hq B t (J++X)):=λt X=>by rw[dy (xs:=ls.map PV.str) (by rw[hR];exact gu e X),U3]
 have ln0: ∀ t,aP [.ref (k+7)] (hq B t J)= .ok (.int ls.length) (hq B t J):=λt=>by have:=ln t [];rwa[VM] at this
 obtain⟨v,t1,v0,v9,h1⟩:=gC T (j+1) hc t ((ls.length:Int)+1) (by omega) (by omega);obtain⟨w,t2,w0,w9,h2⟩:=gC T (j+1) hc t1 9 (by decide) (by decide);have oN: ∀{e4 e5} h,aI (run pg (j+2)) [UU (.ref 6),UU (.ref (k+7)),UU (.int v),UU (.int w),e4,e5] h= .ok UX h:=λ_=>Cm;have oS: ∀{e4 e5} h,aB (aa 2) (run pg (j+2)) [UU (.ref 6),UU (.ref (k+7)),UU (.int v),UU (.int w),e4,e5] h= .ok (UU v) h:=λ_=>rfl;have oP: ∀{e4 e5} h,aB (ay aF (aa 2) (eI 1)) (run pg (j+2)) [UU (.ref 6),UU (.ref (k+7)),UU (.int v),UU (.int w),e4,e5] h= .ok (UU (v+1)) h:=λ_=>rfl;have sT: ∀{e4 e5} t X,jf (run pg (j+2)) [UU (.ref 6),UU (.ref (k+7)),UU (.int v),UU (.int w),e4,e5] (de (aa 1) aI (aB (aa 2))) B t t (J++X) (ls.take v.toNat):=λt X=>jf.sl rfl oN oS (gu e X) (HU v0);have sD: ∀{e4 e5} t X,jf (run pg (j+2)) [UU (.ref 6),UU (.ref (k+7)),UU (.int v),UU (.int w),e4,e5] (de (aa 1) (aB (aa 2)) aI) B t t (J++X) (ls.drop v.toNat):=λt X=>jf.sl rfl oS oN (gu e X) (wU v0);have sP: ∀{e4 e5} t X,jf (run pg (j+2)) [UU (.ref 6),UU (.ref (k+7)),UU (.int v),UU (.int w),e4,e5] (de (aa 1) (aB (ay aF (aa 2) (eI 1))) aI) B t t (J++X) (ls.drop (v.toNat+1)):=λt X=>jf.sl rfl oP oN (gu e X) (by rw[wU (by omega),show(v+1).toNat=v.toNat+1 by omega]);have at0: ∀{m:ME}{E:aM}{t t':Fd}{ys:List Str},jf (run pg (j+2)) E m B t t' (J++[]) ys->jf (run pg (j+2)) E m B t t' J ys:=λh=>by rwa[VM] at h
 have mT: ∀ x∈ls.take v.toNat,Tx (M+50) x:=λx m=>tM x (ZP m);have mD: ∀ n,∀ x∈ls.drop n,Tx (M+50) x:=λn x m=>tM x (Yv m);have lT:(ls.take v.toNat).length<=N:=by rw[We];omega
 have lD: ∀ n,(ls.drop n).length<=N:=λn=>by rw[Wy];omega
 have lD1:=lD v.toNat;have lD2:=lD (v.toNat+1);have lA:(ls.take v.toNat).length+(ls.drop (v.toNat+1)).length<=N:=by rw[We,Wy];omega
 have one: ∀{x:Str},Tx (M+50) x-> ∀ y∈[x],Tx (M+50) y:=λh y m=>by rw[Vm.mp m];exact h
 have both: ∀{a b:List Str},(∀ x∈a,Tx (M+50) x)->(∀ x∈b,Tx (M+50) x)-> ∀ x∈a++b,Tx (M+50) x:=λha hb x m=>by
  rcases Vz.mp m with z | z
  . exact ha x z
  . exact hb x z
 by_cases z0:w=0
 . obtain⟨X,i,ev,g⟩:=(at0 (sT t2 [])).add (sP (e4:=UX) (e5:=UX) t2) (by omega);refine⟨_,i,t2,X,⟨by rw[U7];omega,both mT (mD _)⟩,g,?_⟩;rw[run_eq T.c8 rfl (by rw[T.fD];rfl)];have ev':Ua (run pg (j+2)) [UU (.ref 6),UU (.ref (k+7)),UU (.int v),UU (.int w),UX,UX] (hq B t2 J)=_:=ev;have z:=eq_true z0;simp? [bU,iI,ln0,h1,h2,z,ev'];exact bF rfl
 by_cases z1:w=1
 . obtain⟨ys,cy,ly,my⟩:=Og ls (UU v) (UU (v+1));have sM: ∀ X,jf (run pg (j+2)) [UU (.ref 6),UU (.ref (k+7)),UU (.int v),UU (.int w),UX,UX] (de (aa 1) (aB (aa 2)) (aB (ay aF (aa 2) (eI 1)))) B t2 t2 (J++X) ys:=λX=>jf.sl rfl oS oP (gu e X) cy;obtain⟨X,i,ev,g⟩:=((at0 (sT t2 [])).add sM (by omega)).add (sD t2) (by rw[U7];omega);refine⟨_,i,t2,X,⟨?_,both (both mT λx m=>tM x (my x m)) (mD _)⟩,g,?_⟩
   . rw[U7,U7,We,Wy];omega
   . rw[run_eq T.c8 rfl (by rw[T.fD];rfl)];have ev':TQ (run pg (j+2)) [UU (.ref 6),UU (.ref (k+7)),UU (.int v),UU (.int w),UX,UX] (hq B t2 J)=_:=ev;have z:=eq_true z1;simp? [bU,iI,ln0,h1,h2,z0,z,ev'];exact bF rfl
 by_cases z2:w=2
 . obtain⟨X,i,ev,g⟩:=(at0 (sD t2 [])).add (sT (e4:=UX) (e5:=UX) t2) (by omega);refine⟨_,i,t2,X,⟨by rw[U7,We,Wy];omega,both (mD _) mT⟩,g,?_⟩;rw[run_eq T.c8 rfl (by rw[T.fD];rfl)];have ev':Uj (run pg (j+2)) [UU (.ref 6),UU (.ref (k+7)),UU (.int v),UU (.int w),UX,UX] (hq B t2 J)=_:=ev;have z:=eq_true z2;simp? [bU,iI,ln0,h1,h2,z0,z1,z,ev'];exact bF rfl
 by_cases z3:w=3
 . obtain⟨x,t3,tx,ex⟩:=wR T j hc t2;have eW: ∀ X,jf (run pg (j+2)) [UU (.ref 6),UU (.ref (k+7)),UU (.int v),UU (.int w),UX,UX] (bh (ae (ai "_law_word" (a1 (aa 0))) aj)) B t2 t3 (J++X) [x]:=λX=>jf.one (by simp? [ex]);obtain⟨X,i,ev,g⟩:=((at0 (sT t2 [])).add eW (by simp only[UZ,U6];omega)).add (sD t3) (by rw[U7];simp only[UZ,U6];omega);refine⟨_,i,t3,X,⟨?_,both (both mT (one (tx.mono (by omega)))) (mD _)⟩,g,?_⟩
   . rw[U7,U7,We,Wy];simp only[UZ,U6];omega
   . rw[run_eq T.c8 rfl (by rw[T.fD];rfl)];have ev':TX (run pg (j+2)) [UU (.ref 6),UU (.ref (k+7)),UU (.int v),UU (.int w),UX,UX] (hq B t2 J)=_:=ev;have z:=eq_true z3;simp? [bU,iI,ln0,h1,h2,z0,z1,z2,z,ev'];exact bF rfl
 by_cases z4:v=(ls.length:Int)
 . refine⟨ls,k,t2,[],⟨by omega,tM⟩,by rw[VM];exact e,?_⟩;rw[run_eq T.c8 rfl (by rw[T.fD];rfl)];have z:=eq_true z4;simp? [bU,iI,ln0,h1,h2,z0,z1,z2,z3,z,VM];exact bF rfl
 . obtain⟨x,ex⟩: ∃ x,ls[v.toNat]?=UU x:=⟨_,VG (by omega)⟩
   have tx:=tl.2 x (VU ex);have wl:=tx.wd.1;have sp:cV (.str x) [.str " "] (hq B t2 J)= .ok (.ref (J.length+7)) (hq B t2 (J++[.lst ((aQ x).map PV.str)])):=(j6 tx (by omega)).trans (by rw[pF,ql]);have ix:ck (.ref (k+7)) (.int v) (hq B t2 J)= .ok (.str x) (hq B t2 J):=by
    rw[eO,hR,e,eA,P3.cw (n:=v.toNat) (by omega) (by rw[VI,ex];rfl)];rfl
   have lw: ∀ t,aP [.ref (J.length+7)] (hq B t (J++[.lst ((aQ x).map PV.str)]))= .ok (.int (aQ x).length) (hq B t (J++[.lst ((aQ x).map PV.str)])):=λt=>by rw[dy (xs:=(aQ x).map PV.str) (by rw[hR];exact au),U3]
   obtain⟨s,t3,s0,s9,h3⟩:=gC T (j+1) hc t2 (((aQ x).length:Int)+1) (by omega) (by omega);obtain⟨ws',t4,X,i,ww,wm,g,ev⟩:=Bp T j hc t3 (J:=J++[.lst ((aQ x).map PV.str)]) (k:=J.length) (ws:=aQ x) au (by omega) s0 (w:=w) (by omega) w9 (e1:=UU (.ref (k+7))) (e2:=UU (.int v));have xw:wt (aQ x)=x.length+1:=by rw[<- Aa (rX x),vN]
   have xl:=tx.2;have ty:Tx (M+50) (jn ws'):=⟨MJ λy my=>by
    rcases wm y my with q | q
    . exact(tx.wd.2 y q).1
    . exact q.1,Vn (Qd ws') (by omega)⟩
   have jo:=Fb (ws:=ws') (by omega);rw[Vd] at g ev;have eJ: ∀ Y,jf (run pg (j+2)) [UU (.ref 6),UU (.ref (k+7)),UU (.int v),UU (.int w),UU (.ref (i+7)),UU (.int s)] (bh (ae (eM dX aJ (eS " ") (a1 (aa 4))) aj)) B t4 t4 (J++([.lst ((aQ x).map PV.str)]++X)++Y) [jn ws']:=λY=>jf.one (by
    have jr:dX (.str " ") [.ref (i+7)] (hq B t4 (J++([.lst ((aQ x).map PV.str)]++X)++Y))= .ok (.str (jn ws')) _:=nE (ss:=ws') (by rw[hR];exact gu g Y) jo;rw[du,show eS (U0 " ") (run pg (j+2)) [UU (.ref 6),UU (.ref (k+7)),UU (.int v),UU (.int w),UU (.ref (i+7)),UU (.int s)] (hq B t4 (J++([.lst ((aQ x).map PV.str)]++X)++Y))= .ok (.str " ") _ from rfl,bE];exact jr)
   obtain⟨Y,i',ev2,g2⟩:=((sT (e4:=UU (.ref (i+7))) (e5:=UU (.int s)) t4 ([.lst ((aQ x).map PV.str)]++X)).add eJ (by simp only[UZ,U6];omega)).add (λY=>by rw[Vd];exact sP (e4:=UU (.ref (i+7))) (e5:=UU (.int s)) t4 _) (by rw[U7];simp only[UZ,U6];omega);refine⟨_,i',t4,([.lst ((aQ x).map PV.str)]++X)++Y,⟨?_,both (both mT (one ty)) (mD _)⟩,by rw[<- Vd];exact g2,?_⟩
   . rw[U7,U7];simp only[UZ,U6];omega
   . rw[run_eq T.c8 rfl (by rw[T.fD];rfl)];have ev':Uq (run pg (j+2)) [UU (.ref 6),UU (.ref (k+7)),UU (.int v),UU (.int w),UU (.ref (i+7)),UU (.int s)] (hq B t4 (J++([.lst ((aQ x).map PV.str)]++X)))=_:=ev2;rw[Vd (J)] at ev';simp only[WQ,VW] at ev ev' ⊢;simp? [bU,iI,ln0,h1,h2,z0,z1,z2,z3,z4,du,jz,aJ,ix,sp,lw,h3,↓ev,ev'];exact bF (v:= .ref (i'+7)) rfl
end
def NX:MS:=(aA (ai "_law_bent" (a2 (aa 1) (aa 6))) (gN 6))
def Of:MS:=(ah (aA (eB jg (a1 (aa 4))) (gN 6)) (ah (gL (bJ (ae (ay ck (bh (ae (eI 0) (ae (eI 1) (ae (eI 1) (ae (eI 2) (ae (eI 1) (a3 (eI 1) (eI 2) (eI 1)))))))) (aa 5)) aj)) (gN 7) NX) (ah (aA (eB jg (a1 (aa 6))) (gN 8)) (cE (rF (aC (ay gG (eB bt (ae (ai "_law_told" (a1 (aa 6))) aj)) (eB bt (ae (ai "_law_read" (a1 (aa 8))) aj)))) (aC (ay gG (aa 6) (aa 8)))) (aK (eC (.bl false))) dk))))
def Rw:MS:=(ah (aA (ai "_law_paper" (a1 (aa 1))) (gN 3)) (ah (aA (ai "paper_lines" (a1 (aa 3))) (gN 4)) (ah (cE (aC (ay gG (eB bt (a1 (aa 4))) (eB bt (ae (ai "_law_lines" (a1 (aa 3))) aj)))) (aK (eC (.bl false))) dk) (ah (gL (bJ (a1 (eI 8))) (gN 5) Of) (ah (bM (eM az aO (aa 4) (a1 (eS "hand")))) (cE (aC (ay gG (eB bt (ae (ai "paper_lines" (a1 (aa 3))) aj)) (eB bt (ae (ai "_law_lines" (a1 (aa 3))) aj)))) (aK (eC (.bl false))) dk))))))
noncomputable def room:Nat:=16
section
variable{pg:Tb}{aNoLines:Nat}(T:cN aNoLines pg)
include T
theorem yB(j:Nat){B:Bs}(hc:B.2.2≠[]){e0 e2 e3 e4 e5 e8:Option PV}{xs0:List PV}: ∀(xs:List PV)(N M:Nat)(ls:List Str)(k:Nat)(t:Fd)(J:PH)(e7:Option PV),(N+1)*2 ^ xs.length<=76->M+50*xs.length<=1000->Tl N M ls->J[k]?=UU (.lst (ls.map PV.str))-> ∃(ls':List Str)(k':Nat)(t':Fd)(X:PH)(e7':Option PV),Tl 75 1000 ls'/\(J++X)[k']?=UU (.lst (ls'.map PV.str)) /\
  aS ⟨UX,xs0⟩ (aN (gN 7) NX (run pg (j+3))) xs [e0,UU (.ref 6),e2,e3,e4,e5,UU (.ref (k+7)),e7,e8] (hq B t J)= .ok (.nx [e0,UU (.ref 6),e2,e3,e4,e5,UU (.ref (k'+7)),e7',e8]) (hq B t' (J++X)):=by
 intro xs
 induction xs with
 | nil =>
  intro N M ls k t J e7 b1 b2 tl e
  rw[U6,Nat.pow_zero,Nat.mul_one] at b1
  exact⟨ls,k,t,[],e7,tl.mono (by omega) (by omega),by rw[VM];exact e,by rw[VM];exact fh⟩
 | cons x xs ih =>
  intro N M ls k t J e7 b1 b2 tl e
  rw[UZ,acA] at b1
  rw[UZ] at b2
  have p1:1<=2 ^ xs.length:=Nat.one_le_two_pow
  have n9:N<=50:=by
   have:(N+1)*2<=(N+1)*(2 ^ xs.length*2):=Nat.mul_le_mul_left _ (by omega);omega
  obtain⟨l1,k1,t1,X,tl1,g1,ev⟩:=Gf T j hc t e tl n9 (by omega)
  obtain⟨l2,k2,t2,Y,f7,tl2,g2,ev2⟩:=ih (2*N+1) (M+50) l1 k1 t1 (J++X) (UU x) (by
   have:(2*N+1+1)*2 ^ xs.length=(N+1)*(2 ^ xs.length*2):=by rw[Z3 (2 ^ xs.length) 2,<- Nat.mul_assoc];congr 1;omega
   omega) (by omega) tl1 g1
  refine⟨l2,k2,t2,X++Y,f7,tl2,by rw[<- Vd];exact g2,?_⟩
  have st:aN (gN 7) NX (run pg (j+3)) x [e0,UU (.ref 6),e2,e3,e4,e5,UU (.ref (k+7)),e7,e8] (hq B t J)= .ok (.nx [e0,UU (.ref 6),e2,e3,e4,e5,UU (.ref (k1+7)),UU x,e8]) (hq B t1 (J++X)):=by
   simp? [NX,ev]
  rw[bY,st,bE,bX,ev2,Vd]
theorem GA(j:Nat){B:Bs}(hc:B.2.2≠[])(t:Fd){J:PH}{q:Nat}{L:List Str}(e:J[q]?=UU (.lst (L.map PV.str)))(tl:Tl 18 656 L){i:Nat}(hi:i < 8){e0 e2 e3:Option PV}(e5 e6 e7 e8:Option PV): ∃(t':Fd)(X:PH)(e6' e7' e8':Option PV),
  aN (gN 5) Of (run pg (j+8)) (.int i) [e0,UU (.ref 6),e2,e3,UU (.ref (q+7)),e5,e6,e7,e8] (hq B t J)= .ok (.nx [e0,UU (.ref 6),e2,e3,UU (.ref (q+7)),UU (.int i),e6',e7',e8']) (hq B t' (J++X)):=by
 obtain⟨n,mn,en⟩:=vW (xs:=[0,1,1,2,1,1,2,1]) (v:=(i:Int)) (by omega) (show(i:Int) < 8 by omega);have nb:0<=n/\n<=2:=by
  simp only[Vt,WB,or_false] at mn;omega
 have rl:(ao 0 n.toNat).length=n.toNat:=by simp[P3.ao]
 have p2:2 ^ n.toNat<=2 ^ 2:=abz (by decide) (by omega);obtain⟨ls,k,t1,X,f7,tl1,g1,lp⟩:=yB T (j+5) hc (e0:=e0) (e2:=e2) (e3:=e3) (e4:=UU (.ref (q+7))) (e5:=UU (.int i)) (e8:=e8) (xs0:=ao 0 n.toNat) (ao 0 n.toNat) 18 656 L J.length t (J++[.lst (L.map PV.str),.lst [.int 0,.int 1,.int 1,.int 2,.int 1,.int 1,.int 2,.int 1]]) e7 (by rw[rl];omega) (by rw[rl];omega) tl au;obtain⟨J3,eJ⟩: ∃ J3,J3=J++[.lst (L.map PV.str),.lst [.int 0,.int 1,.int 1,.int 2,.int 1,.int 1,.int 2,.int 1]]++X:=⟨_,rfl⟩
 rw[<- eJ] at lp g1;have ts:yx 1000 ls:=⟨Vn tl1.1 (by decide),tl1.2⟩
 have a1:(hq B t1 (J3++[.lst (ls.map PV.str)]))[k+7]?=UU (.lst (ls.map PV.str)):=by rw[hR];exact gu g1 _
 have a2:(hq B t1 (J3++[.lst (ls.map PV.str)]))[J3.length+7]?=UU (.lst (ls.map PV.str)):=by rw[hR];exact au
 have td:run pg (j+8) "_law_told" [.ref (k+7)] (hq B t1 (J3++[.lst (ls.map PV.str)]))= .ok (rY ls) _:=wF T j a1 ts (by decide);have rd:=ug T (j+3) a2 ts (by decide);obtain⟨x,sx⟩:=xj ts (by decide) (Vn tl1.1 (by decide));have nn:=(iO a1 a2 (λy my=>(tl1.2 y my).ok) λy my=>(tl1.2 y my).ok).2;rw[decide_eq_true rfl] at nn;generalize rY ls=V at td rd sx;simp only[U2,VP] at en;refine⟨t1,[.lst (L.map PV.str),.lst [.int 0,.int 1,.int 1,.int 2,.int 1,.int 1,.int 2,.int 1]]++(X++[.lst (ls.map PV.str)]),UU (.ref (k+7)),f7,UU (.ref (J3.length+7)),?_⟩;have eH:J++([PO.lst (L.map PV.str),.lst [.int 0,.int 1,.int 1,.int 2,.int 1,.int 1,.int 2,.int 1]]++(X++[.lst (ls.map PV.str)]))=J3++[.lst (ls.map PV.str)]:=by rw[eJ];simp only[Vd]
 rw[eH];simp? [Of,hR,e,pF,ql,en,lp,g1,td,rd,sx,nn,eq_self]
theorem vJ(j:Nat){B:Bs}(hc:B.2.2≠[]){q:Nat}{L:List Str}(tl:Tl 18 656 L){e0 e2 e3:Option PV}{xs0:List PV}: ∀(is:List Nat)(t:Fd)(J:PH)(e5 e6 e7 e8:Option PV),(∀ i∈is,i < 8)->J[q]?=UU (.lst (L.map PV.str))-> ∃(t':Fd)(X:PH)(e5' e6' e7' e8':Option PV),
  aS ⟨UX,xs0⟩ (aN (gN 5) Of (run pg (j+8))) (is.map λi:Nat=>PV.int (0+(i:Int))) [e0,UU (.ref 6),e2,e3,UU (.ref (q+7)),e5,e6,e7,e8] (hq B t J)= .ok (.nx [e0,UU (.ref 6),e2,e3,UU (.ref (q+7)),e5',e6',e7',e8']) (hq B t' (J++X)):=by
 intro is
 induction is with
 | nil=>intro t J e5 e6 e7 e8 _ _;exact⟨t,[],e5,e6,e7,e8,by rw[VM];exact fh⟩
 | cons i is ih =>
  intro t J e5 e6 e7 e8 hi e
  obtain⟨t1,X,f6,f7,f8,st⟩:=GA T j hc t e tl (hi i Ve) (e0:=e0) (e2:=e2) (e3:=e3) e5 e6 e7 e8
  obtain⟨t2,Y,g5,g6,g7,g8,k⟩:=ih t1 (J++X) (UU (.int i)) f6 f7 f8 (λy m=>hi y (Vl _ m)) (gu e X)
  have ci:(0:Int)+(i:Int)=(i:Int):=aa6 _
  exact⟨t2,X++Y,g5,g6,g7,g8,by rw[U2,bY,ci,st,bE,bX,k,Vd]⟩
end
section
variable{pg:Tb}{aNoLines:Nat}(T:cN aNoLines pg)
include T
theorem Du(j:Nat){B:Bs}(hc:B.2.2≠[])(t:Fd)(J:PH)(x:PV){e0:Option PV}(e2 e3 e4 e5 e6 e7 e8:Option PV): ∃(t':Fd)(J':PH)(e3' e4' e5' e6' e7' e8':Option PV),
  aN (gN 2) Rw (run pg (j+8)) x [e0,UU (.ref 6),e2,e3,e4,e5,e6,e7,e8] (hq B t J)= .ok (.nx [e0,UU (.ref 6),UU x,e3',e4',e5',e6',e7',e8']) (hq B t' J'):=by
 obtain⟨r,t1,ok,h1⟩:=AI T (j+4) hc t J;obtain⟨ll,tx⟩:=ok.tx;have tl:Tl 18 656 r.ls:=⟨ll,tx⟩
 obtain⟨y,sy⟩:=vM (ss:=r.ls) (by omega) λz m=>(tx z m).mono (by decide);obtain⟨A,G,h2⟩:=ip T (j+4) (h:=hq B t1 J) ok;rw[pF,ql,show J.length+7+1=J.length+1+7 by omega] at h2;obtain⟨J1,eJ⟩: ∃ J1,J1=J++A:: .lst (r.ls.map PV.str)::G:=⟨_,rfl⟩
 rw[<- eJ] at h2;have g1:J1[J.length+1]?=UU (.lst (r.ls.map PV.str)):=by rw[eJ,aG];rfl
 have s1:bt [.ref (J.length+1+7)] (hq B t1 J1)= .ok (.str y) (hq B t1 J1):=sy _ _ (by rw[hR];exact g1);obtain⟨G1,h3⟩:=jH T (j+6) (h:=hq B t1 J1) ok;rw[pF,ql] at h3;obtain⟨J2,eJ2⟩: ∃ J2,J2=J1++ .lst (r.ls.map PV.str)::G1:=⟨_,rfl⟩
 rw[<- eJ2] at h3;have s2:bt [.ref (J1.length+7)] (hq B t1 J2)= .ok (.str y) (hq B t1 J2):=sy _ _ (by rw[hR,eJ2];exact au);have g2:J2[J.length+1]?=UU (.lst (r.ls.map PV.str)):=by rw[eJ2];exact gu g1 _
 obtain⟨t2,X,f5,f6,f7,f8,lp⟩:=vJ T j hc (q:=J.length+1) tl (e0:=e0) (e2:=UU x) (e3:=UU r.v) (xs0:=ao 0 8) (XQ 8) t1 J2 e5 e6 e7 e8 (λi m=>Zd.mp m) g2;rw[show((XQ 8).map λi:Nat=>PV.int (0+(i:Int)))=ao 0 8 from rfl] at lp;obtain⟨J3,eJ3⟩: ∃ J3,J3=J2++X:=⟨_,rfl⟩
 rw[<- eJ3] at lp;have g3:J3[J.length+1]?=UU (.lst (r.ls.map PV.str)):=by rw[eJ3];exact gu g2 _
 have il:aO (.ref (J.length+1+7)) (hq B t2 J3)=true:=cH (by rw[hR];exact g3);have ap:az (.ref (J.length+1+7)) [.str "hand"] (hq B t2 J3)= .ok .non (hq B t2 (J3.set (J.length+1) (.lst (r.ls.map PV.str++[.str "hand"])))):=by
  rw[jD,hR,g3,j1 (by rw[U3];omega),Rq]
 obtain⟨J4,eJ4⟩: ∃ J4,J4=J3.set (J.length+1) (.lst (r.ls.map PV.str++[.str "hand"])):=⟨_,rfl⟩
 rw[<- eJ4] at ap;obtain⟨A5,G5,h4⟩:=ip T (j+4) (h:=hq B t2 J4) ok;rw[pF,ql,show J4.length+7+1=J4.length+1+7 by omega] at h4;obtain⟨J5,eJ5⟩: ∃ J5,J5=J4++A5:: .lst (r.ls.map PV.str)::G5:=⟨_,rfl⟩
 rw[<- eJ5] at h4;have s3:bt [.ref (J4.length+1+7)] (hq B t2 J5)= .ok (.str y) (hq B t2 J5):=sy _ _ (by rw[hR,eJ5,aG];rfl);obtain⟨G6,h5⟩:=jH T (j+6) (h:=hq B t2 J5) ok;rw[pF,ql] at h5;obtain⟨J6,eJ6⟩: ∃ J6,J6=J5++ .lst (r.ls.map PV.str)::G6:=⟨_,rfl⟩
 rw[<- eJ6] at h5;have s4:bt [.ref (J5.length+7)] (hq B t2 J6)= .ok (.str y) (hq B t2 J6):=sy _ _ (by rw[hR,eJ6];exact au);have t7:Yh 8=8:=rfl;refine⟨t2,J6,UU r.v,UU (.ref (J.length+1+7)),f5,f6,f7,f8,?_⟩;generalize r.v=V at h1 h2 h3 h4 h5 lp;simp? [Rw,h1,h2,s1,h3,s2,lp,t7,du,jz,il,ap,h4,s3,h5,s4,eq_self]
theorem yY(j:Nat){B:Bs}(hc:B.2.2≠[]){e0:Option PV}{xs0:List PV}: ∀(xs:List PV)(t:Fd)(J:PH)(e2 e3 e4 e5 e6 e7 e8:Option PV),∃(t':Fd)(J':PH)(e2' e3' e4' e5' e6' e7' e8':Option PV),
  aS ⟨UX,xs0⟩ (aN (gN 2) Rw (run pg (j+8))) xs [e0,UU (.ref 6),e2,e3,e4,e5,e6,e7,e8] (hq B t J)= .ok (.nx [e0,UU (.ref 6),e2',e3',e4',e5',e6',e7',e8']) (hq B t' J'):=by
 intro xs
 induction xs with
 | nil=>intro t J e2 e3 e4 e5 e6 e7 e8;exact⟨t,J,e2,e3,e4,e5,e6,e7,e8,fh⟩
 | cons x xs ih =>
  intro t J e2 e3 e4 e5 e6 e7 e8
  obtain⟨t1,J1,f3,f4,f5,f6,f7,f8,st⟩:=Du T j hc t J x (e0:=e0) e2 e3 e4 e5 e6 e7 e8
  obtain⟨t2,J2,g2,g3,g4,g5,g6,g7,g8,k⟩:=ih t1 J1 (UU x) f3 f4 f5 f6 f7 f8
  exact⟨t2,J2,g2,g3,g4,g5,g6,g7,g8,by rw[bY,st,bE,bX,k]⟩
end
theorem Af(aNoLines:Nat): ∀ ns:List Int,ns.length<=63->Ok (run (tb aNoLines) (room+1) "law" [.ref 0] [.jA (ns.map PV.int)]) λv _=>v= .bl true:=by
 intro ns _;have T:cN aNoLines (tb aNoLines):=has aNoLines;show Ok (run (tb aNoLines) (16+1) "law" [.ref 0] [yz ns]) _;obtain⟨x1,x2,x3,x4,cs,hc,h0⟩:=GU T 15 ns
 let B:Bs:=(ns,(x1,x2,x3,x4),cs)
 have h0':run (tb aNoLines) 16 "_law_feed" [.ref 0,.int 0] [yz ns]= .ok (.ref 6) (hq B (0,0,0) []):=h0;obtain⟨t1,J1,f2,f3,f4,f5,f6,f7,f8,lp⟩:=yY T 8 (B:=B) hc (e0:=UU (.ref 0)) (xs0:=ao 0 3) (ao 0 3) (0,0,0) [] UX UX UX UX UX UX UX;unfold Rw Of NX at lp;have ts:yx 1000 ([]:List Str):=⟨V2 _,λx m=>nomatch m⟩
 have td:run (tb aNoLines) 16 "_law_told" [.ref (J1.length+7)] (hq B t1 (J1++[.lst []]))= .ok (rY []) _:=wF T 8 (ls:=[]) (by rw[hR];exact au) ts (by decide);obtain⟨y,sy⟩:=xj ts (by decide) (V2 _);have rv:rY []= .tup [.str "row",.int 0]:=rfl;rw[rv] at td sy;have t4:Yh 3=3:=rfl;have hB:B.2.2≠[]:=hc
 clear_value B
 obtain⟨h',e⟩: ∃ h',run (tb aNoLines) (16+1) "law" [.ref 0] [yz ns]= .ok (.bl true) h':=by
  rw[run_eq T.HQ rfl (by rw[T.fD];rfl)];simp? [xB,HB,h0',lp,t4,ql,pF,td,sy,eq_self];unfold P3.settle;split<;>exact⟨_,rfl⟩
 exact⟨_,h',e,rfl⟩
open PySem PySem.W PyProof.Rows
set_option maxHeartbeats 8000000
def gK(K:UW)(mg:Str->Option U1):List (String × Nat)->Prop
 | []=>True
 | (x,n)::l=>At K mg x (top n)/\gK K mg l
def Zs(K:UW):List Str->Prop
 | []=>True
 | x::l=>VZ K VB x=UU UX/\Zs K l
def Ta(K:UW):List (U9 × Str × String × Nat × Nat)->Prop
 | []=>True
 | (C,m,fn,i,j)::l=>RD K C m fn (OQ i j)∧Ta K l
theorem uO{P:VE}{w:VY}{K:UW}{mg:Str->Option U1}{a:U9}(c:jO K a)(mk:iX K a=true)(kp:Wh K (.ref a)=true)(gl:mg "NoLines" =UU (.ref a))(q1:Vw K (.ref a) "row" =UU UX)(M:RD K a "__init__" "NoLines.__init__" (OQ 6 0)):NB P w K mg "NoLines" a ["row"] :=
 Kz (N:=["self", "row"]) (ps:=["self", "row"]) c mk kp gl (Va.mpr ⟨q1,(by intro p m;cases m)⟩) M ⟨rfl,rfl,rfl,by decide +kernel,rfl,by decide +kernel,by decide +kernel⟩ (λ_ _ _ _ _ _=>Rv λ_ _=>rfl) rfl (λ_ _ _ _ _ _ _ _=>(.cons ⟨_,_,_,_,_,_,rfl,mR rfl (.inl rfl),mR rfl (.inl rfl),rfl,q1⟩ .nil)) (by decide +kernel) (by decide +kernel) (by decide +kernel)
theorem Zs.all{K:UW}{h:Wb}{mg:Str->Option U1}(X:K.In h)(G:h.Ns VB mg): ∀{l:List Str},Zs K l-> ∀ x∈l,mg x=UX
 | [],_=>by simp_all
 | _::_,z=>Va.mpr ⟨ach X G z.1,Zs.all X G z.2⟩
theorem gK.go{aNoLines aLeastError aNoCut aNoFit aNoPaper aNoProgram aNoRow:Nat}{P:VE}{w:VY}{K:UW}{mg:Str->Option U1}{x:String}{n:Nat}{l:List (String × Nat)}{st:WV}{N:List Str}{b:String × Df}{m:List (String × Df)}(F:XF P w K mg aNoLines aLeastError aNoCut aNoFit aNoPaper aNoProgram aNoRow)(g:cN aNoLines (tb aNoLines)->XF P w K mg aNoLines aLeastError aNoCut aNoFit aNoPaper aNoProgram aNoRow->At K mg x (top n)->bI P w K mg (tb aNoLines) b.1 b.2 st N)(A:gK K mg ((x,n)::l))(r:gK K mg l-> ∀ p∈m,∃ st N,bI P w K mg (tb aNoLines) p.1 p.2 st N): ∀ p∈b::m,∃ st N,bI P w K mg (tb aNoLines) p.1 p.2 st N:=Va.mpr ⟨⟨_,_,g (has _) F A.1⟩,r A.2⟩
theorem all_mk{l:ZJ}{w:VY}{K:UW}{h:Wb}{mg:Str->Option U1}{fa:U9}(X:K.In h)(G:h.Ns VB mg)(hfa:mg "law" =UU (.ref fa)){aQj aQb aQi rQi0 rQi1 rQi2 rQi3 rQi4 rQi5 rQi6 rQi7 rQi8 rQi9 rQi10 rQi11 aQk aQf aNoLines aLeastError aNoCut aNoFit aNoPaper aNoProgram aNoRow:U9}{nQj nQb eQi nQiv0_ nQiv1_ nQiv2_ nQiv3_ nQiv4_ nQiv5_ nQiv6_ nQiv7_ nQiv8_ nQiv9_ nQiv10_ nQiv11_ eQk eQf:Nat}{sQj sQb sQiv0_ sQiv1_ sQiv2_ sQiv3_ sQiv4_ sQiv5_ sQiv6_ sQiv7_ sQiv8_ sQiv9_ sQiv10_ sQiv11_ slLeastError:Array (Option U1)}{tQj0 tQj1 tQj2 tQj3 tQj4 tQc tQd tQh tQa tQg tQb0 tQb1 tQb2 tQe qQi0 qQi1 qQi2 qQi3 qQi4 qQi5 qQi6 qQi7 qQi8 qQi9 qQi10 qQi11 tQiv0_0 tQiv0_1 tQiv1_0 tQiv1_1 tQiv2_0 tQiv2_1 tQiv3_0 tQiv3_1 tQiv4_0 tQiv5_0 tQiv6_0 tQiv6_1 tQiv7_0 tQiv7_1 tQiv8_0 tQiv8_1 tQiv9_0 tQiv10_0 tQiv10_1 tQiv11_0 tQiv11_1 qQk0 qQk1 qQk2 qQk3 qQk4 qQk5 vQk0 vQk1 vQk2 vQk3 vQk4 vQk5 qQf0 qQf1 qQf2 qQf3 qQf4 qQf5 qQf6 vQf0 vQf1 vQf2 vQf3 vQf4 vQf5 vQf6:Tok}{dQiv0_ dQiv1_ dQiv2_ dQiv3_ dQiv4_ dQiv5_ dQiv6_ dQiv7_ dQiv8_ dQiv9_ dQiv10_ dQiv11_ ddLeastError:Option U9}{cdLeastError:ClassData}
  (A:gK K mg [("is_word",14),("is_name",15),("writes_number",19),("line_of",22),("shown_number",23),("words_behind",24),("number_in",25),("number_or_none",26),("paper_lines",31),("touch_line",32),("shown_mark",33),("read_paper",34),("read_many",35),("touch_words",36),("read_look",37),("read_mark",38),("_law_feed",40),("_law_take",41),("_law_number",42),("_law_kinds",43),("_law_look",44),("_law_paper",45),("_law_shown",46),("_law_lines",47),("_law_is_figures",48),("_law_is_name",49),("_law_is_touch",50),("_law_stands",51),("_law_in",52),("_law_read",53),("_law_told",54),("_law_word",55),("_law_bent",56),("law",57)])
  (Z:Zs K fk)
  (wQj:VZ K VB "SORTS" =UU (UU (.ref aQj))) (oQj:K.lookup aQj=UU ⟨.type "tuple",UX,.seq #[.str "box" tQj0,.str "lock" tQj1,.str "lane" tQj2,.str "door" tQj3,.str "hand" tQj4] nQj,sQj⟩)
  (wQc:VZ K VB "LETTERS" =UU (UU (.str "abcdefghijklmnopqrstuvwxyz" tQc)))
  (wQd:VZ K VB "LONGEST_NAME" =UU (UU (.int 8 tQd)))
  (wQh:VZ K VB "MOST_OF_A_SORT" =UU (UU (.int 4 tQh)))
  (wQa:VZ K VB "FIGURES" =UU (UU (.str "0123456789" tQa)))
  (wQg:VZ K VB "MOST_NUMBER" =UU (UU (.int 9999999999999999999999999999999999999999 tQg)))
  (wQb:VZ K VB "GIFTED" =UU (UU (.ref aQb))) (oQb:K.lookup aQb=UU ⟨.type "tuple",UX,.seq #[.str "clock" tQb0,.str "lot" tQb1,.str "hear" tQb2] nQb,sQb⟩)
  (wQe:VZ K VB "LOOK_WORDS" =UU (UU (.int 4 tQe)))
  (oQiv0_:K.lookup rQi0=UU ⟨.type "tuple",dQiv0_,.seq #[.str "pocket" tQiv0_0,.str "sum" tQiv0_1] nQiv0_,sQiv0_⟩)
  (oQiv1_:K.lookup rQi1=UU ⟨.type "tuple",dQiv1_,.seq #[.str "target" tQiv1_0,.str "sum" tQiv1_1] nQiv1_,sQiv1_⟩)
  (oQiv2_:K.lookup rQi2=UU ⟨.type "tuple",dQiv2_,.seq #[.str "pocket" tQiv2_0,.str "box" tQiv2_1] nQiv2_,sQiv2_⟩)
  (oQiv3_:K.lookup rQi3=UU ⟨.type "tuple",dQiv3_,.seq #[.str "box" tQiv3_0,.str "sum" tQiv3_1] nQiv3_,sQiv3_⟩)
  (oQiv4_:K.lookup rQi4=UU ⟨.type "tuple",dQiv4_,.seq #[.str "lock" tQiv4_0] nQiv4_,sQiv4_⟩)
  (oQiv5_:K.lookup rQi5=UU ⟨.type "tuple",dQiv5_,.seq #[.str "lock" tQiv5_0] nQiv5_,sQiv5_⟩)
  (oQiv6_:K.lookup rQi6=UU ⟨.type "tuple",dQiv6_,.seq #[.str "lane" tQiv6_0,.str "sum" tQiv6_1] nQiv6_,sQiv6_⟩)
  (oQiv7_:K.lookup rQi7=UU ⟨.type "tuple",dQiv7_,.seq #[.str "pocket" tQiv7_0,.str "lane" tQiv7_1] nQiv7_,sQiv7_⟩)
  (oQiv8_:K.lookup rQi8=UU ⟨.type "tuple",dQiv8_,.seq #[.str "door" tQiv8_0,.str "sum" tQiv8_1] nQiv8_,sQiv8_⟩)
  (oQiv9_:K.lookup rQi9=UU ⟨.type "tuple",dQiv9_,.seq #[.str "pocket" tQiv9_0] nQiv9_,sQiv9_⟩)
  (oQiv10_:K.lookup rQi10=UU ⟨.type "tuple",dQiv10_,.seq #[.str "pocket" tQiv10_0,.str "chances" tQiv10_1] nQiv10_,sQiv10_⟩)
  (oQiv11_:K.lookup rQi11=UU ⟨.type "tuple",dQiv11_,.seq #[.str "pocket" tQiv11_0,.str "door" tQiv11_1] nQiv11_,sQiv11_⟩)
  (wQi:VZ K VB "ROW_PARTS" =UU (UU (.ref aQi))) (oQi:K.lookup aQi=UU { cls:= .type "dict",data:= .dict #[{ hash:=VD w.params "let",key:= .str "let" qQi0,val:= .ref rQi0},{ hash:=VD w.params "leap",key:= .str "leap" qQi1,val:= .ref rQi1},{ hash:=VD w.params "get",key:= .str "get" qQi2,val:= .ref rQi2},{ hash:=VD w.params "put",key:= .str "put" qQi3,val:= .ref rQi3},{ hash:=VD w.params "take",key:= .str "take" qQi4,val:= .ref rQi4},{ hash:=VD w.params "free",key:= .str "free" qQi5,val:= .ref rQi5},{ hash:=VD w.params "send",key:= .str "send" qQi6,val:= .ref rQi6},{ hash:=VD w.params "fetch",key:= .str "fetch" qQi7,val:= .ref rQi7},{ hash:=VD w.params "say",key:= .str "say" qQi8,val:= .ref rQi8},{ hash:=VD w.params "clock",key:= .str "clock" qQi9,val:= .ref rQi9},{ hash:=VD w.params "lot",key:= .str "lot" qQi10,val:= .ref rQi10},{ hash:=VD w.params "hear",key:= .str "hear" qQi11,val:= .ref rQi11}] eQi}) (yQi:(aQi == Xa)=false)
  (wQk:VZ K VB "SUM_PARTS" =UU (UU (.ref aQk))) (oQk:K.lookup aQk=UU { cls:= .type "dict",data:= .dict #[{ hash:=VD w.params "add",key:= .str "add" qQk0,val:= .int 2 vQk0},{ hash:=VD w.params "sub",key:= .str "sub" qQk1,val:= .int 2 vQk1},{ hash:=VD w.params "mul",key:= .str "mul" qQk2,val:= .int 2 vQk2},{ hash:=VD w.params "less",key:= .str "less" qQk3,val:= .int 2 vQk3},{ hash:=VD w.params "same",key:= .str "same" qQk4,val:= .int 2 vQk4},{ hash:=VD w.params "not",key:= .str "not" qQk5,val:= .int 1 vQk5}] eQk}) (yQk:(aQk == Xa)=false)
  (wQf:VZ K VB "MET_SORT" =UU (UU (.ref aQf))) (oQf:K.lookup aQf=UU { cls:= .type "dict",data:= .dict #[{ hash:=VD w.params "get",key:= .str "get" qQf0,val:= .str "box" vQf0},{ hash:=VD w.params "put",key:= .str "put" qQf1,val:= .str "box" vQf1},{ hash:=VD w.params "take",key:= .str "take" qQf2,val:= .str "lock" vQf2},{ hash:=VD w.params "free",key:= .str "free" qQf3,val:= .str "lock" vQf3},{ hash:=VD w.params "send",key:= .str "send" qQf4,val:= .str "lane" vQf4},{ hash:=VD w.params "fetch",key:= .str "fetch" qQf5,val:= .str "lane" vQf5},{ hash:=VD w.params "say",key:= .str "say" qQf6,val:= .str "door" vQf6}] eQf}) (yQf:(aQf == Xa)=false)
  (wNoLines:VZ K VB "NoLines" =UU (UU (.ref aNoLines)))
  (wLeastError:VZ K VB "LeastError" =UU (UU (.ref aLeastError)))
  (wNoCut:VZ K VB "NoCut" =UU (UU (.ref aNoCut)))
  (wNoFit:VZ K VB "NoFit" =UU (UU (.ref aNoFit)))
  (wNoPaper:VZ K VB "NoPaper" =UU (UU (.ref aNoPaper)))
  (wNoProgram:VZ K VB "NoProgram" =UU (UU (.ref aNoProgram)))
  (wNoRow:VZ K VB "NoRow" =UU (UU (.ref aNoRow)))
  (xNoLines:(aau K aNoLines).any (λcd=>Cf cd.mro)=true) (yNoLines:Ze K aNoLines=true) (oNoLines:Wq K aNoLines (.type "object")=UU true) (bNoLines:Wq K aNoLines (.type "BaseException")=UU true) (sNoLines:Vw K (.ref aNoLines) "__setattr__" =UU (UU (.builtin "object.__setattr__"))) (gNoLines:Vw K (.ref aNoLines) "__getattribute__" =UU (UU (.builtin "BaseException.__getattribute__"))) (tNoLines:Vw K (.ref aNoLines) "__getattr__" =UU UX) (cNoLines:Vw K (.ref aNoLines) "__class__" =UU (UU (.builtin "object.__class__"))) (mkNoLines:iX K aNoLines=true) (kpNoLines:Wh K (.ref aNoLines)=true)
  (fNoLines_row:Vw K (.ref aNoLines) "row" =UU UX)
  (MX:Ta K [(aNoLines, "__init__", "NoLines.__init__",6,0)])
  (lLeastError:K.lookup aLeastError=UU ⟨.type "type",ddLeastError,.cls cdLeastError,slLeastError⟩) (bLeastError:Wq K aLeastError (.type "BaseException")=UU true)
  (uLeastError_NoLines:Wq K aNoLines (.ref aLeastError)=UU true)
  (i0_NoLines:WG K (.ref aNoLines) (abv Vo [aNoCut,aNoFit,aNoPaper,aNoProgram,aNoRow])=UU false)
  (i1_NoLines:WG K (.ref aNoLines) [.ref aNoLines]=UU true)
  (i2_NoLines:WG K (.ref aNoLines) [.type "ValueError"]=UU true)
  (vV:VZ K VB "ValueError" =UU UX) :
  ∃ fd:Xx,(∀(s:U5)(v:U1),aak s fd ⟨[v],[]⟩ [("_law_script",v)])/\ ∀ base:Wb,K.In base->base.Ns VB mg->ig l.prog w K mg base (i8 l.prog w) (room+1) fa fd ["_law_script"] (kb K (tb aNoLines) (room+1) "law"):=by
 have T:Top l.prog w K mg (tb aNoLines):=⟨Zs.all X G Z,Dk (conT:=conT) rfl (Va.mpr ⟨v3 (us:=[.str "box" tQj0,.str "lock" tQj1,.str "lane" tQj2,.str "door" tQj3,.str "hand" tQj4]) (V0 X G wQj) oQj (by show 5<=Vj;decide) (.cons (.str _ _) (.cons (.str _ _) (.cons (.str _ _) (.cons (.str _ _) (.cons (.str _ _) .nil))))),(Va.mpr ⟨km (V0 X G wQc) (.str _ _),(Va.mpr ⟨km (V0 X G wQd) (.int _ _),(Va.mpr ⟨km (V0 X G wQh) (.int _ _),(Va.mpr ⟨km (V0 X G wQa) (.str _ _),(Va.mpr ⟨km (V0 X G wQg) (.int _ _),(Va.mpr ⟨v3 (us:=[.str "clock" tQb0,.str "lot" tQb1,.str "hear" tQb2]) (V0 X G wQb) oQb (by show 3<=Vj;decide) (.cons (.str _ _) (.cons (.str _ _) (.cons (.str _ _) .nil))),(Va.mpr ⟨km (V0 X G wQe) (.int _ _),(by intro p m;cases m)⟩)⟩)⟩)⟩)⟩)⟩)⟩)⟩),Gi (dcT:=dcT) rfl (Va.mpr ⟨uN (ls:=[("let",qQi0,.ref rQi0),("leap",qQi1,.ref rQi1),("get",qQi2,.ref rQi2),("put",qQi3,.ref rQi3),("take",qQi4,.ref rQi4),("free",qQi5,.ref rQi5),("send",qQi6,.ref rQi6),("fetch",qQi7,.ref rQi7),("say",qQi8,.ref rQi8),("clock",qQi9,.ref rQi9),("lot",qQi10,.ref rQi10),("hear",qQi11,.ref rQi11)]) (V0 X G wQi) oQi yQi (show([.inr "let",.inr "leap",.inr "get",.inr "put",.inr "take",.inr "free",.inr "send",.inr "fetch",.inr "say",.inr "clock",.inr "lot",.inr "hear"]:List Key).Nodup by decide +kernel) (.cons ⟨rfl,dY (us:=[.str "pocket" tQiv0_0,.str "sum" tQiv0_1]) oQiv0_ (by show 2<=Vj;decide) (.cons (.str _ _) (.cons (.str _ _) .nil))⟩ (.cons ⟨rfl,dY (us:=[.str "target" tQiv1_0,.str "sum" tQiv1_1]) oQiv1_ (by show 2<=Vj;decide) (.cons (.str _ _) (.cons (.str _ _) .nil))⟩ (.cons ⟨rfl,dY (us:=[.str "pocket" tQiv2_0,.str "box" tQiv2_1]) oQiv2_ (by show 2<=Vj;decide) (.cons (.str _ _) (.cons (.str _ _) .nil))⟩ (.cons ⟨rfl,dY (us:=[.str "box" tQiv3_0,.str "sum" tQiv3_1]) oQiv3_ (by show 2<=Vj;decide) (.cons (.str _ _) (.cons (.str _ _) .nil))⟩ (.cons ⟨rfl,dY (us:=[.str "lock" tQiv4_0]) oQiv4_ (by show 1<=Vj;decide) (.cons (.str _ _) .nil)⟩ (.cons ⟨rfl,dY (us:=[.str "lock" tQiv5_0]) oQiv5_ (by show 1<=Vj;decide) (.cons (.str _ _) .nil)⟩ (.cons ⟨rfl,dY (us:=[.str "lane" tQiv6_0,.str "sum" tQiv6_1]) oQiv6_ (by show 2<=Vj;decide) (.cons (.str _ _) (.cons (.str _ _) .nil))⟩ (.cons ⟨rfl,dY (us:=[.str "pocket" tQiv7_0,.str "lane" tQiv7_1]) oQiv7_ (by show 2<=Vj;decide) (.cons (.str _ _) (.cons (.str _ _) .nil))⟩ (.cons ⟨rfl,dY (us:=[.str "door" tQiv8_0,.str "sum" tQiv8_1]) oQiv8_ (by show 2<=Vj;decide) (.cons (.str _ _) (.cons (.str _ _) .nil))⟩ (.cons ⟨rfl,dY (us:=[.str "pocket" tQiv9_0]) oQiv9_ (by show 1<=Vj;decide) (.cons (.str _ _) .nil)⟩ (.cons ⟨rfl,dY (us:=[.str "pocket" tQiv10_0,.str "chances" tQiv10_1]) oQiv10_ (by show 2<=Vj;decide) (.cons (.str _ _) (.cons (.str _ _) .nil))⟩ (.cons ⟨rfl,dY (us:=[.str "pocket" tQiv11_0,.str "door" tQiv11_1]) oQiv11_ (by show 2<=Vj;decide) (.cons (.str _ _) (.cons (.str _ _) .nil))⟩ .nil)))))))))))),(Va.mpr ⟨uN (ls:=[("add",qQk0,.int 2 vQk0),("sub",qQk1,.int 2 vQk1),("mul",qQk2,.int 2 vQk2),("less",qQk3,.int 2 vQk3),("same",qQk4,.int 2 vQk4),("not",qQk5,.int 1 vQk5)]) (V0 X G wQk) oQk yQk (show([.inr "add",.inr "sub",.inr "mul",.inr "less",.inr "same",.inr "not"]:List Key).Nodup by decide +kernel) (.cons ⟨rfl,gB (.int _ _)⟩ (.cons ⟨rfl,gB (.int _ _)⟩ (.cons ⟨rfl,gB (.int _ _)⟩ (.cons ⟨rfl,gB (.int _ _)⟩ (.cons ⟨rfl,gB (.int _ _)⟩ (.cons ⟨rfl,gB (.int _ _)⟩ .nil)))))),(Va.mpr ⟨uN (ls:=[("get",qQf0,.str "box" vQf0),("put",qQf1,.str "box" vQf1),("take",qQf2,.str "lock" vQf2),("free",qQf3,.str "lock" vQf3),("send",qQf4,.str "lane" vQf4),("fetch",qQf5,.str "lane" vQf5),("say",qQf6,.str "door" vQf6)]) (V0 X G wQf) oQf yQf (show([.inr "get",.inr "put",.inr "take",.inr "free",.inr "send",.inr "fetch",.inr "say"]:List Key).Nodup by decide +kernel) (.cons ⟨rfl,gB (.str _ _)⟩ (.cons ⟨rfl,gB (.str _ _)⟩ (.cons ⟨rfl,gB (.str _ _)⟩ (.cons ⟨rfl,gB (.str _ _)⟩ (.cons ⟨rfl,gB (.str _ _)⟩ (.cons ⟨rfl,gB (.str _ _)⟩ (.cons ⟨rfl,gB (.str _ _)⟩ .nil))))))),(by intro p m;cases m)⟩)⟩)⟩),⟨(λ_ _ e=>nomatch e),λ_ _ e=>nomatch e⟩,λ_ _ _ _ _ e=>nomatch e⟩
 have F:XF l.prog w K mg aNoLines aLeastError aNoCut aNoFit aNoPaper aNoProgram aNoRow:=⟨uO (jC xNoLines yNoLines oNoLines bNoLines sNoLines gNoLines tNoLines) mkNoLines kpNoLines (V0 X G wNoLines) fNoLines_row MX.1,⟨V0 X G wLeastError,⟨⟨_,_,_,lLeastError⟩,bLeastError⟩,(Va.mpr ⟨uLeastError_NoLines,(by intro p m;cases m)⟩)⟩,(mN ⟨jC xNoLines yNoLines oNoLines bNoLines sNoLines gNoLines tNoLines,cNoLines⟩ i0_NoLines rA),(mN ⟨jC xNoLines yNoLines oNoLines bNoLines sNoLines gNoLines tNoLines,cNoLines⟩ i1_NoLines rA),(mN ⟨jC xNoLines yNoLines oNoLines bNoLines sNoLines gNoLines tNoLines,cNoLines⟩ i2_NoLines rA),V0 X G wNoCut,V0 X G wNoFit,V0 X G wNoPaper,V0 X G wNoProgram,V0 X G wNoRow,V0 X G wNoLines,ach X G vV,Zs.all X G Z _ (by decide +kernel),(Va.mpr ⟨⟨jC xNoLines yNoLines oNoLines bNoLines sNoLines gNoLines tNoLines,fNoLines_row⟩,(by intro p m;cases m)⟩)⟩
 refine K2 T (A6 (fnT:=fnT aNoLines) rfl ?_) (has _).HQ rfl (Ia (has _) F A.2.2.2.2.2.2.2.2.2.2.2.2.2.2.2.2.2.2.2.2.2.2.2.2.2.2.2.2.2.2.2.2.2.1) hfa;exact gK.go F yy A λA=>gK.go F yh A λA=>gK.go F lB A λA=>gK.go F xQ A λA=>gK.go F ow A λA=>gK.go F mW A λA=>gK.go F ur A λA=>gK.go F kI A λA=>gK.go F o9 A λA=>gK.go F q9 A λA=>gK.go F rQ A λA=>gK.go F rV A λA=>gK.go F tN A λA=>gK.go F pf A λA=>gK.go F tY A λA=>gK.go F sS A λA=>gK.go F uG A λA=>gK.go F sH A λA=>gK.go F oI A λA=>gK.go F rR A λA=>gK.go F sL A λA=>gK.go F qy A λA=>gK.go F qz A λA=>gK.go F qA A λA=>gK.go F jX A λA=>gK.go F mZ A λA=>gK.go F lE A λA=>gK.go F oH A λA=>gK.go F zf A λA=>gK.go F tR A λA=>gK.go F tU A λA=>gK.go F uv A λA=>gK.go F sA A λA=>gK.go F Ia A λ_ p m=>nomatch m
theorem walk{aNoLines:Nat}{l:ZJ}{q:VE}{loose:List Str}{XP:(Str->Option U1)->Wb->Prop}{YP:VY->Wb->Prop}{d:DefRec}{K:Params->UW}(hn:l.most=UU 63)(hdf:d.params.defaults=[])
  (hY: ∀(w:VY)(h:Wb),YP w h->(K w.params).In h)
  (F: ∀(w:VY)(mg:Str->Option U1)(fa:U9)(h:Wb),(K w.params).In h->h.Ns VB mg->mg d.name=UU (.ref fa) ->
   ∃ fd:Xx,(∀(s:U5)(u:U1),aak s fd ⟨[u],[]⟩ [("_law_script",u)])/\ ∀ base:Wb,(K w.params).In base->base.Ns VB mg->ig l.prog w (K w.params) mg base (i8 l.prog w) (room+1) fa fd ["_law_script"] (kb (K w.params) (tb aNoLines) (room+1) "law")) :
  ac3 q loose XP YP l.row.toRowW d [] (λf vs=>ac8 f vs) :=
 L2.Eu (n:=63) (k:=room+1) (x:= "_law_script") (CX:=λw=>i8 l.prog w) (sp:=λw=>kb (K w.params) (tb aNoLines) (room+1) "law") hn (by decide) hdf ⟨rfl,by decide,by decide,rfl⟩ hY F (λ_ H a ns hl hO hS=>LJ (Af aNoLines) H a ns hl hO hS) λ_ _ _ _ _ ⟨_,_,_,_,_,_,_,_,_,_,z⟩=>z
end K72
open PySem PySem.W PyProof.Rows
set_option maxRecDepth 100000 in
set_option maxHeartbeats 0 in
theorem PySem.Challenge.cw_leastrecord_k72_papers_as_lines_holds : PySem.Challenge.rw_leastrecord_k72_papers_as_lines.Holds := by
 w_on;o_law;k_head;(case hw=>w_witness2)
 k_fill
 refine K72.walk (l:=PySem.Challenge.rw_leastrecord_k72_papers_as_lines) (aNoLines:=?aNoLines) rfl rfl (λw h Y=>PySem.W.kIn_of Y) ?F
 case F =>
  intro w mg fa h KX G hmg
  refine' K72.all_mk KX G hmg ?A ?Z ?_ ?_ ?_ ?_ ?_ ?_ ?_ ?_ ?_ ?_ ?_ ?_ ?_ ?_ ?_ ?_ ?_ ?_ ?_ ?_ ?_ ?_ ?_ ?_ ?_ ?_ ?_ ?_ ?_ ?_ ?_ ?_ ?_ ?_ ?_ ?_ ?_ ?_ ?_ ?_ ?_ ?_ ?_ ?_ ?_ ?_ (P3.MV ?_ ?_ ?_ ?_ ?_ ?_ ?_ ?_) ?_ ?_ ?MX ?_ ?_ ?_ ?_ ?_ ?_ ?_
  case' A=>repeat' first | exact trivial | refine' Zz (L2.Pc KX G ?_ ?_ ?_ ?_) ?_
  case' MX=>repeat' first | exact trivial | refine' Zz (P3.Qy ?_ ?_ ?_ ?_ ?_) ?_
  case' Z=>repeat' first | exact trivial | refine' Zz ?_ ?_
  all_goals try k_is
  all_goals try k_is
  all_goals try exact rfl
  all_goals try k_is
  all_goals try k_is
  all_goals exact rfl
end
end
end
