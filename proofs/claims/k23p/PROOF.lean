import PyProof.Rows.All
import Wide.All
import OpenK.AllK
import Wide.FinOn
import Lean
import PyProof.EqAt
import PyProof.EqKinds
import PyProof.TupleCall
import KE.KDictSum
import PyProof.AttrMissHeap
import PyProof.WalksMore
import KE.LcSums
import PyProof.AutoListH
import PyProof.ListMulRoad
import KE.KSortTup
import PyProof.ZipIter
import PyProof.Draws
import PyProof.EnumFor
import PyProof.ReprRoads
import PyProof.ListRange
import PySem.Challenge.RW_leastrecord_k23_runs_walked
open PySem.W renaming Frag->UL,nsIn->Vo,mg_none_of->Vp,fnOf->V3,kia_one->V7,mg_of->Wj,emptyDict->Wu,instObj->W8,keepIn->Xo,kas_sort->XC,findIn->Yo,cellsFrom_some->Yp,OpenLaw->YM,codeIn->YU,kia_tup->Y6,kitOne->Ze,methodObj->Zu,kitx_list->ZG,kitx_dict->ZH,lookIn->aaL,kitAny->aaU,specialIn->abC,plainGet->abY,kitx_float->aco,kitx_tuple->acp,WalkO->acx,isFn->acB
open List renaming forall_mem_cons->UM,length_map->UO,getElem?_eq_some_iff->UP,map_cons->US,length_cons->UU,getElem?_eq_getElem->UW,mem_of_getElem?->UX,replicate->UY,mem_cons->U1,mem_cons_self->U3,size_toArray->U4,length_append->U5,mem_cons_of_mem->U6,getElem?_map->U8,map_nil->Vh,getElem?_cons_succ->Vi,nil_append->Vj,length_nil->Vk,mem_append_right->Vl,not_mem_nil->Vm,getElem?_append_right->Vq,length_set->Vr,append_assoc->Vs,mem_map->Vv,filter_cons_of_pos->Vw,getElem?_set_self->Vx,getElem?_append_left->Vy,length_take->VC,append_nil->VF,map_append->VG,filter_cons_of_neg->VI,mem_singleton->VL,map_map->VN,mem_or_eq_of_mem_set->VS,mem_append->VT,getElem?_set_ne->VU,range->VX,getD_eq_getElem?_getD->VY,cons_append->VZ,drop_eq_nil_of_le->V9,getElem?_eq_none_iff->Wb,getElem?_eq_none->Wf,any_cons->Wi,mem_filter->Wl,length_drop->Wn,getElem_mem->Wq,take_of_length_le->Wv,replicate_succ->Wz,filterMap_cons_none->WE,filterMap_cons_some->WG,find?_cons->WM,lookup_cons->WV,nodup_cons->Xa,flatten_cons->Xd,pairwise_map->Xg,map_congr_left->Xl,mem_range->Xm,getElem?_replicate->Xp,pairwise_mergeSort->Xr,filterMap_eq_map'->Xw,forIn_cons->XA,length_range->XM,nodup_append->XN,mem_append_left->XQ,perm_ext_iff_of_nodup->XR,drop_eq_getElem_cons->XZ,mem_of_find?_eq_some->X0,mergeSort_perm->X3,filter_sublist->X4,all_cons->X8,length_singleton->Yx,length_filter_le->Yz,all_eq_true->YE,eq_nil_of_length_eq_zero->YQ,mem_of_mem_take->YR,getElem?_mapIdx->YS,headD_cons->YY,filterMap_cons->YZ,idxOf_lt_length_of_mem->Y9,mem_filterMap->Zd,pairwise_cons->Zm,getElem?_inj->ZC,map_take->ZR,getElem?_cons_zero->ZZ,pairwise_singleton->Z4,take_length->Z7,not_of_lt_findIdx->aar,of_mem_zip->aat,find?_some->aay,length_replicate->aaA,set_append_right->aaF,set_getElem_self->aaG,length->aaM,drop_zero->aaR,set_append_left->aaV,mem_of_mem_drop->aa0,getElem?_range->aa8,length_pos_iff->abc,getElem_of_mem->abd,map_drop->abi,foldl->abu,set_cons_zero->aby,getElem?_take->abz,getElem_idxOf->abB,ext_getElem?->abP,getElem?_set->abU,range'_succ->ab5,any_eq_true->ab6,range'->acg,map_id->ach,forIn_nil->acr,map->acu,tail_cons->acv
open PySem renaming wpAny_bind->UN,Shared->UR,wpAny_pure->UZ,mainGlobals->Vc,Program->Vg,compareOp->Vu,Around->Vz,wpAny_mono->VB,starEach->VD,foldedSetIterable->VP,Paired->V2,assignEach->V4,sysModules->V6,bootBuiltins->V8,binaryOp->Wa,wpAny_field->Wc,wpAny_newObj_type->We,behindInMarks->Wg,wpAny_ite_split->Wm,wpAny_callSpecial?_slot->Wo,wpAny_holding->Ws,FuncData->WB,wpAny_call_entry->WC,wpAny_pyIter_tuple->WD,wpAny_seqItems->WI,wpAny_truthy_bool->WJ,call_meets->WL,compEnvC->WN,wpAny_setField_rec->W3,PyData->W4,wpAny_passesOwn->W9,cellsFrom->Xb,wpAny_load->Xh,attributeBase->Xi,mem_of_lookup->Xk,tupleKind_room_in1->Xt,Builtin->Xv,bindArgs->Xx,NameKind->Xy,swapsWith->XF,wpAny_typeOf->XW,wpAny_execs_nil->Yd,sliceBounds->Yj,backTo->Ym,assign->Yn,IsPair->Yt,wpAny_newList->YI,wpAny_onRaise->YJ,wpAny_updateSeq_pair->YO,letOwnedTupleGo->YT,codeAny_builtin->YV,holding->Y0,getItem->Y3,wpAny_Call_Name_kw->Zf,wpAny_binaryOp_repeat_ref->Zr,subscripted->Zx,swapsWithSole->ZE,swappedStores->ZF,wpAny_comprehension_free->ZJ,tupleKind->ZS,PassesOwn->ZT,noFill_tuple_add->ZV,pushCells->ZY,BindsTo->aaa,codeAny->aab,IsPart->aac,typeIs_int->aaf,wpAny_Call_method_late->aag,valueAt->aai,wpAny_rule->aal,wpAny_specialOf->aau,pushCells_keeps->aaw,wpAny_isTrue_Compare1->aaz,getitemInPython_of_ne->aaC,wpAny_notOrdered_dict->aaD,wpAny_letTemporaryGo->aaN,newFunctionEnv->aaO,Keyword->aa2,callerA->aa3,DictEntry->aa4,wpAny_standAt->abf,seq_tuple_add->abg,rawInt->abo,typeIs_str->abq,PlainAttrs->abt,codeAny_mono->abD,concat_meets->abE,seqIndex_neg->abF,ZipApart->abQ,isTrue->abV,pyNext->abW,pyIter->abX,seqSlot_of->ab2,sizeLine_eq->ab8,seqIndex_of->ab9,keywordEach->aca,wpAny_letGo->ace,standAt->acm,call->acq,Within->acz
open PySem.Heap renaming get?_push_of_some->UQ,lt_size->U2,get?_push_size->U7,size_push->VW,push->Wr,get?_none_of_le->WH,get?_push_ne->Ys,size_update->Z3,SameBut->Z9,get?_update_other->aae,get?_update_self->aaB,get?_update_ne->aa7,IsTuple->abR
open Nat renaming le_refl->UT,lt_of_lt_of_le->U0,ne_of_lt->Vf,le_trans->Vn,lt_irrefl->VJ,zero_le->VM,le_of_lt->WO,ne_of_gt->WQ,lt_or_ge->WS,lt_succ_of_lt->Xe,le_succ_of_le->Xf,lt_succ_self->XU,min_eq_left->Yf,min_le_right->YD,min_eq_right->YF,not_lt_zero->YW,lt_trans->Y4,lt_of_le_of_lt->Zj,lt_of_lt_of_eq->Zk,le_succ->Zy,succ_le_succ->ZW,add_sub_cancel_left->Z6,add_comm->aah,le_total->aam,zero_add->aan,lt_of_succ_lt_succ->aaq,ble->aa5,add_assoc->abj,not_lt->abw,mul_comm->abG,lt_succ_of_le->abH,sub_zero->abM,add_zero->abS
open Bool renaming and_eq_true->U9,false_ne_true->Vb,not_eq_true'->WK,false_eq_true->WZ,or_eq_true->XB,and_true->XG,and_self->Ya,eq_iff_iff->Ye,false_and->aaK,true_and->abk,false_or->acy
open PySem.Str renaming ofString->Va,ofString_eq_toList->aap
open Option renaming getD_some->Vd,map_some->Xc,isSome_iff_exists->X6,isSome_map->Zz,isSome_some->abv,getD_none->abZ,none->acF
open PySem.Value renaming ref->Ve,none->WW,type->XO,int->XT,str->YC,bool->Zb,float->ab7,isStrOf->acw
open PySem.PyData renaming keyHash->Vt,canLayAll0->Wx,leavesShort->W6,depthAll->XD,list->XS,strOk->Yv,leavesShortAll->YB,str->YH,showable->YX,tuple->Y8,eqv->Zl,int->Zo,showableAll->Zp,canLay0->Zq,hasDictAll->ZD,shown_fits_bulk->aas,hasDict->aaY,bulkAll->aaZ,depth->abT,bulk->aci
open Array renaming getD_eq_getD_getElem?->VA,getElem?_eq_getElem->VR,length_toList->Wy,getElem?_toList->XH,append_assoc->abn,toList_inj->ab3,toList->acA
open Option.some renaming inj->VE,injEq->XJ
open Int renaming toNat_natCast->VH,eq_ofNat_of_zero_le->V0,emod_lt_of_pos->W5,emod_nonneg->XE,zero_add->Yu,toNat->Za,toNat_of_nonneg->abb,natCast_mul->ack
open PySem.AutoSeq1 renaming wpAny_loadPart'->VO,idx_int->Z8
open PyProof.Rows renaming slot_tuple_getitem->VQ,callWith_type1->V5,seqObj->Xu,StrsAre->Y5,isStrOf->Y7,envOfC->Zg,AllBare->Zv,sortedS->ZA,subscriptTail->ZI,listUpdate_at->ZN,subscriptTail_builtinR->aad,sortedHeap->aak,entry_list_sort->aax,slot_list_sort->aaH,args_list_sort->aaI,entry_tuple_getitem->aa6,Constant_none->abe,sortedAll_old->abh,args_tuple_getitem->abp,plain_sorted->abI,entry_sorted->abJ,args_sorted1->abK,sortedAll_at->abL,SortKind->abN,listItems_at->abO,sortedAll->ab4,kind_sorted->acb,seqEpoch_at->acd,IntsAre->acn
open PySem.Builtin.SmallTypes renaming nextOf->V1,ownedTupleIsFree->Yb,ownedTupleHandOut->aba
open PySem.Builtin.Tuple renaming tupleExact->Wh,tupleItemsOf->Zi,tupleTooMany->Zn
open False renaming elim->Wt
open PySem.F renaming slot_tuple_iterator_next->Ww,slot_tuple_mul->WR,slot_zip_next->XI,args_tuple_add_2->X7,args_tuple_mul_2->Yc,args_tuple_iterator_next_1->Yh,entry_tuple_add->Yi,entry_tuple_mul->Yk,entry_tuple_iterator_next->Yl,slot_tuple_add->Yq,slot_dict_get->Yy,slot_dict_getitem->Zs,slot_str_eq_refl->ZM,plainAttrs_tuple->ZO,slot_tuple_index->ZP,type_tuple_index->ZQ,args_dict_get_3->ZX,slot_tuple_rmul->Z2,args_zip_next_1->Z5,entry_dict_get->aaj,entry_zip_next->aao,slot_int_rmul->aaE,sub_str_dict->aaS,slot_dict_eq->aaT
open Sum renaming inr->WA,inl->aa1
open PySem.NameKind renaming free->WT,cell->WU
open True renaming intro->WX
open PySem.Obj renaming mapSeq->WY,data_mapFields->abx
open PySem.Builtin.Slice renaming slicePlaces->W7,sliceAdjust->XX,sliceApplied->Zh
open Ne renaming symm->Xj
open PySem.Builtin.Str renaming occurrences->Xn
open PySem.Builtin.Dict renaming updateFrom->Xq,addKeywords->ZK,selfAndRest->ZL
open List.Nodup renaming length_le_of_subset->Xs
open ForInStep renaming yield->Xz
open PySem.Calls renaming call_function_entry->XY,spliced_cons->Yg,callWith_builtin->Yr,evalArgs_plain->YL,Name_function_global->Zc,spliced_nil->Zw
open PySem.Paired renaming length->X5,snoc->acG
open PySem.Builtin.List renaming listTooLong->X9,listExtendWith->YG
open Decidable renaming byContradiction->Zt
open PySem.Builtin.Range renaming rangeSize->ZU
open PySem.Heap.DictOf renaming new->aav
open Sum.inr renaming inj->aaJ
open PySem.Around renaming under_plainId->aaP
open Or renaming inr->aaQ,inl->ab1
open Std.Legacy.Range renaming forIn_eq_forIn_range'->aaW,size->acD
open List.Pairwise renaming of_map->aaX
open PySem.Heap.SameBut renaming update->aa9
open PySem.SeqAt.EqAt renaming int_str->abl,str_int->abm,str_str->abr
open Char renaming toNat->abA
open And renaming intro->ab0
open PySem.Shared renaming heap->acf
open List.cons renaming injEq->acj
open List.Perm renaming refl->acs
open Exists renaming intro->acC
open PySem.IsRange renaming new->acE
open PySem.Heap.IsSliceOf renaming new->acH
set_option genSizeOf false
set_option compiler.extract_closed false
set_option bootstrap.genMatcherCode false
namespace PySem.W.Fast
def tw14563381978761582881:=0
def tw8504719090822021079:=0
def tw17584988862094546497:=0
def tw10777911635968815898:=0
def tw7135072707479084562:=0
def tw10190903100214453515:=0
def tw12561668665967519268:=0
def tw5652427265638661860:=0
def tw929668858519337378:=0
def tw2487071194146603723:=0
def tw7599465310953430570:=0
def tw17671239992165464989:=0
def tw11300184833163278787:=0
def tw13536409608307134358:=0
def tw5703332442790654630:=0
def tw3922471183195439051:=0
def tw12648567783279875929:=0
def tw10589316915392240815:=0
def tw283958240810096277:=0
def tw6964693021546304634:=0
def tw8906727016162565815:=0
def tw13661039250321441905:=0
def tw10943014969545698722:=0
def tw10781538122439104087:=0
def tw11563741300679572997:=0
def tw12442548840647117119:=0
def tw6392955081376664266:=0
def tw18006064978748578506:=0
def tw12029292525694384293:=0
def tw7763613626062642996:=0
def tw10726128369787842258:=0
def tw1455282848056306480:=0
def tw15060011978732324743:=0
def tw614443407320906821:=0
def tw6796768146964411736:=0
def tw2855585348228780734:=0
def tw5349208950512547309:=0
def tw6584639088572008357:=0
def tw14857371738326385941:=0
def tw7701403913281267606:=0
def tw12810144124740875584:=0
def tw14932047601166971338:=0
def tw5122509439510807171:=0
def tw16390306505118548180:=0
def tw214609203485405198:=0
def tw15414826411750623458:=0
def tw14905502297143358504:=0
def tw5565060677805831144:=0
def tw29108523592197112:=0
def tw11144740572971038763:=0
def tw10521474935667753359:=0
def tw17717252309238322715:=0
def tw10154405591961716331:=0
def tw9737835207336023489:=0
def tw6280382009238701967:=0
def tw16650094653310103285:=0
def tw14552097333582103903:=0
def tw15469743036468317251:=0
def tw8970691626015297106:=0
def tw459086937409170958:=0
def tw10029480723068387559:=0
def tw4548276933877964652:=0
def tw10785402372365444557:=0
def tw17421515304302842211:=0
def tw6792511718771523145:=0
def tw6670024276665806054:=0
def tw14794077895506507376:=0
def tw12999861392864088918:=0
def tw7213731549510857273:=0
def tw12597890601952805518:=0
def tw16361956703384432033:=0
def tw14474254648864305810:=0
def tw7336838979360705994:=0
def tw964092836859314771:=0
def tw9784235064179328195:=0
def tw7111200828657216643:=0
def tw2962011047175954619:=0
def tw4853923127154347213:=0
def tw2833660188743492940:=0
def tw6513345393336227168:=0
def tw2506265362088032405:=0
def tw1003750774003591014:=0
def tw4445493066937778383:=0
def tw2485024462859446362:=0
def tw2215186953674182158:=0
def tw6152746123732545319:=0
def tw11275921693379469933:=0
def tw9779469936340848861:=0
def tw2860593840638353333:=0
def tw8356509699984606578:=0
def tw7353594099917285931:=0
def tw8482216687310138742:=0
def tw12135288316407918604:=0
def tw8989406949182540559:=0
def tw13371242795064824828:=0
def tw9737456989248804803:=0
def tw4049086255791794463:=0
def tw12662338482201608664:=0
def tw206775820491657598:=0
def tw4415141404185529676:=0
def tw13454482302913209203:=0
def tw15135202142969919140:=0
def tw14804351469695846050:=0
def tw12178008847617590651:=0
def tw7871634178177132754:=0
def tw5709052001773433178:=0
def tw1991382635019907838:=0
def tw7510972002063879701:=0
def tw367615029942629312:=0
def tw17863017303255222020:=0
def tw3726030964060821378:=0
def tw6623944995050593084:=0
def tw10808938732424654874:=0
def tw9251642106641194376:=0
def tw14256003132878389487:=0
def tw3728199405435542487:=0
def tw9979018431893147539:=0
def tw5271882812467630777:=0
def tw3380760834729151965:=0
def tw2989103158307871379:=0
def tw6725534335249476954:=0
def tw17973033937771161581:=0
def tw11571077271222081102:=0
def tw12821369967364564943:=0
def tw5036294240367817815:=0
def tw16352514643689220847:=0
def tw3026031228065681161:=0
def tw15405393076832428674:=0
def tw15140078970582195354:=0
def tw12224910064626382557:=0
def tw2392782111172052953:=0
def tw9965405180057460594:=0
def tw13148189307574218716:=0
def tw10571162996443108110:=0
def tw4740977423973860368:=0
def tw7179947437429657560:=0
def tw3854946134965304884:=0
def tw13327170541065588762:=0
def tw13247283099346071554:=0
def tw269612099853702200:=0
def tw3897333606449413036:=0
def tw2806449577391537980:=0
def tw14264732528910466547:=0
def tw8758068786124988974:=0
def tw3541438654580205663:=0
def tw18156942063105999451:=0
def tw9988774242860268808:=0
def tw17399484030619807828:=0
def tw15989179340433840875:=0
def tw6840725773965891317:=0
def tw7043243418211747291:=0
def tw11168021207310003910:=0
def tw18441996962034249899:=0
def tw14933502757616893293:=0
def tw12956700887923028415:=0
def tw5944623726494698961:=0
def tw14515731940466997939:=0
def tw3018014128020341960:=0
def tw15885466340705105723:=0
def tw16035135437214348915:=0
def tw4341367266780596058:=0
def tw10672284601456653676:=0
def tw1894173045294629864:=0
def tw3771267138733871510:=0
def tw5142034326218408913:=0
def tw8132202957712981515:=0
def tw6941328517882924051:=0
def tw17902893389539524907:=0
def tw17586184707159094253:=0
def tw16144477557802366691:=0
def tw1755713980358524345:=0
def tw2042340103669711135:=0
def tw1704725653214922209:=0
def tw11807848621136262684:=0
def tw10002766923600476258:=0
def tw11764170918061610751:=0
def tw2334791753650156747:=0
def tw10529767929216020988:=0
def tw443851223707885045:=0
def tw5362256289016294984:=0
def tw498635447179696618:=0
def tw472098985175699279:=0
def tw1458134678103649277:=0
def tw14900365207311293917:=0
def tw6989873432953962165:=0
def tw10390538783203906098:=0
def tw4905604739758730180:=0
def tw6835325531549314350:=0
def tw13421650938526710747:=0
def tw365166175551602700:=0
def tw12371177121520801564:=0
def tw7224675910077753834:=0
def tw10453595469428114343:=0
def tw6245680174070936676:=0
def tw11468621884326268999:=0
def tw10469304840236661487:=0
def tw10259747295006347487:=0
def tw3655859243097776091:=0
def tw15372893853059127074:=0
def tw2947902301487318895:=0
def tw13441109158856082486:=0
def tw5715120249954564802:=0
def tw6322275310217289146:=0
def tw10930964033079141460:=0
def tw5660970476099658772:=0
def tw6500372893006570358:=0
def tw12520147785398679344:=0
def tw10038873477183521616:=0
def tw11031188030762414868:=0
def tw1695162340204272503:=0
def tw18087303646665604129:=0
def tw3230640033771176245:=0
def tw16671354844617880845:=0
def tw10523221463867827335:=0
def tw8161250008131767200:=0
def tw6531157141478153652:=0
def tw810913203875238622:=0
def tw16603839904947681629:=0
def tw12235610089120716114:=0
def tw15968771475616579067:=0
def tw7479235219346656270:=0
def tw5060669144853295303:=0
def tw7820392779678286712:=0
def tw8117653104945282228:=0
def tw11770761268855885028:=0
def tw17770743526179274744:=0
def tw2382764272316719839:=0
def tw9391899436106033561:=0
def tw7400510108827856212:=0
def tw13617525305194625024:=0
def tw13846405595848723251:=0
def tw13908117872300814794:=0
def tw903247559028213370:=0
def tw12995801902107478677:=0
def tw13808326776724927782:=0
def tw13472131555863234376:=0
def tw7863303077471201964:=0
def tw5475100170024253946:=0
def tw1801027749450477100:=0
def tw14030012544045916538:=0
def tw11963925843828871284:=0
def tw14991562056280957387:=0
def tw2832003275329291040:=0
def tw17190048865955506554:=0
def tw3770152094113964435:=0
def tw7685361214435059539:=0
def tw9466873527297746943:=0
def tw15699249933246871364:=0
def tw17409108770222423453:=0
def tw16034771386631060857:=0
def tw8178947092577184227:=0
def tw5346545988877947151:=0
def tw2341722102361479135:=0
def tw16762330191061895368:=0
def tw13681865025531188691:=0
def tw4561167630469098747:=0
def tw15026796414462947320:=0
def tw10520849556699875342:=0
def tw15661819743893755218:=0
def tw15450084488055714942:=0
def tw14152385003505489513:=0
def tw8407700257848459555:=0
def tw14828428261570032186:=0
def tw15247494268281680212:=0
def tw10110549202137504404:=0
def tw13100909905237731452:=0
def tw4963477858561289821:=0
def tw3904846075396686978:=0
def tw17503618036795815362:=0
def tw18052415265963512321:=0
def tw7918554692168936089:=0
def tw8995521819825845396:=0
def tw14674815489420455890:=0
def tw2547767516827128525:=0
def tw15692300757499581629:=0
def tw11569752147456245344:=0
def tw17953434824281980110:=0
def tw985807200865468362:=0
def tw13676378163910417531:=0
def tw13029929380072276232:=0
def tw17730630701975003604:=0
def tw13182991992544235951:=0
def tw8945723922674575512:=0
def tw6138630365000122479:=0
def tw12908270488207596183:=0
def tw13988895874371462507:=0
def tw13878379343910574445:=0
def tw17737426543713010737:=0
def tw622665160682558060:=0
def tw13525494361210031763:=0
def tw7739374304763220905:=0
def tw3397816328938585407:=0
def tw15913949851396341241:=0
def tw13877618878123112004:=0
end PySem.W.Fast
noncomputable section
set_option Elab.async false
set_option linter.all false
set_option maxRecDepth 100000
section
namespace L2
open PySem PySem.Spec PyProof.Rows
abbrev Key:=Sum Int Str
noncomputable def oK:Key->Value->Bool
 | .inl k,v=>Value.isInt k v
 | .inr x,v=>acw x v
noncomputable def Te(w:World):Key->Int
 | .inl k=>hashInt k
 | .inr x=>hashStr w x
theorem bM: ∀{k:Key}{v:Value},oK k v=true->(∃ i t,k=aa1 i/\v=XT i t)\/(∃ x t,k=WA x/\v=YC x t)
 | .inl i,v,h=>by
  obtain⟨t,e⟩:=Value.isInt_shape (k:=i) (v:=v) h;exact .inl ⟨i,t,rfl,e⟩
 | .inr x,v,h=>by
  obtain⟨t,e⟩:=Value.isStrOf_shape (x:=x) (v:=v) h;exact .inr ⟨x,t,rfl,e⟩
theorem AZ(i:Int)(t:Tok):oK (.inl i) (.int i t)=true:=by simp[oK,Value.isInt]
theorem mN(x:Str)(t:Tok):oK (.inr x) (.str x t)=true:=by simp[oK,acw]
theorem N3(a b:Int):decide ((aa1 a:Key)=aa1 b)=(a == b):=by
 by_cases e:a=b
 . subst e;simp
 . have h: ¬ (aa1 a:Key)=aa1 b:=λq=>e (Sum.inl.inj q);rw[decide_eq_false h];exact(beq_eq_false_iff_ne.mpr e).symm
theorem Lv(a b:Str):decide ((WA a:Key)=WA b)=decide (a=b):=by
 by_cases e:a=b
 . subst e;simp
 . have h: ¬ (WA a:Key)=WA b:=λq=>e (aaJ q);rw[decide_eq_false h,decide_eq_false e]
theorem Ny(a:Int)(b:Str):decide ((aa1 a:Key)=WA b)=false:=decide_eq_false (λq=>nomatch q)
theorem KL(a:Str)(b:Int):decide ((WA a:Key)=aa1 b)=false:=decide_eq_false (λq=>nomatch q)
noncomputable def aN(prog:Vg)(w:World):PySem.KeyKind prog w Key where
 is:=oK
 hash:=Te w
 inj:=λv a b ha hb=>by
  rcases bM ha with⟨i,t,rfl,rfl⟩ | ⟨x,t,rfl,rfl⟩
  . rcases bM hb with⟨j,u,rfl,e⟩ | ⟨y,u,rfl,e⟩
    . injection e with e1 _;rw[e1]
    . exact nomatch e
  . rcases bM hb with⟨j,u,rfl,e⟩ | ⟨y,u,rfl,e⟩
    . exact nomatch e
    . injection e with e1 _;rw[e1]
 byValue:=λk v h=>by
  rcases bM h with⟨i,t,rfl,rfl⟩ | ⟨x,t,rfl,rfl⟩<;>rfl
 pyHash:=λhv h=>by
  rcases bM hv with⟨i,t,rfl,rfl⟩ | ⟨x,t,rfl,rfl⟩
  . exact wpAny_pyHash_int h
  . exact wpAny_pyHash_str h
 eqBool:=λhu hv h=>by
  rcases bM hu with⟨i,t,rfl,rfl⟩ | ⟨x,t,rfl,rfl⟩
  . rcases bM hv with⟨j,u,rfl,rfl⟩ | ⟨y,u,rfl,rfl⟩
    . rw[N3] at h;exact wpAny_eqBool_int h
    . rw[Ny] at h;exact abl i t y u _ _ _ _ h
  . rcases bM hv with⟨j,u,rfl,rfl⟩ | ⟨y,u,rfl,rfl⟩
    . rw[KL] at h;exact abm x t j u _ _ _ _ h
    . rw[Lv] at h;exact wpAny_eqBool_str h
 «strs» :=λk x t v h=>by
  rcases bM h with⟨i,u,rfl,e⟩ | ⟨y,u,rfl,e⟩
  . exact nomatch e
  . injection e with e1 _;subst e1;cases v<;>rfl
theorem uV(prog:Vg)(w:World)(i:Int)(t:Tok):(aN prog w).is (.inl i) (.int i t)=true:=AZ i t
theorem wd(prog:Vg)(w:World)(x:Str)(t:Tok):(aN prog w).is (.inr x) (.str x t)=true:=mN x t
inductive V where
 | non | bl (b:Bool) | int (i:Int) | str (x:Str) | byt (b:Array UInt8) | flt (b:UInt64) | ref (a:Addr) | ty (n:String)
 deriving DecidableEq
noncomputable def RelV:V->Value->Prop
 | .non,u=>u=WW
 | .bl b,u=>u=Zb b
 | .int i,u=> ∃ t,u=XT i t
 | .str x,u=> ∃ t,u=YC x t
 | .byt b,u=> ∃ t,u=Value.bytes b t
 | .flt b,u=> ∃ t,u=ab7 b t
 | .ref a,u=>u=Ve a
 | .ty n,u=>u=XO n
abbrev Vals:List V->List Value->Prop:=V2 RelV
theorem Vals.length{xs:List V}{us:List Value}(r:Vals xs us):xs.length=us.length:=X5 r
theorem Vals.get: ∀{xs:List V}{us:List Value}{i:Nat}{x:V},Vals xs us->xs[i]?=some x-> ∃ u,us[i]?=some u/\RelV x u
 | _,_,_,_,.nil,e=>by simp at e
 | _,_,0,_,.cons r _,e=>by simp at e;subst e;exact⟨_,rfl,r⟩
 | _,_,i+1,x,.cons _ t,e=>by
  obtain⟨u,h1,h2⟩:=Vals.get (i:=i) (x:=x) t (by simpa using e);exact⟨u,by simpa using h1,h2⟩
theorem Vals.set{x:V}{u:Value}(r:RelV x u): ∀{xs:List V}{us:List Value}(i:Nat),Vals xs us->Vals (xs.set i x) (us.set i u)
 | _,_,_,.nil=> .nil
 | _,_,0,.cons _ t=> .cons r t
 | _,_,i+1,.cons q t=> .cons q (Vals.set r i t)
theorem Vals.append: ∀{xs ys:List V}{us ws:List Value},Vals xs us->Vals ys ws->Vals (xs++ys) (us++ws)
 | _,_,_,_,.nil,s=>s
 | _,_,_,_,.cons r t,s=> .cons r (Vals.append t s)
theorem Vals.take: ∀{xs:List V}{us:List Value}(n:Nat),Vals xs us->Vals (xs.take n) (us.take n)
 | _,_,0,_=> .nil
 | _,_,_+1,.nil=> .nil
 | _,_,n+1,.cons r t=> .cons r (Vals.take n t)
theorem Vals.drop: ∀{xs:List V}{us:List Value}(n:Nat),Vals xs us->Vals (xs.drop n) (us.drop n)
 | _,_,0,r=>r
 | _,_,_+1,.nil=> .nil
 | _,_,n+1,.cons _ t=>Vals.drop n t
noncomputable def lZ:Option V->Option Value->Prop
 | some v,some u=>RelV v u
 | none,none=>True
 | _,_=>False
noncomputable def KV{κ :Type}:List (κ × V)->List (κ × Value)->Prop:=V2 λ(p: κ × V) (q: κ × Value)=>p.1=q.1/\RelV p.2 q.2
noncomputable def kV:Key->V
 | .inl i=> .int i
 | .inr x=> .str x
inductive HO where
  | lst (xs:List V)
  | tup (xs:List V)
  | dK (kvs:List (Key × V)) | dT (kvs:List (List Key × V))
  | set (S:Int->Bool) (n:Nat)
  | ins (C dx:Addr) (fs:List (Str × V))
  | own (x:Addr)
  | xd (fs:List (Str × V))
  | met (f x:Addr)
  | rS (lo hi:Int)
  | kK (o:Obj) (u:HO)
  | tbl (ps:Array Value)
  | ext (φ :Heap->Prop)
abbrev Hp:=Addr->Option HO
noncomputable def upd(H:Hp)(a:Addr)(o:HO):Hp:=λb=>if b=a then some o else H b
theorem bh{H:Hp}{a:Addr}{o:HO}:upd H a o a=some o:=by unfold upd;rw[if_pos rfl]
theorem aD{H:Hp}{a b:Addr}{o:HO}(h:b≠a):upd H a o b=H b:=by unfold upd;rw[if_neg h]
theorem sH{H:Hp}{a b:Addr}{o u:HO}(h:H a=some o)(h':H b=some u)(d:o≠u):a≠b:=by
 intro e;subst e;rw[h] at h';exact d (VE h')
theorem aF{H:Hp}{a b:Addr}{o:HO}(h:H a=some o)(h':H b=none):a≠b:=by
 intro e;subst e;rw[h] at h';cases h'
noncomputable def qW(h:Heap)(a:Addr)(items:Array Value):Prop:= ∃ o,h.get? a=some o/\o.cls= .type "tuple" /\ ∃ n,o.data= .seq items n/\o.dict=none
theorem qW.tup{h:Heap}{a:Addr}{items:Array Value}(x:qW h a items):IsTup h a items:=let ⟨o,e,c,n,d,_⟩:=x;⟨o,e,c,n,d⟩
theorem qW.new(h:Heap)(items:Array Value):qW (h.push { cls:= .type "tuple",data:= .seq items }) h.objs.size items:=⟨_,U7 _ rfl,rfl,_,rfl,rfl⟩
section
variable(P:Vg)(w:World)
noncomputable def aY(H:Hp)(h:Heap)(a:Addr):HO->Prop
 | .lst xs=>xs.length<=sizeLine/\ ∃(aj:List Value)(n:Nat),Vals xs aj/\h.get? a=some { cls:= .type "list",data:= .seq aj.toArray n }
 | .tup xs=>xs.length<=sizeLine/\ ∃ aj:List Value,Vals xs aj/\qW h a aj.toArray
 | .dK kvs=>kvs.length<=sizeLine/\(a == V6)=false/\ ∃ vs,KV kvs vs/\h.DictOf (aN P w) a vs
 | .dT kvs=>kvs.length<=sizeLine/\(a == V6)=false/\ ∃ xs:List (List Key × Addr × Value),
   V2 (λ(p:List Key × V) (q:List Key × Addr × Value)=>p.1=q.1/\H q.2.1=some (.tup (p.1.map kV))/\RelV p.2 q.2.2) kvs xs /\
   ∃ o es ep,h.get? a=some o/\o.ExactDict/\o.data= .dict es ep/\es.toList=xs.map (entryOfKey (ZS (aN P w)))/\(xs.map (·.1)).Nodup
 | .set S n=>h.SetOf (intKind P w) a S n
 | .ins C dx fs=>H dx=some (.own a)/\fs.length<=1000/\dx≠a/\h.get? a=some (W8 C dx) /\
   ∃ mA,h.Ns1 dx mA/\(∀ f,lZ (fs.lookup f) (mA f))/\acz mA (fs.map (·.1))
 | .own _=> ∃ o,h.get? a=some o
 | .xd fs=> ∃ mA,h.Ns1 a mA/\ ∀ f,lZ (fs.lookup f) (mA f)
 | .rS lo hi=> ∃ t u v,h.get? a=some { cls:= .type "range",data:= .fields #[.int lo t,.int hi u,.int 1 v] }
 | .kK o u=>h.get? a=some o∧aY H h a u
 | .tbl ps=>h.get? a=some { cls:= .none,data:= .fields ps }
 | .met f x=>h.get? a=some (Zu (.ref f) (.ref x))
 | .ext φ => φ h∧(∃ o,h.get? a=some o)∧ ∀ h1 h2:Heap, φ h1->(∀ o,h1.get? a=some o->h2.get? a=some o)-> φ h2
noncomputable def kb (H:Hp) (h:Heap):Prop:= ∀ a o,H a=some o->aY P w H h a o
end
section
variable{P:Vg}{w:World}{H H':Hp}{h h':Heap}{a:Addr}{o:HO}
theorem aY.lt(x:aY P w H h a o):a < h.objs.size:=by
 cases o with
 | lst xs=>obtain⟨_,_,_,_,e⟩:=x;exact U2 e
 | tup xs=>obtain⟨_,_,_,p⟩:=x;exact p.tup.lt
 | dK kvs=>obtain⟨_,_,_,_,o,_,_,e,_⟩:=x;exact U2 e
 | dT kvs=>obtain⟨_,_,_,_,o,_,_,e,_⟩:=x;exact U2 e
 | set S n=>obtain⟨o,_,_,_,e,_⟩:=x;exact U2 e
 | ins C dx fs=>obtain⟨_,_,_,e,_⟩:=x;exact U2 e
 | own y=>obtain⟨_,e⟩:=x;exact U2 e
 | xd fs=>obtain⟨_,⟨_,_,_,e,_⟩,_⟩:=x;exact U2 e
 | rS lo hi=>obtain⟨_,_,_,e⟩:=x;exact U2 e
 | kK ob u=>obtain⟨e,_⟩:=x;exact U2 e
 | tbl ps=>exact U2 (show h.get? a=some _ from x)
 | met f y=>exact U2 (show h.get? a=some _ from x)
 | ext φ =>obtain⟨_,⟨_,e⟩,_⟩:=x;exact U2 e
theorem Paired.AG{α β :Type}{F G: α -> β ->Prop}: ∀{l₁ :List α}{l₂ :List β},V2 F l₁ l₂ ->(∀ a b,F a b->G a b)->V2 G l₁ l₂
 | _,_,.nil,_=> .nil
 | _,_,.cons r t,f=> .cons (f _ _ r) (Paired.AG t f)
theorem aY.uH(x:aY P w H h a o)(k: ∀ b u,(b=a\/H b=some (.own a))->h.get? b=some u->h'.get? b=some u)
  (ho: ∀ b,H b=some (.own a)->H' b=some (.own a)) (ht: ∀ b xs,H b=some (.tup xs)->H' b=some (.tup xs)):aY P w H' h' a o:=by
 induction o with
 | lst xs=>obtain⟨z,aj,n,r,e⟩:=x;exact⟨z,aj,n,r,k _ _ (.inl rfl) e⟩
 | tup xs=>obtain⟨z,aj,r,ob,e,c⟩:=x;exact⟨z,aj,r,ob,k _ _ (.inl rfl) e,c⟩
 | dK kvs=>obtain⟨z,y,vs,r,ob,es,ep,e,c⟩:=x;exact⟨z,y,vs,r,ob,es,ep,k _ _ (.inl rfl) e,c⟩
 | dT kvs =>
  obtain⟨z,y,xs,r,ob,es,ep,e,c⟩:=x
  exact⟨z,y,xs,Paired.AG r λp q z=>⟨z.1,ht _ _ z.2.1,z.2.2⟩,ob,es,ep,k _ _ (.inl rfl) e,c⟩
 | set S n=>obtain⟨ob,es,ep,t,e,c⟩:=x;exact⟨ob,es,ep,t,k _ _ (.inl rfl) e,c⟩
 | ins C dx fs =>
  obtain⟨d,z,ne,e,mA,⟨od,es,ep,e2,c⟩,r⟩:=x
  exact⟨ho _ d,z,ne,k _ _ (.inl rfl) e,mA,⟨od,es,ep,k _ _ (.inr d) e2,c⟩,r⟩
 | own y=>obtain⟨ob,e⟩:=x;exact⟨ob,k _ _ (.inl rfl) e⟩
 | xd fs=>obtain⟨mA,⟨od,es,ep,e,c⟩,r⟩:=x;exact⟨mA,⟨od,es,ep,k _ _ (.inl rfl) e,c⟩,r⟩
 | rS lo hi=>obtain⟨t,u,v,e⟩:=x;exact⟨t,u,v,k _ _ (.inl rfl) e⟩
 | kK ob u ih=>obtain⟨e,q⟩:=x;exact⟨k _ _ (.inl rfl) e,ih q⟩
 | tbl ps =>
  have e:h.get? a=some { cls:= .none,data:= .fields ps }:=x
  show h'.get? a=some { cls:= .none,data:= .fields ps }
  exact k a _ (.inl rfl) e
 | met f y =>
  have e:h.get? a=some (Zu (.ref f) (.ref y)):=x
  show h'.get? a=some (Zu (.ref f) (.ref y))
  exact k a _ (.inl rfl) e
 | ext φ =>obtain⟨p,⟨o,e⟩,st⟩:=x;exact⟨st _ _ p λo q=>k _ _ (.inl rfl) q,⟨o,k _ _ (.inl rfl) e⟩,st⟩
theorem kb.lt(x:kb P w H h)(e:H a=some o):a < h.objs.size:=(x a o e).lt
theorem kb.fresh(x:kb P w H h)(e:h.objs.size<=a):H a=none:=by
 cases q:H a with
 | none=>rfl
 | some u=>exact absurd (U0 (x.lt q) e) (VJ _)
theorem kb.kept(x:kb P w H h)(k: ∀ b u,h.get? b=some u->h'.get? b=some u):kb P w H h':=λa o e =>
 (x a o e).uH (λb u _ q=>k b u q) (λ_ q=>q) λ_ _ q=>q
theorem kb.laid(x:kb P w H h)(k: ∀ b u,h.get? b=some u->h'.get? b=some u)(hp:h.objs.size<=a)(new:aY P w (upd H a o) h' a o):kb P w (upd H a o) h':=λb u e=>by
 have hn:=x.fresh hp;by_cases hb:b=a
 . subst hb;rw[bh] at e;cases e;exact new
 . rw[aD hb] at e;exact(x b u e).uH (λc v _ q=>k c v q) (λc q=>by rw[aD (aF q hn)];exact q) λc xs q=>by rw[aD (aF q hn)];exact q
end
noncomputable def Rd(H:Hp)(a:Addr)(u:HO):Prop:=H a=some u\/ ∃ o,H a=some (.kK o u)
theorem Rd.of{H:Hp}{a:Addr}{u:HO}(h:H a=some u):Rd H a u:= .inl h
theorem Rd.ok{P:Vg}{w:World}{H:Hp}{h:Heap}{a:Addr}{u:HO}(r:Rd H a u)(x:kb P w H h):aY P w H h a u:=by
 rcases r with r | ⟨o,r⟩
 . exact x a u r
 . obtain⟨_,q⟩:=x a _ r;exact q
noncomputable def O9:Option HO->Prop
 | some (.lst _)=>True
 | some (.dK _)=>True
 | some (.dT _)=>True
 | some (.set _ _)=>True
 | some (.ins _ _ _)=>True
 | some (.ext _)=>True
 | _=>False
section
variable{P:Vg}{w:World}{H:Hp}{h h':Heap}{x e:Addr}{o':HO}
theorem kb.write(ok:kb P w H h)(mu:O9 (H x))(he:e=x\/H e=some (.own x))(k: ∀ b u,b≠e->h.get? b=some u->h'.get? b=some u)(heo: ∃ u,h'.get? e=some u)
  (new:aY P w (upd H x o') h' x o'):kb P w (upd H x o') h':=λb u q=>by
 have nown: ∀ c y,H c=some (.own y)->c≠x:=λc y r z=>by subst z;rw[r] at mu;exact mu
 have ntup: ∀ c xs,H c=some (.tup xs)->c≠x:=λc xs r z=>by subst z;rw[r] at mu;exact mu
 by_cases hb:b=x
 . subst hb;rw[bh] at q;cases q;exact new
 . rw[aD hb] at q;by_cases hbe:b=e
   . have q':H b=some (.own x):=by
      rcases he with z | z
      . exact absurd (hbe.trans z) hb
      . rw[hbe];exact z
     rw[q] at q';cases q';obtain⟨v,hv⟩:=heo;exact⟨v,by rw[hbe];exact hv⟩
   . refine(ok b u q).uH (λc v hc r=>k c v ?_ r) (λc r=>by rw[aD (nown c b r)];exact r) λc xs r=>by rw[aD (ntup c xs r)];exact r
     rcases hc with rfl | hc
     . exact hbe
     . rintro rfl;rcases he with z | z
       . exact nown c b hc z
       . rw[hc] at z;cases z;exact hb rfl
end
structure Un(fs ex:List Addr)(H H':Hp)(h h':Heap):Prop where
 keep: ∀ b o,h.get? b=some o->H b=none->b ∉ fs->b ∉ ex->h'.get? b=some o
 slot: ∀ b o,h.get? b=some o->H b=none->b∈fs->b ∉ ex-> ∃ sl,h'.get? b=some { o with slots:=sl }
 free: ∀ b o,h.get? b=some o->H b=none->b ∉ ex->H' b=none
 there: ∀ b o,h.get? b=some o->b ∉ ex-> ∃ o',h'.get? b=some o'
 mK: ∀ b xs,H b=some (.tup xs)->H' b=some (.tup xs)
 lQ: ∀ b o u,H b=some (.kK o u)->H' b=some (.kK o u)
 nY: ∀ b ps,H b=some (.tbl ps)-> ∃ more,H' b=some (.tbl (ps++more))
section
variable{fs fs' ex ex':List Addr}{H H1 H2:Hp}{h h1 h2 h':Heap}{a x e:Addr}{o:HO}
theorem Un.any(u:Un fs ex H H1 h h1){b:Addr}{ob:Obj}(q:h.get? b=some ob)(n:H b=none)(hx:b ∉ ex): ∃ sl,h1.get? b=some { ob with slots:=sl }:=by
 by_cases hb:b∈fs
 . exact u.slot b ob q n hb hx
 . exact⟨ob.slots,u.keep b ob q n hb hx⟩
theorem Un.trans(a:Un fs ex H H1 h h1)(b:Un fs ex H1 H2 h1 h2):Un fs ex H H2 h h2 where
 keep:=λc ob q n hc hx=>b.keep c ob (a.keep c ob q n hc hx) (a.free c ob q n hx) hc hx
 slot:=λc ob q n hc hx=>by
  obtain⟨sl,e1⟩:=a.slot c ob q n hc hx;obtain⟨sl',e2⟩:=b.slot c _ e1 (a.free c ob q n hx) hc hx;exact⟨sl',e2⟩
 free:=λc ob q n hx=>by
  obtain⟨o',e1⟩:=a.there c ob q hx;exact b.free c o' e1 (a.free c ob q n hx) hx
 there:=λc ob q hx=>by
  obtain⟨o',e1⟩:=a.there c ob q hx;exact b.there c o' e1 hx
 mK:=λc xs q=>b.mK c xs (a.mK c xs q)
 lQ:=λc ob xs q=>b.lQ c ob xs (a.lQ c ob xs q)
 nY:=λc ps q=>by
  obtain⟨m1,e1⟩:=a.nY c ps q;obtain⟨m2,e2⟩:=b.nY c _ e1;exact⟨m1++m2,by rw[e2,abn]⟩
theorem Un.kept(k: ∀ b u,h.get? b=some u->h'.get? b=some u):Un fs ex H H h h' :=
 ⟨λb ob q _ _ _=>k b ob q,λb ob q _ _ _=>⟨ob.slots,k b ob q⟩,λ_ _ _ n _=>n,λb ob q _=>⟨ob,k b ob q⟩,λ_ _ q=>q,λ_ _ _ q=>q,λ_ ps q=>⟨#[],by rw[q];simp⟩⟩
theorem Un.refl:Un fs ex H H h h:=Un.kept λ_ _ q=>q
theorem Un.laid(k: ∀ b u,h.get? b=some u->h'.get? b=some u)(hp:h.objs.size<=a)(hn:H a=none):Un fs ex H (upd H a o) h h' where
 keep:=λb u q _ _ _=>k b u q
 slot:=λb u q _ _ _=>⟨u.slots,k b u q⟩
 free:=λb u q n _=>by rw[aD (Vf (U0 (U2 q) hp))];exact n
 there:=λb u q _=>⟨u,k b u q⟩
 mK:=λb xs q=>by rw[aD (aF q hn)];exact q
 lQ:=λb u xs q=>by rw[aD (aF q hn)];exact q
 nY:=λb ps q=>⟨#[],by rw[aD (aF q hn),q];simp⟩
theorem Un.write(mu:O9 (H x))(he:e=x\/H e=some (.own x))(k: ∀ b u,b≠e->h.get? b=some u->h'.get? b=some u)(heo: ∃ u,h'.get? e=some u):Un fs ex H (upd H x o) h h':=by
 have hx: ∀ b,H b=none->b≠x:=λb n z=>by subst z;rw[n] at mu;exact mu
 have hb: ∀ b,H b=none->b≠e:=λb n z=>by
  subst z;rcases he with r | r
  . exact hx b n r
  . rw[n] at r;cases r
 have hm: ∀ b u,H b=some u-> ¬ O9 (some u)->b≠x:=λb u q nm z=>by subst z;rw[q] at mu;exact nm mu
 refine⟨λb u q n _ _=>k b u (hb b n) q,λb u q n _ _=>⟨u.slots,k b u (hb b n) q⟩,λb u q n _=>by rw[aD (hx b n)];exact n,λb u q _=>?_,
  λb xs q=>by rw[aD (hm b _ q λz=>z)];exact q,λb u xs q=>by rw[aD (hm b _ q λz=>z)];exact q,λb ps q=>⟨#[],by rw[aD (hm b _ q λz=>z),q];simp⟩⟩
 by_cases hbe:b=e
 . subst hbe;exact heo
 . exact⟨u,k b u hbe q⟩
end
noncomputable def Se(h:Heap)(H:Hp):List Addr:=(VX h.objs.size).filter λa=>(H a).isSome
noncomputable def t7(h:Heap)(H:Hp):Heap:=PySem.W.hideAll h (Se h H)
theorem AW(h:Heap)(H:Hp):(t7 h H).objs.size=h.objs.size:=PySem.W.hideAll_size _ _
theorem Eu{h:Heap}{H:Hp}{b:Addr}{o:Obj}(e:h.get? b=some o)(n:H b=none):(t7 h H).get? b=some o :=
 PySem.W.hideAll_get _ e λhm=>by
  have q:(H b).isSome=true:=(Wl.mp hm).2;rw[n] at q;simp at q
theorem Hb{h:Heap}{H:Hp}{b:Addr}{o:Obj}(e:(t7 h H).get? b=some o):h.get? b=some o/\H b=none:=by
 have e':h.get? b=some o:=PySem.W.of_hideAll (Se h H) e;refine⟨e',?_⟩;cases q:H b with
 | none=>rfl
 | some x =>
  have hm:b∈Se h H:=Wl.mpr ⟨Xm.mpr (U2 e'),by simp[q]⟩
  have z:(t7 h H).get? b=none:=PySem.W.hideAll_none (Se h H) hm
  rw[z] at e;cases e
noncomputable def Gy(g h:Heap)(L:Addr):List (Addr × Obj):=(VX h.objs.size).filterMap λa=>if a=L\/(g.get? a).isSome=true then none else(h.get? a).map λo=>(a,o)
noncomputable def rest(g h:Heap)(L d:Addr):List (Addr × Obj):=(Gy g h L).filter λp=>decide (p.1≠d)
structure Mod(K:UL)(mg:Str->Option Value)(base:Heap):Prop where
 SV:K.In base
 glob:base.Ns Vc mg
 blt: ∃ mb,base.Ns builtinsNs mb/\ ∀ x:Str,x≠ "__name__" ->mb x=V8 x
 nolimit:base.NoLimit
structure Cx where
 prog:Vg
 w:World
 K:UL
 mg:Str->Option Value
 base:Heap
 A:Vz
 N:List Str
 s₀ :UR
 H₀ :Hp
 env:Env
 outer:List Env
 stack:List Env
 ex:List Addr
 fn:Str->Bool
 calm:Bool
 pn:List (Addr × Obj)
 xe:Value->UR->Prop
noncomputable def BX(l:List Env):List Addr:=l.filterMap (·.frame)
abbrev Cx.fs(X:Cx):List Addr:=BX X.outer
noncomputable def OA(sc:Scope)(x:Str):Prop:=sc.names.lookup x=some .local\/sc.names.lookup x=some .cell\/sc.names.lookup x=some .free
noncomputable def Loc(sc:Scope)(x:Str):Prop:=sc.names.lookup x=some .local\/sc.names.lookup x=some .cell
noncomputable def Look(env:Env)(h:Heap)(m:Str->Option Value)(x:Str)(u:Value):Prop :=
 (env.kindOf x=some .local/\m x=some u)\/((env.kindOf x=some .cell\/env.kindOf x=some .free)/\ ∃ c,env.cells.lookup x=some c/\h.IsCell c (some u))
structure Cx.Ok(X:Cx):Prop where
 mod:Mod X.K X.mg X.base
 kind:X.env.scope.kind= .function
 glob:X.env.globals=Vc
 blt:X.env.builtins=builtinsNs
 above:X.s₀.heap.objs.size<=X.env.locals
 inj: ∀ x y c,X.env.cells.lookup x=some c->X.env.cells.lookup y=some c->x=y
 has: ∀ x,(X.env.kindOf x=some .cell\/X.env.kindOf x=some .free)-> ∃ c,X.env.cells.lookup x=some c
 OF: ∀ x c,X.fn x=true->X.env.cells.lookup x=some c->X.s₀.heap.objs.size<=c
 hd:X.calm=true->X.A.handled=none
 frames:X.A.frames=some X.stack
 P6:X.stack=X.outer\/(X.stack=X.env::X.outer/\X.env.frame=some X.env.locals)
 S7: ∀ b∈X.ex,b≠X.env.locals/\ ∀ x c,X.env.cells.lookup x=some c->c≠b
 bs: ∀ b o,X.base.get? b=some o->X.s₀.heap.get? b=some o/\X.H₀ b=none
 E3:X.base.objs.size<=X.s₀.heap.objs.size
 Ar: ∀ b o,X.base.get? b=some o->b ∉ X.ex
 CN: ∀ b∈X.ex,b ∉ X.fs
 m5:X.s₀.heap.FunFrames X.base X.outer
 Jh: ∀ b∈X.fs,X.H₀ b=none
structure Inv(X:Cx)(pins:List (Addr × Obj))(σ :List (Option V))(H:Hp)(s:UR):Prop where
 ok:X.Ok
 os:s.os=X.s₀.os
 bare:Zv s.gens
 base:Un X.fs X.ex X.H₀ H X.s₀.heap s.heap
 loc: ∃ m,s.heap.Ns X.env.locals m/\ ∀(i:Nat)(x:Str)(v:V),X.N[i]?=some x-> σ[i]?=some (some v)->OA X.env.scope x-> ∃ u,RelV v u/\Look X.env s.heap m x u
 cell: ∀ x c,X.env.cells.lookup x=some c-> ∃ v,s.heap.IsCell c v
 free:H X.env.locals=none
 je: ∀ x c,X.env.cells.lookup x=some c->H c=none
 pin: ∀ p∈X.pn++pins,s.heap.get? p.1=some p.2/\H p.1=none/\p.1≠X.env.locals/\p.1 ∉ X.fs/\ ∀ v,p.2.data≠ .cell v
 bA:kb X.prog X.w H s.heap
 len: σ.length=X.N.length
section
variable{X:Cx}{pins:List (Addr × Obj)}{σ :List (Option V)}{H H':Hp}{s:UR}{h':Heap}
theorem Cx.Ok.Ta(ok:X.Ok){b:Addr}{o:Obj}(e:X.base.get? b=some o):b ∉ X.fs:=λhb=>by
 have:=(ok.m5.mem hb).1;rw[e] at this;cases this
theorem Inv.bs(I:Inv X pins σ H s): ∀ b o,X.base.get? b=some o->s.heap.get? b=some o/\H b=none:=λb o e =>
 ⟨I.base.keep b o (I.ok.bs b o e).1 (I.ok.bs b o e).2 (I.ok.Ta e) (I.ok.Ar b o e),I.base.free b o (I.ok.bs b o e).1 (I.ok.bs b o e).2 (I.ok.Ar b o e)⟩
theorem Inv.bk(I:Inv X pins σ H s): ∀ b o,X.base.get? b=some o->s.heap.get? b=some o:=λb o e=>(I.bs b o e).1
theorem Inv.mod(I:Inv X pins σ H s):Mod X.K X.mg X.base:=I.ok.mod
theorem Inv.l9(I:Inv X pins σ H s):X.K.In s.heap:=I.ok.mod.SV.keeps I.bk
theorem Inv.nolimit(I:Inv X pins σ H s):s.heap.NoLimit:=I.ok.mod.nolimit.keeps I.bk
theorem Inv.fr(I:Inv X pins σ H s): ∃ m,Fr X.base X.env.locals s.heap m :=
 let ⟨m,hn,_⟩:=I.loc
 ⟨m,hn,I.bk,Vn I.ok.E3 I.ok.above⟩
theorem Inv.lt(I:Inv X pins σ H s):X.env.locals < s.heap.objs.size:=let ⟨_,hn,_⟩:=I.loc;hn.lt
theorem Inv.sz(I:Inv X pins σ H s):X.s₀.heap.objs.size<=s.heap.objs.size:=Vn I.ok.above (WO I.lt)
theorem Inv.Pr(I:Inv X pins σ H s){a:Addr}(h:s.heap.objs.size<=a):a ∉ X.fs:=λhb=>by
 obtain⟨_,o,ho,_⟩:=I.ok.m5.mem hb;exact absurd (U0 (U2 ho) (Vn I.sz h)) (VJ _)
theorem Inv.NB(I:Inv X pins σ H s): ∀ x c,X.env.cells.lookup x=some c->c≠X.env.locals:=λx c e z=>by
 obtain⟨v,o,ho,hd⟩:=I.cell x c e;obtain⟨m,⟨o',es,ep,ho',hd',_⟩,_⟩:=I.loc;rw[z,ho'] at ho;cases ho;rw[hd'] at hd;cases hd
theorem Inv.m5(I:Inv X pins σ H s):s.heap.FunFrames X.base X.outer:=by
 have all: ∀(l:List Env),(∀ b∈BX l,b∈X.fs)->X.s₀.heap.FunFrames X.base l->s.heap.FunFrames X.base l:=by
  intro l
  induction l with
  | nil=>intro _ _;trivial
  | cons env r ih =>
   intro hs hl
   obtain⟨hk,⟨L,o,hf,hn,ho,hd⟩,hr⟩:=hl
   have hL:L∈X.fs:=hs L (by unfold BX;rw[YZ,hf];exact U3)
   obtain⟨sl,e⟩:=I.base.slot L o ho (I.ok.Jh L hL) hL λz=>I.ok.CN L z hL
   exact⟨hk,⟨L,_,hf,hn,e,hd⟩,ih (λb hb=>hs b (by unfold BX;rw[YZ,hf];exact U6 _ hb)) hr⟩
 exact all X.outer (λ_ hb=>hb) I.ok.m5
theorem Inv.stack(I:Inv X pins σ H s):s.heap.FunFrames X.base X.stack:=by
 rcases I.ok.P6 with e | ⟨e,hf⟩
 . rw[e];exact I.m5
 . rw[e];obtain⟨m,hn,_⟩:=I.loc;refine .cons (by rw[I.ok.kind];decide) hf hn ?_ I.m5;exact WH (Vn I.ok.E3 I.ok.above)
theorem Inv.m6(I:Inv X pins σ H s): ∀ b∈BX X.stack,b∈X.env.locals::X.fs:=λb hb=>by
 rcases I.ok.P6 with e | ⟨e,hf⟩
 . rw[e] at hb;exact U6 _ hb
 . rw[e] at hb;unfold BX at hb;rw[YZ,hf] at hb;exact hb
theorem Inv.zN(I:Inv X pins σ H s): ∀ b∈BX X.stack,H b=none:=λb hb=>by
 rcases U1.mp (I.m6 b hb) with e | hb
 . rw[e];exact I.free
 . obtain⟨_,o,ho,_⟩:=I.ok.m5.mem hb;exact I.base.free b o ho (I.ok.Jh b hb) λz=>I.ok.CN b z hb
theorem Inv.step{g':Array GenState}{t':Nat}{d':Drawn}{ch:List Addr}(I:Inv X pins σ H s)
  (hch: ∀ b∈ch,(b∈X.ex\/X.s₀.heap.objs.size<=b)/\b≠X.env.locals/\(∀ x c,X.env.cells.lookup x=some c->c≠b)/\ ∀ p∈X.pn++pins,p.1≠b)
  (keep: ∀ b o,b≠X.env.locals->b ∉ X.fs->b ∉ ch->s.heap.get? b=some o->H b=none->h'.get? b=some o)
  (slot: ∀ b o,b≠X.env.locals->b∈X.fs->b ∉ ch->s.heap.get? b=some o->H b=none-> ∃ sl,h'.get? b=some { o with slots:=sl }) (free: ∀ b o,b ∉ ch->s.heap.get? b=some o->H b=none->H' b=none)
  (there: ∀ b o,b ∉ ch->s.heap.get? b=some o-> ∃ o',h'.get? b=some o')
  (mK: ∀ b xs,H b=some (.tup xs)->H' b=some (.tup xs)) (lQ: ∀ b o u,H b=some (.kK o u)->H' b=some (.kK o u)) (nY: ∀ b ps,H b=some (.tbl ps)-> ∃ more,H' b=some (.tbl (ps++more)))
  (ns: ∀ m,s.heap.Ns X.env.locals m->h'.Ns X.env.locals m) (bA:kb X.prog X.w H' h') (hg:Zv g') :
  Inv X pins σ H' { s with heap:=h',gens:=g',drawn:=d',toks:=t' }:=by
 have neL: ∀ b o,X.s₀.heap.get? b=some o->b≠X.env.locals:=λb o e=>Vf (U0 (U2 e) I.ok.above);have neC: ∀ b o,X.s₀.heap.get? b=some o->b ∉ X.ex->b ∉ ch:=λb o e hx hb=>by
  rcases(hch b hb).1 with z | z
  . exact hx z
  . exact absurd (U0 (U2 e) z) (VJ _)
 have cellK: ∀ x c,X.env.cells.lookup x=some c-> ∀ v,s.heap.IsCell c v->h'.IsCell c v:=λx c e v ⟨o,ho,hd⟩=>by
  have nch:c ∉ ch:=λz=>(hch c z).2.2.1 x c e rfl;by_cases hc:c∈X.fs
  . obtain⟨sl,q⟩:=slot c o (I.NB x c e) hc nch ho (I.je x c e);exact⟨_,q,hd⟩
  . exact⟨o,keep c o (I.NB x c e) hc nch ho (I.je x c e),hd⟩
 refine⟨I.ok,I.os,hg,⟨λb o e n hb hx=>?_,λb o e n hb hx=>?_,λb o e n hx=>?_,λb o e hx=>?_,λb xs e=>mK b xs (I.base.mK b xs e),λb o xs e=>lQ b o xs (I.base.lQ b o xs e),λb ps e=>?_⟩,?_,λx c e=>?_,?_,λx c e=>?_,λp hp=>?_,bA,I.len⟩
 . exact keep b o (neL b o e) hb (neC b o e hx) (I.base.keep b o e n hb hx) (I.base.free b o e n hx)
 . obtain⟨sl,e1⟩:=I.base.slot b o e n hb hx;obtain⟨sl',e2⟩:=slot b _ (neL b o e) hb (neC b o e hx) e1 (I.base.free b o e n hx);exact⟨sl',e2⟩
 . obtain⟨o',e1⟩:=I.base.there b o e hx;exact free b o' (neC b o e hx) e1 (I.base.free b o e n hx)
 . obtain⟨o',e1⟩:=I.base.there b o e hx;exact there b o' (neC b o e hx) e1
 . obtain⟨m1,e1⟩:=I.base.nY b ps e;obtain⟨m2,e2⟩:=nY b _ e1;exact⟨m1++m2,by rw[e2,abn]⟩
 . obtain⟨m,hn,hl⟩:=I.loc;refine⟨m,ns m hn,λi x v e1 e2 e3=>?_⟩;obtain⟨u,r,l⟩:=hl i x v e1 e2 e3;refine⟨u,r,?_⟩;rcases l with l | ⟨k,c,e,z⟩
   . exact .inl l
   . exact .inr ⟨k,c,e,cellK x c e _ z⟩
 . obtain⟨v,z⟩:=I.cell x c e;exact⟨v,cellK x c e v z⟩
 . obtain⟨m,⟨o,_,_,ho,_⟩,_⟩:=I.loc;exact free _ o (λz=>(hch _ z).2.1 rfl) ho I.free
 . obtain⟨v,o,ho,hd⟩:=I.cell x c e;exact free c o (λz=>(hch c z).2.2.1 x c e rfl) ho (I.je x c e)
 . obtain⟨e,n,ne,nf,d⟩:=I.pin p hp;have nch:p.1 ∉ ch:=λz=>(hch p.1 z).2.2.2 p hp rfl;exact⟨keep p.1 p.2 ne nf nch e n,free p.1 p.2 nch e n,ne,nf,d⟩
theorem Inv.un{t':Nat}(I:Inv X pins σ H s)(u:Un X.fs [] H H' s.heap h')(bA:kb X.prog X.w H' h'):Inv X pins σ H' { s with heap:=h',toks:=t' }:=by
 obtain⟨m,⟨o,es,ep,ho,r⟩,_⟩:=id I.loc;obtain⟨sl,hL⟩:=u.any ho I.free (by simp);exact I.step (g':=s.gens) (d':=s.drawn) (ch:=[]) (λ_ z=>nomatch z) (λb o _ hb _ e n=>u.keep b o e n hb (by simp)) (λb o _ hb _ e n=>u.slot b o e n hb (by simp)) (λb o _ e n=>u.free b o e n (by simp)) (λb o _ e=>u.there b o e (by simp)) u.mK u.lQ u.nY (λm' hm=>by
  obtain⟨o',es',ep',ho',r'⟩:=hm;rw[ho] at ho';cases ho';exact⟨_,es',ep',hL,r'⟩) bA I.bare
theorem Inv.call{g':Array GenState}{t':Nat}{d':Drawn}{ch:List Addr}(I:Inv X pins σ H s)(u:Un (BX X.stack) ch H H' s.heap h')(bA:kb X.prog X.w H' h')(hg:Zv g')
  (hch: ∀ b∈ch,(b∈X.ex\/X.s₀.heap.objs.size<=b)/\b≠X.env.locals/\(∀ x c,X.env.cells.lookup x=some c->c≠b)/\ ∀ p∈X.pn++pins,p.1≠b) :
  Inv X pins σ H' { s with heap:=h',gens:=g',drawn:=d',toks:=t' }:=by
 obtain⟨m,⟨o,es,ep,ho,r⟩,_⟩:=id I.loc;obtain⟨sl,hL⟩:=u.any ho I.free λz=>(hch _ z).2.1 rfl;exact I.step (ch:=ch) hch (λb o hL hb hc e n=>u.keep b o e n (λz=>(U1.mp (I.m6 b z)).elim hL hb) hc) (λb o _ _ hc e n=>u.any e n hc) (λb o hc e n=>u.free b o e n hc) (λb o hc e=>u.there b o e hc) u.mK u.lQ u.nY (λm' hm=>by
  obtain⟨o',es',ep',ho',r'⟩:=hm;rw[ho] at ho';cases ho';exact⟨_,es',ep',hL,r'⟩) bA hg
theorem Inv.turned{t':Nat}{it:Addr}(I:Inv X pins σ H s)(k: ∀ b o,b≠it->s.heap.get? b=some o->h'.get? b=some o)(hn:H it=none)(hL:it≠X.env.locals)
  (h1:it∈X.ex\/X.s₀.heap.objs.size<=it) (h2: ∀ x c,X.env.cells.lookup x=some c->c≠it) (h3: ∀ p∈X.pn++pins,p.1≠it):Inv X pins σ H { s with heap:=h',toks:=t' }:=by
 have nit: ∀ b u,H b=some u->b≠it:=λb u e z=>by rw[z,hn] at e;cases e
 refine I.step (g':=s.gens) (d':=s.drawn) (ch:=[it]) (λb hb=>?_) (λb o _ _ hc e _=>k b o (λz=>hc (by simp[z])) e) (λb o _ _ hc e _=>⟨o.slots,k b o (λz=>hc (by simp[z])) e⟩) (λ_ _ _ _ n=>n)
  (λb o hc e=>⟨o,k b o (λz=>hc (by simp[z])) e⟩) (λ_ _ e=>e) (λ_ _ _ e=>e) (λb ps e=>⟨#[],by rw[e];simp⟩) (λm hm=>?_) (λb u e=>?_) I.bare
 . have e:b=it:=by simpa using hb
   subst e;exact⟨h1,hL,h2,h3⟩
 . obtain⟨o,es,ep,ho,r⟩:=hm;exact⟨o,es,ep,k _ o (Xj hL) ho,r⟩
 . refine(I.bA b u e).uH (λc v hc q=>k c v ?_ q) (λ_ q=>q) λ_ _ q=>q;rcases hc with z | z
   . rw[z];exact nit b u e
   . exact nit c _ z
theorem Inv.tok(I:Inv X pins σ H s)(t:Nat):Inv X pins σ H { s with toks:=t }:=I.un (h':=s.heap) (t':=t) Un.refl I.bA
theorem Inv.kept{t':Nat}(I:Inv X pins σ H s)(k: ∀ b u,s.heap.get? b=some u->h'.get? b=some u):Inv X pins σ H { s with heap:=h',toks:=t' }:=I.un (Un.kept k) (I.bA.kept k)
theorem Inv.laid{a:Addr}{o:HO}{t':Nat}(I:Inv X pins σ H s)(k: ∀ b u,s.heap.get? b=some u->h'.get? b=some u)(hp:s.heap.objs.size<=a)(new:aY X.prog X.w (upd H a o) h' a o) :
  Inv X pins σ (upd H a o) { s with heap:=h',toks:=t' }:=I.un (Un.laid k hp (I.bA.fresh hp)) (I.bA.laid k hp new)
theorem Inv.write {x e:Addr} {o:HO} {t':Nat} (I:Inv X pins σ H s) (mu:O9 (H x)) (he:e=x∨H e=some (.own x)) (k: ∀ b u,b≠e->s.heap.get? b=some u->h'.get? b=some u) (heo: ∃ u,h'.get? e=some u)
  (new:aY X.prog X.w (upd H x o) h' x o):Inv X pins σ (upd H x o) { s with heap:=h',toks:=t' }:=I.un (Un.write mu he k heo) (I.bA.write mu he k heo new)
theorem Inv.weak {σ':List (Option V)} (I:Inv X pins σ H s) (hl: σ'.length= σ.length) (w: ∀ (i:Nat) v, σ'[i]?=some (some v)-> σ[i]?=some (some v)):Inv X pins σ' H s :=
 ⟨I.ok,I.os,I.bare,I.base,let ⟨m,hn,hl'⟩:=I.loc;⟨m,hn,λi x v e1 e2 e3=>hl' i x v e1 (w i v e2) e3⟩,I.cell,I.free,I.je,I.pin,I.bA,hl.trans I.len⟩
theorem Inv.jL {pins':List (Addr × Obj)} (I:Inv X pins σ H s) (h: ∀ p∈pins',s.heap.get? p.1=some p.2∧H p.1=none∧p.1≠X.env.locals∧p.1 ∉ X.fs∧ ∀ v,p.2.data≠ .cell v):Inv X pins' σ H s :=
 ⟨I.ok,I.os,I.bare,I.base,I.loc,I.cell,I.free,I.je,λp hp=>(VT.mp hp).elim (λz=>I.pin p (XQ _ z)) (h p),I.bA,I.len⟩
theorem wg{N:List Str}(hN:N.Nodup){i j:Nat}{x:Str}(a:N[i]?=some x)(b:N[j]?=some x):i=j:=by
 obtain⟨h1,e1⟩:=UP.mp a;obtain⟨h2,e2⟩:=UP.mp b;exact(List.getElem_inj hN).mp (e1.trans e2.symm)
theorem sM{M:Model}{A:Vz}{E:Value->UR->Prop}{i:Nat}{x:Str}{v:V}{u:Value}{Q:Unit->UR->Prop}(I:Inv X pins σ H s)(hN:X.N.Nodup)(hi:X.N[i]?=some x)(hx:Loc X.env.scope x)(r:RelV v u)
  (h: ∀ s',Inv X pins (σ.set i (some v)) H s'->(∃ a,Z9 a s.heap s'.heap/\(a=X.env.locals\/X.env.cells.lookup x=some a))->Q () s') (hf:X.fn x=true\/X.env.scope.names.lookup x=some .local:=by first | exact .inl rfl | exact .inr rfl | assumption):wpAny M A (storeName X.env x u) Q E s:=by
 obtain⟨m,hn,hl⟩:=id I.loc;have hcls:(X.env.scope.kind == .class||(X.env.scope.kind == .module&&X.env.locals !=X.env.globals))=false:=by rw[I.ok.kind];rfl
 have hiσ :i < σ.length:=by rw[I.len];exact(UP.mp hi).1
 have NB:=I.NB;have tracked: ∀{a:Addr}{h':Heap},(∃ o,s.heap.get? a=some o/\H a=none)->Z9 a s.heap h'->kb X.prog X.w H h':=λ{a h'} ha hs b ob e=>by
  obtain⟨_,_,hfree⟩:=ha;refine(I.bA b ob e).uH (λc w' hc q=>(hs.2 c ?_).trans q) (λ_ q=>q) λ_ _ q=>q;rintro rfl;rcases hc with rfl | hc
  . rw[hfree] at e;cases e
  . rw[hfree] at hc;cases hc
 rcases hx with hk | hk
 . refine wpAny_storeName_local hk hn (λh' hn' hs=>?_) hcls;obtain⟨oL,_,_,hoL,_⟩:=id hn;refine h _ ⟨I.ok,I.os,I.bare,⟨λb o e n hb hx=>?_,λb o e n hb hx=>?_,I.base.free,λb o e hx=>?_,I.base.mK,I.base.lQ,I.base.nY⟩,⟨_,hn',λj y v' e1 e2 e3=>?_⟩,λy c e=>?_,I.free,I.je,λp hp=>?_,tracked ⟨oL,hoL,I.free⟩ hs,by simpa using I.len⟩ ⟨_,hs,.inl rfl⟩
   . exact(hs.2 b (Vf (U0 (U2 e) I.ok.above))).trans (I.base.keep b o e n hb hx)
   . obtain⟨sl,e1⟩:=I.base.slot b o e n hb hx;exact⟨sl,(hs.2 b (Vf (U0 (U2 e) I.ok.above))).trans e1⟩
   . obtain⟨o',e1⟩:=I.base.there b o e hx;exact⟨o',(hs.2 b (Vf (U0 (U2 e) I.ok.above))).trans e1⟩
   . by_cases hj:j=i
     . subst hj;rw[hi] at e1;cases e1;rw[Vx hiσ] at e2;cases e2;exact⟨u,r,.inl ⟨hk,by simp⟩⟩
     . rw[VU (Xj hj)] at e2;obtain⟨u',r',q⟩:=hl j y v' e1 e2 e3;refine⟨u',r',?_⟩;rcases q with⟨k,e⟩ | ⟨k,c,e,z⟩
       . refine .inl ⟨k,?_⟩;have:y≠x:=λe=>hj (wg hN e1 (e ▸ hi));simp[this,e]
       . exact .inr ⟨k,c,e,z.sameBut hs (NB y c e)⟩
   . obtain⟨w',z⟩:=I.cell y c e;exact⟨w',z.sameBut hs (NB y c e)⟩
   . obtain⟨e,n,ne,nf,d⟩:=I.pin p hp;exact⟨(hs.2 p.1 ne).trans e,n,ne,nf,d⟩
 . have hfn:X.fn x=true:=by
    rcases hf with z | z
    . exact z
    . rw[z] at hk;cases hk
   obtain⟨c,hc⟩:=I.ok.has x (.inl hk);obtain⟨w',z⟩:=I.cell x c hc;refine wpAny_storeName_cell I.ok.kind hk hc z (λh' hc' hs=>?_);obtain⟨oc,hoc,hocd⟩:=id z;refine h { s with heap:=h' } ⟨I.ok,I.os,I.bare,⟨λb o e n hb hx=>?_,λb o e n hb hx=>?_,I.base.free,λb o e hx=>?_,I.base.mK,I.base.lQ,I.base.nY⟩,⟨m,hn.sameBut hs (Xj (NB x c hc)),λj y v' e1 e2 e3=>?_⟩,λy c' e=>?_,I.free,I.je,λp hp=>?_,tracked ⟨oc,hoc,I.je x c hc⟩ hs,by simpa using I.len⟩ ⟨c,hs,.inr hc⟩
   . exact(hs.2 b (Vf (U0 (U2 e) (I.ok.OF x c hfn hc)))).trans (I.base.keep b o e n hb hx)
   . obtain⟨sl,e1⟩:=I.base.slot b o e n hb hx;exact⟨sl,(hs.2 b (Vf (U0 (U2 e) (I.ok.OF x c hfn hc)))).trans e1⟩
   . obtain⟨o',e1⟩:=I.base.there b o e hx;exact⟨o',(hs.2 b (Vf (U0 (U2 e) (I.ok.OF x c hfn hc)))).trans e1⟩
   . by_cases hj:j=i
     . subst hj;rw[hi] at e1;cases e1;rw[Vx hiσ] at e2;cases e2;exact⟨u,r,.inr ⟨.inl hk,c,hc,hc'⟩⟩
     . rw[VU (Xj hj)] at e2;obtain⟨u',r',q⟩:=hl j y v' e1 e2 e3;refine⟨u',r',?_⟩;rcases q with q | ⟨k,c',e,z'⟩
       . exact .inl q
       . refine .inr ⟨k,c',e,z'.sameBut hs ?_⟩;rintro rfl;exact hj (wg hN e1 (I.ok.inj _ _ _ e hc ▸ hi))
   . by_cases hcc:c'=c
     . subst hcc;exact⟨_,hc'⟩
     . obtain⟨w2,z2⟩:=I.cell y c' e;exact⟨w2,z2.sameBut hs hcc⟩
   . obtain⟨e,n,ne,nf,d⟩:=I.pin p hp;refine⟨(hs.2 p.1 ?_).trans e,n,ne,nf,d⟩;intro q;rw[q,hoc] at e;have q':oc=p.2:=VE e;exact d w' (by rw[<- q'];exact hocd)
theorem wR{M:Model}{A:Vz}{E:Value->UR->Prop}{i:Nat}{x:Str}{v:V}{u:Value}{Q:Unit->UR->Prop}(I:Inv X pins σ H s)(hN:X.N.Nodup)(hi:X.N[i]?=some x)(hx:Loc X.env.scope x)(r:RelV v u)
  (h: ∀ s',Inv X pins (σ.set i (some v)) H s'->Q () s') (hf:X.fn x=true\/X.env.scope.names.lookup x=some .local:=by first | exact .inl rfl | exact .inr rfl | assumption):wpAny M A (storeName X.env x u) Q E s :=
 sM I hN hi hx r (λs' I' _=>h s' I') hf
theorem Inv.P8{s':UR}{ch:List Addr}(I:Inv X pins σ H s)(ho:s'.os=s.os)(u:Un (BX X.stack) ch H H' s.heap s'.heap)(bA:kb X.prog X.w H' s'.heap)(hg:Zv s'.gens)
  (hch: ∀ b∈ch,(b∈X.ex\/X.s₀.heap.objs.size<=b)/\b≠X.env.locals/\(∀ x c,X.env.cells.lookup x=some c->c≠b)/\ ∀ p∈X.pn++pins,p.1≠b):Inv X pins σ H' s':=by
 obtain⟨h',g',d',t',o'⟩:=s';have e:o'=s.os:=ho;subst e;exact I.call (g':=g') (t':=t') (d':=d') u bA hg hch
end
abbrev XK:=Value->Option Addr->Hp->Prop
abbrev St:=List (Option V)
abbrev VK:=V->Hp->Prop
abbrev TE:=St->Hp->VK->Prop
abbrev TT:=St->Hp->(Bool->Hp->Prop)->Prop
abbrev TA:=St->Hp->(List V->Hp->Prop)->Prop
structure Ends where
 nx:St->Hp->Prop
 rt:VK
 bk:St->Hp->Prop:=λ_ _=>False
 ct:St->Hp->Prop:=λ_ _=>False
abbrev TS:=Ends->St->Hp->Prop
noncomputable def EP(X:Cx)(pins:List (Addr × Obj))(σ :St)(Q:VK)(u:Value)(s':UR):Prop:= ∃ v H',Inv X pins σ H' s'/\RelV v u/\Q v H'
noncomputable def TP(X:Cx)(pins:List (Addr × Obj))(σ :St)(Q:Bool->Hp->Prop)(b:Bool)(s':UR):Prop:= ∃ H',Inv X pins σ H' s'/\Q b H'
noncomputable def AP(X:Cx)(pins:List (Addr × Obj))(σ :St)(Q:List V->Hp->Prop)(us:List Value)(s':UR):Prop:= ∃ vs H',Inv X pins σ H' s'/\Vals vs us/\Q vs H'
noncomputable def SP(X:Cx)(pins:List (Addr × Obj))(D:Ends)(f:Flow)(s':UR):Prop :=
 match f with
 | .next=> ∃ σ' H',Inv X pins σ' H' s'/\D.nx σ' H'
 | .brk=> ∃ σ' H',Inv X pins σ' H' s'/\D.bk σ' H'
 | .cont=> ∃ σ' H',Inv X pins σ' H' s'/\D.ct σ' H'
 | .ret u=> ∃ v σ' H',Inv X pins σ' H' s'/\RelV v u/\D.rt v H'
noncomputable def PE(X:Cx)(e:Expr)(t:TE):Prop :=
 ∀(pins:List (Addr × Obj))(s:UR)(σ :St)(H:Hp)(Q:VK),Inv X pins σ H s->t σ H Q->wpAny (model X.prog X.w) X.A (eval e X.env) (EP X pins σ Q) X.xe s
noncomputable def PT(X:Cx)(e:Expr)(t:TT):Prop :=
 ∀(pins:List (Addr × Obj))(s:UR)(σ :St)(H:Hp)(Q:Bool->Hp->Prop),Inv X pins σ H s->t σ H Q->wpAny (model X.prog X.w) X.A (abV e X.env (eval e X.env)) (TP X pins σ Q) X.xe s
noncomputable def PW(X:Cx)(e:Expr)(t:TT):Prop :=
 ∀(whole:Sem Value)(pins:List (Addr × Obj))(s:UR)(σ :St)(H:Hp)(Q:Bool->Hp->Prop),Inv X pins σ H s->t σ H Q->wpAny (model X.prog X.w) X.A (abV e X.env whole) (TP X pins σ Q) X.xe s
theorem PW.pt{X:Cx}{e:Expr}{t:TT}(h:PW X e t):PT X e t:=h _
noncomputable def PA(X:Cx)(es:List Expr)(t:TA):Prop :=
 ∀(pos:Pos)(pins:List (Addr × Obj))(s:UR)(σ :St)(H:Hp)(Q:List V->Hp->Prop),Inv X pins σ H s->t σ H Q->wpAny (model X.prog X.w) X.A (spliced (Ym pos (VD es X.env))) (AP X pins σ Q) X.xe s
noncomputable def PS(X:Cx)(st:Stmt)(t:TS):Prop :=
 ∀(pins:List (Addr × Obj))(s:UR)(σ :St)(H:Hp)(D:Ends),Inv X pins σ H s->t D σ H->wpAny (model X.prog X.w) X.A (exec st X.env) (SP X pins D) X.xe s
noncomputable def wW(X:Cx)(st:List Stmt)(t:TS):Prop :=
 ∀(pins:List (Addr × Obj))(s:UR)(σ :St)(H:Hp)(D:Ends),Inv X pins σ H s->t D σ H->wpAny (model X.prog X.w) X.A (execs st X.env) (SP X pins D) X.xe s
theorem cJ{α :Type}{t:Sem α}{Q Q': α ->UR->Prop}{M:Model}{A:Vz}{E:Value->UR->Prop}{s:UR}(h:wpAny M A t Q E s)(hQ: ∀ a s,Q a s->Q' a s):wpAny M A t Q' E s:=VB h hQ λ_ _ x=>x
section
variable{X:Cx}
theorem bin{a b:Expr}{ta tb:TE}(ha:PE X a ta)(hb:PE X b tb){pins:List (Addr × Obj)}{s:UR}{σ :St}{H:Hp}{R:V->V->Hp->Prop}(I:Inv X pins σ H s)(h:ta σ H λx H1=>tb σ H1 λy H2=>R x y H2)
  {α :Type} {Q: α ->UR->Prop} {f:Value->Value->Sem α}
  (hf: ∀ v u s2 x y H2,Inv X pins σ H2 s2->RelV x v->RelV y u->R x y H2->wpAny (model X.prog X.w) X.A (f v u) Q X.xe s2) :
  wpAny (model X.prog X.w) X.A (eval a X.env) (λv s₁ =>wpAny (model X.prog X.w) X.A (eval b X.env) (λu s₂ =>wpAny (model X.prog X.w) X.A (f v u) Q X.xe s₂) X.xe s₁) X.xe s:=by
 refine cJ (ha pins s σ H _ I h) λv s1 ⟨x,H1,I1,r1,q1⟩=>?_;refine cJ (hb pins s1 σ H1 _ I1 q1) λu s2 ⟨y,H2,I2,r2,q2⟩=>?_;exact hf v u s2 x y H2 I2 r1 r2 q2
noncomputable def QV (i:Nat):TE:=fun σ H Q=> ∃ v, σ[i]?=some (some v)∧Q v H
noncomputable def tC (v:V):TE:=λ_ H Q=>Q v H
theorem MQ {i:Nat} {x:Str} {pos:Pos} (hN:X.N[i]?=some x) (hv:OA X.env.scope x) (hd:(x == ("__debug__" :Str))=false:=by decide) (hcd:(x == ("__classdict__" :Str))=false:=by decide):PE X (.Name x pos) (QV i):=by
 intro pins s σ H Q I h;obtain⟨v,e,h⟩:=h;obtain⟨m,hn,hl⟩:=I.loc;obtain⟨u,r,l⟩:=hl i x v hN e hv;have fin:EP X pins σ Q u s:=⟨v,H,I,r,h⟩
 rcases l with⟨hk,hm⟩ | ⟨hk,c,hc,hcell⟩
 . exact wpAny_Name (wpAny_loadName_local I.ok.kind hk hn hm fin) hd
 . rcases hk with hk | hk
   . exact wpAny_Name (wpAny_loadName_cell I.ok.kind hk hc hcell fin) hd
   . exact wpAny_Name (wpAny_loadName_free I.ok.kind hk hc hcell fin hcd) hd
theorem LO{i j pos}:PE X (.Constant (.int i) j pos) (tC (.int i)):=λ_ _ _ H _ I h=>wpAny_Constant_int ⟨.int i,H,I.tok _,⟨_,rfl⟩,h⟩
theorem RB{b j pos}:PE X (.Constant (.bool b) j pos) (tC (.bl b)):=λ_ _ _ H _ I h=>Constant_bool ⟨.bl b,H,I,rfl,h⟩
theorem Oq{j pos}:PE X (.Constant .none j pos) (tC .non):=λ_ _ _ H _ I h=>abe ⟨.non,H,I,rfl,h⟩
theorem Om{x j pos}:PE X (.Constant (.str x) j pos) (tC (.str x)):=λ_ _ _ H _ I h=>Calls.Constant_str ⟨.str x,H,I.tok _,⟨_,rfl⟩,h⟩
noncomputable def Gl(X:Cx)(x:Str):Prop:=X.env.kindOf x=some .globalImplicit
theorem zC{E:Value->UR->Prop}{pins:List (Addr × Obj)}{s:UR}{σ :St}{H:Hp}{x:Str}{u:Value}{pos:Pos}{Q:Value->UR->Prop}(I:Inv X pins σ H s)(hg:Gl X x)(hm:X.mg x=some u)(h:Q u s)
  (hd:(x == ("__debug__" :Str))=false:=by decide):wpAny (model X.prog X.w) X.A (eval (.Name x pos) X.env) Q E s :=
 Zc I.ok.kind hg (Calls.loadGlobal_global (by rw[I.ok.glob];exact I.mod.glob.keeps I.bk) hm h) hd
theorem ju{E:Value->UR->Prop}{pins:List (Addr × Obj)}{s:UR}{σ :St}{H:Hp}{x:Str}{u:Value}{pos:Pos}{Q:Value->UR->Prop}(I:Inv X pins σ H s)(hg:Gl X x)(hm:X.mg x=none)(hv:V8 x=some u)(h:Q u s)
  (hn:x≠ "__name__" :=by decide) (hd:(x == ("__debug__" :Str))=false:=by decide):wpAny (model X.prog X.w) X.A (eval (.Name x pos) X.env) Q E s:=by
 obtain⟨mb,h1,h2⟩:=I.mod.blt;exact Zc I.ok.kind hg (Calls.loadGlobal_builtin (by rw[I.ok.glob];exact I.mod.glob.keeps I.bk) hm (by rw[I.ok.blt];exact h1.keeps I.bk) ((h2 x hn).trans hv) h) hd
theorem zo{x:Str}{v:V}{u:Value}{pos:Pos}(hg:Gl X x)(hm:X.mg x=some u)(r:RelV v u)(hd:(x == ("__debug__" :Str))=false:=by decide):PE X (.Name x pos) (tC v) :=
 λ_ _ _ H _ I h=>zC I hg hm ⟨v,H,I,r,h⟩ hd
theorem FW{x:Str}{v:V}{u:Value}{pos:Pos}(hg:Gl X x)(hm:X.mg x=none)(hv:V8 x=some u)(r:RelV v u)(hn:x≠ "__name__" :=by decide)(hd:(x == ("__debug__" :Str))=false:=by decide):PE X (.Name x pos) (tC v) :=
 λ_ _ _ H _ I h=>ju I hg hm hv ⟨v,H,I,r,h⟩ hn hd
variable{a b:Expr}{ta tb:TE}{pos:Pos}
noncomputable def PC(X:Cx)(op:CmpOp)(a b:Expr)(t:TE):Prop :=
 ∀(pins:List (Addr × Obj))(s:UR)(σ :St)(H:Hp)(Q:VK),Inv X pins σ H s->t σ H Q ->
  wpAny (model X.prog X.w) X.A (eval a X.env) (λv s₁ =>wpAny (model X.prog X.w) X.A (eval b X.env) (λu s₂ =>wpAny (model X.prog X.w) X.A (Vu op v u) (EP X pins σ Q) X.xe s₂) X.xe s₁) X.xe s
theorem vv(b:Expr){op:CmpOp}(h:op≠ .In)(h2:op≠ .NotIn):Wg op b=false:=by
 have e1:(op == CmpOp.In)=false:=by cases op<;>first | rfl | exact absurd rfl h
 have e2:(op == CmpOp.NotIn)=false:=by cases op<;>first | rfl | exact absurd rfl h2
 cases b<;>simp[Wg,e1,e2]
noncomputable def N7(ta:TE):TE:=fun σ H Q=>ta σ H λx H1=>Q (.bl (decide (x= .non))) H1
noncomputable def Ja(ta:TE):TE:=fun σ H Q=>ta σ H λx H1=>Q (.bl (!decide (x= .non))) H1
theorem RelV.wx{x:V}{v:Value}(r:RelV x v):(v == WW)=decide (x= .non):=by
 cases x with
 | non=>cases r;rfl
 | bl _=>cases r;rfl
 | int _=>obtain⟨t,rfl⟩:=r;rfl
 | str _=>obtain⟨t,rfl⟩:=r;rfl
 | byt _=>obtain⟨t,rfl⟩:=r;rfl
 | flt _=>obtain⟨t,rfl⟩:=r;rfl
 | ref _=>cases r;rfl
 | ty _=>cases r;rfl
theorem C6{j pos'}(ha:PE X a ta):PC X .Is a (.Constant .none j pos') (N7 ta):=by
 intro pins s σ H Q I h;refine cJ (ha pins s σ H _ I h) λv s1 ⟨x,H1,I1,r1,q1⟩=>?_;exact abe (is_none_gen ⟨.bl _,H1,I1,by rw[r1.wx];rfl,q1⟩)
theorem Gu{j pos'}(ha:PE X a ta):PC X .IsNot a (.Constant .none j pos') (Ja ta):=by
 intro pins s σ H Q I h;refine cJ (ha pins s σ H _ I h) λv s1 ⟨x,H1,I1,r1,q1⟩=>?_;exact abe (isnot_none_gen ⟨.bl _,H1,I1,by rw[r1.wx];rfl,q1⟩)
noncomputable def tB(t:TE):TT:=fun σ H Q=>t σ H λx H1=> ∃ c,x= .bl c/\Q c H1
theorem Nj{op:CmpOp}{t:TE}(h:PC X op a b t)(h1:Wg op b=false:=by first | exact vv _ (by decide) (by decide) | rfl):PE X (.Compare a [op] [b] pos) t:=λpins s σ H Q I hw=>wpAny_Compare1 (h pins s σ H Q I hw) h1
theorem DL{op:CmpOp}{t:TE}(h:PC X op a b t)(h1:Wg op b=false:=by first | exact vv _ (by decide) (by decide) | rfl):PT X (.Compare a [op] [b] pos) (tB t):=by
 intro pins s σ H Q I hw;refine aaz (cJ (h pins s σ H _ I hw) λv s1 h1=>cJ h1 λu s2 h2=>cJ h2 λc s3 ⟨x,H1,I1,r1,q1⟩=>?_) h1;obtain⟨d,rfl,q⟩:=q1;cases r1;exact WJ ⟨H1,I1,q⟩
theorem NO{e:Expr}{t:TE}(h:PE X e t)(he: ∀ whole,abV e X.env whole=(do let v <- whole;acm e.pos;Y0 [v] (truthy v)):=by intro _;rfl):PT X e (tB t):=by
 intro pins s σ H Q I hw;refine isTrue_plain (cJ (h pins s σ H _ I hw) λv s1 ⟨x,H1,I1,r1,q1⟩=>?_) (he _);obtain⟨d,rfl,q⟩:=q1;cases r1;exact WJ ⟨H1,I1,q⟩
variable{tA tB':TT}{rest:List Expr}
noncomputable def O4(t u:TT):TT:=fun σ H Q=>t σ H λc H1=>if c=true then u σ H1 Q else Q false H1
noncomputable def TV(t u:TT):TT:=fun σ H Q=>t σ H λc H1=>if c=true then Q true H1 else u σ H1 Q
noncomputable def O3(t:TT):TT:=fun σ H Q=>t σ H λc H1=>Q (!c) H1
theorem pw_and1(ha:PT X a tA):PW X (.BoolOp .And [a] pos) tA:=by
 intro wh pins s σ H Q I h;refine isTrue_and (cJ (ha pins s σ H Q I h) λc s1 e=>?_);cases c with
 | true=>exact isTrue_and_nil e
 | false=>exact e
theorem pw_or1(ha:PT X a tA):PW X (.BoolOp .Or [a] pos) tA:=by
 intro wh pins s σ H Q I h;refine isTrue_or (cJ (ha pins s σ H Q I h) λc s1 e=>?_);cases c with
 | false=>exact isTrue_or_nil e
 | true=>exact e
theorem pw_and(ha:PT X a tA)(hb:PW X (.BoolOp .And (b::rest) pos) tB'):PW X (.BoolOp .And (a::b::rest) pos) (O4 tA tB'):=by
 intro wh pins s σ H Q I h;refine isTrue_and (cJ (ha pins s σ H _ I h) λc s1 ⟨H1,I1,q1⟩=>?_);cases c with
 | true=>exact hb wh pins s1 σ H1 Q I1 q1
 | false=>exact⟨H1,I1,q1⟩
theorem pw_or(ha:PT X a tA)(hb:PW X (.BoolOp .Or (b::rest) pos) tB'):PW X (.BoolOp .Or (a::b::rest) pos) (TV tA tB'):=by
 intro wh pins s σ H Q I h;refine isTrue_or (cJ (ha pins s σ H _ I h) λc s1 ⟨H1,I1,q1⟩=>?_);cases c with
 | true=>exact⟨H1,I1,q1⟩
 | false=>exact hb wh pins s1 σ H1 Q I1 q1
theorem Mw(ha:PT X a tA):PT X (.UnaryOp .Not a pos) (O3 tA):=by
 intro pins s σ H Q I h;exact isTrue_not (ha pins s σ H (λc H1=>Q (!c) H1) I h)
noncomputable def Js(ta tb:TE):TE:=fun σ H Q=>ta σ H λx H1=> ∃ c,x= .bl c/\if c=true then tb σ H1 Q else Q (.bl false) H1
noncomputable def Pl(ta tb:TE):TE:=fun σ H Q=>ta σ H λx H1=> ∃ c,x= .bl c/\if c=true then Q (.bl true) H1 else tb σ H1 Q
noncomputable def Jc(ta:TE):TE:=fun σ H Q=>ta σ H λx H1=> ∃ c,x= .bl c/\Q (.bl (!c)) H1
theorem Lh{op}{t:TE}(h:PE X a t):PE X (.BoolOp op [a] pos) t:=λpins s σ H Q I hw=>BoolOp_one (h pins s σ H Q I hw)
theorem Ml(ha:PE X a ta)(hb:PE X (.BoolOp .And (b::rest) pos) tb):PE X (.BoolOp .And (a::b::rest) pos) (Js ta tb):=by
 intro pins s σ H Q I h;refine BoolOp_and (cJ (ha pins s σ H _ I h) λv s1 ⟨x,H1,I1,r1,q1⟩=>?_);obtain⟨c,rfl,q1⟩:=q1;cases r1;refine WJ ?_;cases c with
 | true=>exact hb pins s1 σ H1 Q I1 q1
 | false=>exact⟨.bl false,H1,I1,rfl,q1⟩
theorem Rh(ha:PE X a ta)(hb:PE X (.BoolOp .Or (b::rest) pos) tb):PE X (.BoolOp .Or (a::b::rest) pos) (Pl ta tb):=by
 intro pins s σ H Q I h;refine BoolOp_or (cJ (ha pins s σ H _ I h) λv s1 ⟨x,H1,I1,r1,q1⟩=>?_);obtain⟨c,rfl,q1⟩:=q1;cases r1;refine WJ ?_;cases c with
 | false=>exact hb pins s1 σ H1 Q I1 q1
 | true=>exact⟨.bl true,H1,I1,rfl,q1⟩
theorem Lr(ha:PE X a ta):PE X (.UnaryOp .Not a pos) (Jc ta):=by
 intro pins s σ H Q I h;refine UnaryOp_ (cJ (ha pins s σ H _ I h) λv s1 ⟨x,H1,I1,r1,q1⟩=>?_);obtain⟨c,rfl,q1⟩:=q1;cases r1;exact not_of (WJ ⟨.bl (!c),H1,I1,rfl,q1⟩)
noncomputable def Uv(t:TT)(ta tb:TE):TE:=fun σ H Q=>t σ H λc H1=>if c=true then ta σ H1 Q else tb σ H1 Q
theorem Dz{c:Expr}(hc:PT X c tA)(ha:PE X a ta)(hb:PE X b tb):PE X (.IfExp c a b pos) (Uv tA ta tb):=by
 intro pins s σ H Q I h;refine wpAny_IfExp (cJ (hc pins s σ H _ I h) λd s1 ⟨H1,I1,q1⟩=>?_);cases d with
 | true=>exact ha pins s1 σ H1 Q I1 q1
 | false=>exact hb pins s1 σ H1 Q I1 q1
end
noncomputable def iY(K:UL)(H:Hp)(a:Addr)(xs:List V):Prop :=
 Rd H a (.lst xs) \/
  ∃(o:Obj)(aj:Array Value)(n:Nat),K.lookup a=some o/\o.cls= .type "list" /\o.dict=none/\o.data= .seq aj n/\aj.size<=sizeLine/\Vals xs aj.toList
noncomputable def fq(K:UL)(H:Hp)(a:Addr)(xs:List V):Prop :=
 Rd H a (.tup xs) \/
  ∃(o:Obj)(aj:Array Value)(n:Nat),K.lookup a=some o/\o.cls= .type "tuple" /\o.data= .seq aj n/\aj.size<=sizeLine/\Vals xs aj.toList
noncomputable def TB:Value->Option V
 | .none=>some .non
 | .bool b=>some (.bl b)
 | .int i _=>some (.int i)
 | .str x _=>some (.str x)
 | .bytes b _=>some (.byt b)
 | .float b _=>some (.flt b)
 | .ref a=>some (.ref a)
 | .type n=>some (.ty n)
 | _=>none
theorem RelV.abs{x:V}{u:Value}(r:RelV x u):TB u=some x:=by
 cases x with
 | non=>cases r;rfl
 | bl _=>cases r;rfl
 | int _=>obtain⟨t,rfl⟩:=r;rfl
 | str _=>obtain⟨t,rfl⟩:=r;rfl
 | byt _=>obtain⟨t,rfl⟩:=r;rfl
 | flt _=>obtain⟨t,rfl⟩:=r;rfl
 | ref _=>cases r;rfl
 | ty _=>cases r;rfl
theorem RelV.inj{x y:V}{u:Value}(r:RelV x u)(q:RelV y u):x=y:=VE (r.abs.symm.trans q.abs)
theorem Vals.inj: ∀{xs ys:List V}{us:List Value},Vals xs us->Vals ys us->xs=ys
 | _,_,_,.nil,.nil=>rfl
 | _,_,_,.cons r t,.cons r' t'=>by rw[r.inj r',Vals.inj t t']
section
variable{X:Cx}{pins:List (Addr × Obj)}{σ :St}{H:Hp}{s:UR}{a:Addr}{xs ys:List V}
theorem iY.of{K:UL}(h:H a=some (.lst xs)):iY K H a xs:= .inl (.inl h)
theorem fq.of{K:UL}(h:H a=some (.tup xs)):fq K H a xs:= .inl (.inl h)
theorem Inv.list(I:Inv X pins σ H s)(h:iY X.K H a xs): ∃ aj:List Value,Vals xs aj/\PlainL s.heap a aj.toArray/\xs.length<=sizeLine:=by
 rcases h with h | ⟨o,aj,n,hk,hc,hd,hs,hz,r⟩
 . obtain⟨z,aj,n,r,e⟩:=h.ok I.bA;exact⟨aj,r,⟨_,n,e,rfl,rfl,rfl⟩,z⟩
 . refine⟨aj.toList,r,⟨o,n,I.l9 a o hk,hc,hd,by simpa using hs⟩,?_⟩;have e:=r.length;simp only[Wy] at e;omega
theorem Inv.tuple(I:Inv X pins σ H s)(h:fq X.K H a xs): ∃ aj:List Value,Vals xs aj/\IsTup s.heap a aj.toArray/\xs.length<=sizeLine:=by
 rcases h with h | ⟨o,aj,n,hk,hc,hs,hz,r⟩
 . obtain⟨z,aj,r,p⟩:=h.ok I.bA;exact⟨aj,r,p.tup,z⟩
 . refine⟨aj.toList,r,⟨o,I.l9 a o hk,hc,n,by simpa using hs⟩,?_⟩;have e:=r.length;simp only[Wy] at e;omega
theorem Inv.Ce(I:Inv X pins σ H s)(h:iY X.K H a xs)(h':iY X.K H a ys):xs=ys:=by
 obtain⟨aj,r,⟨o,n,e,_,_,d⟩,_⟩:=I.list h;obtain⟨its',r',⟨o',n',e',_,_,d'⟩,_⟩:=I.list h';rw[e] at e';cases e';rw[d] at d';injection d' with d1 _;have:aj=its':=by simpa using congrArg acA d1
 subst this;exact r.inj r'
theorem Inv.jH(I:Inv X pins σ H s)(h:fq X.K H a xs)(h':fq X.K H a ys):xs=ys:=by
 obtain⟨aj,r,⟨o,e,_,n,d⟩,_⟩:=I.tuple h;obtain⟨its',r',⟨o',e',_,n',d'⟩,_⟩:=I.tuple h';rw[e] at e';cases e';rw[d] at d';injection d' with d1 _;have:aj=its':=by simpa using congrArg acA d1
 subst this;exact r.inj r'
end
abbrev Cx.og(X:Cx)(E:Value->UR->Prop):Cx:={ X with xe:=E }
abbrev Cx.pW(X:Cx):Cx:=X.og λ_ _=>False
theorem Cx.Ok.og{X:Cx}(ok:X.Ok)(E:Value->UR->Prop):(X.og E).Ok :=
 ⟨ok.mod,ok.kind,ok.glob,ok.blt,ok.above,ok.inj,ok.has,ok.OF,ok.hd,ok.frames,ok.P6,ok.S7,ok.bs,ok.E3,ok.Ar,ok.CN,ok.m5,ok.Jh⟩
theorem Cx.Ok.gU{X:Cx}{E:Value->UR->Prop}(ok:(X.og E).Ok):X.Ok :=
 ⟨ok.mod,ok.kind,ok.glob,ok.blt,ok.above,ok.inj,ok.has,ok.OF,ok.hd,ok.frames,ok.P6,ok.S7,ok.bs,ok.E3,ok.Ar,ok.CN,ok.m5,ok.Jh⟩
section
variable{X:Cx}{pins:List (Addr × Obj)}{σ :St}{H:Hp}{s:UR}{E:Value->UR->Prop}
theorem Inv.og(I:Inv X pins σ H s)(E:Value->UR->Prop):Inv (X.og E) pins σ H s:=⟨I.ok.og E,I.os,I.bare,I.base,I.loc,I.cell,I.free,I.je,I.pin,I.bA,I.len⟩
theorem Inv.gU(I:Inv (X.og E) pins σ H s):Inv X pins σ H s:=⟨I.ok.gU,I.os,I.bare,I.base,I.loc,I.cell,I.free,I.je,I.pin,I.bA,I.len⟩
theorem SP.gU{D:Ends}{f:Flow}{s':UR}(h:SP (X.og E) pins D f s'):SP X pins D f s':=by
 cases f with
 | next=>obtain ⟨σ',H',I,q⟩:=h;exact ⟨σ',H',I.gU,q⟩
 | brk=>obtain ⟨σ',H',I,q⟩:=h;exact ⟨σ',H',I.gU,q⟩
 | cont=>obtain ⟨σ',H',I,q⟩:=h;exact ⟨σ',H',I.gU,q⟩
 | ret u=>obtain ⟨v, σ',H',I,r,q⟩:=h;exact ⟨v, σ',H',I.gU,r,q⟩
theorem PE.pW {e:Expr} {t:TE} (h:PE X.pW e t):PE X e t:=λpins s σ H Q I hw =>
 VB (h pins s σ H Q (I.og _) hw) (λ_ _ ⟨v,H',I',r,q⟩=>⟨v,H',I'.gU,r,q⟩) λ_ _ z=>Wt z
theorem PT.pW {e:Expr} {t:TT} (h:PT X.pW e t):PT X e t:=λpins s σ H Q I hw =>
 VB (h pins s σ H Q (I.og _) hw) (λ_ _ ⟨H',I',q⟩=>⟨H',I'.gU,q⟩) λ_ _ z=>Wt z
theorem wW.pW{st:List Stmt}{t:TS}(h:wW X.pW st t):wW X st t:=λpins s σ H D I hw =>
 VB (h pins s σ H D (I.og _) hw) (λ_ _ q=>q.gU) λ_ _ z=>Wt z
end
section
variable{X:Cx}{st:Stmt}{rest:List Stmt}{t u:TS}{e:Expr}{te:TE}{pos:Pos}
noncomputable def DQ:TS:=λD σ H=>D.nx σ H
noncomputable def NS(t u:TS):TS:=λD σ H=>t { D with nx:=u D } σ H
theorem GG:wW X [] DQ:=λ_ _ σ H _ I h=>Yd ⟨σ,H,I,h⟩
theorem Dj(h1:PS X st t)(h2:wW X rest u):wW X (st::rest) (NS t u):=by
 intro pins s σ H D I h;refine wpAny_execs_cons (cJ (h1 pins s σ H { D with nx:=u D } I h) λf s1 q=>?_);cases f with
 | next =>
  obtain⟨σ',H',I',q⟩:=q
  exact h2 pins s1 σ' H' D I' q
 | ret v=>exact q
 | brk=>exact q
 | cont=>exact q
theorem Ge(h1:PS X st t):wW X [st] t:=by
 intro pins s σ H D I h;refine wpAny_execs_cons (cJ (h1 pins s σ H D I h) λf s1 q=>?_);cases f with
 | next=>exact Yd q
 | ret v=>exact q
 | brk=>exact q
 | cont=>exact q
theorem Inv.quiet{pins:List (Addr × Obj)}{σ :St}{H:Hp}{s:UR}(I:Inv X pins σ H s):interactive X.env=false:=by simp[interactive,I.ok.kind]
noncomputable def JN(te:TE):TS:=λD σ H=>te σ H λ_ H1=>D.nx σ H1
theorem G9(he:PE X e te)(hs:XF e none pos.line X.env=pure false:=by rfl):PS X (.Expr e pos) (JN te):=by
 intro pins s σ H D I h;exact wpAny_Expr_any (cJ (he pins s σ H _ I h) λv s1 ⟨x,H1,I1,r1,q1⟩=>⟨σ,H1,I1,q1⟩) I.quiet hs
noncomputable def Pc (te:TE):TS:=λD σ H=>te σ H D.rt
theorem Kf (he:PE X e te):PS X (.Return (some e) pos) (Pc te):=by
 intro pins s σ H D I h;exact wpAny_Return_some (cJ (he pins s σ H _ I h) λv s1 ⟨x,H1,I1,r1,q1⟩=>⟨x, σ,H1,I1,r1,q1⟩)
noncomputable def OH (c:TT) (t u:TS):TS:=λD σ H=>c σ H λb H1=>if b=true then t D σ H1 else u D σ H1
theorem P9 {c:Expr} {a b:List Stmt} {tc:TT} (hc:PT X c tc) (ha:wW X a t) (hb:wW X b u):PS X (.If c a b pos) (OH tc t u):=by
 intro pins s σ H D I h;refine wpAny_If (cJ (hc pins s σ H _ I h) λd s1 ⟨H1,I1,q1⟩=>?_);cases d with
 | true=>exact ha pins s1 σ H1 D I1 q1
 | false=>exact hb pins s1 σ H1 D I1 q1
noncomputable def L9:TS:=λ_ _ _=>False
theorem D7:PS X st L9:=λ_ _ _ _ _ _ h=>h.elim
end
abbrev TG:=V->St->Hp->(St->Hp->Prop)->Prop
abbrev uP:=List V->St->Hp->(St->Hp->Prop)->Prop
noncomputable def PG(X:Cx)(target:Expr)(t:TG):Prop :=
 ∀(pins:List (Addr × Obj))(s:UR)(σ :St)(H:Hp)(v:V)(u:Value)(Q:St->Hp->Prop),Inv X pins σ H s->RelV v u->t v σ H Q ->
  wpAny (model X.prog X.w) X.A (Yn target X.env u) (λ_ s'=> ∃ σ' H',Inv X pins σ' H' s'/\Q σ' H') X.xe s
noncomputable def Pd(X:Cx)(ts:List Expr)(t:uP):Prop :=
 ∀(pins:List (Addr × Obj))(s:UR)(σ :St)(H:Hp)(vs:List V)(us:List Value)(Q:St->Hp->Prop),Inv X pins σ H s->Vals vs us->t vs σ H Q ->
  wpAny (model X.prog X.w) X.A (assignInOrder ((V4 ts X.env).map (·.2)) us) (λ_ s'=> ∃ σ' H',Inv X pins σ' H' s'/\Q σ' H') X.xe s
abbrev Cf:=V->V->V->Hp->(Hp->Prop)->Prop
noncomputable def rq(X:Cx)(t:Cf):Prop :=
 ∀(pins:List (Addr × Obj))(s:UR)(σ :St)(H:Hp)(o i v:V)(ov iv u:Value)(Q:Hp->Prop),Inv X pins σ H s->RelV o ov->RelV i iv->RelV v u->t o i v H Q ->
  wpAny (model X.prog X.w) X.A (setItem ov iv u) (λ_ s'=> ∃ H',Inv X pins σ H' s'/\Q H') X.xe s
section
variable{X:Cx}{pos:Pos}
noncomputable def fW(i:Nat):TG:=λv σ H Q=>Q (σ.set i (some v)) H
theorem HJ{i:Nat}{x:Str}(hN:X.N.Nodup)(hi:X.N[i]?=some x)(hx:Loc X.env.scope x)(hf:X.fn x=true\/X.env.scope.names.lookup x=some .local:=by first | exact .inl rfl | exact .inr rfl | assumption):PG X (.Name x pos) (fW i):=by
 intro pins s σ H v u Q I r h;exact wpAny_assign_Name (wR I hN hi hx r (λs' I'=>⟨_,H,I',h⟩) hf)
noncomputable def BO:uP:=λvs σ H Q=>vs=[]/\Q σ H
noncomputable def nM(t:TG)(u:uP):uP:=λvs σ H Q=> ∃ v r,vs=v::r/\t v σ H fun σ' H'=>u r σ' H' Q
theorem FE:Pd X [] BO:=by
 intro pins s σ H vs us Q I r h;obtain⟨e,h⟩:=h;subst e;cases r;exact assignInOrder_nil ⟨σ,H,I,h⟩
theorem Ci{e:Expr}{es:List Expr}{t:TG}{u:uP}(h1:PG X e t)(h2:Pd X es u)
  (hs:(V4 (e::es) X.env).map (·.2)=Yn e X.env::(V4 es X.env).map (·.2):=by rfl):Pd X (e::es) (nM t u):=by
 intro pins s σ H vs us Q I r h;obtain⟨v,vr,e1,h⟩:=h;subst e1;cases r with
 | cons r rr =>
  rw[hs]
  refine assignInOrder_cons (cJ (h1 pins s σ H _ _ _ I r h) λ_ s1 ⟨σ1,H1,I1,q1⟩=>?_)
  exact h2 pins s1 σ1 H1 _ _ Q I1 rr q1
noncomputable def xF(K:UL)(n:Nat)(t:uP):TG:=λv σ H Q=> ∃ a xs,v= .ref a/\fq K H a xs/\xs.length=n/\t xs σ H Q
theorem L0{es:List Expr}{k:Nat}{t:uP}{n:Nat}(hc:X.calm=true)(h:Pd X es t)
  (hn:(V4 es X.env).length=n:=by rfl) (hst:(V4 es X.env).findIdx? (·.1)=none:=by rfl):PG X (.Tuple es k pos) (xF X.K n t):=by
 intro pins s σ H v u Q I r hw;obtain⟨a,xs,e1,hq,hl,hw⟩:=hw;subst e1;cases r;obtain⟨aj,rv,ht,hz⟩:=I.tuple hq;refine assign_Tuple_tuple (I.ok.hd hc) ht (by simp[hn,<- hl,rv.length]) hst λh' hx=>?_;have I1:Inv X pins σ H { s with heap:=h' }:=I.kept (t':=s.toks) λb o e=>hx b o (Vf (U2 e)) e;exact h pins _ σ H xs _ Q I1 (by simpa using rv) hw
noncomputable def SU(to ti:TE)(t:Cf):TG:=λv σ H Q=>to σ H λo H1=>ti σ H1 λi H2=>t o i v H2 λH3=>Q σ H3
theorem MV{o i:Expr}{to ti:TE}{t:Cf}(ho:PE X o to)(hi:PE X i ti)(hs:rq X t)
  (ha: ∀ v,Yn (.Subscript o i pos) X.env v=(do
   let ov <- Y0 [v] (eval o X.env)
   let iv <- Y0 [v,ov] (eval i X.env)
   acm pos
   Y0 [v,ov,iv] (setItem ov iv v)
   release [v,ov,iv] []):=by intro _;rfl):PG X (.Subscript o i pos) (SU to ti t):=by
 intro pins s σ H v u Q I r h;rw[ha];refine UN (Ws (cJ (ho pins s σ H _ I h) λov s1 ⟨x,H1,I1,r1,q1⟩=>?_));refine UN (Ws (cJ (hi pins s1 σ H1 _ I1 q1) λiv s2 ⟨y,H2,I2,r2,q2⟩=>?_));refine UN (abf (UN (Ws (cJ (hs pins s2 σ H2 x y v ov iv u _ I2 r1 r2 r q2) λ_ s3 ⟨H3,I3,q3⟩=>?_))));exact wpAny_release ⟨σ,H3,I3,q3⟩
noncomputable def F7(te:TE)(g:TG):TS:=λD σ H=>te σ H λx H1=>g x σ H1 D.nx
theorem KU{tg e:Expr}{te:TE}{g:TG}(he:PE X e te)(hg:PG X tg g)(hs:ZE [tg] e pos.line X.env=pure false:=by rfl)(hw:ZF [tg] e X.env=pure none:=by rfl)
  (h1:(V4 [tg] X.env).map (·.2)=[Yn tg X.env]:=by rfl):PS X (.Assign [tg] e pos) (F7 te g):=by
 intro pins s σ H D I h;refine wpAny_Assign_stores (cJ (he pins s σ H _ I h) λv s1 ⟨x,H1,I1,r1,q1⟩=>?_) hs hw;rw[h1];exact cJ (hg pins s1 σ H1 x v _ I1 r1 q1) λ_ s2 q=>q
theorem KY{i:Nat}{x:Str}{e:Expr}{te:TE}{pos':Pos}(hN:X.N.Nodup)(hi:X.N[i]?=some x)(hx:Loc X.env.scope x)(he:PE X e te)(hs:XF e (some (.Name x pos')) pos.line X.env=pure false:=by rfl)(hf:X.fn x=true\/X.env.scope.names.lookup x=some .local:=by first | exact .inl rfl | exact .inr rfl | assumption) :
  PS X (.Assign [.Name x pos'] e pos) (F7 te (fW i)):=by
 intro pins s σ H D I h;refine wpAny_Assign_Name (cJ (he pins s σ H _ I h) λv s1 ⟨y,H1,I1,r1,q1⟩=>?_) hs;exact wR I1 hN hi hx r1 (λs2 I2=>⟨_,H1,I2,q1⟩) hf
end
section
variable{X:Cx}{pos:Pos}
noncomputable def B1(c:TT)(tb:TS):TS:=λD σ H=> ∃ W:Nat->St->Hp->Prop,(∃ m,W m σ H)/\ ∀ m σ H,W m σ H ->
 c σ H λb H1=>if b=true then ∃ N:St->Hp->Prop,(∀ σ' H',N σ' H'-> ∃ m',m' < m/\W m' σ' H')/\tb { D with nx:=N,ct:=N,bk:=D.nx } σ H1 else D.nx σ H1
theorem Dk{c:Expr}{body:List Stmt}{tc:TT}{tb:TS}(hp:ZT (model X.prog X.w) X.A X.env X.xe)(hc:PT X c tc)(hb:wW X body tb):PS X (.While c body [] pos) (B1 tc tb):=by
 intro pins s σ H D I h;obtain⟨W,⟨m0,w0⟩,turn⟩:=h;refine wpAny_While (codeAny_whileLoop (λn s'=> ∃ σ' H',Inv X pins σ' H' s'/\W n σ' H') ?_ m0 ⟨σ,H,I,w0⟩);rintro n s1 ⟨σ1,H1,I1,w1⟩;refine W9 hp (cJ (hc pins s1 σ1 H1 _ I1 (turn n σ1 H1 w1)) λb s2 ⟨H2,I2,q2⟩=>?_);cases b with
 | true =>
  obtain⟨N,hN,q2⟩:=q2
  rw[if_pos rfl]
  refine W9 hp (cJ (hb pins s2 σ1 H2 _ I2 q2) λf s3 q3=>?_)
  cases f with
  | next =>
   obtain ⟨σ3,H3,I3,n3⟩:=q3
   obtain ⟨m',hm,w3⟩:=hN σ3 H3 n3
   exact ⟨m',hm, σ3,H3,I3,w3⟩
  | cont =>
   obtain ⟨σ3,H3,I3,n3⟩:=q3
   obtain ⟨m',hm,w3⟩:=hN σ3 H3 n3
   exact ⟨m',hm, σ3,H3,I3,w3⟩
  | brk=>exact q3
  | ret v=>exact q3
 | false =>
  rw[if_neg Vb]
  exact Yd ⟨σ1,H2,I2,q2⟩
end
structure It where
 go:Nat->Hp->Prop
 Jk:Nat->Hp->V->Hp->Prop
 stop:Nat->Hp->Prop
noncomputable def oq(X:Cx)(pins:List (Addr × Obj))(H:Hp)(b:Addr):Prop :=
 H b=none/\b≠X.env.locals/\b ∉ X.fs/\(b∈X.ex\/X.s₀.heap.objs.size<=b)/\(∀ x c,X.env.cells.lookup x=some c->c≠b)/\ ∀ p∈X.pn++pins,p.1≠b
theorem Inv.Gm{X:Cx}{pins:List (Addr × Obj)}{σ :St}{H H':Hp}{s:UR}{b:Addr}(I:Inv X pins σ H s)(hb:s.heap.objs.size<=b)(hn:H' b=none):oq X pins H' b:=by
 refine⟨hn,WQ (U0 I.lt hb),I.Pr hb,.inr (Vn I.sz hb),λx c e z=>?_,λp hp z=>?_⟩
 . obtain⟨v,q⟩:=I.cell x c e;exact absurd (U0 q.lt (by rw[z];exact hb)) (VJ _)
 . exact absurd (U0 (U2 (I.pin p hp).1) (by rw[z];exact hb)) (VJ _)
structure Turn(P:Vg)(w:World)(K:UL)(tg:Expr)(J:It)(fp:List Addr)(it:Addr)(tn:Nat->Heap->Prop):Prop where
 mem:it∈fp
 obj: ∀ i h,tn i h-> ∀ b∈fp,∃ o,h.get? b=some o/\ ∀ v,o.data≠ .cell v
 keep: ∀ i h h',tn i h->(∀ b∈fp,∀ o,h.get? b=some o->h'.get? b=some o)->tn i h'
 item: ∀(X:Cx),X.prog=P->X.w=w->X.K=K->X.calm=true-> ∀(i:Nat)(pins:List (Addr × Obj))(s:UR)(σ :St)(H:Hp)(E:Value->UR->Prop),Inv X pins σ H s->(∀ b∈fp,oq X pins H b)->tn i s.heap->J.go i H ->
  wpAny (model P w) X.A (abW (.ref it)) (λr s1=> ∃ u,r=some u /\
   wpAny (model P w) X.A (YT tg (.ref it) u) (λ_ s2=> ∃ x H',Inv X pins σ H' s2/\RelV x u/\J.Jk i H x H'/\tn (i+1) s2.heap/\ ∀ b∈fp,H' b=none) E s1) E s
 done: ∀(X:Cx),X.prog=P->X.w=w->X.K=K->X.calm=true-> ∀(i:Nat)(pins:List (Addr × Obj))(s:UR)(σ :St)(H:Hp)(E:Value->UR->Prop),Inv X pins σ H s->(∀ b∈fp,oq X pins H b)->tn i s.heap->J.stop i H ->
  wpAny (model P w) X.A (abW (.ref it)) (λr s1=>r=none/\Inv X pins σ H s1) E s
 self: ∀(A:Vz)(i:Nat)(s:UR)(Q:Value->UR->Prop)(E:Value->UR->Prop),tn i s.heap->Q (.ref it) s->wpAny (model P w) A (abX (.ref it)) Q E s
abbrev TI:=St->Hp->(It->Hp->Prop)->Prop
noncomputable def OQ(X:Cx)(pins:List (Addr × Obj))(σ :St)(tg:Expr)(R:It->Hp->Prop)(itv:Value)(s2:UR):Prop :=
 ∃(it:Addr)(fp:List Addr)(tn:Nat->Heap->Prop)(J:It)(H':Hp),itv= .ref it/\Inv X pins σ H' s2/\Turn X.prog X.w X.K tg J fp it tn/\tn 0 s2.heap/\(∀ b∈fp,oq X pins H' b)/\R J H'
noncomputable def PI(X:Cx)(tg iter:Expr)(wi:TI):Prop :=
 ∀ (pins:List (Addr × Obj)) (s:UR) (σ :St) (H:Hp) (R:It->Hp->Prop),Inv X pins σ H s->wi σ H R ->
  wpAny (model X.prog X.w) X.A (eval iter X.env) (λv s1=>wpAny (model X.prog X.w) X.A (abX v) (OQ X pins σ tg R) X.xe s1) X.xe s
theorem yS {M : Model} {A : Vz} {E : Value -> UR -> Prop} {s : UR} {tg : Expr} {it : Addr} {u : Value} {o : Obj} {n : String} {vs : Array Value} {Q : Unit -> UR -> Prop} (ho : s.heap.get? it = some o) (hc : o.cls = .type n) (hd : o.data = .fields vs)
    (hn : ["enumerate", "zip", "dict_itemiterator", "dict_reverseitemiterator", "odict_iterator", "itertools.zip_longest", "itertools.pairwise"].contains n = false) (hQ : Q () s) : wpAny M A (YT tg (.ref it) u) Q E s := by
  unfold YT;cases tg <;> first
    | exact UZ hQ
    | (cases u <;> first
        | exact UZ hQ
        | (refine UN (Xh ho ?_)
           rw [hc, hd]
           show wpAny M A (if (["enumerate", "zip", "dict_itemiterator", "dict_reverseitemiterator", "odict_iterator", "itertools.zip_longest", "itertools.pairwise"].contains n && vs[0]? == some (abo _)) = true then _ else _) Q E s
           rw [if_neg (by intro h; rw [hn, aaK] at h; cases h)]
           exact UZ hQ))
noncomputable def S3 (K:UL) (a:Addr):It :=
 ⟨λi H=> ∃ xs x,iY K H a xs∧xs[i]?=some x,λi H x H'=>H'=H∧ ∀ xs,iY K H a xs->xs[i]?=some x,λi H=> ∃ xs,iY K H a xs∧xs.length<=i⟩
noncomputable def CW(K:UL)(a:Addr):It :=
 ⟨λi H=> ∃ xs x,fq K H a xs/\xs[i]?=some x,λi H x H'=>H'=H/\ ∀ xs,fq K H a xs->xs[i]?=some x,λi H=> ∃ xs,fq K H a xs/\xs.length<=i⟩
noncomputable def RI(lo:Int)(n:Nat):It:=⟨λi _=>i < n,λi H x H'=>H'=H/\x= .int (lo+i),λi _=>n<=i⟩
theorem Be{P:Vg}{w:World}{K:UL}{tg:Expr}(a it:Addr):Turn P w K tg (S3 K a) [it] it (λi h=>h.IsListIter it a i) where
 mem:=by simp
 obj:=λi h st b hb=>by
  have e:b=it:=by simpa using hb
  subst e;obtain⟨o,e,c,d⟩:=st;exact⟨o,e,λv z=>by rw[d] at z;cases z⟩
 keep:=λi h h' st k=>st.at λo e=>k it (by simp) o e
 item:=by
  intro X hP hw hK hc i pins s σ H E I hf st hg;subst hP hw hK;obtain⟨xs,x,hq,hx⟩:=hg;obtain⟨aj,rv,p,hz⟩:=I.list hq;obtain⟨u,hu,ru⟩:=rv.get hx;obtain⟨f0,f1,f2,f3,f4,f5⟩:=hf it (by simp);refine wpAny_pyNext_list_item st p.isList (x:=u) (by simpa using hu) λh' st' sb=>?_;have I1:Inv X pins σ H { s with heap:=h' }:=I.turned (t':=s.toks) (λb o hb e=>(sb.2 b hb).trans e) f0 f1 f3 f4 f5;obtain⟨o,e,c,d⟩:=id st';exact⟨u,rfl,yS (s:={ s with heap:=h' }) e c d (by decide) ⟨x,H,I1,ru,⟨rfl,λys hy=>by rw[I.Ce hy hq];exact hx⟩,st',λb hb=>(hf b hb).1⟩⟩
 done:=by
  intro X hP hw hK hc i pins s σ H E I hf st hg;subst hP hw hK;obtain⟨xs,hq,hx⟩:=hg;obtain⟨aj,rv,p,hz⟩:=I.list hq;obtain⟨f0,f1,f2,f3,f4,f5⟩:=hf it (by simp);have hl:=rv.length;exact wpAny_pyNext_list_end (I.ok.hd hc) st p.isList (by simp;omega) λh' eb=>⟨rfl,I.turned (t':=s.toks) (λb o hb e=>eb b o hb e) f0 f1 f3 f4 f5⟩
 self:=λ_ _ _ _ _ st h=>wpAny_pyIter_listiter st h
theorem xb{P:Vg}{w:World}{K:UL}{tg:Expr}(a it:Addr):Turn P w K tg (CW K a) [it] it (λi h=>h.IsTupleIter it a i) where
 mem:=by simp
 obj:=λi h st b hb=>by
  have e:b=it:=by simpa using hb
  subst e;obtain⟨o,e,c,d⟩:=st;exact⟨o,e,λv z=>by rw[d] at z;cases z⟩
 keep:=λi h h' st k=>st.at λo e=>k it (by simp) o e
 item:=by
  intro X hP hw hK hc i pins s σ H E I hf st hg;subst hP hw hK;obtain⟨xs,x,hq,hx⟩:=hg;obtain⟨aj,rv,p,hz⟩:=I.tuple hq;obtain⟨u,hu,ru⟩:=rv.get hx;obtain⟨f0,f1,f2,f3,f4,f5⟩:=hf it (by simp);refine wpAny_pyNext_tuple_item st (show s.heap.IsTuple a aj.toArray from p) (x:=u) (by simpa using hu) λh' st' sb=>?_;have I1:Inv X pins σ H { s with heap:=h' }:=I.turned (t':=s.toks) (λb o hb e=>(sb.2 b hb).trans e) f0 f1 f3 f4 f5;obtain⟨o,e,c,d⟩:=id st';exact⟨u,rfl,yS (s:={ s with heap:=h' }) e c d (by decide) ⟨x,H,I1,ru,⟨rfl,λys hy=>by rw[I.jH hy hq];exact hx⟩,st',λb hb=>(hf b hb).1⟩⟩
 done:=by
  intro X hP hw hK hc i pins s σ H E I hf st hg;subst hP hw hK;obtain⟨xs,hq,hx⟩:=hg;obtain⟨aj,rv,p,hz⟩:=I.tuple hq;obtain⟨f0,f1,f2,f3,f4,f5⟩:=hf it (by simp);have hl:=rv.length;exact wpAny_pyNext_tuple_end (I.ok.hd hc) st (show s.heap.IsTuple a aj.toArray from p) (by simp;omega) λh' eb=>⟨rfl,I.turned (t':=s.toks) (λb o hb e=>eb b o hb e) f0 f1 f3 f4 f5⟩
 self:=λ_ _ _ _ _ st h=>wpAny_pyIter_tupleiter st h
theorem xx{P:Vg}{w:World}{K:UL}{tg:Expr}(it:Addr)(lo:Int)(n:Nat):Turn P w K tg (RI lo n) [it] it (λi h=>IsRangeIter h it (lo+(i:Nat)*1) ((n:Int) - (i:Nat)) 1) where
 mem:=by simp
 obj:=λi h st b hb=>by
  have e:b=it:=by simpa using hb
  subst e;exact⟨_,st,λv z=>by
   have z':Data.fields _=Data.cell v:=z;cases z'⟩
 keep:=λi h h' st k=>k it (by simp) _ st
 item:=by
  intro X hP hw hK hc i pins s σ H E I hf st hg;subst hP hw hK;obtain⟨f0,f1,f2,f3,f4,f5⟩:=hf it (by simp);have W:=Walks.range (prog:=X.prog) (w:=X.w) (I.ok.hd hc) it lo 1 n;refine W.item i s _ _ hg st λv h' tk hv st' kk=>?_;obtain⟨t,rfl⟩:=hv;have I1:Inv X pins σ H { s with heap:=h',toks:=tk }:=I.turned (λb o hb e=>kk b o (by simpa using hb) e) f0 f1 f3 f4 f5;refine⟨_,rfl,yS (s:={ s with heap:=h',toks:=tk }) (n:= "range_iterator") st' rfl rfl (by decide) ⟨.int (lo+i),H,I1,⟨t,?_⟩,⟨rfl,rfl⟩,st',λb hb=>(hf b hb).1⟩⟩;rw[Int.mul_one]
 done:=by
  intro X hP hw hK hc i pins s σ H E I hf st hg;subst hP hw hK;obtain⟨f0,f1,f2,f3,f4,f5⟩:=hf it (by simp);exact wpAny_pyNext_range_end (I.ok.hd hc) st (by have:n<=i:=hg;omega) λh' eb=>⟨rfl,I.turned (t':=s.toks) (λb o hb e=>eb b o hb e) f0 f1 f3 f4 f5⟩
 self:=λ_ _ _ _ _ st h=>wpAny_pyIter_rangeiter st h
section
variable{X:Cx}{tg:Expr}
theorem DX{pins:List (Addr × Obj)}{σ :St}{H:Hp}{s:UR}{R:It->Hp->Prop}{E:Value->UR->Prop}{lo hi:Int}{t u v:Tok}{tk:Nat}(I:Inv X pins σ H s)(h1: -(2 ^ 62)<=lo)(h2:lo < 2 ^ 62)(h3: -(2 ^ 62)<=hi)(h4:hi < 2 ^ 62)
  (q:R (RI lo (hi - lo).toNat) H):wpAny (model X.prog X.w) X.A (abX (.ref s.heap.objs.size)) (OQ X pins σ tg R) E { s with heap:=s.heap.push { cls:= .type "range",data:= .fields #[.int lo t,.int hi u,.int 1 v] },toks:=tk }:=by
 refine wpAny_pyIter_range (acE ..) (small_one h1 h2 h3 h4) ?_;have I1:Inv X pins σ H { s with heap:=s.heap.push { cls:= .type "range",data:= .fields #[.int lo t,.int hi u,.int 1 v] },toks:=tk }:=I.kept λb o e=>UQ _ e;refine⟨(s.heap.push { cls:= .type "range",data:= .fields #[.int lo t,.int hi u,.int 1 v] }).objs.size,[(s.heap.push { cls:= .type "range",data:= .fields #[.int lo t,.int hi u,.int 1 v] }).objs.size],_,_,H,rfl,
  I1.kept (t':=tk) λb o e=>UQ _ e,xx _ lo (hi - lo).toNat,?_,λb hb=>?_,q⟩
 . have e1:lo+((0:Nat):Int)*1=lo:=by simp
   have e2:(((hi - lo).toNat:Nat):Int) - ((0:Nat):Int)=ZU lo hi 1:=by rw[rangeSize_one];split<;>omega
   show IsRangeIter _ _ (lo+((0:Nat):Int)*1) ((((hi - lo).toNat:Nat):Int) - ((0:Nat):Int)) 1;rw[e1,e2];exact U7 _ rfl
 . have e:b=(s.heap.push { cls:= .type "range",data:= .fields #[.int lo t,.int hi u,.int 1 v] }).objs.size:=by simpa using hb
   subst e;exact I1.Gm (UT _) (I1.bA.fresh (UT _))
noncomputable def Qq(ta:TA):TI:=fun σ H R=>ta σ H λvs H1=> ∃ j:Int,vs=[.int j]/\ -(2 ^ 62)<=j/\j < 2 ^ 62/\R (RI 0 j.toNat) H1
theorem AF{a:Expr}{ta:TA}{p pos:Pos}(hg:Gl X "range")(hm:X.mg "range" =none)(ha:PA X [a] ta)(hs:VD [a] X.env=[(false,eval a X.env)]:=by rfl):PI X tg (.Call (.Name "range" p) [a] [] pos) (Qq ta):=by
 intro pins s σ H R I h;refine Call_ (ju I hg hm boot_range (V5 (cJ (ha pos pins s σ H _ I h) λus s1 ⟨vs,H1,I1,r1,q1⟩=>?_) hs rfl));obtain⟨j,e,q1,q2,q⟩:=q1;subst e;cases r1 with
 | cons r rr =>
  cases rr
  obtain⟨t,rfl⟩:=r
  exact call_range_1 (DX I1 (by omega) (by omega) q1 q2 (by simpa using q))
noncomputable def Qa(wi:TI)(g:TG)(tb:TS):TS:=λD σ H=>wi σ H λJ H1=> ∃ W:Nat->Nat->St->Hp->Prop,(∃ m,W 0 m σ H1)/\ ∀ i m σ H,W i m σ H ->
 (J.stop i H/\D.nx σ H)\/(J.go i H/\ ∃ N:St->Hp->Prop,(∀ σ' H',N σ' H'-> ∃ m',m' < m/\W (i+1) m' σ' H')/\ ∀ x H',J.Jk i H x H'->g x σ H' fun σ2 H2=>tb { D with nx:=N,ct:=N,bk:=D.nx } σ2 H2)
noncomputable def sR(fp:List Addr)(h:Heap):List (Addr × Obj):=fp.filterMap λb=>(h.get? b).map λo=>(b,o)
theorem eN{fp:List Addr}{h:Heap}{b:Addr}{o:Obj}(hb:b∈fp)(e:h.get? b=some o):(b,o)∈sR fp h:=Zd.mpr ⟨b,hb,by rw[e];rfl⟩
theorem Ah{fp:List Addr}{h:Heap}{p:Addr × Obj}(hp:p∈sR fp h):p.1∈fp/\h.get? p.1=some p.2:=by
 obtain⟨b,hb,e⟩:=Zd.mp hp;cases q:h.get? b with
 | none=>rw[q] at e;cases e
 | some o =>
  rw[q] at e
  have e':(b,o)=p:=VE e
  subst e'
  exact⟨hb,q⟩
theorem Inv.pinned{pins:List (Addr × Obj)}{σ :St}{H:Hp}{s:UR}{fp:List Addr}(I:Inv X pins σ H s)(hf: ∀ b∈fp,oq X pins H b)(ho: ∀ b∈fp,∃ o,s.heap.get? b=some o/\ ∀ v,o.data≠ .cell v):Inv X (pins++sR fp s.heap) σ H s :=
 I.jL λp hp=>(VT.mp hp).elim (λz=>I.pin p (Vl _ z)) λz=>by
  obtain⟨hb,e⟩:=Ah z;obtain⟨f0,f1,f2,_⟩:=hf p.1 hb;obtain⟨o,e',d⟩:=ho p.1 hb;rw[e] at e';cases e';exact⟨e,f0,f1,f2,d⟩
theorem Inv.oY{pins pl:List (Addr × Obj)}{σ :St}{H:Hp}{s:UR}(I:Inv X (pins++pl) σ H s):Inv X pins σ H s:=I.jL λp hp=>I.pin p (Vl _ (XQ _ hp))
theorem Nb{iter:Expr}{body:List Stmt}{wi:TI}{g:TG}{tb:TS}{pos:Pos}(hp:ZT (model X.prog X.w) X.A X.env X.xe)(hc:X.calm=true)(hi:PI X tg iter wi)(hg:PG X tg g)(hb:wW X body tb)
  (hs: ∀ x,VP iter X.env x=pure x:=by intro _;rfl):PS X (.For tg iter body [] pos) (Qa wi g tb):=by
 intro pins s σ H D I h;refine wpAny_For (cJ (hi pins s σ H _ I h) λv s1 h1=>cJ h1 λitv s2 h2=>?_) hs;obtain ⟨it,fp,tn,J,H2,e,I2,T,st2,f2,W,⟨m0,w0⟩,turn⟩:=h2;subst e;have stat: ∀ {H':Hp},(∀ b∈fp,H' b=none)-> ∀ b∈fp,oq X pins H' b:=λhn b hb=>⟨hn b hb,(f2 b hb).2⟩
 refine codeAny_forLoop_any (λn s'=> ∃ i σ' H',Inv X pins σ' H' s'∧tn i s'.heap∧(∀ b∈fp,H' b=none)∧W i n σ' H') ?_ m0 ⟨0, σ,H2,I2,st2,λb hb=>(f2 b hb).1,w0⟩;rintro n s3 ⟨i, σ3,H3,I3,mn,fr3,w3⟩;rcases turn i n σ3 H3 w3 with ⟨stop,qn⟩ | ⟨go,N,hN,step⟩
 . refine W9 hp (cJ (T.done X rfl rfl rfl hc i pins s3 σ3 H3 X.xe I3 (stat fr3) mn stop) λr s4 ⟨hr,I4⟩=>?_);subst hr;exact Yd ⟨σ3,H3,I4,qn⟩
 . refine W9 hp (cJ (T.item X rfl rfl rfl hc i pins s3 σ3 H3 X.xe I3 (stat fr3) mn go) λr s4 ⟨u,hr,h4⟩=>?_);subst hr;refine W9 hp (cJ h4 λ_ s5 ⟨x,H5,I5,r5,y5,st5,fr5⟩=>?_);have I5':=I5.pinned (stat fr5) (T.obj _ _ st5);refine W9 hp (cJ (hg _ s5 σ3 H5 x u _ I5' r5 (step x H5 y5)) λ_ s6 ⟨σ6,H6,I6,q6⟩=>?_);refine W9 hp (cJ (hb _ s6 σ6 H6 _ I6 q6) λf s7 q7=>?_);have again: ∀ {σ7:St} {H7:Hp},Inv X (pins++sR fp s5.heap) σ7 H7 s7->N σ7 H7-> ∃ m,m < n∧ ∃ i σ' H',Inv X pins σ' H' s7∧tn i s7.heap∧(∀ b∈fp,H' b=none)∧W i m σ' H':=λ{σ7 H7} I7 n7=>by
    obtain ⟨m',hm,w7⟩:=hN σ7 H7 n7;refine ⟨m',hm,i+1, σ7,H7,I7.oY,T.keep _ _ _ st5 λb hb o e=>(I7.pin (b,o) (Vl _ (Vl _ (eN hb e)))).1,λb hb=>?_,w7⟩;obtain ⟨o,e,d⟩:=T.obj _ _ st5 b hb;exact (I7.pin (b,o) (Vl _ (Vl _ (eN hb e)))).2.1
   cases f with
   | next=>obtain ⟨σ7,H7,I7,n7⟩:=q7;exact again I7 n7
   | cont=>obtain ⟨σ7,H7,I7,n7⟩:=q7;exact again I7 n7
   | brk=>obtain ⟨σ7,H7,I7,q7⟩:=q7;exact ⟨σ7,H7,I7.oY,q7⟩
   | ret v=>obtain ⟨x7, σ7,H7,I7,r7,q7⟩:=q7;exact ⟨x7, σ7,H7,I7.oY,r7,q7⟩
end
abbrev R2:=V->V->Hp->VK->Prop
noncomputable def c9(X:Cx)(f:Value->Value->Sem Value)(r:R2):Prop :=
 ∀(pins:List (Addr × Obj))(s:UR)(σ :St)(H:Hp)(x y:V)(v u:Value)(Q:VK),Inv X pins σ H s->RelV x v->RelV y u->r x y H Q ->
  wpAny (model X.prog X.w) X.A (f v u) (EP X pins σ Q) X.xe s
noncomputable def aT(X:Cx)(f:Value)(r:List V->Hp->VK->Prop):Prop :=
 ∀(pins:List (Addr × Obj))(s:UR)(σ :St)(H:Hp)(xs:List V)(us:List Value)(Q:VK),Inv X pins σ H s->Vals xs us->r xs H Q ->
  wpAny (model X.prog X.w) X.A (call f us) (EP X pins σ Q) X.xe s
noncomputable def HP(r:R2)(ta tb:TE):TE:=fun σ H Q=>ta σ H λx H1=>tb σ H1 λy H2=>r x y H2 Q
noncomputable def rI(C:Int->Int->Prop)(g:Int->Int->V):R2:=λx y H Q=> ∃ i j,x= .int i/\y= .int j/\C i j/\Q (g i j) H
noncomputable def E5(g:Int->Int->V):R2:=λx y H Q=> ∃ i j,x= .int i/\y= .int j/\Q (g i j) H
section
variable{X:Cx}{a b c:Expr}{ta tb tc:TE}{pos:Pos}
theorem Nw(ha:PE X a ta)(hb:PE X b tb){pins:List (Addr × Obj)}{s:UR}{σ :St}{H:Hp}{R:V->V->Hp->Prop}(I:Inv X pins σ H s)
  (h:ta σ H λx H1=>tb σ H1 λy H2=>R x y H2) {Q:Value->UR->Prop} {f:Value->Value->Sem Value}
  (hf: ∀ v u s2 x y H2,Inv X pins σ H2 s2->RelV x v->RelV y u->R x y H2->wpAny (model X.prog X.w) X.A (f v u) Q X.xe s2) :
  wpAny (model X.prog X.w) X.A (eval a X.env) (λv s₁ =>wpAny (model X.prog X.w) X.A (eval b X.env) (λu s₂ =>wpAny (model X.prog X.w) X.A (f v u) Q X.xe s₂) X.xe s₁) X.xe s:=by
 refine cJ (ha pins s σ H _ I h) λv s1 ⟨x,H1,I1,r1,q1⟩=>?_;refine cJ (hb pins s1 σ H1 _ I1 q1) λu s2 ⟨y,H2,I2,r2,q2⟩=>?_;exact hf v u s2 x y H2 I2 r1 r2 q2
theorem QR{op:Operator}{r:R2}(ho:c9 X (Wa op) r)(ha:PE X a ta)(hb:PE X b tb):PE X (.BinOp a op b pos) (HP r ta tb):=by
 intro pins s σ H Q I h;exact wpAny_BinOp (Nw ha hb I h λv u s2 x y H2 I2 rx ry q=>ho pins s2 σ H2 x y v u Q I2 rx ry q)
theorem R7{f:Value->Value->Sem Value}{C:Int->Int->Prop}{g:Int->Int->Int}
  (rule: ∀(i j:Int)(t u:Tok)(s:UR)(Q:Value->UR->Prop)(E:Value->UR->Prop),C i j->Q (.int (g i j) s.toks) { s with toks:=s.toks+1 }->wpAny (model X.prog X.w) X.A (f (.int i t) (.int j u)) Q E s) :
  c9 X f (rI C λi j=> .int (g i j)):=by
 intro pins s σ H x y v u Q I rx ry h;obtain⟨i,j,rfl,rfl,hc,q⟩:=h;obtain⟨t,rfl⟩:=rx;obtain⟨t',rfl⟩:=ry;exact rule i j t t' s _ _ hc ⟨.int (g i j),H,I.tok _,⟨_,rfl⟩,q⟩
theorem OI{f:Value->Value->Sem Value}{g:Int->Int->Int}
  (rule: ∀(i j:Int)(t u:Tok)(s:UR)(Q:Value->UR->Prop)(E:Value->UR->Prop),Q (.int (g i j) s.toks) { s with toks:=s.toks+1 }->wpAny (model X.prog X.w) X.A (f (.int i t) (.int j u)) Q E s) :
  c9 X f (E5 λi j=> .int (g i j)):=by
 intro pins s σ H x y v u Q I rx ry h;obtain⟨i,j,rfl,rfl,q⟩:=h;obtain⟨t,rfl⟩:=rx;obtain⟨t',rfl⟩:=ry;exact rule i j t t' s _ _ ⟨.int (g i j),H,I.tok _,⟨_,rfl⟩,q⟩
theorem GX{f:Value->Value->Sem Value}{g:Int->Int->Bool}
  (rule: ∀(i j:Int)(t u:Tok)(s:UR)(Q:Value->UR->Prop)(E:Value->UR->Prop),Q (.bool (g i j)) s->wpAny (model X.prog X.w) X.A (f (.int i t) (.int j u)) Q E s) :
  c9 X f (E5 λi j=> .bl (g i j)):=by
 intro pins s σ H x y v u Q I rx ry h;obtain⟨i,j,rfl,rfl,q⟩:=h;obtain⟨t,rfl⟩:=rx;obtain⟨t',rfl⟩:=ry;exact rule i j t t' s _ _ ⟨.bl (g i j),H,I,rfl,q⟩
noncomputable def To(i j:Int):Prop:=0 < j/\j < 1073741824
noncomputable def Tf(i j:Int):Prop:=0<=j/\j<=1000000/\i.natAbs < 2 ^ 64
noncomputable def JV(i j:Int):Prop:=(-(2 ^ 64) < i/\i < 2 ^ 64)\/(-(2 ^ 64) < j/\j < 2 ^ 64)
theorem JV.ok{i j:Int}(h:JV i j):IntMulOk i j:=by
 rcases h with⟨h1,h2⟩ | ⟨h1,h2⟩
 . exact .of_left (intBits_le_64 h1 h2)
 . exact .of_right (intBits_le_64 h1 h2)
theorem LK:c9 X (Wa .Add) (E5 λi j=> .int (i+j)):=OI λ_ _ _ _ _ _ _ q=>add_int q
theorem NG:c9 X (Wa .Sub) (E5 λi j=> .int (i - j)):=OI λ_ _ _ _ _ _ _ q=>sub_int q
theorem Md:c9 X (Wa .Mult) (rI JV λi j=> .int (i*j)):=R7 λ_ _ _ _ _ _ _ hc q=>mul_int q hc.ok
theorem GY:c9 X (Wa .FloorDiv) (rI To λi j=> .int (i / j)):=R7 λi j _ _ _ _ _ hc q=>by
 have h1:(0:Int) < j:=hc.1;have h2:j < 1073741824:=hc.2;exact floordiv_int (by omega) (by rw[Int.fdiv_eq_ediv_of_nonneg i (by omega)];exact q) (.inl (PyProof.noPylong_small (by omega)))
theorem Nq:c9 X (Wa .Mod) (rI (λ_ j=>0 < j) λi j=> .int (i % j)):=R7 λi j _ _ _ _ _ hc q=>by
 have h1:(0:Int) < j:=hc;exact mod_int' (by omega) (by rw[Int.fmod_eq_emod_of_nonneg i (by omega)];exact q)
theorem KA:c9 X (Wa .Pow) (rI Tf λi j=> .int (i ^ j.toNat)):=R7 λ_ _ _ _ _ _ _ hc q=>pow_int_small hc.1 hc.2.1 hc.2.2 q
end
noncomputable def Ds:V->V->Bool
 | .non,.non=>true | .non,.int _=>true | .int _,.non=>true | .non,.bl _=>true | .bl _,.non=>true | .non,.str _=>true | .str _,.non=>true
 | .int _,.int _=>true | .bl _,.bl _=>true | .str _,.str _=>true | .byt _,.byt _=>true
 | .int _,.str _=>true | .str _,.int _=>true | .bl _,.str _=>true | .str _,.bl _=>true
 | _,_=>false
noncomputable def UH:R2:=λx y H Q=>Ds x y=true/\Q (.bl (decide (x=y))) H
noncomputable def UC:R2:=λx y H Q=>Ds x y=true/\Q (.bl (!decide (x=y))) H
theorem y7{i j:Int}:decide (V.int i=V.int j)=(i == j):=by
 rw[Ye];simp
theorem EU{i j:Bool}:decide (V.bl i=V.bl j)=(i == j):=by
 rw[Ye];simp
theorem yV{i j:Str}:decide (V.str i=V.str j)=(i == j):=by
 rw[Ye];simp
theorem zV{i j:Array UInt8}:decide (V.byt i=V.byt j)=(i.toList == j.toList):=by
 rw[Ye];cases i;cases j;simp
section
variable{X:Cx}{a b c:Expr}{ta tb tc:TE}{pos:Pos}
theorem aW{pins:List (Addr × Obj)}{σ :St}{H:Hp}{s:UR}{Q:VK}{k k':Bool}(I:Inv X pins σ H s)(q:Q (.bl k) H)(e:k=k'):EP X pins σ Q (.bool k') s:=by
 subst e;exact⟨.bl k,H,I,rfl,q⟩
theorem PX:c9 X (Vu .Eq) UH:=by
 intro pins s σ H x y v u Q I rx ry h;obtain⟨hs,q⟩:=h;cases x with
 | non =>
  cases rx
  cases y with
  | non=>cases ry;exact PySem.EqNone.eq_none_none (aW I q (by simp))
  | bl j=>cases ry;exact PySem.EqNone.eq_none_bool (aW I q (by simp))
  | int j=>obtain⟨t',rfl⟩:=ry;exact PySem.EqNone.eq_none_int (aW I q (by simp))
  | str j=>obtain⟨t',rfl⟩:=ry;exact PySem.EqNone.eq_none_str (aW I q (by simp))
  | _=>exact absurd (show false=true from hs) Vb
 | bl i =>
  cases rx
  cases y with
  | non=>cases ry;exact PySem.EqNone.eq_bool_none (aW I q (by simp))
  | bl j=>cases ry;exact eq_bool (aW I q EU)
  | str j=>obtain⟨t',rfl⟩:=ry;exact PySem.EqMixed.eq_bool_str (aW I q (by simp))
  | _=>exact absurd (show false=true from hs) Vb
 | int i =>
  obtain⟨t,rfl⟩:=rx
  cases y with
  | non=>cases ry;exact PySem.EqNone.eq_int_none (aW I q (by simp))
  | int j=>obtain⟨t',rfl⟩:=ry;exact eq_int (aW I q y7)
  | str j=>obtain⟨t',rfl⟩:=ry;exact PySem.EqMixed.eq_int_str (aW I q (by simp))
  | _=>exact absurd (show false=true from hs) Vb
 | str i =>
  obtain⟨t,rfl⟩:=rx
  cases y with
  | non=>cases ry;exact PySem.EqNone.eq_str_none (aW I q (by simp))
  | bl j=>cases ry;exact PySem.EqMixed.eq_str_bool (aW I q (by simp))
  | int j=>obtain⟨t',rfl⟩:=ry;exact PySem.EqMixed.eq_str_int (aW I q (by simp))
  | str j=>obtain⟨t',rfl⟩:=ry;exact eq_str (aW I q yV)
  | _=>exact absurd (show false=true from hs) Vb
 | byt i =>
  obtain⟨t,rfl⟩:=rx
  cases y with
  | byt j=>obtain⟨t',rfl⟩:=ry;exact PySem.W.eq_bytes (aW I q zV)
  | _=>exact absurd (show false=true from hs) Vb
 | _=>cases y<;>exact absurd (show false=true from hs) Vb
theorem Qh:c9 X (Vu .NotEq) UC:=by
 intro pins s σ H x y v u Q I rx ry h;obtain⟨hs,q⟩:=h;cases x with
 | non =>
  cases rx
  cases y with
  | non=>cases ry;exact PySem.EqNone.ne_none_none (aW I q (by simp))
  | bl j=>cases ry;exact PySem.EqNone.ne_none_bool (aW I q (by simp))
  | int j=>obtain⟨t',rfl⟩:=ry;exact PySem.EqNone.ne_none_int (aW I q (by simp))
  | str j=>obtain⟨t',rfl⟩:=ry;exact PySem.EqNone.ne_none_str (aW I q (by simp))
  | _=>exact absurd (show false=true from hs) Vb
 | bl i =>
  cases rx
  cases y with
  | non=>cases ry;exact PySem.EqNone.ne_bool_none (aW I q (by simp))
  | bl j=>cases ry;exact ne_bool (aW I q (congrArg not EU))
  | str j=>obtain⟨t',rfl⟩:=ry;exact PySem.EqMixed.ne_bool_str (aW I q (by simp))
  | _=>exact absurd (show false=true from hs) Vb
 | int i =>
  obtain⟨t,rfl⟩:=rx
  cases y with
  | non=>cases ry;exact PySem.EqNone.ne_int_none (aW I q (by simp))
  | int j=>obtain⟨t',rfl⟩:=ry;exact ne_int (aW I q (congrArg not y7))
  | str j=>obtain⟨t',rfl⟩:=ry;exact PySem.EqMixed.ne_int_str (aW I q (by simp))
  | _=>exact absurd (show false=true from hs) Vb
 | str i =>
  obtain⟨t,rfl⟩:=rx
  cases y with
  | non=>cases ry;exact PySem.EqNone.ne_str_none (aW I q (by simp))
  | bl j=>cases ry;exact PySem.EqMixed.ne_str_bool (aW I q (by simp))
  | int j=>obtain⟨t',rfl⟩:=ry;exact PySem.EqMixed.ne_str_int (aW I q (by simp))
  | str j=>obtain⟨t',rfl⟩:=ry;exact ne_str (aW I q (congrArg not yV))
  | _=>exact absurd (show false=true from hs) Vb
 | byt i =>
  obtain⟨t,rfl⟩:=rx
  cases y with
  | byt j=>obtain⟨t',rfl⟩:=ry;exact PySem.W.ne_bytes (aW I q (congrArg not zV))
  | _=>exact absurd (show false=true from hs) Vb
 | _=>cases y<;>exact absurd (show false=true from hs) Vb
theorem Q7:c9 X (Vu .Lt) (E5 λi j=> .bl (decide (i < j))):=GX λ_ _ _ _ _ _ _ q=>lt_int q
theorem OG:c9 X (Vu .LtE) (E5 λi j=> .bl (decide (i<=j))):=GX λ_ _ _ _ _ _ _ q=>le_int q
theorem Q3:c9 X (Vu .Gt) (E5 λi j=> .bl (decide (j < i))):=GX λ_ _ _ _ _ _ _ q=>gt_int q
theorem Pt:c9 X (Vu .GtE) (E5 λi j=> .bl (decide (j<=i))):=GX λ_ _ _ _ _ _ _ q=>ge_int q
theorem Av:c9 X (Vu .In) (λx y H Q=> ∃ i j,x= .str i/\y= .str j/\Q (.bl (!(Xn j i 0 j.length 1).isEmpty)) H):=by
 intro pins s σ H x y v u Q I rx ry h;obtain⟨i,j,rfl,rfl,q⟩:=h;obtain⟨t,rfl⟩:=rx;obtain⟨t',rfl⟩:=ry;exact in_str (aW I q rfl)
theorem c9.or{f:Value->Value->Sem Value}{r r':R2}(h:c9 X f r)(h':c9 X f r'):c9 X f (λx y H Q=>r x y H Q\/r' x y H Q):=by
 intro pins s σ H x y v u Q I rx ry q;rcases q with q | q
 . exact h pins s σ H x y v u Q I rx ry q
 . exact h' pins s σ H x y v u Q I rx ry q
theorem EC(b:Expr){op:CmpOp}(h:op≠ .In:=by decide)(h2:op≠ .NotIn:=by decide):Wg op b=false:=by
 have e1:(op == CmpOp.In)=false:=by cases op<;>first | rfl | exact absurd rfl h
 have e2:(op == CmpOp.NotIn)=false:=by cases op<;>first | rfl | exact absurd rfl h2
 cases b<;>simp[Wg,e1,e2]
theorem Fz{op:CmpOp}{r:R2}(ho:c9 X (Vu op) r)(ha:PE X a ta)(hb:PE X b tb)(hm:Wg op b=false):PE X (.Compare a [op] [b] pos) (HP r ta tb):=by
 intro pins s σ H Q I h;exact wpAny_Compare1 (Nw ha hb I h λv u s2 x y H2 I2 rx ry q=>ho pins s2 σ H2 x y v u Q I2 rx ry q) hm
noncomputable def CL(t:TE):TT:=fun σ H Q=>t σ H λx H'=> ∃ k,x= .bl k/\Q k H'
theorem Ih{op:CmpOp}{r:R2}(ho:c9 X (Vu op) r)(ha:PE X a ta)(hb:PE X b tb)(hm:Wg op b=false):PT X (.Compare a [op] [b] pos) (CL (HP r ta tb)):=by
 intro pins s σ H Q I h;refine aaz (cJ (ha pins s σ H _ I h) λv s1 ⟨x,H1,I1,r1,q1⟩=>cJ (hb pins s1 σ H1 _ I1 q1) λu s2 ⟨y,H2,I2,r2,q2⟩ =>
  cJ (ho pins s2 σ H2 x y v u _ I2 r1 r2 q2) λc s3 ⟨z,H3,I3,r3,k,e,q3⟩=>?_) hm
 subst e;cases r3;exact WJ ⟨H3,I3,q3⟩
noncomputable def yB(r r':R2)(ta tb tc:TE):TE:=fun σ H Q=>ta σ H λx H1=>tb σ H1 λy H2=>r x y H2 λz H3=> ∃ k,z= .bl k /\
 (if k=true then tc σ H3 λw' H4=>r' y w' H4 Q else Q (.bl false) H3)
theorem C5{op op':CmpOp}{r r':R2}(ho:c9 X (Vu op) r)(ho':c9 X (Vu op') r')(ha:PE X a ta)(hb:PE X b tb)(hc:PE X c tc)
  (hm:lastMarks [op,op'] [b,c]=false:=by with_unfolding_all rfl):PE X (.Compare a [op,op'] [b,c] pos) (yB r r' ta tb tc):=by
 intro pins s σ H Q I h;refine Compare_chain (cJ (ha pins s σ H _ I h) λv s1 ⟨x,H1,I1,r1,q1⟩=>chain_link (cJ (hb pins s1 σ H1 _ I1 q1) λu s2 ⟨y,H2,I2,r2,q2⟩ =>
  cJ (ho pins s2 σ H2 x y v u _ I2 r1 r2 q2) λd s3 ⟨z,H3,I3,r3,k,e,q3⟩=>?_)) hm
 subst e;cases r3;refine WJ ?_;cases k with
 | false=>exact ite_ff ⟨.bl false,H3,I3,rfl,q3⟩
 | true=>exact ite_tt (chain_last (cJ (hc pins s3 σ H3 _ I3 q3) λw' s4 ⟨z',H4,I4,r4,q4⟩=>ho' pins s4 σ H4 y z' u w' Q I4 r2 r4 q4))
theorem ni:(sizeLine:Nat) < 2 ^ 63:=by rw[ab8];decide
theorem vals1{x:V}{us:List Value}(r:Vals [x] us): ∃ u,us=[u]/\RelV x u:=by
 cases r with
 | cons r1 r2=>cases r2;exact⟨_,rfl,r1⟩
theorem vals2{x y:V}{us:List Value}(r:Vals [x,y] us): ∃ u w',us=[u,w']/\RelV x u/\RelV y w':=by
 cases r with
 | cons r1 r2 =>
  cases r2 with
  | cons r3 r4=>cases r4;exact⟨_,_,rfl,r1,r3⟩
theorem Ak:aT X (.type "int") (λxs H Q=>(∃ i,xs=[.int i]/\Q (.int i) H)\/ ∃ k,xs=[.bl k]/\Q (.int (if k then 1 else 0)) H):=by
 intro pins s σ H xs us Q I r h;rcases h with⟨i,rfl,q⟩ | ⟨k,rfl,q⟩
 . obtain⟨u,rfl,t,rfl⟩:=vals1 r;exact call_int_int ⟨.int i,H,I,⟨_,rfl⟩,q⟩
 . obtain⟨u,rfl,r1⟩:=vals1 r;cases r1;exact call_int_bool ⟨.int (if k then 1 else 0),H,I.tok _,⟨_,rfl⟩,q⟩
end
structure NL(h:Heap)(x dx C:Addr)(mA:Str->Option Value):Prop where
 obj:h.get? x=some (W8 C dx)
 ns:h.Ns1 dx mA
 ne:dx≠x
theorem AV{h:Heap}{dx:Addr}{mA:Str->Option Value}(n:h.Ns1 dx mA): ∃ od,h.get? dx=some od/\ ∀ name,aaL name od=some (mA name):=by
 obtain⟨o,es,ep,ho,hd,hk,_,hm⟩:=n;refine⟨o,ho,λname=>?_⟩;have e:=hm name;unfold nsFind findBy at e;rw[<- Array.find?_toList] at e;unfold aaL;rw[hd];dsimp only;split
 . rename_i y q;rw[q] at e;exact congrArg some e
 . rename_i q;rw[q] at e;have a:es.toList.any (·.refKey)=false:=by
    rw[List.any_eq_false];intro y hy;obtain⟨z,t,hkey⟩:=hk y (Array.mem_toList_iff.mp hy);simp[DictEntry.refKey,hkey]
   have a': ¬ es.toList.any (·.refKey)=true:=by rw[a];exact Vb
   rw[if_neg a'];exact congrArg some e
theorem NL.look{h:Heap}{x dx C:Addr}{mA:Str->Option Value}(I:NL h x dx C mA): ∃ od,PySem.W.InstAt h x (W8 C dx) C (some od)/\ ∀ name,aaL name od=some (mA name) :=
 let ⟨od,ho,hl⟩:=AV I.ns
 ⟨od,⟨I.obj,rfl,rfl,ho⟩,hl⟩
theorem lZ.some_of{v:V}{o:Option Value}(r:lZ (some v) o): ∃ u,o=some u/\RelV v u:=by
 cases o with
 | none=>exact(show False from r).elim
 | some u=>exact⟨u,rfl,r⟩
section
variable{P:Vg}{w:World}{H H':Hp}{h h':Heap}{a C dx:Addr}{fs fs':List (Str × V)}
theorem Fn(bA:kb P w H h)(e:H a=some (.ins C dx fs)): ∃ mA,NL h a dx C mA/\(∀ f,lZ (fs.lookup f) (mA f))/\acz mA (fs.map (·.1))/\fs.length<=1000/\H dx=some (.own a):=by
 obtain⟨d,z,ne,ob,mA,n,r,q⟩:=(show aY P w H h a (.ins C dx fs) from bA a _ e)
 exact⟨mA,⟨ob,n,ne⟩,r,q,z,d⟩
end
structure Tr(K:UL)(C:Addr):Prop where
 pg:abY K C Str.empty=true
 hd:PySem.W.hasDictIn K C=true
 po:PySem.W.plainOver K C=true
 sa:Yo K (.ref C) "__setattr__" =some (some (.builtin "object.__setattr__"))
theorem Tr.get{K:UL}{C:Addr}(c:Tr K C)(f:Str):abY K C f=true:=c.pg
structure UK(K:UL)(C:Addr)(f:Str)(v:V)(u:Value):Prop where
 at_:Yo K (.ref C) f=some (some u)
 rel:RelV v u
 get:abC K u "__get__" =some none
 cp:PySem.W.copiedNames.contains f=false
structure Meth(K:UL)(C:Addr)(m:Str)(f:Addr):Prop where
 at_:Yo K (.ref C) m=some (some (.ref f))
 fn:acB K (.ref f)=true
 kp:Xo K (.ref f)=true
section
variable{X:Cx}{pins:List (Addr × Obj)}{σ :St}{H:Hp}{s:UR}{a C dx:Addr}{fs:List (Str × V)}{f:Str}{v:V}{A:Vz}{E:Value->UR->Prop}
theorem Inv.made(I:Inv X pins σ H s):Inv X pins σ (upd (upd H s.heap.objs.size (.own (s.heap.objs.size+1))) (s.heap.objs.size+1) (.ins C s.heap.objs.size []))
  { s with heap:=(s.heap.push Wu).push (W8 C s.heap.objs.size) }:=by
 have e1:(s.heap.push Wu).get? s.heap.objs.size=some Wu:=U7 s.heap rfl;have e2:((s.heap.push Wu).push (W8 C s.heap.objs.size)).get? (s.heap.objs.size+1)=some (W8 C s.heap.objs.size):=by
  have:=U7 (s.heap.push Wu) (o:=W8 C s.heap.objs.size) rfl
  rwa [VW] at this
 have e3:(s.heap.push Wu).Ns s.heap.objs.size (λ_=>none):=⟨Wu, #[],_,e1,rfl,(λe he=>absurd he (by simp)),λ_=>rfl⟩
 have I1:=I.laid (a:=s.heap.objs.size) (o:= .own (s.heap.objs.size+1)) (h':=s.heap.push Wu) (t':=s.toks) (λb u q=>UQ _ q) (UT _) ⟨_,e1⟩;refine I1.laid (a:=s.heap.objs.size+1) (o:= .ins C s.heap.objs.size []) (t':=s.toks) (λb u q=>UQ _ q) (Nat.le_of_eq (VW _ _)) ?_;have ne:s.heap.objs.size≠s.heap.objs.size+1:=Vf (XU _);refine⟨by rw[aD ne,bh],VM _,ne,e2,λ_=>none,(Heap.Ns1.of_empty e3).at λo q=>UQ _ q,λ_=>WX,λy hy=>absurd rfl hy⟩
end
section
variable{X:Cx}{pins:List (Addr × Obj)}{σ :St}{H:Hp}{s:UR}{A:Vz}{E:Value->UR->Prop}{Q:Value->UR->Prop}{c:Value}{b:Bool}
inductive jY(K:UL)(H:Hp):V->Value->Prop where
 | non:jY K H .non (.type "NoneType")
 | bl (x:Bool):jY K H (.bl x) (.type "bool")
 | int (i:Int):jY K H (.int i) (.type "int")
 | str (x:Str):jY K H (.str x) (.type "str")
 | flt (x:UInt64):jY K H (.flt x) (.type "float")
 | lst {a:Addr} {xs:List V} (e:H a=some (.lst xs)):jY K H (.ref a) (.type "list")
 | kK {a:Addr} {o:Obj} {xs:List V} (e:H a=some (.kK o (.lst xs))):jY K H (.ref a) (.type "list")
 | tup {a:Addr} {xs:List V} (e:H a=some (.tup xs)):jY K H (.ref a) (.type "tuple")
 | dK {a:Addr} {kvs:List (Key × V)} (e:H a=some (.dK kvs)):jY K H (.ref a) (.type "dict")
 | dT {a:Addr} {kvs:List (List Key × V)} (e:H a=some (.dT kvs)):jY K H (.ref a) (.type "dict")
 | ins {a C dx:Addr} {fs:List (Str × V)} (e:H a=some (.ins C dx fs)) (cl:Tr K C) (ha:Yo K (.ref C) "__class__" =some (some (.builtin "object.__class__")))
   (hn:abC K (.builtin "object.__class__") "__get__" =some (some (.builtin "getset_descriptor.__get__"))) (htk:PySem.W.takesIn K (.builtin "object.__class__")=some true)
   (hm:PySem.W.mroIn K C (.type "object")=some true):jY K H (.ref a) (.ref C)
theorem Bw{x:V}{u t:Value}(I:Inv X pins σ H s)(rx:RelV x u)(ty:jY X.K H x t)(e:Ze X.K t c=some b)(h: ∀ tk,Q (.bool b) { s with toks:=tk }) :
  wpAny (model X.prog X.w) A (call (.builtin "isinstance") [u,c]) Q E s:=by
 cases ty with
 | non=>cases(show u=WW from rx);exact V7 PySem.W.kitx_none I.l9 WX e (λz=>nomatch z) h
 | bl y=>cases(show u=Zb y from rx);exact V7 PySem.W.kitx_bool I.l9 WX e (λz=>nomatch z) h
 | int i=>obtain⟨t,q⟩:=(show ∃ t,u=XT i t from rx);cases q;exact V7 PySem.W.kitx_int I.l9 WX e (λz=>nomatch z) h
 | str y=>obtain⟨t,q⟩:=(show ∃ t,u=YC y t from rx);cases q;exact V7 PySem.W.kitx_str I.l9 WX e (λz=>nomatch z) h
 | flt y=>obtain⟨t,q⟩:=(show ∃ t,u=ab7 y t from rx);cases q;exact V7 aco I.l9 WX e (λz=>nomatch z) h
 | @lst a xs ea =>
  cases(show u=Ve a from rx)
  obtain⟨_,_,n,_,h1⟩:=(show aY X.prog X.w H s.heap a (.lst xs) from I.bA a _ ea)
  exact V7 ZG I.l9 ⟨_,h1,rfl⟩ e (λz=>nomatch z) h
 | @kK a ob xs ea =>
  cases(show u=Ve a from rx)
  obtain⟨_,_,_,n,_,h1⟩:=(show aY X.prog X.w H s.heap a (.kK ob (.lst xs)) from I.bA a _ ea)
  exact V7 ZG I.l9 ⟨_,h1,rfl⟩ e (λz=>nomatch z) h
 | @tup a xs ea =>
  cases(show u=Ve a from rx)
  obtain⟨_,_,_,p⟩:=(show aY X.prog X.w H s.heap a (.tup xs) from I.bA a _ ea)
  obtain⟨o,h1,h2,_⟩:=p
  exact V7 acp I.l9 ⟨o,h1,h2⟩ e (λz=>nomatch z) h
 | @dK a kvs ea =>
  cases(show u=Ve a from rx)
  obtain⟨_,_,vs,_,p⟩:=(show aY X.prog X.w H s.heap a (.dK kvs) from I.bA a _ ea)
  obtain⟨o,es,ep,h1,h2,_⟩:=p
  exact V7 ZH I.l9 ⟨o,h1,h2.1⟩ e (λz=>nomatch z) h
 | @dT a kvs ea =>
  cases(show u=Ve a from rx)
  obtain⟨_,_,xs,_,o,es,ep,h1,h2,_⟩:=(show aY X.prog X.w H s.heap a (.dT kvs) from I.bA a _ ea)
  exact V7 ZH I.l9 ⟨o,h1,h2.1⟩ e (λz=>nomatch z) h
 | @ins a C dx fs ea cl ha hn htk hm =>
  cases(show u=Ve a from rx)
  obtain⟨mA,O,_⟩:=Fn I.bA ea
  obtain⟨od,J,_⟩:=O.look
  exact V7 (PySem.W.kitx_own (cl.get _) cl.hd ha hn htk hm) I.l9 J e (λz=>nomatch z) h
end
structure dJ(k:Nat)(A:Vz):Prop where
 hd:A.handled=none
 dp:A.depth+3*k+5 < recursionLimit
 un:A.units+16*k+200 < cLine
 gd:A.guards=some []
theorem dJ.mono{j k:Nat}{A:Vz}(r:dJ k A)(h:j<=k):dJ j A:=⟨r.hd,by have:=r.dp;omega,by have:=r.un;omega,r.gd⟩
theorem dJ.deeper{k:Nat}{A:Vz}(r:dJ (k+1) A)(env:Env):dJ k (A.deeper env) :=
 ⟨r.hd,by have:=r.dp;show A.depth+1+3*k+5 < _;omega,by have:=r.un;show A.units+3+16*k+200 < _;omega,r.gd⟩
theorem dJ.in1{k:Nat}{A:Vz}(r:dJ (k+1) A):dJ k A.in1 :=
 ⟨r.hd,by have:=r.dp;show A.depth+3*k+5 < _;omega,by have:=r.un;show A.units+1+16*k+200 < _;omega,r.gd⟩
theorem dJ.depth{k:Nat}{A:Vz}(r:dJ k A):A.depth < recursionLimit:=by have:=r.dp;omega
theorem dJ.units{k:Nat}{A:Vz}(r:dJ k A):A.units+64 < cLine:=by have:=r.un;omega
theorem dJ.Of{k:Nat}{A:Vz}(r:dJ k A):A.units < cLine:=by have:=r.un;omega
noncomputable def Rl:TA:=λ_ H Q=>Q [] H
noncomputable def Cv(ta:TE)(tr:TA):TA:=fun σ H Q=>ta σ H λx H1=>tr σ H1 λxs H2=>Q (x::xs) H2
section
variable{X:Cx}{e:Expr}{es:List Expr}{te:TE}{t:TA}{pos:Pos}
theorem LL:PA X [] Rl:=λ_ _ _ _ H Q I h=>Zw ⟨[],H,I,.nil,h⟩
theorem H9(ha:PE X e te)(hr:PA X es t)(hs:VD (e::es) X.env=(false,eval e X.env)::VD es X.env:=by rfl):PA X (e::es) (Cv te t):=by
 intro pos pins s σ H Q I h;rw[hs];show wpAny _ _ (spliced ((false,eval e X.env)::Ym pos (VD es X.env))) _ _ s;refine Yg (cJ (ha pins s σ H _ I h) λu s1 ⟨x,H1,I1,r1,q1⟩=>?_);exact cJ (hr pos pins s1 σ H1 _ I1 q1) λus s2 ⟨xs,H2,I2,r2,q2⟩=>⟨x::xs,H2,I2,.cons r1 r2,q2⟩
noncomputable def OS(t:TA):TE:=fun σ H Q=>t σ H λxs H1=>xs.length<=sizeLine/\ ∀ p,H1 p=none->Q (.ref p) (upd H1 p (.tup xs))
noncomputable def Py(t:TA):TE:=fun σ H Q=>t σ H λxs H1=>xs.length<=sizeLine/\ ∀ p,H1 p=none->Q (.ref p) (upd H1 p (.lst xs))
theorem Oo{x1}(h:PA X es t):PE X (.Tuple es x1 pos) (OS t):=by
 intro pins s σ H Q I hq;refine wpAny_Tuple_spliced (cJ (h pos pins s σ H _ I hq) λus s1 ⟨xs,H1,I1,r,z,q⟩=>⟨by rw[<- r.length];exact z,?_⟩);have hf:H1 s1.heap.objs.size=none:=I1.bA.fresh (UT _);refine⟨.ref s1.heap.objs.size,upd H1 s1.heap.objs.size (.tup xs),I1.laid (t':=s1.toks) (λb u e=>UQ _ e) (UT _) ?_,rfl,q _ hf⟩;exact⟨z,us,r,⟨_,U7 _ rfl,rfl,_,rfl,rfl⟩⟩
theorem MH(h:PA X es t):PE X (.List es pos) (Py t):=by
 intro pins s σ H Q I hq;refine wpAny_List_spliced (cJ (h pos pins s σ H _ I hq) λus s1 ⟨xs,H1,I1,r,z,q⟩=>⟨by rw[<- r.length];exact z,?_⟩);have hf:H1 s1.heap.objs.size=none:=I1.bA.fresh (UT _);refine⟨.ref s1.heap.objs.size,upd H1 s1.heap.objs.size (.lst xs),I1.laid (t':=s1.toks) (λb u e=>UQ _ e) (UT _) ?_,rfl,q _ hf⟩;exact⟨z,us,0,r,U7 _ rfl⟩
end
abbrev Sp:=List V->Hp->VK->XK->Prop
abbrev BS:=List Env->Hp->UR->XK->Value->UR->Prop
structure w9(P:Vg)(w:World)(K:UL)(mg:Str->Option Value)(base:Heap)(A:Vz)(outer:List Env)(s:UR)(H:Hp):Prop where
 frames:A.frames=some outer
 mod:Mod K mg base
 bs: ∀ b o,base.get? b=some o->s.heap.get? b=some o/\H b=none
 E3:base.objs.size<=s.heap.objs.size
 m5:s.heap.FunFrames base outer
 Jh: ∀ b∈BX outer,H b=none
 bA:kb P w H s.heap
 bare:Zv s.gens
noncomputable def CE(outer:List Env)(P:Vg)(w:World)(H:Hp)(s:UR)(Q:VK)(u:Value)(s':UR):Prop :=
 ∃ v H',s'.os=s.os/\Zv s'.gens/\Un (BX outer) [] H H' s.heap s'.heap/\kb P w H' s'.heap/\RelV v u/\Q v H'
noncomputable def CR(CX:BS)(outer:List Env)(P:Vg)(w:World)(H:Hp)(s:UR)(Q:VK)(E:XK)(r:Result)(s':UR):Prop :=
 match r with
 | .ok (.ret u)=>CE outer P w H s Q u s'
 | .ok _=>False
 | .error e=>CX outer H s E e s'
structure lP(P:Vg)(w:World)(K:UL)(mg:Str->Option Value)(base:Heap)(CX:BS)(k:Nat)(f:Addr)(fd:WB)(ps:List Str)(sp:Sp):Prop where
 len: ∀ vs H Q E,sp vs H Q E->vs.length=ps.length
 run: ∀(A:Vz)(outer:List Env)(s:UR)(H:Hp)(args:Args)(us:List Value)(vs:List V)(Q:VK)(E:XK),dJ k A->w9 P w K mg base A outer s H->aaa s fd args (ps.zip us)->Vals vs us->sp vs H Q E ->
  aab (model P w) A (.call (.ref f) args) (CR CX outer P w H s Q E) s
theorem lP.imp{P:Vg}{w:World}{K:UL}{mg:Str->Option Value}{base:Heap}{CX:BS}{k:Nat}{f:Addr}{fd:WB}{ps:List Str}{sp sp':Sp}(F:lP P w K mg base CX k f fd ps sp)
  (h: ∀ vs H Q E,sp' vs H Q E->sp vs H Q E):lP P w K mg base CX k f fd ps sp' :=
 ⟨λvs H Q E q=>F.len vs H Q E (h _ _ _ _ q),λA outer s H args us vs Q E hr he hb hv hs=>F.run A outer s H args us vs Q E hr he hb hv (h _ _ _ _ hs)⟩
theorem w9.in1{P:Vg}{w:World}{K:UL}{mg:Str->Option Value}{base:Heap}{A:Vz}{outer:List Env}{s:UR}{H:Hp}(e:w9 P w K mg base A outer s H) :
  w9 P w K mg base A.in1 outer s H:=⟨e.frames,e.mod,e.bs,e.E3,e.m5,e.Jh,e.bA,e.bare⟩
section
variable{X:Cx}{pins:List (Addr × Obj)}{σ :St}{H:Hp}{s s':UR}
theorem Inv.Tx(I:Inv X pins σ H s):w9 X.prog X.w X.K X.mg X.base X.A X.stack s H :=
 ⟨I.ok.frames,I.ok.mod,I.bs,Vn I.ok.E3 I.sz,I.stack,I.zN,I.bA,I.bare⟩
theorem Inv.after{Q:VK}{u:Value}(I:Inv X pins σ H s)(h:CE X.stack X.prog X.w H s Q u s'):EP X pins σ Q u s':=by
 obtain⟨v,H',os,bare,un,bA,r,q⟩:=h;obtain⟨hh,g,d,t,os'⟩:=s';obtain rfl:os'=s.os:=os;exact⟨v,H',I.call (h':=hh) (g':=g) (d':=d) (t':=t) (ch:=[]) un bA bare (λb z=>absurd z (by simp)),r,q⟩
end
noncomputable def zB(sp:Sp)(E8:List V)(E:XK)(t:TA):TE:=fun σ H Q=>t σ H λvs H1=>sp (vs++E8) H1 Q E
noncomputable def Binds(K:UL)(fd:WB)(ps:List Str)(ds:List Value):Prop :=
 ∀(s:UR)(us:List Value),K.In s.heap->(us++ds).length=ps.length->aaa s fd ⟨us,[]⟩ (ps.zip (us++ds))
theorem Binds.all{K:UL}{fd:WB}{ps:List Str}(h: ∀ us:List Value,us.length=ps.length->Xx fd ⟨us,[]⟩=pure (ps.zip us)):Binds K fd ps []:=λs us _ hl=>by
 rw[VF] at hl ⊢;exact .of_eq (h us hl)
noncomputable def Passes(CX:BS)(X:Cx)(E:XK):Prop:= ∀(pins:List (Addr × Obj))(σ :St)(H:Hp)(s:UR)(e:Value)(s':UR),Inv X pins σ H s->CX X.stack H s E e s'->X.xe e s'
section
variable{X:Cx}{CX:BS}{k:Nat}{f C:Addr}{fd:WB}{ps:List Str}{sp:Sp}{E8:List V}{ds:List Value}{E:XK}{x m:Str}{p pos apos:Pos}{e o:Expr}{es:List Expr}{ta:TE}{t:TA}
theorem MM{pins:List (Addr × Obj)}{σ :St}{H:Hp}{s:UR}{Q:VK}{us:List Value}{vs:List V}(F:lP X.prog X.w X.K X.mg X.base CX k f fd ps sp)(hr:dJ k X.A)(hb:Binds X.K fd ps ds)(hd:Vals E8 ds)(hx:Passes CX X E)
  (I:Inv X pins σ H s) (r:Vals vs us) (h:sp (vs++E8) H Q E):wpAny (model X.prog X.w) X.A (call (.ref f) us) (EP X pins σ Q) X.xe s:=by
 have r2:Vals (vs++E8) (us++ds):=r.append hd;have hl:(us++ds).length=ps.length:=by rw[<- r2.length];exact F.len _ _ _ _ h
 refine wpAny_call (abD (F.run X.A X.stack s H ⟨us,[]⟩ (us++ds) (vs++E8) Q E hr I.Tx (hb s us I.l9 hl) r2 h) λr s' hq=>?_);cases r with
 | error e=>exact hx pins σ H s e s' I hq
 | ok fl =>
  cases fl with
  | ret u=>exact I.after hq
  | next=>exact Wt hq
  | brk=>exact Wt hq
  | cont=>exact Wt hq
theorem Hi(F:lP X.prog X.w X.K X.mg X.base CX k f fd ps sp)(hr:dJ k X.A)(hg:Gl X x)(hm:X.mg x=some (.ref f))(hk:Xo X.K (.ref f)=true)(hb:Binds X.K fd ps ds)(hd:Vals E8 ds)(hx:Passes CX X E)
  (ha:PA X (e::es) t) (hdb:(x == ("__debug__" :Str))=false:=by decide) (he:VD (e::es) X.env=(false,eval e X.env)::VD es X.env:=by rfl) (hpl:(Ym pos (VD es X.env)).any (·.1)=false:=by rfl) :
  PE X (.Call (.Name x p) (e::es) [] pos) (zB sp E8 E t):=by
 intro pins s σ H Q I h;refine Zf (zC I hg hm ?_ hdb);refine PySem.W.callWith_K (h₀ :=X.base) I.ok.mod.SV hk (cJ (ha pos pins s σ H _ I h) λus s1 ⟨vs,H1,I1,r,q⟩=>⟨I1.l9,?_⟩) he hpl;exact MM F hr hb hd hx I1 r q
structure Mk(K:UL)(C f:Addr):Prop where
 makes:PySem.W.makesIn K C=true
 init:Yo K (.ref C) "__init__" =some (some (.ref f))
 fn:acB K (.ref f)=true
 kp:Xo K (.ref C)=true
end
section
variable{X:Cx}{CX:BS}{k:Nat}{f C:Addr}{fd:WB}{ps ks:List Str}{sp:Sp}{E:XK}{x m:Str}{p pos apos kpos:Pos}{e o:Expr}{es:List Expr}{kws:List aa2}{te ta:TE}{t tk:TA}{nm:Option Str}
structure Sx(K:UL)(fd:WB)(ps ks:List Str)(g:List Value->List Value->List Value)(gV:List V->List V->List V):Prop where
 to: ∀(s:UR)(us ws:List Value),K.In s.heap->(g us ws).length=ps.length->aaa s fd ⟨us,ks.zip ws⟩ (ps.zip (g us ws))
 rel: ∀{vs:List V}{us:List Value}{zs:List V}{ws:List Value},Vals vs us->Vals zs ws->Vals (gV vs zs) (g us ws)
variable{g:List Value->List Value->List Value}{gV:List V->List V->List V}
end
structure d6(N P:List Str)(sc:Scope):Prop where
 kind:sc.kind= .function
 co:sc.isCoroutine=false
 gen:sc.isGenerator=false
 nd:N.Nodup
 pre:N.take P.length=P
 par: ∀ x∈P,sc.names.lookup x=some .local\/sc.names.lookup x=some .cell
 MD: ∀ y∈sc.names,y.2≠ .free
theorem rP{kindOf:Str->Option Xy}{x:Str}: ∀{binds:List (Str × Value)}{m:Str->Option Value},(∀ v,(x,v) ∉ binds)->bindL kindOf binds m x=m x
 | [],_,_=>rfl
 | (n,v)::r,m,h=>by
  unfold bindL;rw[rP λw hw=>h w (U6 _ hw)];split
  . have:x≠n:=by rintro rfl;exact h v U3
    simp[this]
  . rfl
theorem sd{kindOf:Str->Option Xy}{x:Str}: ∀{binds:List (Str × Value)}{m:Str->Option Value},(∀ v,(x,v) ∉ binds)->bindC kindOf binds m x=m x
 | [],_,_=>rfl
 | (n,v)::r,m,h=>by
  unfold bindC;rw[sd λw hw=>h w (U6 _ hw)];split
  . rfl
  . have:x≠n:=by rintro rfl;exact h v U3
    simp[this]
theorem r9{kindOf:Str->Option Xy}{x:Str}{v:Value}: ∀{P:List Str}{vs:List Value}{i:Nat}{m:Str->Option Value},P.Nodup->P[i]?=some x->vs[i]?=some v->kindOf x=some .local ->
  bindL kindOf (P.zip vs) m x=some v
 | [],_,_,_,_,h,_,_=>by simp at h
 | _::_,[],_,_,_,_,h,_=>by simp at h
 | p::P,w::vs,0,m,nd,h1,h2,hk=>by
  simp at h1 h2;subst h1;subst h2;show bindL kindOf ((p,w)::P.zip vs) m p=_;unfold bindL;rw[rP λv hv=>(Xa.mp nd).1 (aat hv).1,if_pos hk];simp
 | p::P,w::vs,i+1,m,nd,h1,h2,hk=>by
  show bindL kindOf ((p,w)::P.zip vs) m x=_;unfold bindL;exact r9 (i:=i) (Xa.mp nd).2 (by simpa using h1) (by simpa using h2) hk
theorem sD{kindOf:Str->Option Xy}{x:Str}{v:Value}: ∀{P:List Str}{vs:List Value}{i:Nat}{m:Str->Option Value},P.Nodup->P[i]?=some x->vs[i]?=some v->kindOf x≠some .local ->
  bindC kindOf (P.zip vs) m x=some v
 | [],_,_,_,_,h,_,_=>by simp at h
 | _::_,[],_,_,_,_,h,_=>by simp at h
 | p::P,w::vs,0,m,nd,h1,h2,hk=>by
  simp at h1 h2;subst h1;subst h2;show bindC kindOf ((p,w)::P.zip vs) m p=_;unfold bindC;rw[sd λv hv=>(Xa.mp nd).1 (aat hv).1,if_neg hk];simp
 | p::P,w::vs,i+1,m,nd,h1,h2,hk=>by
  show bindC kindOf ((p,w)::P.zip vs) m x=_;unfold bindC;exact sD (i:=i) (Xa.mp nd).2 (by simpa using h1) (by simpa using h2) hk
noncomputable def start(N:List Str)(vs:List V):St:=vs.map some++UY (N.length - vs.length) none
noncomputable def j7(CX:BS)(P:Vg)(w:World)(K:UL)(mg:Str->Option Value)(base:Heap)(N:List Str)(qual:Str)(scope:Scope)(f:Addr)(cd:Value)(A:Vz)(outer:List Env)(s:UR)(H:Hp)(E:XK):Cx where
 prog:=P
 w:=w
 K:=K
 mg:=mg
 base:=base
 A:=A.deeper (Zg qual scope s.heap.objs.size f cd)
 N:=N
 s₀ :=s
 H₀ :=H
 env:=Zg qual scope s.heap.objs.size f cd
 outer:=outer
 stack:=Zg qual scope s.heap.objs.size f cd::outer
 ex:=[]
 calm:=true
 fn:=λ_=>true
 pn:=[]
 xe:=λe s'=>wpAny (model P w) (A.deeper (Zg qual scope s.heap.objs.size f cd)) (leaving (Zg qual scope s.heap.objs.size f cd) e) (λ_ s''=>CX outer H s E e s'') (λe' s''=>CX outer H s E e' s'') s'
theorem wj{sc:Scope}{n:Nat}{x:Str}(h:sc.names.lookup x=some .cell): ∃ c,(Xb n sc.names []).lookup x=some c:=by
 have q:=Yp sc.names n [] (.inl h);exact X6.mp q
theorem Aj{CX:BS}{P:Vg}{w:World}{K:UL}{mg:Str->Option Value}{base:Heap}{N ps:List Str}{qual:Str}{scope:Scope}{f:Addr}{cd:Value}{A:Vz}{outer:List Env}{s s1:UR}{H:Hp}{E:XK}{us:List Value}{vs:List V}
  (S:d6 N ps scope) (hd:A.handled=none) (e0:w9 P w K mg base A outer s H) (hl:vs.length=ps.length) (r:Vals vs us)
  (x:InCallC s s.heap.objs.size (bindL (Zg qual scope s.heap.objs.size f cd).kindOf (ps.zip us) λ_=>none) (Xb (s.heap.objs.size+1) scope.names []) (bindC (Zg qual scope s.heap.objs.size f cd).kindOf (ps.zip us) λ_=>none) s1) :
  Inv (j7 CX P w K mg base N qual scope f cd A outer s H E) [] (start N vs) H s1:=by
 have hpl:ps.length<=N.length:=by have:=congrArg aaM S.pre;rw[VC] at this;omega
 obtain⟨h1,tk,rfl,hk⟩:=x.done;have noA: ∀ b:Addr,b ∉ (j7 CX P w K mg base N qual scope f cd A outer s H E).ex:=λb z=>absurd (show b∈([]:List Addr) from z) (by simp);refine⟨⟨e0.mod,S.kind,rfl,rfl,UT _,λy z c h1 h2=>?_,λy hy=>?_,λy c _ h=>?_,λ_=>hd,Around.frames_deeper e0.frames,.inr ⟨rfl,rfl⟩,λb z=>absurd z (noA b),e0.bs,e0.E3,λb _ _=>noA b,λb z=>absurd z (noA b),e0.m5,e0.Jh⟩,
  rfl,e0.bare,Un.kept hk,⟨_,x.toInCall.ns,λi y v h1 h2 h3=>?_⟩,λy c h=>⟨_,x.cell y c h⟩,e0.bA.fresh (UT _),λy c h=>?_,λp hp=>absurd (show p∈([]:List (Addr × Obj)) from hp) (by simp),e0.bA.kept hk,?_⟩
 . exact name_of_addr x.apart (Xk h1) (Xk h2)
 . have hy:scope.names.lookup y=some .cell\/scope.names.lookup y=some .free:=hy;rcases hy with hy | hy
   . exact wj hy
   . exact absurd rfl (S.MD _ (Xk hy))
 . exact WO (x.above y c (Xk h))
 . have hi:i < vs.length:=by
    unfold start at h2;by_cases hi:i < vs.length
    . exact hi
    . rw[Vq (by simpa using hi)] at h2;rw[Xp] at h2;split at h2<;>cases h2
   have ha:vs[i]?=some v:=by
    unfold start at h2;rw[Vy (by simpa using hi),U8] at h2;cases e:vs[i]? with
    | none=>rw[e] at h2;cases h2
    | some a=>rw[e] at h2;cases h2;rfl
   obtain⟨u,hu,rv⟩:=r.get ha;have hp:ps[i]?=some y:=by
    rw[<- S.pre,List.getElem?_take_of_lt (by omega)];exact h1
   have ndP:ps.Nodup:=by rw[<- S.pre];exact S.nd.sublist (List.take_sublist _ _)
   refine⟨u,rv,?_⟩;rcases S.par y (UX hp) with k | k
   . exact .inl ⟨k,r9 ndP hp hu k⟩
   . obtain⟨c,e⟩:=wj (n:=s.heap.objs.size+1) k;refine .inr ⟨.inl k,c,e,?_⟩;have q:=x.cell y c e;rw[sD ndP hp hu (by show scope.names.lookup y≠_;rw[k];decide)] at q;exact q
 . exact e0.bA.fresh (WO (x.above y c (Xk h)))
 . unfold start;show _=N.length;rw[U5,UO,aaA];omega
theorem OY{CX:BS}{P:Vg}{w:World}{K:UL}{mg:Str->Option Value}{base:Heap}{k:Nat}{f:Addr}{name qual:Str}{params:Arguments}{body:List Stmt}{scope:Scope}{dV kV doc pm cdv ct oc:Value}{an od:Option Addr}
  {osl:Array (Option Value)} {N ps:List Str} {sp:Sp} (lk:K.lookup f=some ⟨oc,od,.func (V3 name qual params body scope dV kV doc pm an cdv ct),osl⟩) (hcd:YU K cdv qual=true) (S:d6 N ps scope)
  (len: ∀ vs H Q E,sp vs H Q E->vs.length=ps.length)
  (hbody: ∀(A:Vz)(outer:List Env)(s:UR)(H:Hp)(vs:List V)(Q:VK)(E:XK),dJ k (A.deeper (Zg qual scope s.heap.objs.size f cdv))->sp vs H Q E ->
   ∃ t,wW (j7 CX P w K mg base N qual scope f cdv A outer s H E) body t/\t { nx:=λ_ H'=>Q .non H',rt:=Q } (start N vs) H) :
  lP P w K mg base CX (k+1) f (V3 name qual params body scope dV kV doc pm an cdv ct) ps sp:=by
 refine⟨len,λA outer s H args us vs Q E hr e0 hb r hsp=>?_⟩;have hl:=len _ _ _ _ hsp;have KX:K.In s.heap:=e0.mod.SV.keeps λb o e=>(e0.bs b o e).1;have lim:s.heap.NoLimit:=e0.mod.nolimit.keeps λb o e=>(e0.bs b o e).1;have hkind: ∀ y∈ps.zip us,scope.names.lookup y.1=some .local\/(scope.names.lookup y.1=some .cell/\((Xb (s.heap.objs.size+1) scope.names []).lookup y.1).isSome=true):=λ⟨n,v⟩ hy=>by
  rcases S.par n (aat hy).1 with q | q
  . exact .inl q
  . exact .inr ⟨q,Yp _ _ _ (.inl q)⟩
 refine codeAny_call_function hr.depth (KX _ _ lk) rfl S.co S.gen rfl (PySem.W.codeRec_of KX hcd) (hb _ _ _ _ ?_);refine wpAny_newFunctionEnv_cells S.kind hkind λenv he s1 x=>?_;subst he;refine⟨lim.keeps x.toInCall.keep,codeAny_func ?_⟩;obtain⟨t,ht,hq⟩:=hbody A outer s H vs Q E (hr.deeper _) hsp;have I:Inv (j7 CX P w K mg base N qual scope f cdv A outer s H E) [] (start N vs) H s1:=Aj S hr.hd e0 hl r x;refine VB (ht [] s1 (start N vs) H _ I hq) (λfl s' hs=>?_) λe s' hs=>hs;have fin: ∀{σ':St}{H':Hp}{v:V}{u:Value},Inv (j7 CX P w K mg base N qual scope f cdv A outer s H E) [] σ' H' s'->RelV v u->Q v H'->CE outer P w H s Q u s' :=
  λ{σ' H' v u} J rv q=>⟨v,H',J.os,J.bare,J.base,J.bA,rv,q⟩
 cases fl with
 | ret u =>
  obtain ⟨v, σ',H',J,rv,q⟩:=hs
  exact fin J rv q
 | next =>
  obtain ⟨σ',H',J,q⟩:=hs
  exact fin (v:=V.non) (u:=WW) J rfl q
 | brk =>
  obtain⟨_,_,_,q⟩:=hs
  exact Wt q
 | cont =>
  obtain⟨_,_,_,q⟩:=hs
  exact Wt q
section
variable{X:Cx}{x:Str}{p pos:Pos}{e:Expr}{es:List Expr}{t:TA}{id T:String}{r:List V->Hp->VK->Prop}
noncomputable def Nu(r:List V->Hp->VK->Prop)(t:TA):TE:=fun σ H Q=>t σ H λvs H1=>r vs H1 Q
theorem Dq(hc:aT X (.builtin id) r)(hg:Gl X x)(hm:X.mg x=none)(hv:V8 x=some (.builtin id))(ha:PA X (e::es) t)(hn:x≠ "__name__" :=by decide)(hdb:(x == ("__debug__" :Str))=false:=by decide)
  (he:VD (e::es) X.env=(false,eval e X.env)::VD es X.env:=by rfl) (hpl:(Ym pos (VD es X.env)).any (·.1)=false:=by rfl):PE X (.Call (.Name x p) (e::es) [] pos) (Nu r t):=by
 intro pins s σ H Q I h;refine Zf (ju I hg hm hv ?_ hn hdb);exact PyProof.Rows.callWith_builtin1 (cJ (ha pos pins s σ H _ I h) λus s1 ⟨vs,H1,I1,r1,q1⟩=>hc pins s1 σ H1 vs us Q I1 r1 q1) he hpl
theorem Ac(hc:aT X (.type T) r)(hg:Gl X x)(hm:X.mg x=none)(hv:V8 x=some (.type T))(ha:PA X (e::es) t)(hn:x≠ "__name__" :=by decide)(hdb:(x == ("__debug__" :Str))=false:=by decide)
  (he:VD (e::es) X.env=(false,eval e X.env)::VD es X.env:=by rfl) (hpl:(Ym pos (VD es X.env)).any (·.1)=false:=by rfl):PE X (.Call (.Name x p) (e::es) [] pos) (Nu r t):=by
 intro pins s σ H Q I h;refine Zf (ju I hg hm hv ?_ hn hdb);exact V5 (cJ (ha pos pins s σ H _ I h) λus s1 ⟨vs,H1,I1,r1,q1⟩=>hc pins s1 σ H1 vs us Q I1 r1 q1) he hpl
end
end L2
namespace HT
open PySem PyProof.Rows
section
variable{prog:Vg}{w:World}{A:Vz}{E:Value->UR->Prop}{s:UR}
theorem Gw{t b:Addr}{vs ws:List Value}{Q:Value->UR->Prop}(ht:IsTup s.heap t vs.toArray)(hb:IsTup s.heap b ws.toArray)(hv:vs≠[])
  (h1:ws=[]->Q (.ref t) s) (h2:ws≠[]->Q (.ref s.heap.objs.size) { s with heap:=s.heap.push { cls:= .type "tuple",data:= .seq (vs++ws).toArray } })
  (hsz:vs.length+ws.length<=sizeLine):wpAny (model prog w) A (Wa .Add (.ref t) (.ref b)) Q E s:=by
 obtain⟨⟨cls,dd,data,sl⟩,ho,hc,n,hd⟩:=id ht;obtain⟨⟨cls2,dd2,data2,sl2⟩,ho2,hc2,n2,hd2⟩:=id hb;simp only at hc hd hc2 hd2;subst hc hd hc2 hd2;have e:vs.toArray++ws.toArray=(vs++ws).toArray:=by simp
 by_cases hw:ws=[]
 . exact abE ⟨_,ho,rfl⟩ ⟨_,ho2,rfl⟩ ZV abg Yq Yi (X7 _ _)
    (tuple_addW1 t b vs.toArray ws.toArray n n2 dd dd2 sl sl2 (by simpa using hv) (by simp[hw])) ⟨ho,ho2,h1 hw⟩
 . refine abE ⟨_,ho,rfl⟩ ⟨_,ho2,rfl⟩ ZV abg Yq Yi (X7 _ _)
    (tuple_addW2 t b vs.toArray ws.toArray n n2 dd dd2 sl sl2 (by simpa using hv) (by simpa using hw) (by rw[U4,U4];exact hsz)) ⟨ho,ho2,?_⟩
   rw[e];exact h2 hw
noncomputable def cX(n d:Nat):Option Int->Nat
 | none=>d
 | some v=>if v < 0 then(v+(n:Int)).toNat else min v.toNat n
theorem lM(n d:Nat):cX n d none=d:=rfl
theorem oH(n d k:Nat):cX n d (some (k:Int))=min k n:=by
 show(if (k:Int) < 0 then((k:Int)+(n:Int)).toNat else min (k:Int).toNat n)=min k n;rw[if_neg (by omega),VH]
theorem Ky(n d:Nat)(hd:d<=n)(o:Option Int):cX n d o<=n:=by
 cases o with
 | none=>exact hd
 | some v =>
  show(if v < 0 then(v+(n:Int)).toNat else min v.toNat n)<=n
  by_cases hv:v < 0
  . rw[if_pos hv];omega
  . rw[if_neg hv];exact YD _ _
theorem zT(v:Int)(n d:Nat):(if v < 0 then max (v+(n:Int)) 0 else min v (n:Int))=((cX n d (some v):Nat):Int):=by
 show(if v < 0 then max (v+(n:Int)) 0 else min v (n:Int))=(((if v < 0 then(v+(n:Int)).toNat else min v.toNat n):Nat):Int)
 by_cases hv:v < 0
 . simp only[if_pos hv];omega
 . simp only[if_neg hv];omega
theorem xW(lo hi:Option Int)(n:Nat):XX lo hi 1 (n:Int)=(((cX n 0 lo:Nat):Int),((cX n n hi:Nat):Int)):=by
 have h1: ¬ ((1:Int) < 0):=by omega
 unfold XX;simp only[h1,if_false];refine Prod.ext ?_ ?_
 . cases lo with
   | none=>rfl
   | some v=>exact zT v n 0
 . cases hi with
   | none=>rfl
   | some v=>exact zT v n n
theorem yu(i j:Nat):W7 (i:Int) (j:Int) 1=j - i:=by
 unfold W7;have h1:(1:Int) > 0:=by omega
 simp only[h1,if_true,Int.ediv_one];split<;>omega
theorem pY{v:Value}{o:Option Int}{Q:Option Int->UR->Prop}(p:aac v o)(h:Q o s):wpAny (model prog w) A (Builtin.Slice.slicePartIndex v) Q E s:=by
 cases p with
 | none=>exact slicePart_none h
 | int i t=>exact slicePart_int h
theorem hV{sl:Addr}{vl vu:Value}{lo hi:Option Int}{n:Nat}{Q:Int × Int × Nat->UR->Prop}(hs:s.heap.IsSliceOf sl vl vu .none)(pl:aac vl lo)(pu:aac vu hi)
  (h:Q (((cX n 0 lo:Nat):Int),1,cX n n hi - cX n 0 lo) s):wpAny (model prog w) A (Zh (.ref sl) (pure (n:Int))) Q E s:=by
 obtain⟨os,hos,hcs,hds⟩:=id hs;unfold Zh Builtin.Slice.sliceFields;refine UN (UN (Wc hos hds (x:=vl) rfl (UN (Wc hos hds (x:=vu) rfl (UN (Wc hos hds (x:= .none) rfl (UZ ?_)))))));refine UN (slicePart_none ?_);show wpAny _ _ (if ((1:Int) == 0)=true then _ else _) _ _ s;rw[if_neg (by decide)];refine UN (pY pl (UN (pY pu (UN (UZ ?_)))));show wpAny _ _ (match XX lo hi 1 (n:Int) with | (lo,hi)=>pure (lo,(1:Int),W7 lo hi 1)) _ _ s;rw[xW lo hi n];show wpAny _ _ (pure (((cX n 0 lo:Nat):Int),(1:Int),W7 ((cX n 0 lo:Nat):Int) ((cX n n hi:Nat):Int) 1)) _ _ s;rw[yu];exact UZ h
theorem C7(xs:Array Value)(i k:Nat):((VX k).filterMap λ(m:Nat)=>xs[((i:Int)+(m:Int)*1).toNat]?).toArray=((xs.toList.drop i).take k).toArray:=by
 have e:(λ(m:Nat)=>xs[((i:Int)+(m:Int)*1).toNat]?)=λm=>xs[i+m]?:=by
  funext m
  have:((i:Int)+(m:Int)*1).toNat=i+m:=by omega
  rw[this]
 rw[e];have:=pick_run xs i k;rw[List.filterMap_map] at this;have e2:((λx=>xs[x]?) ∘ λx=>i+x)=λm=>xs[i+m]?:=rfl;rw[e2] at this;rw [this]
theorem lO {t sl : Addr} {items : Array Value} {vl vu : Value} {lo hi : Option Int} {Q : Value -> UR -> Prop} (ht : IsTup s.heap t items) (hs : s.heap.IsSliceOf sl vl vu .none) (pl : aac vl lo) (pu : aac vu hi)
    (hw : ¬ (cX items.size 0 lo = 0 /\ cX items.size items.size hi = items.size))
    (h : Q (.ref s.heap.objs.size) { s with heap := s.heap.push { cls := .type "tuple", data := .seq ((items.toList.drop (cX items.size 0 lo)).take (cX items.size items.size hi - cX items.size 0 lo)).toArray } })
    (hsz : items.size <= sizeLine) : wpAny (model prog w) A (Y3 (.ref t) (.ref sl)) Q E s := by
  have htake : sizeOk (.seq ((items.toList.drop (cX items.size 0 lo)).take (cX items.size items.size hi - cX items.size 0 lo)).toArray) := by
    show ((items.toList.drop (cX items.size 0 lo)).take (cX items.size items.size hi - cX items.size 0 lo)).toArray.size <= sizeLine;rw [U4, VC, Wn, Wy];omega
  have hj : cX items.size items.size hi <= items.size := Ky _ _ (UT _) hi;obtain ⟨os, hos, hcs, hds⟩ := id hs;have hTs : s.TypeIs (.ref sl) "slice" := ⟨os, hos, hcs⟩
  unfold Y3
  try with_reducible refine Ws ?_
  first | refine UN (UZ ?_) | skip
  refine UN (wpAny_sequenceKey ht.typeIs (by decide) ?_);refine UN (Wo (name := Va "__getitem__") ht.typeIs VQ
    (WC VQ ht.typeIs aa6 ?_ (abp _ _)))
  show wpAny _ _ (Zi (.ref t) >>= _) _ _ s;refine UN (tupleItemsOf_ ht ?_);refine UN (XW hTs ?_);rw [if_pos (by decide)];refine UN (hV hs pl pu ?_);have hno : ¬ ((((cX items.size 0 lo : Nat) : Int) == 0 && (1 : Int) == 1 && (cX items.size items.size hi - cX items.size 0 lo) == items.size) = true) := by
    intro q;rw [U9, U9] at q;have q1 : ((cX items.size 0 lo : Nat) : Int) = 0 := eq_of_beq q.1.1;have q2 : cX items.size items.size hi - cX items.size 0 lo = items.size := eq_of_beq q.2;exact hw ⟨by omega, by omega⟩
  show wpAny _ _ (if (((cX items.size 0 lo : Nat) : Int) == 0 && (1 : Int) == 1 && (cX items.size items.size hi - cX items.size 0 lo) == items.size) = true then _ else _) _ _ s;rw [if_neg hno, C7]
  first
    | exact UN (m := Wh _) (We (UZ ⟨_, rfl, UZ h⟩) htake)
    | exact UN (m := Wh _) (We (UN (UZ (UZ ⟨_, rfl, UZ h⟩))) htake)
    | exact UN (UN (m := Wh _) (We (UZ (UZ ⟨_, rfl, UZ h⟩)) htake))
    | exact UN (UN (m := Wh _) (We (UZ ⟨_, rfl, UZ h⟩) htake))
end
end HT
namespace L2
open PySem PySem.Spec PyProof.Rows
abbrev TO:=St->Hp->(Option Int->Hp->Prop)->Prop
noncomputable def PO(X:Cx)(e:Option Expr)(t:TO):Prop :=
 ∀(pins:List (Addr × Obj))(s:UR)(σ :St)(H:Hp)(Q:Option Int->Hp->Prop),Inv X pins σ H s->t σ H Q ->
  wpAny (model X.prog X.w) X.A (evalPart e X.env) (λu s'=> ∃ o H',Inv X pins σ H' s'/\aac u o/\Q o H') X.xe s
noncomputable def y9:TO:=λ_ H Q=>Q none H
noncomputable def JC(t:TE):TO:=fun σ H Q=>t σ H λx H1=> ∃ i,x= .int i/\Q (some i) H1
section
variable{X:Cx}{e:Expr}{te:TE}{lo hi:Option Expr}{tl th:TO}{pos p2:Pos}
theorem G5:PO X none y9:=by
 intro pins s σ H Q I h;rw[evalPart_none];exact UZ ⟨none,H,I,.none,h⟩
theorem Io(h:PE X e te):PO X (some e) (JC te):=by
 intro pins s σ H Q I hw;rw[evalPart_some];refine cJ (h pins s σ H _ I hw) λu s1 ⟨x,H1,I1,r1,q1⟩=>?_;obtain⟨i,rfl,q⟩:=q1;obtain⟨t,rfl⟩:=r1;exact⟨some i,H1,I1,.int i t,q⟩
noncomputable def E6(X:Cx)(r:V->Option Int->Option Int->Hp->VK->Prop):Prop :=
 ∀(pins:List (Addr × Obj))(s:UR)(σ :St)(H:Hp)(x:V)(v vl vu:Value)(lo hi:Option Int)(sl:Addr)(Q:VK),Inv X pins σ H s->RelV x v->s.heap.IsSliceOf sl vl vu .none->aac vl lo->aac vu hi->r x lo hi H Q ->
  ∃ T id,typeLookup (.type T) "__getitem__" =pure (some (.builtin id))/\s.TypeIs v T/\wpAny (model X.prog X.w) X.A (Y3 v (.ref sl)) (EP X pins σ Q) X.xe s
theorem E6.or{r r':V->Option Int->Option Int->Hp->VK->Prop}(h:E6 X r)(h':E6 X r'):E6 X (λx lo hi H Q=>r x lo hi H Q\/r' x lo hi H Q):=by
 intro pins s σ H x v vl vu lo hi sl Q I rx hs pl pu q;rcases q with q | q
 . exact h pins s σ H x v vl vu lo hi sl Q I rx hs pl pu q
 . exact h' pins s σ H x v vl vu lo hi sl Q I rx hs pl pu q
noncomputable def TH(r:V->Option Int->Option Int->Hp->VK->Prop)(te:TE)(tl th:TO):TE:=fun σ H Q=>te σ H λx H1=>tl σ H1 λl H2=>th σ H2 λu H3=>r x l u H3 Q
theorem DF{r:V->Option Int->Option Int->Hp->VK->Prop}(hr:E6 X r)(he:PE X e te)(hl:PO X lo tl)(hu:PO X hi th):PE X (.Subscript e (.Slice lo hi none p2) pos) (TH r te tl th):=by
 intro pins s σ H Q I h;refine Subscript_ (cJ (he pins s σ H _ I h) λv s1 ⟨x,H1,I1,r1,q1⟩=>?_);refine wpAny_Slice (cJ (hl pins s1 σ H1 _ I1 q1) λvl s2 ⟨l,H2,I2,pl,q2⟩=>cJ (hu pins s2 σ H2 _ I2 q2) λvu s3 ⟨u,H3,I3,pu,q3⟩=>?_);rw[evalPart_none];refine UZ ?_;have I4:Inv X pins σ H3 { s3 with heap:=s3.heap.push { cls:= .type "slice",data:= .fields #[vl,vu,.none] } }:=I3.kept (t':=s3.toks) λb ob q=>UQ _ q;obtain⟨T,id,hT,ht,hg⟩:=hr pins { s3 with heap:=s3.heap.push { cls:= .type "slice",data:= .fields #[vl,vu,.none] } } σ H3 x v vl vu l u s3.heap.objs.size Q I4 r1 (acH ..) pl pu q3;show wpAny (model X.prog X.w) X.A (ZI e (.Slice lo hi none p2) v (.ref s3.heap.objs.size)) (EP X pins σ Q) X.xe { s3 with heap:=s3.heap.push { cls:= .type "slice",data:= .fields #[vl,vu,.none] } };exact tail_any (ops:=[.ref s3.heap.objs.size,v]) ht hT hg (by with_unfolding_all rfl)
noncomputable def oh(xs:List V)(lo hi:Option Int):List V:=(xs.drop (HT.cX xs.length 0 lo)).take (HT.cX xs.length xs.length hi - HT.cX xs.length 0 lo)
theorem nS(xs:List V)(lo hi:Option Int):(oh xs lo hi).length<=xs.length:=by
 unfold oh;rw[VC,Wn];omega
noncomputable def Qm(K:UL):V->Option Int->Option Int->Hp->VK->Prop:=λx lo hi H Q=> ∃ a xs,x= .ref a/\fq K H a xs /\
 ¬ (HT.cX xs.length 0 lo=0/\HT.cX xs.length xs.length hi=xs.length)/\ ∀ p,H p=none->Q (.ref p) (upd H p (.tup (oh xs lo hi)))
theorem Ni:E6 X (Qm X.K):=by
 intro pins s σ H x v vl vu lo hi sl Q I rx hs pl pu h;obtain⟨a,xs,rfl,hx,hw,q⟩:=h;cases rx;obtain⟨aj,r,ht,hz⟩:=I.tuple hx;have hlen:aj.toArray.size=xs.length:=by rw[U4];exact r.length.symm
 refine⟨"tuple",_,VQ.lookup,ht.typeIs,?_⟩;refine HT.lO ht hs pl pu (by rw[hlen];exact hw) ?_ (by rw[hlen];exact hz);rw[hlen];refine⟨.ref s.heap.objs.size,_,I.laid (t':=s.toks) (o:= .tup (oh xs lo hi)) (λb ob q=>UQ _ q) (UT _) ?_,rfl,q _ (I.bA.fresh (UT _))⟩;exact⟨Vn (nS xs lo hi) hz,_,(r.drop (HT.cX xs.length 0 lo)).take (HT.cX xs.length xs.length hi - HT.cX xs.length 0 lo),qW.new _ _⟩
noncomputable def Jf(K:UL):R2:=λx y H Q=> ∃ a b xs ys,x= .ref a/\y= .ref b/\fq K H a xs/\fq K H b ys/\xs≠[]/\xs.length+ys.length<=sizeLine /\
 (ys=[]->Q (.ref a) H)/\(ys≠[]-> ∀ p,H p=none->Q (.ref p) (upd H p (.tup (xs++ys))))
theorem Vals.oJ{xs:List V}{us:List Value}(r:Vals xs us):us=[]↔xs=[]:=by
 cases r with
 | nil=>simp
 | cons _ _=>simp
theorem GQ:c9 X (Wa .Add) (Jf X.K):=by
 intro pins s σ H x y v u Q I rx ry h;obtain⟨a,b,xs,ys,rfl,rfl,ha,hb,hx,hz,q1,q2⟩:=h;cases rx;cases ry;obtain⟨aj,r1,p1,_⟩:=I.tuple ha;obtain⟨its2,r2,p2,_⟩:=I.tuple hb;refine HT.Gw p1 p2 (λz=>hx (r1.oJ.mp z)) (λz=>⟨.ref a,H,I,rfl,q1 (r2.oJ.mp z)⟩) (λz=>?_) (by rw[<- r1.length,<- r2.length];exact hz);refine⟨.ref s.heap.objs.size,_,I.laid (t':=s.toks) (o:= .tup (xs++ys)) (λb ob q=>UQ _ q) (UT _) ?_,rfl,q2 (λw=>z (r2.oJ.mpr w)) _ (I.bA.fresh (UT _))⟩;exact⟨by rw[U5];exact hz,_,r1.append r2,qW.new _ _⟩
end
noncomputable def pJ(n:Nat)(i:Int):Option Nat:=if 0<=i then(if i < n then some i.toNat else none) else if -(n:Int)<=i then some (i+n).toNat else none
noncomputable def d9{α :Type}(xs:List α)(i:Int):Option α :=(pJ xs.length i).bind λj=>xs[j]?
theorem zQ{n:Nat}{i:Int}{j:Nat}(h:pJ n i=some j):seqIndex? i n=some j/\j < n/\ -(n:Int)<=i/\i < n:=by
 unfold pJ at h;by_cases h0:0<=i
 . rw[if_pos h0] at h;by_cases h1:i < n
   . rw[if_pos h1] at h;have e:i.toNat=j:=VE h;exact⟨by rw[ab9 h0 h1,e],by omega,by omega,h1⟩
   . rw[if_neg h1] at h;cases h
 . rw[if_neg h0] at h;by_cases h1: -(n:Int)<=i
   . rw[if_pos h1] at h;have e:(i+n).toNat=j:=VE h;exact⟨by rw[abF (by omega) h1,e],by omega,h1,by omega⟩
   . rw[if_neg h1] at h;cases h
theorem sY{α :Type}{xs:List α}{i:Int}{v: α}(h:d9 xs i=some v): ∃ j,seqIndex? i xs.length=some j/\xs[j]?=some v/\j < xs.length/\ -(xs.length:Int)<=i/\i < xs.length:=by
 unfold d9 at h;cases e:pJ xs.length i with
 | none=>rw[e] at h;cases h
 | some j =>
  rw[e] at h
  obtain⟨h1,h2,h3,h4⟩:=zQ e
  exact⟨j,h1,h,h2,h3,h4⟩
theorem eP{α :Type}{xs:List α}{j:Nat}{v: α}(h:xs[j]?=some v):d9 xs (j:Int)=some v:=by
 have hj:j < xs.length:=(UP.mp h).1;have e:pJ xs.length (j:Int)=some j:=by
  unfold pJ;rw[if_pos (by omega),if_pos (by omega)];simp
 unfold d9;rw[e];exact h
noncomputable def sW(b:Expr):Prop:= ∀ o i,Zx b false o i=operate [o,i] (Y3 o i)
noncomputable def zY(X:Cx)(r:R2):Prop :=
 ∀(value slice:Expr)(pins:List (Addr × Obj))(s:UR)(σ :St)(H:Hp)(x y:V)(v u:Value)(Q:VK),Inv X pins σ H s->RelV x v->RelV y u->r x y H Q ->
  Zx slice false v u=operate [v,u] (Y3 v u)->wpAny (model X.prog X.w) X.A (ZI value slice v u) (EP X pins σ Q) X.xe s
noncomputable def Ju(X:Cx)(id:String)(r:V->List V->Hp->VK->Prop):Prop :=
 ∀(pins:List (Addr × Obj))(s:UR)(σ :St)(H:Hp)(x:V)(xs:List V)(v:Value)(us:List Value)(Q:VK),Inv X pins σ H s->RelV x v->Vals xs us->r x xs H Q ->
  wpAny (model X.prog X.w) X.A (call (.builtin id) (v::us)) (EP X pins σ Q) X.xe s
section
variable{X:Cx}{a b:Expr}{ta tb:TE}{pos:Pos}
theorem zY.or{r r':R2}(h:zY X r)(h':zY X r'):zY X (λx y H Q=>r x y H Q\/r' x y H Q):=by
 intro value slice pins s σ H x y v u Q I rx ry q hs;rcases q with q | q
 . exact h value slice pins s σ H x y v u Q I rx ry q hs
 . exact h' value slice pins s σ H x y v u Q I rx ry q hs
theorem Qu{r:R2}(hr:zY X r)(ha:PE X a ta)(hb:PE X b tb)(hs:sW b):PE X (.Subscript a b pos) (HP r ta tb):=by
 intro pins s σ H Q I h;exact Subscript_ (Nw ha hb I h λv u s2 x y H2 I2 rx ry q=>hr a b pins s2 σ H2 x y v u Q I2 rx ry q (hs _ _))
noncomputable def QZ(K:UL):R2:=λx y H Q=> ∃ p xs i v,x= .ref p/\y= .int i/\iY K H p xs/\d9 xs i=some v/\Q v H
noncomputable def PM(K:UL):R2:=λx y H Q=> ∃ p xs i v,x= .ref p/\y= .int i/\fq K H p xs/\d9 xs i=some v/\Q v H
noncomputable def QQ:R2:=λx y H Q=> ∃ z i c,x= .str z/\y= .int i/\z.length<=sizeLine/\d9 z.cps.toList i=some c/\Q (.str ⟨#[c]⟩) H
theorem Iv:zY X (QZ X.K):=by
 intro value slice pins s σ H x y v u Q I rx ry h hs;obtain⟨p,xs,i,z,rfl,rfl,hq,he,q⟩:=h;cases rx;obtain⟨t,rfl⟩:=ry;obtain⟨aj,r,pl,hz⟩:=I.list hq;obtain⟨j,h1,h2,h3,h4,h5⟩:=sY he;obtain⟨w,ew,rw'⟩:=r.get h2;have hl:=r.length;have hn:=ni;have fin:EP X pins σ Q w s:=⟨z,H,I,rw',q⟩
 by_cases h0:0<=i
 . have hj:i.toNat=j:=by
    rw[ab9 h0 h5] at h1;exact VE h1
   exact item_listR pl.isList h0 (by omega) (by rw[hj];simpa using ew) fin hs
 . have hj:(i+(aj.toArray.size:Int)).toNat=j:=by
    rw[abF (by omega) h4] at h1;rw[U4,<- hl];exact VE h1
   exact aad (x:=w) pl.isList.typeIs slot_list_getitem.lookup
    (wpAny_getItem_list_neg (Q:=λr s'=>r=w/\EP X pins σ Q r s') pl.isList (by omega) (by rw[U4]<;>omega) (by omega) (by rw[hj];simpa using ew) ⟨rfl,fin⟩) hs
theorem Mb:zY X (PM X.K):=by
 intro value slice pins s σ H x y v u Q I rx ry h hs;obtain⟨p,xs,i,z,rfl,rfl,hq,he,q⟩:=h;cases rx;obtain⟨t,rfl⟩:=ry;obtain⟨aj,r,pl,hz⟩:=I.tuple hq;obtain⟨j,h1,h2,h3,h4,h5⟩:=sY he;obtain⟨w,ew,rw'⟩:=r.get h2;have hl:=r.length;have hn:=ni;have fin:EP X pins σ Q w s:=⟨z,H,I,rw',q⟩
 exact aad (x:=w) pl.typeIs VQ.lookup
  (getItem_tuple (j:=j) (Q:=λr s'=>r=w/\EP X pins σ Q r s') pl (by omega) (by omega) (by rw[U4,<- hl];exact h1) (by simpa using ew) ⟨rfl,fin⟩) hs
theorem Nn:zY X QQ:=by
 intro value slice pins s σ H x y v u Q I rx ry h hs;obtain⟨z,i,c,rfl,rfl,hz,he,q⟩:=h;obtain⟨t,rfl⟩:=rx;obtain⟨t',rfl⟩:=ry;obtain⟨j,h1,h2,h3,h4,h5⟩:=sY he;have hl:z.cps.toList.length=z.length:=by simp[Str.length]
 rw[hl] at h1 h4 h5;have hn:=ni;exact tail_any (abq s z t) slot_str_getitem.lookup (getItem_str (c:=c) (by
  have e1:decide (i < -(2 ^ 63:Int))=false:=decide_eq_false (by omega);have e2:decide (i ≥ 2 ^ 63)=false:=decide_eq_false (by omega);rw[e1,e2,Bool.or_false]) (by rw[h1];simpa using h2) ⟨.str ⟨#[c]⟩,H,I.tok _,⟨_,rfl⟩,q⟩) hs
noncomputable def UA(K:UL):R2:=λx y H Q=>QZ K x y H Q\/PM K x y H Q\/QQ x y H Q
theorem Ms:zY X (UA X.K):=Iv.or (Mb.or Nn)
theorem x8(aj:List Value)(n j:Nat)(u:Value):WY (·.setIfInBounds j u) { cls:= .type "list",data:= .seq aj.toArray n }={ cls:= .type "list",data:= .seq (aj.set j u).toArray n }:=by
 simp[WY]
theorem Inv.lst{pins:List (Addr × Obj)}{σ :St}{H:Hp}{s:UR}{p:Addr}{xs:List V}(I:Inv X pins σ H s)(h:H p=some (.lst xs)) :
  ∃(aj:List Value)(n:Nat),Vals xs aj/\s.heap.get? p=some { cls:= .type "list",data:= .seq aj.toArray n }/\xs.length<=sizeLine:=by
 obtain⟨z,aj,n,r,e⟩:=I.bA p _ h;exact⟨aj,n,r,e,z⟩
theorem Inv.Lz{pins:List (Addr × Obj)}{σ :St}{H:Hp}{s:UR}{p:Addr}{xs ys:List V}{aj its':List Value}{n n':Nat}{f:Obj->Obj}(I:Inv X pins σ H s)(h:H p=some (.lst xs))
  (ho:s.heap.get? p=some { cls:= .type "list",data:= .seq aj.toArray n }) (hf:f { cls:= .type "list",data:= .seq aj.toArray n }={ cls:= .type "list",data:= .seq its'.toArray n' }) (r:Vals ys its') (hz:ys.length<=sizeLine) (t:Nat) :
  Inv X pins σ (upd H p (.lst ys)) { s with heap:=s.heap.update p f,toks:=t }:=by
 have e:(s.heap.update p f).get? p=some { cls:= .type "list",data:= .seq its'.toArray n' }:=by
  rw[aaB f ho (by rw[hf]<;>rfl),hf]
 refine I.write (x:=p) (e:=p) (by rw[h];trivial) (.inl rfl) (λb u hb q=>(aae _ _ (Xj hb)).trans q) ⟨_,e⟩ ?_;exact⟨hz,its',n',r,e⟩
noncomputable def RH:V->V->V->Hp->(Hp->Prop)->Prop:=λo i v H Q=> ∃ p xs k j,o= .ref p/\i= .int k/\H p=some (.lst xs)/\pJ xs.length k=some j/\Q (upd H p (.lst (xs.set j v)))
theorem set_list:rq X RH:=by
 intro pins s σ H o i v ov iv u Q I ro ri rv h;obtain⟨p,xs,k,j,rfl,rfl,hp,hj,q⟩:=h;cases ro;obtain⟨t,rfl⟩:=ri;obtain⟨aj,n,r,ho,hz⟩:=I.lst hp;obtain⟨h1,h2,h3,h4⟩:=zQ hj;have hl:=r.length;have hn:=ni;have I':Inv X pins σ (upd H p (.lst (xs.set j v))) { s with heap:=s.heap.update p (WY (·.setIfInBounds j u)) } :=
  I.Lz hp ho (x8 aj n j u) (r.set rv j) (by rw[Vr];exact hz) s.toks
 by_cases h0:0<=k
 . have hk:k.toNat=j:=by
    rw[ab9 h0 h4] at h1;exact VE h1
   exact PySem.W.ki_setAt ho h0 (by omega) (by rw[U4,<- hl];exact h4) (by rw[hk];exact⟨_,I',q⟩)
 . have hk:(k+(aj.toArray.size:Int)).toNat=j:=by
    rw[abF (by omega) h3] at h1;rw[U4,<- hl];exact VE h1
   exact PySem.W.ki_setBack ho (by omega) (by rw[U4,<- hl];exact h3) (by omega) (by rw[hk];exact⟨_,I',q⟩)
theorem t4(lo hi:Option Int)(n:Nat):(Yj lo hi none n).1=((HT.cX n 0 lo:Nat):Int)/\(Yj lo hi none n).2.1=((HT.cX n n hi:Nat):Int)/\(Yj lo hi none n).2.2=1:=by
 refine⟨?_,?_,rfl⟩
 . cases lo with
   | none=>simp[Yj,HT.cX]
   | some i =>
    simp only[Yj,HT.cX,abZ,show(1:Int) > 0 by decide,if_true]
    by_cases h:i < 0
    . simp only[h,if_true]<;>omega
    . simp only[h,if_false]<;>omega
 . cases hi with
   | none=>simp[Yj,HT.cX]
   | some i =>
    simp only[Yj,HT.cX,abZ,show(1:Int) > 0 by decide,if_true]
    by_cases h:i < 0
    . simp only[h,if_true]<;>omega
    . simp only[h,if_false]<;>omega
theorem qX(aj:List Value)(lo hi:Option Int):slicePick aj.toArray lo hi none=((aj.drop (HT.cX aj.length 0 lo)).take (HT.cX aj.length aj.length hi - HT.cX aj.length 0 lo)).toArray:=by
 obtain⟨h1,h2,h3⟩:=t4 lo hi aj.toArray.size;unfold slicePick;rw[h1,h2,h3];simp only[sliceRange_one,pick_run,U4]<;>rfl
noncomputable def PD(K:UL):V->Option Int->Option Int->Hp->VK->Prop:=λx lo hi H Q=> ∃ a xs,x= .ref a/\iY K H a xs/\ ∀ p,H p=none->Q (.ref p) (upd H p (.lst (oh xs lo hi)))
theorem Fh:E6 X (PD X.K):=by
 intro pins s σ H x v vl vu lo hi sl Q I rx hs pl pu h;obtain⟨a,xs,rfl,hx,q⟩:=h;cases rx;obtain⟨aj,r,ht,hz⟩:=I.list hx;have hlen:=r.length;refine⟨"list",_,slot_list_getitem.lookup,ht.isList.typeIs,?_⟩;refine wpAny_getItem_list_slice ht.isList hs pl pu .none (by simp) ?_ (by rw[U4]<;>omega);rw[qX,<- hlen];refine⟨.ref s.heap.objs.size,_,I.laid (t':=s.toks) (o:= .lst (oh xs lo hi)) (λb ob q=>UQ _ q) (UT _) ?_,rfl,q _ (I.bA.fresh (UT _))⟩;exact⟨Vn (nS xs lo hi) hz,_,0,(r.drop (HT.cX xs.length 0 lo)).take (HT.cX xs.length xs.length hi - HT.cX xs.length 0 lo),U7 _ rfl⟩
noncomputable def iX:V->Bool
 | .non=>true
 | .bl _=>true
 | .int _=>true
 | .str _=>true
 | _=>false
noncomputable def Ig:V->V->Bool
 | .non,.non=>true
 | .bl a,.bl b=>a == b
 | .bl a,.int b=>(if a then 1 else 0) == b
 | .int a,.bl b=>a == (if b then 1 else 0)
 | .int a,.int b=>a == b
 | .str a,.str b=>a == b
 | _,_=>false
theorem L4{A:Vz}{s:UR}{y x:V}{u v:Value}(ry:RelV y u)(rx:RelV x v)(fy:iX y=true)(fx:iX x=true):SeqAt.EqAt A s u v (Ig y x):=by
 cases y with
 | non =>
  cases ry
  cases x with
  | non=>cases rx;exact SeqAt.EqAt.same _
  | bl b=>cases rx;exact SeqAt.EqAt.none_bool b
  | int b=>obtain⟨t,rfl⟩:=rx;exact SeqAt.EqAt.none_int b t
  | str b=>obtain⟨t,rfl⟩:=rx;exact SeqAt.EqAt.none_str b t
  | _=>exact absurd (show false=true from fx) Vb
 | bl a =>
  cases ry
  cases x with
  | non=>cases rx;exact SeqAt.EqAt.bool_none a
  | bl b=>cases rx;exact SeqAt.EqAt.bool_bool a b
  | int b=>obtain⟨t,rfl⟩:=rx;exact SeqAt.EqAt.bool_int a b t
  | str b=>obtain⟨t,rfl⟩:=rx;exact SeqAt.EqAt.bool_str a b t
  | _=>exact absurd (show false=true from fx) Vb
 | int a =>
  obtain⟨t',rfl⟩:=ry
  cases x with
  | non=>cases rx;exact SeqAt.EqAt.int_none a t'
  | bl b=>cases rx;exact SeqAt.EqAt.int_bool a t' b
  | int b=>obtain⟨t,rfl⟩:=rx;exact SeqAt.EqAt.int_int a t' b t
  | str b=>obtain⟨t,rfl⟩:=rx;exact abl a t' b t
  | _=>exact absurd (show false=true from fx) Vb
 | str a =>
  obtain⟨t',rfl⟩:=ry
  cases x with
  | non=>cases rx;exact SeqAt.EqAt.str_none a t'
  | bl b=>cases rx;exact SeqAt.EqAt.str_bool a t' b
  | int b=>obtain⟨t,rfl⟩:=rx;exact abm a t' b t
  | str b=>obtain⟨t,rfl⟩:=rx;exact abr a t' b t
  | _=>exact absurd (show false=true from fx) Vb
 | _=>exact absurd (show false=true from fy) Vb
noncomputable def xa(x:V)(u:Value):Bool:=match u with
 | .none=>Ig .non x
 | .bool b=>Ig (.bl b) x
 | .int i _=>Ig (.int i) x
 | .str z _=>Ig (.str z) x
 | _=>false
theorem Es{x y:V}{u:Value}(r:RelV y u)(f:iX y=true):xa x u=Ig y x:=by
 cases y with
 | non=>cases r;rfl
 | bl b=>cases r;rfl
 | int i=>obtain⟨t,rfl⟩:=r;rfl
 | str z=>obtain⟨t,rfl⟩:=r;rfl
 | _=>exact absurd (show false=true from f) Vb
theorem lY{x:V}: ∀{xs:List V}{us:List Value},Vals xs us->xs.all iX=true->us.any (xa x)=xs.any λy=>Ig y x
 | _,_,.nil,_=>rfl
 | y::xs,u::us,.cons r t,f=>by
  rw[X8,U9] at f;rw[Wi,Wi,Es r f.1,lY t f.2]
theorem jE{A:Vz}{s:UR}{x:V}{v:Value}(rx:RelV x v)(fx:iX x=true): ∀{xs:List V}{us:List Value},Vals xs us->xs.all iX=true-> ∀ u∈us,SeqAt.EqAt A s u v (xa x u)
 | _,_,.nil,_=>λu hu=>by cases hu
 | y::xs,u::us,.cons r t,f=>λu' hu=>by
  rw[X8,U9] at f;rcases U1.mp hu with rfl | hu
  . rw[Es r f.1];exact L4 r rx f.1 fx
  . exact jE rx fx t f.2 u' hu
noncomputable def gq(x:V)(xs:List V):Bool:=xs.any λy=>Ig y x
noncomputable def T9(K:UL)(neg:Bool):R2:=λx y H Q=> ∃ p xs,y= .ref p/\(iY K H p xs\/fq K H p xs)/\iX x=true/\xs.all iX=true/\Q (.bl (if neg then !gq x xs else gq x xs)) H
theorem zW:c9 X (Vu .In) (T9 X.K false):=by
 intro pins s σ H x y v u Q I rx ry h;obtain⟨p,xs,rfl,hq,fx,fs,q⟩:=h;cases ry;rcases hq with hq | hq
 . obtain⟨aj,r,pl,hz⟩:=I.list hq;refine SeqAt.in_listAt (xa x) pl.isList (λw hw=>jE rx fx r fs w (by simpa using hw)) ⟨.bl _,H,I,rfl,?_⟩;rw[show aj.toArray.any (xa x)=aj.any (xa x) by simp,lY r fs];exact q
 . obtain⟨aj,r,pl,hz⟩:=I.tuple hq;refine SeqAt.in_tupleAt (xa x) pl (λw hw=>jE rx fx r fs w (by simpa using hw)) ⟨.bl _,H,I,rfl,?_⟩;rw[show aj.toArray.any (xa x)=aj.any (xa x) by simp,lY r fs];exact q
theorem sX:c9 X (Vu .NotIn) (T9 X.K true):=by
 intro pins s σ H x y v u Q I rx ry h;obtain⟨p,xs,rfl,hq,fx,fs,q⟩:=h;cases ry;rcases hq with hq | hq
 . obtain⟨aj,r,pl,hz⟩:=I.list hq;refine SeqAt.notIn_listAt (xa x) pl.isList (λw hw=>jE rx fx r fs w (by simpa using hw)) ⟨.bl _,H,I,rfl,?_⟩;rw[show aj.toArray.any (xa x)=aj.any (xa x) by simp,lY r fs];exact q
 . obtain⟨aj,r,pl,hz⟩:=I.tuple hq;refine SeqAt.notIn_tupleAt (xa x) pl (λw hw=>jE rx fx r fs w (by simpa using hw)) ⟨.bl _,H,I,rfl,?_⟩;rw[show aj.toArray.any (xa x)=aj.any (xa x) by simp,lY r fs];exact q
theorem uC:c9 X (Vu .NotIn) (λx y H Q=> ∃ i j,x= .str i/\y= .str j/\Q (.bl (!(!(Xn j i 0 j.length 1).isEmpty))) H):=by
 intro pins s σ H x y v u Q I rx ry h;obtain⟨i,j,rfl,rfl,q⟩:=h;obtain⟨t,rfl⟩:=rx;obtain⟨t',rfl⟩:=ry;exact notIn_str ⟨.bl _,H,I,rfl,q⟩
theorem sU:aT X (.builtin "len") (λxs H Q=> ∃ p ys,xs=[.ref p]/\(iY X.K H p ys\/fq X.K H p ys)/\Q (.int ys.length) H):=by
 intro pins s σ H xs us Q I r h;obtain⟨p,ys,rfl,hq,q⟩:=h;obtain⟨u,rfl,rx⟩:=vals1 r;cases rx;have hn:=ni;rcases hq with hq | hq
 . obtain⟨aj,r',pl,hz⟩:=I.list hq;have hlen:=r'.length;exact Calls.call_len_list pl.isList (by simp only[U4]<;>omega) ⟨.int ys.length,H,I.tok _,⟨s.toks+1,by rw[U4,hlen]⟩,q⟩
 . obtain⟨aj,r',pl,hz⟩:=I.tuple hq;have hlen:=r'.length;exact len_tuple pl (by simp only[U4]<;>omega) ⟨.int ys.length,H,I.tok _,⟨s.toks+1,by rw[U4,hlen]⟩,q⟩
theorem uL:aT X (.builtin "len") (λxs H Q=> ∃ z,xs=[.str z]/\z.length<=sizeLine/\Q (.int z.length) H):=by
 intro pins s σ H xs us Q I r h;obtain⟨z,rfl,hz,q⟩:=h;obtain⟨u,rfl,t,rfl⟩:=vals1 r;have hn:=ni;exact len_str (by omega) ⟨.int z.length,H,I.tok _,⟨_,rfl⟩,q⟩
theorem aT.or{f:Value}{r r':List V->Hp->VK->Prop}(h:aT X f r)(h':aT X f r'):aT X f (λxs H Q=>r xs H Q\/r' xs H Q):=by
 intro pins s σ H xs us Q I rs q;rcases q with q | q
 . exact h pins s σ H xs us Q I rs q
 . exact h' pins s σ H xs us Q I rs q
theorem tN:aT X (.type "list") (λxs H Q=> ∃ p ys,xs=[.ref p]/\(iY X.K H p ys\/fq X.K H p ys)/\ ∀ l,H l=none->Q (.ref l) (upd H l (.lst ys))):=by
 intro pins s σ H xs us Q I r h;obtain⟨p,ys,rfl,hq,q⟩:=h;obtain⟨u,rfl,rx⟩:=vals1 r;cases rx;have fin: ∀(aj:List Value),Vals ys aj->ys.length<=sizeLine-> ∀(h':Heap)(c':Nat),(∀ b o',s.heap.get? b=some o'->h'.get? b=some o') ->
   h'.get? s.heap.objs.size=some { cls:= .type "list",dict:=none,data:= .seq aj.toArray c',slots:= #[] }->EP X pins σ Q (.ref s.heap.objs.size) { s with heap:=h' }:=λaj r' hz h' c' kp e =>
  ⟨.ref s.heap.objs.size,_,I.laid (t':=s.toks) kp (UT _) (show aY X.prog X.w _ h' _ (.lst ys) from⟨hz,aj,c',r',e⟩),rfl,q _ (I.bA.fresh (UT _))⟩
 rcases hq with hq | hq
 . obtain⟨aj,r',pl,hz⟩:=I.list hq;have hlen:=r'.length;obtain⟨o,ho,hc,n,hd⟩:=pl.isList;exact call_list_seq p (.inl rfl) ho hc hd (λh' c' kp e=>fin aj r' hz h' c' kp e) (by simp only[U4]<;>omega)
 . obtain⟨aj,r',pl,hz⟩:=I.tuple hq;have hlen:=r'.length;obtain⟨o,ho,hc,n,hd⟩:=pl;exact call_list_seq p (.inr rfl) ho hc hd (λh' c' kp e=>fin aj r' hz h' c' kp e) (by simp only[U4]<;>omega)
theorem rF:aT X (.type "tuple") (λxs H Q=> ∃ p ys,xs=[.ref p]/\((iY X.K H p ys/\ ∀ l,H l=none->Q (.ref l) (upd H l (.tup ys)))\/(fq X.K H p ys/\Q (.ref p) H))):=by
 intro pins s σ H xs us Q I r h;obtain⟨p,ys,rfl,h⟩:=h;obtain⟨u,rfl,rx⟩:=vals1 r;cases rx;rcases h with⟨hq,q⟩ | ⟨hq,q⟩
 . obtain⟨aj,r',pl,hz⟩:=I.list hq;have hlen:=r'.length;refine call_tuple_list pl.isList (λh' kp=>?_) (by simp only[U4]<;>omega);have I1:Inv X pins σ H { s with heap:=h' }:=I.kept (t':=s.toks) kp;have I2:Inv X pins σ (upd H h'.objs.size (.tup ys)) { s with heap:=h'.push { cls:= .type "tuple",data:= .seq aj.toArray } } :=
    I1.laid (t':=s.toks) (λb o e=>UQ _ e) (UT _) (show aY X.prog X.w _ _ _ (.tup ys) from⟨hz,aj,r',qW.new _ _⟩)
   exact⟨.ref h'.objs.size,_,I2,rfl,q _ (I1.bA.fresh (UT _))⟩
 . obtain⟨aj,r',pl,hz⟩:=I.tuple hq;exact call_tuple_same pl ⟨.ref p,H,I,rfl,q⟩
noncomputable def RJ(K:UL)(T:String)(x:V)(H:Hp):Prop:=match x with
 | .str _=>T= "str"
 | .int _=>T= "int"
 | .ref p=>(T= "list" /\ ∃ xs,iY K H p xs)\/(T= "tuple" /\ ∃ o,K.lookup p=some o/\o.cls= .type "tuple" /\o.dict=none) \/
   (T= "dict" /\((∃ kvs,H p=some (.dK kvs))\/ ∃ kvs,H p=some (.dT kvs)))\/(T= "set" /\ ∃ S n,H p=some (.set S n))
 | _=>False
theorem M4{pins:List (Addr × Obj)}{σ :St}{H:Hp}{s:UR}{T:String}{x:V}{v:Value}(I:Inv X pins σ H s)(r:RelV x v)(ty:RJ X.K T x H) :
  s.TypeIs v T/\ ∀ a,v= .ref a-> ∃ ob,s.heap.get? a=some ob/\ob.dict=none:=by
 cases x with
 | str z =>
  obtain⟨t,rfl⟩:=r
  cases(show T= "str" from ty)
  exact⟨abq s z t,λ_ e=>nomatch e⟩
 | int i =>
  obtain⟨t,rfl⟩:=r
  cases(show T= "int" from ty)
  exact⟨aaf s i t,λ_ e=>nomatch e⟩
 | ref p =>
  cases r
  rcases ty with⟨rfl,xs,hq⟩ | ⟨rfl,o,hk,hc,hd⟩ | ⟨rfl,hk⟩ | ⟨rfl,S,n,hk⟩
  . obtain⟨aj,_,pl,_⟩:=I.list hq;refine⟨pl.isList.typeIs,λa e=>?_⟩;cases e;obtain⟨o,n,e,c,hd,_⟩:=pl;exact⟨o,e,hd⟩
  . refine⟨⟨o,I.l9 p o hk,hc⟩,λa e=>?_⟩;cases e;exact⟨o,I.l9 _ o hk,hd⟩
  . have z: ∃ o,s.heap.get? p=some o/\o.ExactDict:=by
     rcases hk with⟨kvs,hk⟩ | ⟨kvs,hk⟩
     . obtain⟨_,_,_,_,o,_,_,e,ex,_⟩:=I.bA p _ hk;exact⟨o,e,ex⟩
     . obtain⟨_,_,_,_,o,_,_,e,ex,_⟩:=I.bA p _ hk;exact⟨o,e,ex⟩
    obtain⟨o,e,ex⟩:=z;refine⟨⟨o,e,ex.1⟩,λa e2=>?_⟩;cases e2;exact⟨o,e,ex.2.1⟩
  . obtain⟨o,_,_,_,e,ex,_⟩:=I.bA p _ hk;refine⟨⟨o,e,ex.1⟩,λa e2=>?_⟩;cases e2;exact⟨o,e,ex.2.1⟩
 | _=>exact Wt ty
noncomputable def TX(K:UL)(T:String)(r:V->List V->Hp->VK->Prop)(to:TE)(t:TA):TE:=fun σ H Q=>to σ H λx H1=>RJ K T x H1/\t σ H1 λxs H2=>r x xs H2 Q
variable{o e:Expr}{es:List Expr}{to:TE}{t:TA}{name:Str}{apos cpos:Pos}{T id:String}{r:V->List V->Hp->VK->Prop}
theorem OW(pa:abt T)(slot:Slot T name id)(hty:typeOf (.builtin id)=pure (.type "method_descriptor"))(hm:Ju X id r)(ho:PE X o to)(ha:PA X (e::es) t)
  (hbase:Xi o name X.env (eval o X.env)=eval o X.env:=by rfl)
  (hfew:((Ym cpos (VD (e::es) X.env)).all (λx=> !x.1)&&(backToKw cpos (aca [] X.env)).all (λx=>x.1.isSome)
   && decide ((e::es).length+([]:List aa2).length+(if ([]:List aa2).isEmpty then 0 else 1) < 30))=true:=by rfl)
  (hline:(apos.endLine == cpos.line)=true:=by rfl) (hs:VD (e::es) X.env=(false,eval e X.env)::VD es X.env:=by rfl) (hplain:(Ym cpos (VD es X.env)).any (·.1)=false:=by rfl) :
  PE X (.Call (.Attribute o name apos) (e::es) [] cpos) (TX X.K T r to t):=by
 intro pins s σ H Q I h;refine aag hbase hfew hline rfl (cJ (ho pins s σ H _ I h) λv s1 ⟨x,H1,I1,r1,ty,q1⟩=>?_);obtain⟨h1,h2⟩:=M4 I1 r1 ty;refine⟨T,id,pa,slot,hty,h1,h2,?_⟩;have hA:=ha cpos pins s1 σ H1 _ I1 q1;rw[hs] at hA ⊢;refine Yr (by show(false||(Ym cpos (VD es X.env)).any (·.1))=false;rw[hplain]<;>rfl) (YL ?_)
 exact cJ hA λus s2 ⟨vs,H2,I2,r2,q2⟩=>hm pins s2 σ H2 x vs v us Q I2 r1 r2 q2
/- xs.append(e),list.index on a module's tuple .. are Ju facts of 06m -/
end
noncomputable def RQ(X:Cx)(id:String)(r:V->List V->Hp->VK->Prop):Prop :=
 ∀(pins:List (Addr × Obj))(s:UR)(σ :St)(H:Hp)(x:V)(xs:List V)(v:Value)(us:List Value)(Q:VK),Inv X pins σ H s->RelV x v->Vals xs us->r x xs H Q ->
  wpAny (model X.prog X.w) X.A (call (.builtin id) (v::us)) (EP X pins σ Q) X.xe s
theorem Vals.one: ∀{x:V}{us:List Value},Vals [x] us-> ∃ u,us=[u]/\RelV x u
 | _,_,.cons r .nil=>⟨_,rfl,r⟩
theorem Vals.two: ∀{x y:V}{us:List Value},Vals [x,y] us-> ∃ u v,us=[u,v]/\RelV x u/\RelV y v
 | _,_,_,.cons r (.cons q .nil)=>⟨_,_,rfl,r,q⟩
theorem Vals.zero: ∀{us:List Value},Vals [] us->us=[]
 | _,.nil=>rfl
theorem Vals.eraseIdx: ∀{xs:List V}{us:List Value}(i:Nat),Vals xs us->Vals (xs.eraseIdx i) (us.eraseIdx i)
 | _,_,_,.nil=> .nil
 | _,_,0,.cons _ t=>t
 | _,_,i+1,.cons r t=> .cons r (Vals.eraseIdx i t)
theorem Vals.rep{xs:List V}{us:List Value}(h:Vals xs us): ∀ k:Nat,Vals (UY k xs).flatten (UY k us).flatten
 | 0=> .nil
 | k+1=>by
  rw[Wz,Wz,Xd,Xd];exact Vals.append h (Vals.rep h k)
theorem rX{α :Type}: ∀(l:List α)(i:Nat),(l.eraseIdx i).length<=l.length
 | [],_=>UT _
 | _::_,0=>Zy _
 | _::r,i+1=>ZW (rX r i)
theorem foldl_rep(aj:List Value): ∀(k:Nat)(acc:List Value),
  abu (λx1 x2=>x1++x2) acc.toArray (UY k aj.toArray)=(acc++(UY k aj).flatten).toArray
 | 0,acc=>by simp
 | k+1,acc=>by
  have e:acc.toArray++aj.toArray=(acc++aj).toArray:=by simp
  have e2:(acc++aj)++(UY k aj).flatten=acc++(UY (k+1) aj).flatten:=by
   rw[Wz,Xd,Vs]
  rw[<- e2,<- foldl_rep aj k (acc++aj),<- e,Wz,List.foldl_cons]
section
variable{X:Cx}{pins:List (Addr × Obj)}{σ :St}{H:Hp}{s:UR}{l b:Addr}{xs ys zs:List V}
theorem Inv.RE{aj its':List Value}{n:Nat}{f:Array Value->Array Value}{t':Nat}(I:Inv X pins σ H s)(hH:H l=some (.lst xs))
  (e:s.heap.get? l=some { cls:= .type "list",data:= .seq aj.toArray n }) (hf:f aj.toArray=its'.toArray) (hv:Vals ys its') (hz:ys.length<=sizeLine) :
  Inv X pins σ (upd H l (.lst ys)) { s with heap:=s.heap.update l (WY f),toks:=t' }:=by
 have q:=PySem.IsL.update e f;rw[hf] at q;refine I.write (x:=l) (e:=l) (by rw[hH];exact trivial) (.inl rfl) (λb' u hb hu=>(aae s.heap (WY f) (Xj hb)).trans hu) ⟨_,q⟩ ?_;exact⟨hz,its',_,hv,q⟩
theorem Inv.OJ{aj:List Value}{t':Nat}(I:Inv X pins σ H s)(hv:Vals ys aj)(hz:ys.length<=sizeLine) :
  Inv X pins σ (upd H s.heap.objs.size (.lst ys)) { s with heap:=s.heap.push { cls:= .type "list",data:= .seq aj.toArray },toks:=t' } :=
 I.laid (λ_ _ q=>UQ _ q) (UT _) ⟨hz,aj,0,hv,U7 _ rfl⟩
theorem Inv.fresh(I:Inv X pins σ H s):H s.heap.objs.size=none:=I.bA.fresh (UT _)
theorem Inv.Aw(I:Inv X pins σ H s)(hH:H l=some (.lst xs)):xs.length<=sizeLine/\ ∃(aj:List Value)(n:Nat),Vals xs aj/\xs.length=aj.length/\s.heap.get? l=some { cls:= .type "list",data:= .seq aj.toArray n }:=by
 obtain⟨z,aj,n,r,e⟩:=I.bA l _ hH;exact⟨z,aj,n,r,r.length,e⟩
theorem DC{n:Nat}(h:n<=sizeLine):X9 n=false:=by
 unfold X9;exact decide_eq_false (by omega)
end
section
variable{X:Cx}
noncomputable def Fd:V->List V->Hp->VK->Prop:=λx vs H Q=> ∃ l xs y,x= .ref l/\vs=[y]/\H l=some (.lst xs)/\xs.length < sizeLine/\Q .non (upd H l (.lst (xs++[y])))
theorem AY:RQ X "list.append" Fd:=by
 intro pins s σ H x vs v us Q I rx rv h;obtain⟨l,xs,y,rfl,rfl,hH,hz,q⟩:=h;cases rx;obtain⟨u,rfl,ru⟩:=rv.one;obtain⟨z,aj,n,r,hl,e⟩:=I.Aw hH;refine WL F.slot_list_append ⟨_,e,rfl⟩ F.entry_list_append (F.args_list_append_2 _ _) (PySem.list_append l aj.toArray n u (by rw[U4];omega)) ⟨e,?_⟩;refine⟨.non,_,I.RE (its':=aj++[u]) hH e (by simp) (r.append (.cons ru .nil)) ?_,rfl,q⟩;rw[U5,Yx];omega
noncomputable def Ql:R2:=λx y H Q=> ∃ l b xs zs,x= .ref l/\y= .ref b/\H l=some (.lst xs)/\H b=some (.lst zs)/\xs.length+zs.length<=sizeLine/\ ∀ p,H p=none->Q (.ref p) (upd H p (.lst (xs++zs)))
theorem LP:c9 X (Wa .Add) Ql:=by
 intro pins s σ H x y v u Q I rx ry h;obtain⟨l,b,xs,zs,rfl,rfl,hH,hB,hz,q⟩:=h;cases rx;cases ry;obtain⟨z,aj,n,r,hl,e⟩:=I.Aw hH;obtain⟨z2,its2,n2,r2,hl2,e2⟩:=I.Aw hB;refine PySem.P.add_list e e2 ?_ (by rw[U4,U4];omega);have ea:aj.toArray++its2.toArray=(aj++its2).toArray:=by simp
 rw[ea];exact⟨.ref _,_,I.OJ (t':=s.toks) (r.append r2) (by rw[U5];omega),rfl,q _ I.fresh⟩
noncomputable def SO:R2:=λx y H Q=> ∃ l k xs,x= .ref l/\y= .int k/\H l=some (.lst xs)/\ -(2 ^ 63)<=k/\k < 2 ^ 63/\xs.length*k.toNat<=sizeLine /\
 ∀ p,H p=none->Q (.ref p) (upd H p (.lst (UY k.toNat xs).flatten))
theorem len_rep{α :Type}(xs:List α)(k:Nat):(UY k xs).flatten.length=k*xs.length:=by
 induction k with
 | zero=>simp
 | succ k ih=>rw[Wz,Xd,U5,ih,Nat.succ_mul,aah]
theorem NV:c9 X (Wa .Mult) SO:=by
 intro pins s σ H x y v u Q I rx ry h;obtain⟨l,k,xs,rfl,rfl,hH,h1,h2,hz,q⟩:=h;cases rx;obtain⟨t,rfl⟩:=ry;obtain⟨z,aj,n,r,hl,e⟩:=I.Aw hH;have hlen:aj.toArray.size*k.toNat<=sizeLine:=by rw[U4,<- hl];exact hz
 have hcap: ¬ aj.toArray.size*k.toNat > (2 ^ 63 - 1) / 8:=by
  have:(sizeLine:Nat)<=(2 ^ 63 - 1) / 8:=by decide
  omega
 have hfit: ¬ (!Builtin.List.listFitsIndex k)=true:=by
  rw[fitsIndex_both h1 h2];exact Vb
 have hlong: ¬ X9 (aj.toArray.size*k.toNat)=true:=by
  rw[DC hlen];exact Vb
 have hnew:abu (λx1 x2=>x1++x2) #[] (UY (if aj.toArray.isEmpty=true then 0 else k.toNat) aj.toArray)=(UY k.toNat aj).flatten.toArray:=by
  have f0: ∀ m:Nat,abu (λx1 x2=>x1++x2) #[] (UY m aj.toArray)=(UY m aj).flatten.toArray:=λm=>by
   have:=foldl_rep aj m [];rw[Vj] at this;exact this
  rw[f0];cases aj with
  | nil=>simp
  | cons a r'=>rw[if_neg (by simp)]
 refine Zr (T:= "list") (U:= "int") (by decide) ⟨_,e,rfl⟩ (λs'=>aaf s' k t) noFill_list_mul F.fills_int_mul F.slot_int_rmul repeat_list F.slot_int_index.lookup
  (WL F.slot_int_rmul (aaf s k t) F.entry_int_rmul (F.args_int_rmul_2 _ _) (int___rmul___int_list k t l aj.toArray n)
   ⟨e,rfl,⟨_,e,rfl⟩,WL F.slot_list_mul ⟨_,e,rfl⟩ F.entry_list_mul (F.args_list_mul_2 _ _) (AutoListH.list___mul___list_int_3 l aj.toArray n k t hfit hcap hlong) ⟨e,?_⟩⟩)
 rw[hnew];exact⟨.ref _,_,I.OJ (t':=s.toks) (r.rep k.toNat) (by rw[len_rep,abG];exact hz),rfl,q _ I.fresh⟩
end
end L2
namespace Att
open PySem PySem.W PySem.Calls PyProof.Rows
theorem ox{P:Params}{h:Heap}: ∀(ns:List Int)(vs:List Value),WellAll P h vs (ns.map WData.int)->acn vs ns:=by
 intro ns
 induction ns with
 | nil =>
  intro vs w
  rw[Vh] at w
  cases w
  exact .nil
 | cons n ns ih =>
  intro vs w
  rw[US] at w
  cases w with
  | cons a b =>
   cases a
   exact .cons _ _ (ih _ b)
theorem BI {l : YM} {n : Nat} (hn : l.most = some n) {P : Params} {h : Heap} {args : List WData} {vals : List Value}
    (hpre : l.row.toRowW.claim.pre args = true) (hwl : WellAll P h vals args) :
    ∃ a vs ns, vals = [Ve a] /\ args = [WData.list (ns.map WData.int)] /\ h.get? a = some { cls := .type "list", data := .seq vs.toArray } /\ acn vs ns /\ ns.length <= n := by
  have hsh : WShape.hasAll [] args [.list .int] = true := (pre_splitW hpre).1;have hc : l.pre.holds [] { args := args } = true := (pre_splitW hpre).2;obtain ⟨d, r, rfl, h1, h2⟩ := hasAllW_cons hsh;obtain rfl := hasAllW_nil h2;obtain ⟨xs, rfl, h3⟩ := hasW_list h1;obtain ⟨ns, rfl⟩ := items_int h3;have hlen : ns.length <= n := by
    unfold OpenLaw.pre at hc;have h4 : (WTm.not (.lt (.lit (.int (n : Int))) (.len (.arg 0)))).holds [] { args := [.list (ns.map .int)] } = true := by
      have h4 := (holds_andW hc).1;rw [hn] at h4;exact h4
    have h5 := condW_of h4 (w_not (w_lt w_lit (w_len_list (w_arg rfl))));rw [UO] at h5;refine Nat.le_of_not_lt λq => ?_;have q' : (n : Int) < ((ns.length : Nat) : Int) := by omega
    first
      | (rw [decide_eq_true q'] at h5; exact absurd h5 (by decide))
      | (simp at h5; omega)
  cases hwl with
  | cons w1 w2 =>
    cases w2
    cases w1 with
    | list ho hall => exact ⟨_, _, ns, rfl, rfl, ho, ox ns _ hall, hlen⟩
theorem BR (l:YM) (args:List WData):l.row.toRowW.claim.post args (.bool true) args=true :=
 postW_of (r:=l.row.toRowW) (X:=(true == true))
  (show WShape.has [] (.bool true) .bool=true by first | rfl | decide | simp [WShape.has,WShape.arms,WShape.armsAll])
  (show(WTm.eq .res (.lit (.bool true))).value [] { args:=args,res:=some (.bool true),after:=args }=some (.bool (true == true)) from w_eq_bool (w_res rfl) w_lit) rfl
theorem wc{l:YM}{n:Nat}{q:Vg}{loose:List Str}{XP:(Str->Option Value)->Heap->Prop}{YP:World->Heap->Prop}{d:DefRec}
  (hn:l.most=some n) (hdf:d.params.defaults=[])
  (call: ∀(w:World)(s₀ s₁ :UR)(mg mb:Str->Option Value)(fa:Addr)(o:Obj)(pm cd doc:Value)(a:Addr)(vs:List Value)(ns:List Int),
   Ground q loose [] XP w s₀ mg mb s₁.heap->YP w s₁.heap ->
   s₁.heap.get? fa=some o->o.data= .func (docDef d.name d.params d.body d.scope pm cd doc)->s₁.heap.CodeRec cd d.name->mg d.name=some (.ref fa) ->
   s₁.heap.get? a=some { cls:= .type "list",data:= .seq vs.toArray }->acn vs ns->ns.length<=n->s₁.gens= #[] ->
   aab (model l.prog w) aa3 (.call (.ref fa) ⟨[.ref a],[]⟩) (λr s'=>r= .ok (.ret (.bool true))/\OldK s₁.heap s'.heap/\s'.os=s₁.os/\Zv s'.gens) s₁) :
  WalkO q loose XP YP l.row.toRowW d [] (λf vs=>acq f vs):=by
 intro w s₀ s₁ mg mb G Y fa o pm cd doc dV kV ho hd hcd hD hmg hg args vals as hpre hlay hrd hwl hlo;obtain rfl:dV= .none:=Dflts.none hD hdf;obtain rfl:kV= .none:=Dflts.noKw hD;obtain⟨a,vs,ns,rfl,rfl,hobj,hints,hlen⟩:=BI hn hpre hwl;refine enter_call (abD (call w s₀ s₁ mg mb fa o pm cd doc a vs ns G Y ho (fd_plain hd) hcd hmg hobj hints hlen hg) λr s' hq=>?_);obtain⟨rfl,h2,h3,h4⟩:=hq;exact⟨.inl ⟨.bool true,.bool true,[],rfl,λ_=>rfl,.bool true,BR l _,λ_=>⟨List.Pairwise.nil,λ_ hm=>(nomatch hm)⟩⟩,h2,h3,h4⟩
section
variable{prog:Vg}{w:World}{A:Vz}{E:Value->UR->Prop}{s:UR}{K:Frag}
noncomputable def ledger(h:Heap)(L d:Addr):List (Addr × Obj):=(VX h.objs.size).filterMap λa=>if a=L\/a=d then none else(h.get? a).map λo=>(a,o)
end
end Att
namespace L2
open PySem PySem.Spec PyProof.Rows
theorem rQ: ∀{vs:List Value}{ns:List Int},acn vs ns->Vals (ns.map V.int) vs
 | _,_,.nil=> .nil
 | _,_,.cons n t h=> .cons ⟨t,rfl⟩ (rQ h)
noncomputable def Dp(H:Hp):Prop:= ∀ b,H b=none\/ ∃ o xs,H b=some (.kK o (.lst xs))
theorem Ea{P:Vg}{w:World}{K:UL}{mg mb:Str->Option Value}{CX:BS}{k:Nat}{fa a:Addr}{fd:WB}{x:Str}{sp:Sp}{s₁ :UR}{vs:List Value}{ns:List Int}
  (KX:K.In s₁.heap) (hns:s₁.heap.Ns Vc mg) (hb:s₁.heap.Ns builtinsNs mb) (hbb: ∀ x:Str,x≠ "__name__" ->mb x=V8 x) (hlim:s₁.heap.NoLimit) (hg:s₁.gens= #[])
  (ha:s₁.heap.get? a=some { cls:= .type "list",data:= .seq vs.toArray }) (hi:acn vs ns) (hl:ns.length<=sizeLine) (hr:dJ k aa3)
  (F: ∀ base:Heap,K.In base->base.Ns Vc mg->lP P w K mg base CX k fa fd [x] sp) (hbind: ∀(s:UR)(u:Value),aaa s fd ⟨[u],[]⟩ [(x,u)])
  (hsp: ∀ H:Hp,Dp H->iY K H a (ns.map V.int)->sp [.ref a] H (λv _=>v= .bl true) λ_ _ _=>False)
  (hCX: ∀ H e s',CX [] H s₁ (λ_ _ _=>False) e s'->False) :
  aab (model P w) aa3 (.call (.ref fa) ⟨[.ref a],[]⟩) (λr s'=>r= .ok (.ret (.bool true))/\OldK s₁.heap s'.heap/\s'.os=s₁.os/\Zv s'.gens) s₁ :=by
 have rv:=rQ hi;have lenV:=hi.length;have core: ∀ H:Hp,Dp H->iY K H a (ns.map V.int)->kb P w H s₁.heap->(∀ b,H b≠none->b=a)->(H a≠none->K.lookup a=none) ->
   aab (model P w) aa3 (.call (.ref fa) ⟨[.ref a],[]⟩) (λr s'=>r= .ok (.ret (.bool true))/\OldK s₁.heap s'.heap/\s'.os=s₁.os/\Zv s'.gens) s₁ :=by
  intro H hO hS bA hA hK;have base_of: ∀{b:Addr}{o:Obj},s₁.heap.get? b=some o->H b=none->(t7 s₁.heap H).get? b=some o:=λe n=>Eu e n;have noA: ∀{b:Addr}{o:Obj}{es:Array aa4}{ep:Nat},s₁.heap.get? b=some o->o.data= .dict es ep->H b=none:=λ{b o es ep} e d=>by
   cases q:H b with
   | none=>rfl
   | some u =>
    have e':b=a:=hA b (by rw[q];simp)
    subst e'
    rw[ha] at e;cases e
    have d':Data.seq vs.toArray _=Data.dict es ep:=d
    cases d'
  have nsK: ∀{b:Addr}{m:Str->Option Value},s₁.heap.Ns b m->(t7 s₁.heap H).Ns b m:=λ{b m} ⟨o,es,ep,e,d,r⟩=>⟨o,es,ep,base_of e (noA e d),d,r⟩
  have hKb:K.In (t7 s₁.heap H):=λb o e=>base_of (KX b o e) (by
   cases q:H b with
   | none=>rfl
   | some u =>
    have e':b=a:=hA b (by rw[q];simp)
    subst e'
    rw[hK (by rw[q];simp)] at e;cases e)
  have hM:Mod K mg (t7 s₁.heap H):=⟨hKb,nsK hns,⟨mb,nsK hb,hbb⟩,let ⟨mc,h1,h2⟩:=hlim;⟨mc,nsK h1,h2⟩⟩
  have e0:w9 P w K mg (t7 s₁.heap H) aa3 [] s₁ H:=⟨rfl,hM,λb o e=>Hb e,Nat.le_of_eq (AW _ _),trivial,λb hb=>absurd (show b∈([]:List Addr) from hb) (by simp),bA,.of_eq hg⟩
  refine abD ((F _ hKb (nsK hns)).run aa3 [] s₁ H ⟨[.ref a],[]⟩ [.ref a] [.ref a] _ _ hr e0 (hbind s₁ (.ref a)) (.cons rfl .nil) (hsp H hO hS)) λr s' h=>?_;cases r with
  | error e=>exact(hCX H e s' h).elim
  | ok fl =>
   cases fl with
   | next=>exact Wt h
   | brk=>exact Wt h
   | cont=>exact Wt h
   | ret u =>
    obtain⟨v,H',os,bare,un,hok',r',q⟩:=h
    have q':v= .bl true:=q
    subst q'
    obtain rfl:u=Zb true:=r'
    refine⟨rfl,OldK.of_keep λb o e=>?_,os,bare⟩
    cases q:H b with
    | none=>exact un.keep b o e q (by intro z;exact absurd (show b∈([]:List Addr) from z) (by simp)) (by simp)
    | some u =>
     rcases hO b with z | ⟨ob,xs,z⟩
     . rw[q] at z;cases z
     . have z2:=un.lQ b ob _ z;obtain⟨e1,_⟩:=bA b _ z;obtain⟨e2,_⟩:=hok' b _ z2;rw[e] at e1;cases e1;exact e2
 cases hk:K.lookup a with
 | some o =>
  have e:=KX a o hk
  rw[ha] at e
  cases e
  refine core (λ_=>none) (λ_=> .inl rfl) (.inr ⟨_,vs.toArray,_,hk,rfl,rfl,rfl,by rw[U4,lenV];exact hl,by simpa using rv⟩) (λb u z=>by have z':(none:Option HO)=some u:=z;cases z') (λb z=>absurd rfl z) λz=>absurd rfl z
 | none =>
  refine core (λb=>if b=a then some (.kK { cls:= .type "list",data:= .seq vs.toArray } (.lst (ns.map V.int))) else none) (λb=>?_) (.inl (.inr ⟨{ cls:= .type "list",data:= .seq vs.toArray },if_pos rfl⟩)) (λb u z=>?_) (λb z=>?_) λ_=>hk
  . by_cases hb:b=a
    . exact .inr ⟨_,_,if_pos hb⟩
    . exact .inl (if_neg hb)
  . by_cases hb:b=a
    . have z':=(if_pos hb).symm.trans z;cases z';subst hb;exact⟨ha,by rw[UO];exact hl,vs,_,rv,ha⟩
    . have z':=(if_neg hb).symm.trans z;cases z'
  . by_cases hb:b=a
    . exact hb
    . exact absurd (if_neg hb) z
theorem GL{l:YM}{n k:Nat}{q:Vg}{loose:List Str}{XP:(Str->Option Value)->Heap->Prop}{YP:World->Heap->Prop}{d:DefRec}{K:Params->UL}{CX:World->BS}{sp:World->Sp}{x:Str}
  (hn:l.most=some n) (hn2:n<=sizeLine) (hdf:d.params.defaults=[]) (hr:dJ k aa3)
  (hY: ∀(w:World)(h:Heap),YP w h->(K w.params).In h)
  (F: ∀(w:World)(mg:Str->Option Value)(fa:Addr)(h:Heap),(K w.params).In h->h.Ns Vc mg->mg d.name=some (.ref fa) ->
   ∃ fd:WB,(∀(s:UR)(u:Value),aaa s fd ⟨[u],[]⟩ [(x,u)]) /\
    ∀ base:Heap,(K w.params).In base->base.Ns Vc mg->lP l.prog w (K w.params) mg base (CX w) k fa fd [x] (sp w))
  (hsp: ∀(w:World)(H:Hp)(a:Addr)(ns:List Int),ns.length<=n->Dp H->iY (K w.params) H a (ns.map V.int)->sp w [.ref a] H (λv _=>v= .bl true) λ_ _ _=>False)
  (hCX: ∀(w:World)(H:Hp)(s:UR)(e:Value)(s':UR),CX w [] H s (λ_ _ _=>False) e s'->False) :
  acx q loose XP YP l.row.toRowW d [] (λf vs=>acq f vs):=by
 refine Att.wc hn hdf λw s₀ s₁ mg mb fa o pm cd doc a vs ns G Y ho hd hcd hmg hobj hints hlen hg=>?_;have KX:=hY w _ Y;obtain ⟨fd,hb,hF⟩:=F w mg fa _ KX G.T.g hmg;exact Ea KX G.T.g G.T.b G.T.builtins G.T.nolimit hg hobj hints (Vn hlen hn2) hr hF hb (λH hO hS=>hsp w H a ns hlen hO hS) λH e s'=>hCX w H s₁ e s'
end L2
/- THE LAST THEOREM (shape; LID, My.* are yours):
   My.Adr: a structure of the addresses that your layer names (classes, functions); My.Txt K t: a structure (Prop) of the equations over K;
   My.txt_mk : {K} {implicit addresses ..} (e1 : nsIn K Vc "law" = some (some (.ref f))) (e2 : K.lookup f = some ⟨oc, od, .func (fnOf "law" "law" params body scope dV kV doc pm an cdv ct), sl⟩) (e3 : YU K cdv "law" = true) .. : ∃ t, My.Txt K t
set_option maxRecDepth 100000 in
(the tactic k_is has no namespace:write k_is) -/
namespace L2
open PySem PySem.Spec PyProof.Rows
noncomputable def cL(s:Stmt):Arguments:=match s with
 | .FunctionDef _ a _ _ _ _ _ _ _ _=>a
 | _=>{ posonlyargs:=[],args:=[],vararg:=none,kwonlyargs:=[],kw_defaults:=[],kwarg:=none,defaults:=[] }
noncomputable def bj(s:Stmt):List Stmt:=match s with
 | .FunctionDef _ _ b _ _ _ _ _ _ _=>b
 | _=>[]
noncomputable def ax(s:Stmt):Scope:=match s with
 | .FunctionDef _ _ _ _ _ _ sc _ _ _=>sc
 | _=>{ kind:= .function,names:=[],isGenerator:=false,isCoroutine:=false }
abbrev um:BS:=λ_ _ _ _ _ _=>False
abbrev E0:XK:=λ_ _ _=>False
theorem Q5{X:Cx}:Passes um X E0:=λ_ _ _ _ _ _ _ h=>h.elim
structure BV(K:UL)(x qual:Str)(st:Stmt)(f:Addr)(fd:WB):Prop where
 ex: ∃(oc:Value)(od:Option Addr)(kV doc pm:Value)(an:Option Addr)(cdv ct:Value)(osl:Array (Option Value)),
  fd=V3 x qual (cL st) (bj st) (ax st) .none kV doc pm an cdv ct/\K.lookup f=some ⟨oc,od,.func fd,osl⟩/\YU K cdv qual=true
 kp:Xo K (.ref f)=true
section
variable{P:Vg}{w:World}{K:UL}{mg:Str->Option Value}{base:Heap}
theorem BV.ok{x qual:Str}{st:Stmt}{f:Addr}{fd:WB}{N ps:List Str}{k:Nat}{sp:Sp}(F:BV K x qual st f fd)(S:d6 N ps (ax st))(len: ∀ vs H Q E,sp vs H Q E->vs.length=ps.length)
  (hbody: ∀(cdv:Value)(A:Vz)(outer:List Env)(s:UR)(H:Hp)(vs:List V)(Q:VK)(E:XK),dJ k (A.deeper (Zg qual (ax st) s.heap.objs.size f cdv))->sp vs H Q E ->
   ∃ t,wW (j7 um P w K mg base N qual (ax st) f cdv A outer s H E).pW (bj st) t/\t { nx:=λ_ H'=>Q .non H',rt:=Q } (start N vs) H):lP P w K mg base um (k+1) f fd ps sp:=by
 obtain⟨oc,od,kV,doc,pm,an,cdv,ct,osl,rfl,lk,hcd⟩:=F.ex;refine OY lk hcd S len λA outer s H vs Q E hr hsp=>?_;obtain⟨t,h,q⟩:=hbody cdv A outer s H vs Q E hr hsp;exact⟨t,h.pW,q⟩
theorem BV.binds{x qual:Str}{st:Stmt}{f:Addr}{fd:WB}{ps:List Str}(F:BV K x qual st f fd)
  (h: ∀(kV doc pm:Value)(an:Option Addr)(cdv ct:Value)(us:List Value),us.length=ps.length->Xx (V3 x qual (cL st) (bj st) (ax st) .none kV doc pm an cdv ct) ⟨us,[]⟩=pure (ps.zip us)):Binds K fd ps []:=by
 obtain⟨oc,od,kV,doc,pm,an,cdv,ct,osl,rfl,lk,hcd⟩:=F.ex;exact .all (h kV doc pm an cdv ct)
theorem MB{x qual:Str}{st:Stmt}{f:Addr}{oc:Value}{od an:Option Addr}{osl:Array (Option Value)}{kV doc pm cdv ct:Value}(l:K.lookup f=some ⟨oc,od,.func (V3 x qual (cL st) (bj st) (ax st) .none kV doc pm an cdv ct),osl⟩)
  (c:YU K cdv qual=true) (k:Xo K (.ref f)=true):BV K x qual st f (V3 x qual (cL st) (bj st) (ax st) .none kV doc pm an cdv ct):=⟨⟨oc,od,kV,doc,pm,an,cdv,ct,osl,rfl,l,c⟩,k⟩
end
theorem Pb{A:Vz}{k:Nat}(hr:dJ k A):A.units+1 < cLine:=Zj (Nat.add_le_add_left (by decide:1<=64) _) hr.units
noncomputable def rC(H H':Hp):Prop:= ∀ b o,H b=some o->H' b=some o
theorem rC.trans{H H1 H2:Hp}(a:rC H H1)(b:rC H1 H2):rC H H2:=λc o h=>b c o (a c o h)
theorem rC.free{H H':Hp}(e:rC H H'){l:Addr}(h:H' l=acF):H l=acF:=by
 cases q:H l with
 | none=>rfl
 | some o =>
  rw[e l o q] at h
  cases h
open PySem PySem.W PyProof.Rows
section
variable{κ :Type}[DecidableEq κ]
noncomputable def hZ(kvs:List (κ × V))(k: κ):Option V:=(kvs.find? λkv=>decide (kv.1=k)).map (·.2)
noncomputable def putK(kvs:List (κ × V))(k: κ)(v:V):List (κ × V) :=
 if (kvs.any λkv=>decide (kv.1=k))=true then kvs.map (λkv=>if kv.1=k then(kv.1,v) else kv) else kvs++[(k,v)]
theorem oR{p: κ × V}{r:List (κ × V)}{k: κ}(e:p.1=k):hZ (p::r) k=some p.2:=by simp[hZ,WM,e]
theorem p7{p: κ × V}{r:List (κ × V)}{k: κ}(e: ¬ p.1=k):hZ (p::r) k=hZ r k:=by simp[hZ,WM,e]
theorem wb(k: κ): ∀ kvs:List (κ × V),(kvs.any λkv=>decide (kv.1=k))=(hZ kvs k).isSome
 | []=>rfl
 | p::r=>by
  rw[Wi];by_cases e:p.1=k
  . simp only[oR e,decide_eq_true e,Bool.true_or,abv]
  . rw[p7 e,decide_eq_false e,acy];exact wb k r
theorem jn(kvs:List (κ × V))(k: κ)(v:V):(putK kvs k v).length<=kvs.length+1:=by
 unfold putK;split
 . rw[UO];omega
 . rw[U5,UU,Vk];omega
theorem lZ.hW{o:Option V}{u:Option Value}(r:lZ o u):o.isSome=u.isSome:=by
 cases o with
 | none=>cases u with
  | none=>rfl
  | some _=>exact(show False from r).elim
 | some _=>cases u with
  | none=>exact(show False from r).elim
  | some _=>rfl
theorem lZ.getD{o:Option V}{u:Option Value}{d:V}{d':Value}(r:lZ o u)(rd:RelV d d'):RelV (o.getD d) (u.getD d'):=by
 cases o with
 | none=>cases u with
  | none=>exact rd
  | some _=>exact(show False from r).elim
 | some _=>cases u with
  | none=>exact(show False from r).elim
  | some _=>exact r
theorem KV.val{kvs:List (κ × V)}{vs:List (κ × Value)}(r:KV kvs vs)(k: κ):lZ (hZ kvs k) (aai vs k):=by
 unfold KV at r
 induction r with
 | nil=>exact WX
 | @cons p q ps qs h t ih =>
  obtain⟨h1,h2⟩:=h
  by_cases e:p.1=k
  . have e':q.1=k:=h1.symm.trans e;have b:aai (q::qs) k=some q.2:=by simp[aai,WM,e']
    rw[oR e,b];exact h2
  . have e': ¬ q.1=k:=λz=>e (h1.trans z);have b:aai (q::qs) k=aai qs k:=by simp[aai,WM,e']
    rw[p7 e,b];exact ih
theorem KV.any{kvs:List (κ × V)}{vs:List (κ × Value)}(r:KV kvs vs)(k: κ):(kvs.any λkv=>decide (kv.1=k))=vs.any λkv=>decide (kv.1=k):=by
 unfold KV at r
 induction r with
 | nil=>rfl
 | cons h t ih=>rw[Wi,Wi,ih,h.1]
theorem KV.Ka{kvs:List (κ × V)}{vs:List (κ × Value)}(r:KV kvs vs)(k: κ){y:V}{u:Value}(ry:RelV y u) :
  KV (kvs.map λkv=>if kv.1=k then(kv.1,y) else kv) (vs.map λkv=>if kv.1=k then(kv.1,u) else kv):=by
 unfold KV at r ⊢
 induction r with
 | nil=>exact .nil
 | @cons p q ps qs h t ih =>
  rw[US,US]
  refine .cons ?_ ih
  obtain⟨h1,h2⟩:=h
  by_cases e:p.1=k
  . rw[if_pos e,if_pos (h1.symm.trans e)];exact⟨h1,ry⟩
  . rw[if_neg e,if_neg (λz=>e (h1.trans z))];exact⟨h1,h2⟩
theorem KV.put{kvs:List (κ × V)}{vs:List (κ × Value)}(r:KV kvs vs)(k: κ){y:V}{u:Value}(ry:RelV y u):KV (putK kvs k y) (stored vs k u):=by
 unfold putK stored;rw[r.any k];by_cases e:(vs.any λkv=>decide (kv.1=k))=true
 . rw[if_pos e,if_pos e];exact r.Ka k ry
 . rw[if_neg e,if_neg e];exact acG r ⟨rfl,ry⟩
theorem KV.keys{kvs:List (κ × V)}{vs:List (κ × Value)}(r:KV kvs vs):kvs.map (·.1)=vs.map (·.1):=by
 unfold KV at r
 induction r with
 | nil=>rfl
 | cons h t ih=>rw[US,US,ih,h.1]
theorem KV.length{kvs:List (κ × V)}{vs:List (κ × Value)}(r:KV kvs vs):kvs.length=vs.length:=X5 r
end
theorem lb{P:Vg}{w:World}{k:Key}{u:Value}(r:RelV (kV k) u):(aN P w).is k u=true:=by
 cases k with
 | inl i=>obtain⟨t,e⟩:=(show ∃ t,u=XT i t from r);subst e;exact uV P w i t
 | inr x=>obtain⟨t,e⟩:=(show ∃ t,u=YC x t from r);subst e;exact wd P w x t
theorem su{P:Vg}{w:World}: ∀{ks:List Key}{us:List Value},Vals (ks.map kV) us->ItemsAre (aN P w) ks us
 | [],_,r=>by rw[Vh] at r;cases r;exact .nil
 | k::ks,_,r=>by
  rw[US] at r;cases r with
  | cons h t=>exact .cons (lb h) (su t)
abbrev KT(H:Hp):List (List Key × V)->List (List Key × Addr × Value)->Prop:=V2 λp q=>p.1=q.1/\H q.2.1=some (.tup (p.1.map kV))/\RelV p.2 q.2.2
theorem KT.val{H:Hp}{kvs:List (List Key × V)}{xs:List (List Key × Addr × Value)}(r:KT H kvs xs)(k:List Key):lZ (hZ kvs k) ((atKey xs k).map (·.2)):=by
 induction r with
 | nil=>exact WX
 | @cons p q ps qs h t ih =>
  obtain⟨h1,_,h2⟩:=h
  by_cases e:p.1=k
  . have e':q.1=k:=h1.symm.trans e;have b:atKey (q::qs) k=some q.2:=by simp[atKey,WM,e']
    rw[oR e,b];exact h2
  . have e': ¬ q.1=k:=λz=>e (h1.trans z);have b:atKey (q::qs) k=atKey qs k:=by simp[atKey,WM,e']
    rw[p7 e,b];exact ih
theorem KT.Ka{H:Hp}{kvs:List (List Key × V)}{xs:List (List Key × Addr × Value)}(r:KT H kvs xs)(k:List Key){y:V}{u:Value}(ry:RelV y u) :
  KT H (kvs.map λkv=>if kv.1=k then(kv.1,y) else kv) (xs.map (putAt k u)):=by
 induction r with
 | nil=>exact .nil
 | @cons p q ps qs h t ih =>
  rw[US,US]
  refine .cons ?_ ih
  obtain⟨h1,h2,h3⟩:=h
  unfold putAt
  by_cases e:p.1=k
  . rw[if_pos e,if_pos (h1.symm.trans e)];exact⟨h1,h2,ry⟩
  . rw[if_neg e,if_neg (λz=>e (h1.trans z))];exact⟨h1,h2,h3⟩
theorem KT.put{H:Hp}{kvs:List (List Key × V)}{xs:List (List Key × Addr × Value)}(r:KT H kvs xs)(k:List Key){b:Addr}{y:V}{u:Value}(hb:H b=some (.tup (k.map kV)))(ry:RelV y u) :
  KT H (putK kvs k y) (storedH xs k b u):=by
 have e:(kvs.any λkv=>decide (kv.1=k))=(atKey xs k).isSome:=by
  rw[wb,(r.val k).hW,Zz]
 unfold putK storedH;rw[e];by_cases q:(atKey xs k).isSome=true
 . rw[if_pos q,if_pos q];exact r.Ka k ry
 . rw[if_neg q,if_neg q];exact acG r ⟨rfl,hb,ry⟩
theorem KT.keeps{H H':Hp}{kvs:List (List Key × V)}{xs:List (List Key × Addr × Value)}(r:KT H kvs xs)(ht: ∀ b ys,H b=some (.tup ys)->H' b=some (.tup ys)):KT H' kvs xs :=
 Paired.AG r λ_ _ z=>⟨z.1,ht _ _ z.2.1,z.2.2⟩
section
variable{P:Vg}{w:World}{H:Hp}{h:Heap}{a:Addr}
theorem Jq{u:HO}(ok:kb P w H h)(e:Rd H a u):aY P w H h a u:=e.ok ok
theorem nL{kvs:List (Key × V)}(ok:kb P w H h)(e:Rd H a (.dK kvs)):kvs.length<=sizeLine/\(a == V6)=false/\ ∃ vs,KV kvs vs/\h.DictOf (aN P w) a vs :=
 show aY P w H h a (.dK kvs) from Jq ok e
theorem vR{kvs:List (Key × V)}(ok:kb P w H h)(e:H a=some (.dK kvs)):kvs.length<=sizeLine/\(a == V6)=false/\ ∃ vs,KV kvs vs/\h.DictOf (aN P w) a vs:=nL ok (.inl e)
theorem mP{ks:List Key}(ok:kb P w H h)(e:H a=some (.tup (ks.map kV))):(ZS (aN P w)).is h ks a:=by
 obtain⟨_,aj,r,o,h1,h2,n,h3,_⟩:=(show aY P w H h a (.tup (ks.map kV)) from ok a _ e)
 exact⟨o,aj.toArray,n,h1,h2,h3,by simpa using su r⟩
theorem pU{kvs:List (List Key × V)}(ok:kb P w H h)(e:Rd H a (.dT kvs)):kvs.length<=sizeLine/\(a == V6)=false /\
  ∃ xs,KT H kvs xs/\h.DictOfH (ZS (aN P w)) a xs:=by
 obtain⟨z,y,xs,r,o,es,ep,h1,h2,h3,h4,h5⟩:=(show aY P w H h a (.dT kvs) from Jq ok e)
 refine⟨z,y,xs,r,o,es,ep,h1,h2,h3,h4,λx hx=>?_,h5⟩;have all: ∀{l:List (List Key × V)}{m:List (List Key × Addr × Value)},KT H l m-> ∀ x∈m,(ZS (aN P w)).is h x.1 x.2.1:=by
  intro l m q
  induction q with
  | nil=>intro x hx;exact nomatch hx
  | @cons p q ps qs hq t ih =>
   intro x hx
   rcases U1.mp hx with e | hx
   . subst e;exact mP ok (by rw[<- hq.1];exact hq.2.1)
   . exact ih x hx
 exact all r x hx
theorem Qc{kvs:List (List Key × V)}(ok:kb P w H h)(e:H a=some (.dT kvs)):kvs.length<=sizeLine/\(a == V6)=false /\
  ∃ xs,KT H kvs xs/\h.DictOfH (ZS (aN P w)) a xs:=pU ok (.inl e)
end
noncomputable def jX(H:Hp)(a:Addr)(y:V)(r:Option V):Prop :=
 (∃ kvs k,Rd H a (.dK kvs)/\y=kV k/\r=hZ kvs k)\/ ∃ kvs k b,Rd H a (.dT kvs)/\y= .ref b/\H b=some (.tup (k.map kV))/\r=hZ kvs k
noncomputable def x9(H:Hp)(a:Addr)(y v:V)(H':Hp):Prop :=
 (∃ kvs k,H a=some (.dK kvs)/\y=kV k/\kvs.length < sizeLine/\H'=upd H a (.dK (putK kvs k v))) \/
 ∃ kvs k b,H a=some (.dT kvs)/\y= .ref b/\H b=some (.tup (k.map kV))/\kvs.length < sizeLine/\H'=upd H a (.dT (putK kvs k v))
theorem jX.k{H:Hp}{a:Addr}{kvs:List (Key × V)}{k:Key}(e:H a=some (.dK kvs)):jX H a (kV k) (hZ kvs k):= .inl ⟨kvs,k,.inl e,rfl,rfl⟩
theorem jX.t{H:Hp}{a b:Addr}{kvs:List (List Key × V)}{k:List Key}(e:H a=some (.dT kvs))(eb:H b=some (.tup (k.map kV))):jX H a (.ref b) (hZ kvs k):= .inr ⟨kvs,k,b,.inl e,rfl,eb,rfl⟩
theorem x9.k{H:Hp}{a:Addr}{kvs:List (Key × V)}{k:Key}{v:V}(e:H a=some (.dK kvs))(hl:kvs.length < sizeLine):x9 H a (kV k) v (upd H a (.dK (putK kvs k v))):= .inl ⟨kvs,k,e,rfl,hl,rfl⟩
theorem x9.t{H:Hp}{a b:Addr}{kvs:List (List Key × V)}{k:List Key}{v:V}(e:H a=some (.dT kvs))(eb:H b=some (.tup (k.map kV)))(hl:kvs.length < sizeLine) :
  x9 H a (.ref b) v (upd H a (.dT (putK kvs k v))):= .inr ⟨kvs,k,b,e,rfl,eb,hl,rfl⟩
section
variable{X:Cx}{pins:List (Addr × Obj)}{σ :St}{H:Hp}{s:UR}{a:Addr}{y v:V}{u r:Value}{o:Option V}{A:Vz}{E:Value->UR->Prop}
theorem Inv.big(I:Inv X pins σ H s):V6 < s.heap.objs.size:=by
 have h:Vc < s.heap.objs.size:=(I.mod.glob.keeps I.bk).lt;exact Y4 (by decide) h
theorem BM{Q:Value->UR->Prop}(hu:A.units+1 < cLine)(I:Inv X pins σ H s)(g:jX H a y (some v))(ry:RelV y u)(h: ∀ w' s',Inv X pins σ H s'->RelV v w'->Q w' s') :
  wpAny (model X.prog X.w) A (Y3 (.ref a) u) Q E s:=by
 rcases g with⟨kvs,k,e,ey,l⟩ | ⟨kvs,k,b,e,ey,eb,l⟩
 . subst ey;obtain⟨z,hd,vs,rel,dd⟩:=nL I.bA e;obtain⟨w',hw,rw'⟩:=lZ.some_of (v:=v) (o:=aai vs k) (by rw[l];exact rel.val k);exact wpAny_getItem_of (lb ry) dd.mapOf hw (h w' _ (I.tok _) rw')
 . subst ey;cases(show u=Ve b from ry);obtain⟨z,hd,xs,rel,dd⟩:=pU I.bA e;obtain⟨w',hw,rw'⟩:=lZ.some_of (v:=v) (o:=(atKey xs k).map (·.2)) (by rw[l];exact rel.val k)
   obtain⟨p,hp,hp2⟩:=Option.map_eq_some_iff.mp hw;refine wpAny_getItem_heap (Xt hu) (mP I.bA eb) dd hp ?_;rw[hp2];exact h w' _ (I.tok _) rw'
theorem SF{Q:Value->UR->Prop}(hu:A.units+1 < cLine)(I:Inv X pins σ H s)(g:jX H a y o)(ry:RelV y u)(h: ∀ s',Inv X pins σ H s'->Q (.bool o.isSome) s') :
  wpAny (model X.prog X.w) A (Vu .In u (.ref a)) Q E s:=by
 rcases g with⟨kvs,k,e,ey,l⟩ | ⟨kvs,k,b,e,ey,eb,l⟩
 . subst ey;obtain⟨z,hd,vs,rel,dd⟩:=nL I.bA e;refine wpAny_in_of (lb ry) hd dd.mapOf ?_;rw[<- (rel.val k).hW,<- l];exact h _ (I.tok _)
 . subst ey;cases(show u=Ve b from ry);obtain⟨z,hd,xs,rel,dd⟩:=pU I.bA e;refine wpAny_in_heap (Xt hu) (mP I.bA eb) hd dd ?_;have q:=(rel.val k).hW;rw[Zz] at q;rw[<- q,<- l];exact h _ (I.tok _)
theorem Hj{Q:Value->UR->Prop}(hu:A.units+1 < cLine)(I:Inv X pins σ H s)(g:jX H a y o)(ry:RelV y u)(h: ∀ s',Inv X pins σ H s'->Q (.bool (!o.isSome)) s') :
  wpAny (model X.prog X.w) A (Vu .NotIn u (.ref a)) Q E s:=by
 rcases g with⟨kvs,k,e,ey,l⟩ | ⟨kvs,k,b,e,ey,eb,l⟩
 . subst ey;obtain⟨z,hd,vs,rel,dd⟩:=nL I.bA e;refine wpAny_notIn_of (lb ry) hd dd.mapOf ?_;rw[<- (rel.val k).hW,<- l];exact h _ (I.tok _)
 . subst ey;cases(show u=Ve b from ry);obtain⟨z,hd,xs,rel,dd⟩:=pU I.bA e;refine wpAny_notIn_heap (Xt hu) (mP I.bA eb) hd dd ?_;have q:=(rel.val k).hW;rw[Zz] at q;rw[<- q,<- l];exact h _ (I.tok _)
theorem uF{h':Heap}{t':Nat}{ob:HO}(I:Inv X pins σ H s)(mu:O9 (H a))(hs:Z9 a s.heap h')(he: ∃ q,h'.get? a=some q)(new:aY X.prog X.w (upd H a ob) h' a ob) :
  Inv X pins σ (upd H a ob) { s with heap:=h',toks:=t' } :=
 I.write (x:=a) (e:=a) mu (.inl rfl) (λb q hb z=>(hs.2 b hb).trans z) he new
theorem tU{P:Vg}{w:World}{H':Hp}{h':Heap}{kvs:List (Key × V)}{vs:List (Key × Value)}(z:kvs.length<=sizeLine)(hd:(a == V6)=false)(rel:KV kvs vs)(dd:h'.DictOf (aN P w) a vs) :
  aY P w H' h' a (.dK kvs):=⟨z,hd,vs,rel,dd⟩
theorem BC{H':Hp}{Q:Unit->UR->Prop}(hu:A.units+1 < cLine)(I:Inv X pins σ H s)(g:x9 H a y v H')(ry:RelV y u)(rv:RelV v r)(h: ∀ s',Inv X pins σ H' s'->Q () s') :
  wpAny (model X.prog X.w) A (setItem (.ref a) u r) Q E s:=by
 rcases g with⟨kvs,k,e,ey,l,eH⟩ | ⟨kvs,k,b,e,ey,eb,l,eH⟩
 . subst ey eH;obtain⟨z,hd,vs,rel,dd⟩:=vR I.bA e;have hz:vs.length<=sizeLine:=by rw[<- rel.length];exact z
   have hl:(putK kvs k v).length<=sizeLine:=by have:=jn kvs k v;omega
   refine wpAny_setItem_pairs (hsz:=hz) (lb ry) dd λh' dd' hs=>h _ ?_;have he: ∃ q,h'.get? a=some q:=let ⟨q,_,_,hq,_⟩:=dd';⟨q,hq⟩
   exact uF I (by rw[e];exact WX) hs he (tU hl hd (rel.put k rv) dd')
 . subst ey eH;cases(show u=Ve b from ry);obtain⟨z,hd,xs,rel,dd⟩:=Qc I.bA e;have hz:xs.length<=sizeLine:=by rw[<- X5 rel];exact z
   have hl:(putK kvs k v).length<=sizeLine:=by have:=jn kvs k v;omega
   refine wpAny_setItem_heap (hsz:=hz) (Xt hu) (mP I.bA eb) dd λh' dd' hs=>h _ ?_;obtain⟨q,es,ep,hq,h2,h3,h4,_,h5⟩:=dd';refine uF I (by rw[e];exact WX) hs ⟨q,hq⟩ ⟨hl,hd,_,(rel.put k eb rv).keeps λc ys ec=>?_,q,es,ep,hq,h2,h3,h4,h5⟩;rw[aD (sH ec e (λz=>nomatch z))];exact ec
end
section
variable{X:Cx}{pins:List (Addr × Obj)}{σ :St}{H:Hp}{s:UR}{a:Addr}{kvs:List (Key × V)}{k:Key}{u:Value}{A:Vz}{E:Value->UR->Prop}
theorem PN{Q:Value->UR->Prop}(I:Inv X pins σ H s)(e:Rd H a (.dK kvs))(h: ∀ t s',Inv X pins σ H s'->Q (.int kvs.length t) s'):wpAny (model X.prog X.w) A (call (.builtin "len") [.ref a]) Q E s:=by
 obtain⟨z,hd,vs,rel,dd⟩:=nL I.bA e;refine call_len_dict hd dd (by rw[<- rel.length];rw[ab8] at z;omega) ?_;rw[<- rel.length];exact h _ _ (I.tok _)
end
noncomputable def HF (i:Expr):Prop:= ∀ ov iv,Zx i false ov iv=operate [ov,iv] (Y3 ov iv)
theorem Fu {prog : Vg} {w : World} {A : Vz} {E : Value -> UR -> Prop} {s : UR} {env : Env} {value slice : Expr} {pos : Pos} {T id : String} {Q : Value -> UR -> Prop}
    (hl : typeLookup (.type T) "__getitem__" = pure (some (.builtin id))) (hs : HF slice)
    (h : wpAny (model prog w) A (eval value env) (λo s₁ => wpAny (model prog w) A (eval slice env) (λi s₂ => s₂.TypeIs o T /\ wpAny (model prog w) A (Y3 o i) Q E s₂) E s₁) E s) :
    wpAny (model prog w) A (eval (.Subscript value slice pos) env) Q E s := by
  refine Subscript_ (VB h (λo s₁ h₁ => VB h₁ (λi s₂ h₂ => ?_) λ_ _ x => x) λ_ _ x => x);obtain ⟨hT, h₂⟩ := h₂;unfold ZI;refine UN ?_;rw [aaC hT.not_modules];refine UN (aau hT hl ?_);have fin : wpAny (model prog w) A (Zx slice false o i) (λr s₃ => wpAny (model prog w) A (letTemporaryGo value o r >>= λ_ => pure r) Q E s₃) E s₂ := by
    rw [hs o i];exact wpAny_operating (VB h₂ (λr s₃ h₃ => UN (aaN (UZ h₃))) λ_ _ x => x)
  first
    | exact UZ (UN fin)
    | exact UN (UZ (UN fin))
    | exact UN fin
theorem wU{X:Cx}{pins:List (Addr × Obj)}{σ :St}{H:Hp}{s:UR}{a:Addr}{y:V}{o:Option V}(I:Inv X pins σ H s)(g:jX H a y o):s.TypeIs (.ref a) "dict" :=by
 rcases g with⟨kvs,k,e,_,_⟩ | ⟨kvs,k,b,e,_,_,_⟩
 . obtain⟨_,_,vs,_,dd⟩:=nL I.bA e;exact dd.typeIs
 . obtain⟨_,_,xs,_,dd⟩:=pU I.bA e;exact dd.typeIs
theorem vq{P:Vg}{w:World}{H:Hp}(h:Heap)(hb:V6 < h.objs.size):aY P w H (h.push { cls:= .type "dict",data:= .dict #[] }) h.objs.size (.dK []) :=
 ⟨VM _,beq_eq_false_iff_ne.mpr (Xj (Vf hb)),[],.nil,aav h⟩
noncomputable def Dm:TE:=λ_ H Q=> ∀ p,H p=none->Q (.ref p) (upd H p (.dK []))
section
variable{X:Cx}{pos:Pos}
theorem Cw:PE X (.Dict [] [] pos) Dm:=λpins s σ H Q I h =>
 wpAny_Dict_empty ⟨.ref s.heap.objs.size,_,I.laid (a:=s.heap.objs.size) (o:= .dK []) (t':=s.toks) (λ_ _ q=>UQ _ q) (UT _) (vq s.heap I.big),rfl,h _ (I.bA.fresh (UT _))⟩
end
noncomputable def nA:List (TE × TE)->St->Hp->(List (V × V)->Hp->Prop)->Prop
 | [],_,H,Q=>Q [] H
 | (tk,tv)::r, σ,H,Q=>tk σ H λx H1=>tv σ H1 λy H2=>nA r σ H2 λps H3=>Q ((x,y)::ps) H3
abbrev VV:List (V × V)->List (Value × Value)->Prop:=V2 λp q=>RelV p.1 q.1∧RelV p.2 q.2
noncomputable def Rn (X:Cx) (pos:Pos) (keys:List (Option Expr)) (values:List Expr) (trs:List (TE × TE)):Prop :=
 ∀ (pins:List (Addr × Obj)) (s:UR) (σ :St) (H:Hp) (Q:List (V × V)->Hp->Prop),Inv X pins σ H s->nA trs σ H Q ->
  wpAny (model X.prog X.w) X.A (evalPairs (pairTrees keys values X.env pos)) (λvs s'=> ∃ ps H',Inv X pins σ H' s'/\VV ps vs/\Q ps H') X.xe s
theorem Gh{X:Cx}{pos:Pos}:Rn X pos [] [] []:=λpins s σ H Q I h=>pairTrees_nil_walk ⟨[],H,I,.nil,h⟩
theorem B4{X:Cx}{pos:Pos}{k v:Expr}{ks:List (Option Expr)}{vs:List Expr}{tk tv:TE}{trs:List (TE × TE)}(hk:PE X k tk)(hv:PE X v tv)(hr:Rn X pos ks vs trs) :
  Rn X pos (some k::ks) (v::vs) ((tk,tv)::trs):=λpins s σ H Q I h =>
 pairTrees_cons_walk (cJ (hk pins s σ H _ I h) λu s1 ⟨x,H1,I1,rx,q1⟩=>cJ (hv pins s1 σ H1 _ I1 q1) λw2 s2 ⟨y,H2,I2,ry,q2⟩ =>
  cJ (hr pins s2 σ H2 _ I2 q2) λws s3 ⟨ps,H3,I3,rel,q3⟩=>⟨(x,y)::ps,H3,I3,.cons ⟨rx,ry⟩ rel,q3⟩)
noncomputable def c7(kvs more:List (Key × V)):List (Key × V):=more.foldl (λacc kv=>putK acc kv.1 kv.2) kvs
theorem KV.merge: ∀{more:List (Key × V)}{rs:List (Key × Value)}{kvs:List (Key × V)}{vs:List (Key × Value)},KV more rs->KV kvs vs->KV (c7 kvs more) (merged vs rs):=by
 intro more rs kvs vs r;unfold KV at r
 induction r generalizing kvs vs with
 | nil=>intro q;exact q
 | @cons p q ps qs h t ih =>
  intro r0
  have e:KV (putK kvs p.1 p.2) (stored vs q.1 q.2):=by
   have:=r0.put p.1 h.2;rw[<- h.1];exact this
  exact ih e
theorem eT: ∀(more kvs:List (Key × V)),(c7 kvs more).length<=kvs.length+more.length
 | [],kvs=>by show kvs.length<=kvs.length+0;omega
 | p::r,kvs=>by
  have h1:=eT r (putK kvs p.1 p.2);have h2:=jn kvs p.1 p.2;show(c7 (putK kvs p.1 p.2) r).length<=_;rw[UU];omega
theorem qx{P:Vg}{w:World}: ∀{kvs:List (Key × V)}{ws:List (Value × Value)},VV (kvs.map λkv=>(kV kv.1,kv.2)) ws-> ∃ rs,Carries (aN P w) ws rs/\KV kvs rs
 | [],_,r=>by rw[Vh] at r;cases r;exact⟨[],WX,.nil⟩
 | p::kvs,_,r=>by
  rw[US] at r;cases r with
  | @cons a b as bs h t =>
   obtain⟨rs,c,q⟩:=qx (P:=P) (w:=w) t
   obtain⟨b1,b2⟩:=b
   exact⟨(p.1,b2)::rs,⟨lb h.1,rfl,c⟩,.cons ⟨rfl,h.2⟩ q⟩
noncomputable def JM(trs:List (TE × TE)):TE:=fun σ H Q=> ∀ p,H p=none->nA trs σ (upd H p (.dK [])) λps H2=>H2 p=some (.dK [])/\ ∃ kvs:List (Key × V),ps=kvs.map (λkv=>(kV kv.1,kv.2))/\kvs.length<=15/\Q (.ref p) (upd H2 p (.dK (c7 [] kvs)))
theorem F9{X:Cx}{pos:Pos}{keys:List (Option Expr)}{values:List Expr}{trs:List (TE × TE)}(h:Rn X pos keys values trs)(hall:keys.all (·.isSome)=true)(hl:keys.length=values.length)(h0:keys≠[])
  (h15:keys.length<=15):PE X (.Dict keys values pos) (JM trs):=by
 intro pins s σ H Q I q;have hn:=I.bA.fresh (UT s.heap.objs.size);have I1:=I.laid (a:=s.heap.objs.size) (o:= .dK []) (h':=s.heap.push { cls:= .type "dict",data:= .dict #[] }) (t':=s.toks) (λ_ _ q=>UQ _ q) (UT _) (vq s.heap I.big);refine wpAny_Dict_walk (knd:=aN X.prog X.w) hall hl h0 h15 (cJ (h pins _ σ _ _ I1 (q _ hn)) λws s2 ⟨ps,H2,I2,rel,e,kvs,ep,lk,q2⟩=>?_);subst ep;obtain⟨rs,c,rk⟩:=qx (P:=X.prog) (w:=X.w) rel;obtain⟨z,hd,vs0,r0,dd⟩:=vR I2.bA e;cases r0;refine⟨rs,c,dd,λh' dd' hs=>⟨.ref s.heap.objs.size,_,?_,rfl,q2⟩⟩;have hz:(c7 [] kvs).length<=sizeLine:=by
  have h1:=eT kvs [];rw[Vk] at h1;rw[ab8];omega
 have he: ∃ q,h'.get? s.heap.objs.size=some q:=let ⟨q,_,_,hq,_⟩:=dd';⟨q,hq⟩
 exact uF I2 (by rw[e];exact WX) hs he (tU hz hd (rk.merge .nil) dd')
structure M1(X:Cx)(o:Expr)(m:Str)(apos:Pos)(e:Expr)(cpos:Pos):Prop where
 base:Xi o m X.env (eval o X.env)=eval o X.env
 mh:((Ym cpos (VD [e] X.env)).all (λx=> !x.1)&&(backToKw cpos (aca [] X.env)).all (λx=>x.1.isSome)
  && decide (([e]:List Expr).length+([]:List aa2).length+(if ([]:List aa2).isEmpty then 0 else 1) < 30))=true
 line:(apos.endLine == cpos.line)=true
 trees:Ym cpos (VD [e] X.env)=[(false,eval e X.env)]
structure M2(X:Cx)(o:Expr)(m:Str)(apos:Pos)(e f:Expr)(cpos:Pos):Prop where
 base:Xi o m X.env (eval o X.env)=eval o X.env
 mh:((Ym cpos (VD [e,f] X.env)).all (λx=> !x.1)&&(backToKw cpos (aca [] X.env)).all (λx=>x.1.isSome)
  && decide (([e,f]:List Expr).length+([]:List aa2).length+(if ([]:List aa2).isEmpty then 0 else 1) < 30))=true
 line:(apos.endLine == cpos.line)=true
 trees:Ym cpos (VD [e,f] X.env)=[(false,eval e X.env),(false,eval f X.env)]
noncomputable def Ut(H:Hp)(a:Addr):Prop:=(∃ kvs,Rd H a (.dK kvs))\/ ∃ kvs,Rd H a (.dT kvs)
theorem Kg{X:Cx}{pins:List (Addr × Obj)}{σ :St}{H:Hp}{s:UR}{a:Addr}(I:Inv X pins σ H s)(d:Ut H a) :
  s.TypeIs (.ref a) "dict" /\(∀ b,Ve a= .ref b-> ∃ ob,s.heap.get? b=some ob/\ob.dict=none)/\(a == V6)=false:=by
 rcases d with⟨kvs,e⟩ | ⟨kvs,e⟩
 . obtain⟨_,hd,vs,_,dd⟩:=nL I.bA e;refine⟨dd.typeIs,λb q=>?_,hd⟩;cases q;obtain⟨ob,_,_,h1,h2,_⟩:=dd;exact⟨ob,h1,h2.2.1⟩
 . obtain⟨_,hd,xs,_,dd⟩:=pU I.bA e;refine⟨dd.typeIs,λb q=>?_,hd⟩;cases q;obtain⟨ob,_,_,h1,h2,_⟩:=dd;exact⟨ob,h1,h2.2.1⟩
section
variable{X:Cx}{pins:List (Addr × Obj)}{σ :St}{H:Hp}{s:UR}{a:Addr}{y d:V}{u r:Value}{o:Option V}{A:Vz}{E:Value->UR->Prop}
theorem KC{Q:Value->UR->Prop}(hu:A.units+1 < cLine)(I:Inv X pins σ H s)(g:jX H a y o)(ry:RelV y u)(rd:RelV d r)(h: ∀ w' s',Inv X pins σ H s'->RelV (o.getD d) w'->Q w' s') :
  wpAny (model X.prog X.w) A (call (.builtin "dict.get") [.ref a,u,r]) Q E s:=by
 rcases g with⟨kvs,k,e,ey,l⟩ | ⟨kvs,k,b,e,ey,eb,l⟩
 . subst ey;obtain⟨z,hd,vs,rel,dd⟩:=nL I.bA e;refine call_meetsIn Yy dd.typeIs aaj (ZX _ _ _) (meets_dict_get_default (aN X.prog X.w) a (lb ry) hd r) ⟨_,dd.mapOf,h _ _ (I.tok _) ?_⟩;rw[l];exact(rel.val k).getD rd
 . subst ey;cases(show u=Ve b from ry);obtain⟨z,hd,xs,rel,dd⟩:=pU I.bA e;refine call_meetsIn Yy dd.typeIs aaj (ZX _ _ _) (meetsH_dict_get_default (ZS (aN X.prog X.w)) a b hd r) ⟨Xt hu,k,xs,mP I.bA eb,dd,h _ _ (I.tok _) ?_⟩;rw[l];exact(rel.val k).getD rd
end
noncomputable def C0(td ty tx:TE):TE:=fun σ H Q=>td σ H λx H1=> ∃ a,x= .ref a/\Ut H1 a/\ty σ H1 λy H2=>tx σ H2 λz H3=> ∃ o,jX H3 a y o/\Q (o.getD z) H3
section
variable{X:Cx}{o e f:Expr}{apos cpos:Pos}{td ty tx:TE}
theorem Dx(hu:X.A.units+1 < cLine)(ho:PE X o td)(he:PE X e ty)(hf:PE X f tx)(m:M2 X o "get" apos e f cpos):PE X (.Call (.Attribute o "get" apos) [e,f] [] cpos) (C0 td ty tx):=by
 intro pins s σ H Q I h;refine wpAny_Call_method m.base m.mh m.line PySem.F.plainAttrs_dict Yy PySem.F.type_dict_get (cJ (ho pins s σ H _ I h) λu s1 ⟨x,H1,I1,rx,a,ex,d,q1⟩=>?_);subst ex;obtain rfl:u=Ve a:=rx;obtain⟨t1,t2,_⟩:=Kg I1 d;refine⟨t1,t2,?_⟩;rw[m.trees];refine Yr rfl (YL (Yg (cJ (he pins s1 σ H1 _ I1 q1) λiv s2 ⟨y,H2,I2,ry,q2⟩ =>
  Yg (cJ (hf pins s2 σ H2 _ I2 q2) λfv s3 ⟨z,H3,I3,rz,ov,g,q3⟩=>Zw ?_))))
 exact KC hu I3 g ry rz λw' s4 I4 rw'=>⟨_,H3,I4,rw',q3⟩
end
section
variable{X:Cx}
theorem zZ:aT X (.builtin "len") (λxs H Q=> ∃ a kvs,xs=[V.ref a]/\H a=some (.dK kvs)/\Q (.int kvs.length) H):=by
 intro pins s σ H xs us Q I r h;obtain⟨a,kvs,rfl,ha,q⟩:=h;obtain⟨u,rfl,ru⟩:=vals1 r;cases ru;exact PN I (.inl ha) λt s' I'=>⟨.int kvs.length,H,I',⟨t,rfl⟩,q⟩
end
noncomputable def mask(n:Str):Str:=⟨n.cps.push 0⟩
noncomputable def i6(sc fn:List (Str × Xy))(N vars:List Str):Bool :=
 sc.all (λp=>(p.2 != .cell||sc.lookup p.1 == some .cell)&&(p.2 != .free||(fn.lookup p.1 == some .cell||fn.lookup p.1 == some .free))&&(p.2 != .local||sc.lookup p.1 == some .local)) &&
 N.all (λn=>vars.contains n||(sc.lookup n !=some .local&&sc.lookup n !=some .cell))&&vars.all (λv=>sc.lookup (mask v) == none)
noncomputable def om (N vars:List Str):List Str:=N.map (λn=>if vars.contains n then mask n else n)++vars
noncomputable def fJ (X:Cx) (vars:List Str) (scope:Scope) (cl:List (Str × Addr)) (C:Addr) (s₀ :UR) (H₀ :Hp) (ex:List Addr) (pn:List (Addr × Obj)):Cx :=
 { X with N:=om X.N vars,env:=WN scope cl C X.env,s₀ :=s₀,H₀ :=H₀,outer:=X.stack,ex:=ex,fn:=λx=>scope.names.lookup x == some .cell,pn:=pn }
theorem j8 (f : Str -> Xy -> Xy) (x : Str) : ∀ names : List (Str × Xy), (names.map λp => (p.1, f p.1 p.2)).lookup x = (names.lookup x).map (f x)
  | [] => rfl
  | p :: r => by
    have ih := j8 f x r;rw [US, WV, WV, ih];cases q : x == p.1 with
    | true => obtain rfl : x = p.1 := by simpa using q
              rfl
    | false => rfl
theorem i7 {env:Env} {names:List (Str × Xy)} {x:Str} :
  (names.map λ(n,k)=>if (k == WT&&env.scope.kind == .function&&env.kindOf n == some .cell) then (n,WU) else (n,k)).lookup x =
   (names.lookup x).map λk=>if (k == WT&&env.scope.kind == .function&&env.kindOf x == some .cell) then WU else k:=by
 rw[<- j8 (λn k=>if (k == WT&&env.scope.kind == .function&&env.kindOf n == some .cell) then WU else k) x names];congr 2
 funext p
 obtain⟨n,k⟩:=p;show(if _ then _ else _)=_;split<;>rename_i z<;>simp[z]
theorem lookup_mem{β :Type}{x:Str}{c: β}: ∀{l:List (Str × β)},l.lookup x=some c->(x,c)∈l
 | [],h=>by simp at h
 | p::r,h=>by
  rw[WV] at h;cases q:x == p.1 with
  | true =>
   rw[q] at h
   obtain rfl:x=p.1:=by simpa using q
   obtain rfl:p.2=c:=by simpa using h
   exact U3
  | false=>rw[q] at h;exact U6 _ (lookup_mem h)
theorem gC{β :Type}{x:Str}{c: β}: ∀{l:List (Str × β)},(x,c)∈l-> ∃ d,l.lookup x=some d
 | [],h=>nomatch h
 | (n,k)::r,h=>by
  cases hx:x == n with
  | true=>exact⟨k,by simp only[WV,hx]⟩
  | false =>
   have h':(x,c)∈r:=by
    rcases U1.mp h with e | e
    . cases e;simp at hx
    . exact e
   obtain⟨d,q⟩:=gC h'
   exact⟨d,by simp only[WV,hx];exact q⟩
theorem ku{env:Env}: ∀(names:List (Str × Xy))(acc:List (Str × Addr)),(∀ p∈names,p.2= .free-> ∃ c,env.cells.lookup p.1=some c) ->
  ∃ cl,(forIn names acc λ(x:Str × Xy) (r:List (Str × Addr))=>(match x with | (name,kind)=>if (kind == WT)=true then do let a <- cellOf env name;pure (Xz ((name,a)::r)) else pure (Xz r):Sem (ForInStep (List (Str × Addr)))))=pure cl /\
   (∀ p∈cl,p∈acc\/env.cells.lookup p.1=some p.2)/\(∀ p∈acc,p∈cl)/\ ∀ p∈names,p.2= .free-> ∃ c,(p.1,c)∈cl
 | [],acc,_=>⟨acc,rfl,λp h=> .inl h,λp h=>h,λp h=>nomatch h⟩
 | (n,k)::r,acc,h=>by
  by_cases hk:(k == WT)=true
  . obtain⟨c,hc⟩:=h (n,k) U3 (by simpa using hk);obtain⟨cl,e,h1,h2,h3⟩:=ku r ((n,c)::acc) λp hp=>h p (U6 _ hp);refine⟨cl,?_,λp hp=>?_,λp hp=>h2 p (U6 _ hp),λp hp hf=>?_⟩
    . rw[XA];have z:cellOf env n=pure c:=by unfold cellOf;have hc':env.cells.lookup n=some c:=hc;rw[hc']
      simp only[hk,if_true,z];exact e
    . rcases h1 p hp with q | q
      . rcases U1.mp q with q | q
        . exact .inr (by rw[q];exact hc)
        . exact .inl q
      . exact .inr q
    . rcases U1.mp hp with q | q
      . exact⟨c,by rw[q];exact h2 _ U3⟩
      . exact h3 p q hf
  . obtain⟨cl,e,h1,h2,h3⟩:=ku r acc λp hp=>h p (U6 _ hp);refine⟨cl,?_,h1,h2,λp hp hf=>?_⟩
    . rw[XA];simp only[if_neg hk];exact e
    . rcases U1.mp hp with q | q
      . rw[q] at hf;exact absurd (by simpa using hf) hk
      . exact h3 p q hf
theorem pL{env:Env}{scope:Scope}(h: ∀ p∈scope.names,p.2= .free-> ∃ c,env.cells.lookup p.1=some c) :
  ∃ cl,closureFor scope env=pure cl/\(∀ x c,cl.lookup x=some c->env.cells.lookup x=some c)/\ ∀ x,scope.names.lookup x=some .free-> ∃ c,cl.lookup x=some c:=by
 obtain⟨cl,e,h1,_,h3⟩:=ku scope.names [] h;refine⟨cl,?_,λx c q=>?_,λx q=>?_⟩
 . unfold closureFor;show(forIn scope.names ([]:List (Str × Addr)) _ >>= λr=>pure r)=_
   erw [e]
   rfl
 . rcases h1 _ (lookup_mem q) with z | z
   . cases z
   . exact z
 . obtain⟨c,q'⟩:=h3 _ (lookup_mem q) rfl;exact gC q'
theorem ye: ∀(names:List (Str × Xy))(h:Heap)(acc:List (Str × Addr))(x:Str)(c:Addr),(Xb h.objs.size names acc).lookup x=some c ->
  ((x,WU) ∉ names/\acc.lookup x=some c)\/((x,WU)∈names/\h.objs.size<=c/\(ZY h names).IsCell c none)
 | [],_,_,_,_,e=> .inl ⟨λz=>(nomatch z),e⟩
 | (name,kind)::r,h,acc,x,c,e=>by
  unfold Xb at e;unfold ZY;split at e
  . rename_i hk;have hk':kind= .cell:=by simpa using hk
    subst hk';rw[if_pos hk];have hz:(h.push { cls:= .type "cell",data:= .cell none }).objs.size=h.objs.size+1:=VW ..;rw[<- hz] at e;rcases ye r _ _ x c e with⟨n,q⟩ | ⟨m,le,q⟩
    . rw[WV] at q;cases hx:x == name with
      | true =>
       rw[hx] at q
       cases q
       rw[show x=name by simpa using hx]
       exact .inr ⟨U3,UT _,_,aaw _ _ _ _ (U7 _ rfl),rfl⟩
      | false =>
       rw[hx] at q
       refine .inl ⟨λz=>?_,q⟩
       rcases U1.mp z with w | w
       . cases w;simp at hx
       . exact n w
    . exact .inr ⟨U6 _ m,by rw[hz] at le;exact Nat.le_of_succ_le le,q⟩
  . rename_i hk;rw[if_neg hk];rcases ye r h acc x c e with⟨n,q⟩ | ⟨m,q⟩
    . refine .inl ⟨λz=>?_,q⟩;rcases U1.mp z with w | w
      . cases w;simp at hk
      . exact n w
    . exact .inr ⟨U6 _ m,q⟩
theorem xq{lo:Nat}: ∀(names:List (Str × Xy))(n:Nat)(acc:List (Str × Addr)),(∀ x y c,acc.lookup x=some c->acc.lookup y=some c->lo<=c->x=y)->(∀ x c,acc.lookup x=some c->c < n) ->
  ∀ x y c,(Xb n names acc).lookup x=some c->(Xb n names acc).lookup y=some c->lo<=c->x=y
 | [],_,_,h,_=>h
 | (name,kind)::r,n,acc,h,hn=>by
  unfold Xb;split
  . have at_: ∀ z d,((name,n)::acc).lookup z=some d->(z=name/\d=n)\/acc.lookup z=some d:=λz d e=>by
     rw[WV] at e;cases hz:z == name with
     | true=>rw[hz] at e;cases e;exact .inl ⟨by simpa using hz,rfl⟩
     | false=>rw[hz] at e;exact .inr e
    refine xq r (n+1) _ (λx y c e1 e2 hl=>?_) λx c e=>?_
    . rcases at_ x c e1 with⟨a,b⟩ | a<;>rcases at_ y c e2 with⟨a',b'⟩ | a'
      . rw[a,a']
      . exact absurd (hn y c a') (by rw[b];exact VJ _)
      . exact absurd (hn x c a) (by rw[b'];exact VJ _)
      . exact h x y c a a' hl
    . rcases at_ x c e with⟨_,b⟩ | a
      . rw[b];exact XU _
      . exact Xe (hn x c a)
  . exact xq r n acc h hn
theorem rG{M:Model}{A:Vz}{E:Value->UR->Prop}{s:UR}{scope:Scope}{globals:Addr}{cl:List (Str × Addr)}{qual:Str}{outer:Env}{Q:Env->UR->Prop}
  (h:Q { scope:=scope,locals:=s.heap.objs.size,globals:=globals,cells:=Xb (s.heap.objs.size+1) scope.names cl,qual:=qual,func:=none,code:=outer.code,frame:=outer.frame,builtins:=outer.builtins }
   { s with heap:=ZY (s.heap.push { cls:= .type "dict",data:= .dict #[] }) scope.names }):wpAny M A (aaO scope globals cl [] qual none .none (some outer)) Q E s:=by
 simp only[aaO,abv,if_true];refine UN (wpAny_alloc (UN (wpAny_layCells _ (λname kind cells=>by cases hkc:kind == WU<;>simp[hkc]) _ _ _ _ ?_)));rw[show({ s with heap:=s.heap.push { cls:= .type "dict",data:= .dict #[] } }:UR).heap.objs.size=s.heap.objs.size+1 from VW ..];exact UN (by rw[acr];exact UZ (UZ h))
noncomputable def FC(cs:List Expr)(v:Env):Sem Bool :=
 forIn cs true λc r=>if r=true then(abV c v (eval c v) >>= λok=>pure (Xz ok)) else pure (Xz r)
noncomputable def xN(M:Model)(A:Vz)(v:Env)(e:Expr)(acc:Value)(X:Value->UR->Prop)(D:UR->Prop):Bool->UR->Prop:=λok u=>if ok=true then
  wpAny M A (eval e v) (λx u1=>wpAny M A (call (.builtin "list.append") [acc,x]) (λ_ u2=>D u2) X u1) X u
 else D u
noncomputable def N8(M:Model)(A:Vz)(v:Env)(tg e:Expr)(cs:List Expr)(it acc:Value)(X:Value->UR->Prop)(D:UR->Prop)(i:Value)(u:UR):Prop :=
 wpAny M A (YT tg it i) (λ_ u1=>wpAny M A (Yn tg v i) (λ_ u2=>wpAny M A (FC cs v) (xN M A v e acc X D) X u2) X u1) X u
theorem pP{prog:Vg}{w:World}{A:Vz}{R:Result->UR->Prop}{s:UR}{elt target iter:Expr}{ifs:List Expr}{scope:Scope}{pos:Pos}{it acc:Value}{env:Env}(I:Nat->UR->Prop)
  (turn: ∀ k u,I k u->wpAny (model prog w) A (abW it) (λr u1=>match r with
   | none=>R (.ok .next) u1
   | some i=>N8 (model prog w) A env target elt ifs it acc (notedBy (model prog w) A env λe s'=>R (.error e) s') (λu2=> ∃ m,m < k/\I m u2) i u1) (notedBy (model prog w) A env λe s'=>R (.error e) s') u)
  (n:Nat) (h:I n s):aab (model prog w) A (.compLoop (.ListComp elt [⟨target,iter,ifs,0⟩] scope pos) 0 it acc env) R s:=by
 refine codeAny_loop rfl I (λk u hu=>wpAny_noted (m:=compTurn (.ListComp elt [⟨target,iter,ifs,0⟩] scope pos) 0 it acc env) ?_) n h;rw[compTurn_list];refine UN (abf (UN (VB (turn k u hu) (λr u1 g=>?_) λ_ _ z=>z)))
 match r,g with
 | none,g=>exact UZ g
 | some i,g =>
  refine UN (VB g (λ_ _ g=>UN (VB g (λ_ _ g=>UN (VB g (λok u4 g=>?_) λ_ _ z=>z)) λ_ _ z=>z)) λ_ _ z=>z)
  match ok,g with
  | false,g=>exact UZ (ab0 rfl g)
  | true,g=>exact UN (UN (VB g (λ_ _ g=>UN (VB g (λ_ _ g=>UZ (UZ (ab0 rfl g))) λ_ _ z=>z)) λ_ _ z=>z))
noncomputable def PF(X:Cx)(ifs:List Expr)(t:TT):Prop :=
 ∀(pins:List (Addr × Obj))(s:UR)(σ :St)(H:Hp)(Q:Bool->Hp->Prop),Inv X pins σ H s->t σ H Q ->
  wpAny (model X.prog X.w) X.A (forIn ifs true λc r=>if r=true then do let ok <- abV c X.env (eval c X.env);pure (Xz ok) else pure (Xz r)) (TP X pins σ Q) X.xe s
noncomputable def Jv:TT:=λ_ H Q=>Q true H
theorem LX{X:Cx}:PF X [] Jv:=λ_ _ σ H Q I h=>wpAny_tests_nil ⟨H,I,h⟩
theorem MK{X:Cx}{c:Expr}{t:TT}(h:PT X c t):PF X [c] t:=λpins s σ H Q I q=>wpAny_tests_one (h pins s σ H Q I q)
noncomputable def R6(k:Nat)(wi:TI)(g:TG)(tt:TT)(te:TE):TE:=fun σ H Q=>wi σ H λJ H1=> ∃ W:Nat->Nat->List V->Hp->Prop,(∃ m,W 0 m [] H1)/\ ∀ i m ys H,W i m ys H ->
 (J.stop i H/\ ∀ p,H p=none->Q (.ref p) (upd H p (.lst ys))) \/
 (J.go i H/\ys.length < sizeLine/\ ∀ x H',J.Jk i H x H'->g x (σ ++UY k none) H' fun σ2 H2=>tt σ2 H2 λb H3 =>
  if b=true then te σ2 H3 λy H4=> ∃ m',m' < m/\W (i+1) m' (ys++[y]) H4 else ∃ m',m' < m/\W (i+1) m' ys H3)
section
variable{X:Cx}{pins:List (Addr × Obj)}{σ :St}{H:Hp}{s:UR}{scope:Scope}{vars:List Str}{cl:List (Str × Addr)}
theorem iE(h:i6 scope.names X.env.scope.names X.N vars=true): ∀ p∈scope.names,(p.2= .cell->scope.names.lookup p.1=some .cell)/\(p.2= .free->X.env.kindOf p.1=some .cell\/X.env.kindOf p.1=some .free)/\(p.2= .local->scope.names.lookup p.1=some .local):=by
 intro p hp;unfold i6 at h;simp only[U9,YE] at h;obtain⟨⟨h1,_⟩,_⟩:=h;have q:=h1 p hp;simp only[XB,bne_iff_ne,ne_eq,beq_iff_eq] at q;obtain⟨⟨q1,q2⟩,q3⟩:=q;refine⟨λe=>?_,λe=>?_,λe=>?_⟩
 . rcases q1 with z | z
   . exact absurd e z
   . exact z
 . rcases q2 with z | z
   . exact absurd e z
   . exact z
 . rcases q3 with z | z
   . exact absurd e z
   . exact z
theorem Ly(h:i6 scope.names X.env.scope.names X.N vars=true): ∀ n∈X.N,¬ n∈vars->scope.names.lookup n≠some .local/\scope.names.lookup n≠some .cell:=by
 intro n hn hv;unfold i6 at h;simp only[U9,YE] at h;obtain⟨⟨_,h2⟩,_⟩:=h;have q:=h2 n hn;simp only[XB,U9,bne_iff_ne,ne_eq,List.contains_iff_mem] at q;exact q.resolve_left hv
theorem Bt(h:i6 scope.names X.env.scope.names X.N vars=true): ∀ n∈vars,scope.names.lookup (mask n)=none:=by
 intro n hn;unfold i6 at h;simp only[U9,YE] at h;simpa using h.2 n hn
theorem Inv.fJ{C:Addr}{h':Heap}{t':Nat}{m':Str->Option Value}{fp:List Addr}(I:Inv X pins σ H s)(hkind:scope.kind= .function)(hlc:i6 scope.names X.env.scope.names X.N vars=true)
  (hc1: ∀ x c,cl.lookup x=some c->(scope.names.lookup x≠some .cell/\X.env.cells.lookup x=some c)\/(scope.names.lookup x=some .cell/\s.heap.objs.size<=c/\h'.IsCell c none)) (hc2: ∀ x,scope.names.lookup x=some .free\/scope.names.lookup x=some .cell-> ∃ c,cl.lookup x=some c)
  (hci: ∀ x y c,cl.lookup x=some c->cl.lookup y=some c->s.heap.objs.size<=c->x=y)
  (hfp: ∀ b∈fp,oq X pins H b) (hfo: ∀ b∈fp,∃ o,s.heap.get? b=some o) (hC:s.heap.objs.size<=C) (hn:h'.Ns C m') (k: ∀ b o,s.heap.get? b=some o->h'.get? b=some o) :
  Inv (fJ X vars scope cl C s H fp (X.pn++pins)) [] (σ ++UY vars.length none) H { s with heap:=h',toks:=t' }:=by
 have hHC:H C=none:=I.bA.fresh hC;have lt: ∀ x c,X.env.cells.lookup x=some c->c < s.heap.objs.size:=λx c e=>by obtain⟨v,q⟩:=I.cell x c e;exact q.lt
 refine⟨?ok,rfl,I.bare,Un.kept k,⟨m',hn,?loc⟩,λx c e=>?cell,hHC,λx c e=>(hc1 x c e).elim (λz=>I.je x c z.2) (λz=>I.bA.fresh z.2.1),?pin,I.bA.kept k,?len⟩
 case ok =>
  refine{ mod:=I.ok.mod,kind:=?_,glob:=I.ok.glob,blt:=I.ok.blt,above:=hC,inj:=?_,has:=?_,OF:=?_,hd:=I.ok.hd,frames:=I.ok.frames,P6:= .inl rfl,S7:=?_,bs:=I.bs,E3:=Vn I.ok.E3 I.sz,Ar:=?_,CN:=?_,m5:=I.stack,Jh:=I.zN }
  . exact hkind
  . intro x y c e1 e2;rcases hc1 x c e1 with z | z
    . rcases hc1 y c e2 with w | w
      . exact I.ok.inj x y c z.2 w.2
      . exact absurd (U0 (lt x c z.2) w.2.1) (VJ _)
    . exact hci x y c e1 e2 z.2.1
  . intro x hx;have hx':(WN scope cl C X.env).kindOf x=some .cell\/(WN scope cl C X.env).kindOf x=some .free:=hx;have e:(WN scope cl C X.env).kindOf x=(scope.names.lookup x).map λk=>if (k == WT&&X.env.scope.kind == .function&&X.env.kindOf x == some .cell) then WU else k:=i7
    rw[e] at hx';cases q:scope.names.lookup x with
    | none=>rw[q] at hx';simp at hx'
    | some kd =>
     have hm:=iE (X:=X) hlc _ (lookup_mem q)
     by_cases hf:kd= .free
     . subst hf;exact hc2 x (.inl q)
     . rw[q] at hx';have hf':(kd == WT)=false:=by simpa using hf
       simp only[Xc,hf',aaK,WZ,if_false,XJ] at hx';rcases hx' with z | z
       . exact hc2 x (.inr (by rw[q,z]))
       . exact absurd z hf
  . intro x c hx e;have hx':(scope.names.lookup x == some WU)=true:=hx;rcases hc1 x c e with z | z
    . exact absurd (by simpa using hx') z.1
    . exact z.2.1
  . intro b hb;have f:=hfp b hb;obtain⟨o,e⟩:=hfo b hb;exact⟨Vf (U0 (U2 e) hC),λx c e z=>(hc1 x c e).elim (λw=>f.2.2.2.2.1 x c w.2 z) (λw=>absurd (U0 (U2 (z ▸ ‹_› :s.heap.get? c=some o)) w.2.1) (VJ _))⟩
  . intro b o e hb;have f:=hfp b hb;rcases f.2.2.2.1 with z | z
    . exact I.ok.Ar b o e z
    . exact absurd (U0 (U2 (I.ok.bs b o e).1) z) (VJ _)
  . intro b hb z;have f:=hfp b hb;rcases U1.mp (I.m6 b z) with q | q
    . exact f.2.1 q
    . exact f.2.2.1 q
 case loc =>
  intro i x v e1 e2 e3
  have e1':(om X.N vars)[i]?=some x:=e1
  have e:(WN scope cl C X.env).scope.names.lookup x=(scope.names.lookup x).map λk=>if (k == WT&&X.env.scope.kind == .function&&X.env.kindOf x == some .cell) then WU else k:=i7
  by_cases hi:i < σ.length
  . rw[Vy hi] at e2;unfold om at e1';rw[Vy (by rw[UO,<- I.len];exact hi),U8] at e1';cases q:X.N[i]? with
    | none=>rw[q] at e1';cases e1'
    | some n =>
     rw[q] at e1'
     have e1'':(if vars.contains n=true then mask n else n)=x:=VE e1'
     have vis:(scope.names.lookup x).isSome=true:=by
      unfold OA at e3;have e3':(WN scope cl C X.env).scope.names.lookup x=some .local\/(WN scope cl C X.env).scope.names.lookup x=some .cell\/(WN scope cl C X.env).scope.names.lookup x=some .free:=e3;rw[e] at e3';cases z:scope.names.lookup x with
      | none=>rw[z] at e3';simp at e3'
      | some _=>rfl
     by_cases hv:n∈vars
     . rw[if_pos (by simpa using hv)] at e1'';have:=Bt (X:=X) hlc n hv;rw[e1''] at this;rw[this] at vis;cases vis
     . rw[if_neg (by simpa using hv)] at e1'';subst e1'';have nl:=Ly (X:=X) hlc n (UX q) hv;cases z:scope.names.lookup n with
       | none=>rw[z] at vis;cases vis
       | some kd =>
        have hm:=iE (X:=X) hlc _ (lookup_mem z)
        have hkd:kd= .free:=by
         unfold OA at e3;have e3':(WN scope cl C X.env).scope.names.lookup n=some .local\/(WN scope cl C X.env).scope.names.lookup n=some .cell\/(WN scope cl C X.env).scope.names.lookup n=some .free:=e3;rw[e,z] at e3';by_cases hf:kd= .free
         . exact hf
         . have hf':(kd == WT)=false:=by simpa using hf
           simp only[Xc,hf',aaK,WZ,if_false,XJ] at e3';rcases e3' with y | y | y
           . rw[y] at z;exact absurd z nl.1
           . rw[y] at z;exact absurd z nl.2
           . exact y
        subst hkd
        have kk:=hm.2.1 rfl
        obtain⟨m,_,hl⟩:=I.loc
        obtain⟨u,r,look⟩:=hl i n v q e2 (.inr kk)
        obtain⟨c,hcl⟩:=hc2 n (.inl z)
        have hco:X.env.cells.lookup n=some c:=(hc1 n c hcl).elim (·.2) (λw=>by rw[z] at w;exact nomatch w.1)
        have look': ∃ c,X.env.cells.lookup n=some c/\s.heap.IsCell c (some u):=by
         rcases look with⟨y,_⟩ | ⟨_,y⟩
         . rcases kk with w | w<;>(rw[w] at y;cases y)
         . exact y
        obtain⟨c',hc',⟨o,ho,hd⟩⟩:=look'
        have ec:c=c':=VE (hco.symm.trans hc')
        subst ec
        refine⟨u,r,.inr ⟨?_,c,hcl,o,k c o ho,hd⟩⟩
        show(WN scope cl C X.env).scope.names.lookup n=some .cell\/(WN scope cl C X.env).scope.names.lookup n=some .free
        rw[e,z]
        simp only[Xc]
        split
        . exact .inl rfl
        . exact .inr rfl
  . rw[Vq (abw.mp hi),Xp] at e2;split at e2<;>cases e2
 case cell =>
  rcases hc1 x c e with z | z
  . obtain⟨v,o,ho,hd⟩:=I.cell x c z.2;exact⟨v,o,k c o ho,hd⟩
  . exact⟨none,z.2.2⟩
 case pin =>
  intro p hp
  have hp':p∈X.pn++pins:=by simpa [L2.fJ] using hp
  obtain⟨e,n,ne,nf,d⟩:=I.pin p hp'
  refine⟨k _ _ e,n,Vf (U0 (U2 e) hC),λz=>?_,d⟩
  rcases U1.mp (I.m6 p.1 z) with q | q
  . exact ne q
  . exact nf q
 case len =>
  show(σ ++UY vars.length none).length=(om X.N vars).length
  unfold om
  rw[U5,U5,UO,aaA,I.len]
end
noncomputable def GK(n:Nat)(g:TG):Prop:= ∀ x σ H Q,g x σ H Q->g x σ H fun σ2 H2=>Q σ2 H2/\ ∀ j,j < n-> σ2[j]?= σ[j]?
noncomputable def OL(n:Nat)(g:uP):Prop:= ∀ xs σ H Q,g xs σ H Q->g xs σ H fun σ2 H2=>Q σ2 H2/\ ∀ j,j < n-> σ2[j]?= σ[j]?
noncomputable def tQ(g:TG):Prop:= ∀ x σ H Q Q',(∀ σ2 H2,Q σ2 H2->Q' σ2 H2)->g x σ H Q->g x σ H Q'
theorem GO{n i:Nat}(h:n<=i):GK n (fW i):=λx σ H Q q=>⟨q,λj hj=>VU (by omega)⟩
theorem yD{i:Nat}:tQ (fW i):=λx σ H Q Q' f q=>f _ _ q
theorem MX{n:Nat}:OL n BO:=λxs σ H Q q=>⟨q.1,q.2,λ_ _=>rfl⟩
theorem Hk{n:Nat}{g:TG}{gs:uP}(h:GK n g)(hm:tQ g)(hs:OL n gs):OL n (nM g gs):=λxs σ H Q q=>by
 obtain⟨v,r,e,z⟩:=q;refine⟨v,r,e,hm _ _ _ _ _ (fun σ2 H2 y=>?_) (h _ _ _ _ z)⟩;have y':=hs _ _ _ _ y.1;have:(fun σ3 H3=>(Q σ3 H3/\ ∀ j,j < n-> σ3[j]?= σ2[j]?))=fun σ3 H3=>(Q σ3 H3/\ ∀ j,j < n-> σ3[j]?= σ[j]?):=by
  funext σ3 H3
  exact propext ⟨λw=>⟨w.1,λj hj=>(w.2 j hj).trans (y.2 j hj)⟩,λw=>⟨w.1,λj hj=>(w.2 j hj).trans (y.2 j hj).symm⟩⟩
 rw[this] at y';exact y'
theorem MC{K:UL}{n m:Nat}{gs:uP}(hs:OL n gs):GK n (xF K m gs):=λx σ H Q q=>by
 obtain⟨a,xs,e,h1,h2,h3⟩:=q;exact⟨a,xs,e,h1,h2,hs _ _ _ _ h3⟩
section
variable{X:Cx}{scope:Scope}{vars:List Str}{elt tg iter:Expr}{ifs:List Expr}{pos:Pos}{wi:TI}{g:TG}{tt:TT}{te:TE}
theorem qc{pins:List (Addr × Obj)}{σ :St}{H2:Hp}{s2:UR}{cl:List (Str × Addr)}{it:Addr}{fp:List Addr}{tn:Nat->Heap->Prop}{J:It}{RR:Value->Addr->Result->UR->Prop}{Q:VK}{E:Value->UR->Prop}
  (hc:X.calm=true) (hx: ∀ v s,¬ X.xe v s) (hkind:scope.kind= .function) (hlc:i6 scope.names X.env.scope.names X.N vars=true)
  (hb: ∀ cl C s₀ H₀ ex pn,PG (fJ X vars scope cl C s₀ H₀ ex pn) tg g/\PF (fJ X vars scope cl C s₀ H₀ ex pn) ifs tt/\PE (fJ X vars scope cl C s₀ H₀ ex pn) elt te) (hgk:GK X.N.length g)
  (hc1: ∀ x c,cl.lookup x=some c->X.env.cells.lookup x=some c) (hc2: ∀ x,scope.names.lookup x=some .free-> ∃ c,cl.lookup x=some c)
  (I2:Inv X pins σ H2 s2) (T:Turn X.prog X.w X.K tg J fp it tn) (st2:tn 0 s2.heap) (f2: ∀ b∈fp,oq X pins H2 b)
  {W:Nat->Nat->List V->Hp->Prop} {m0:Nat} (w0:W 0 m0 [] H2)
  (turn: ∀ i m ys H,W i m ys H->(J.stop i H/\ ∀ p,H p=none->Q (.ref p) (upd H p (.lst ys))) \/
   (J.go i H/\ys.length < sizeLine/\ ∀ x H',J.Jk i H x H'->g x (σ ++UY vars.length none) H' fun σ2 H2=>tt σ2 H2 λb H3 =>
    if b=true then te σ2 H3 λy H4=> ∃ m',m' < m/\W (i+1) m' (ys++[y]) H4 else ∃ m',m' < m/\W (i+1) m' ys H3))
  (hRR: ∀ D C s4 H4 ys m,Inv X pins σ (upd H4 D (.lst ys)) s4->s4.heap.Ns C m->H4 D=none->(upd H4 D (.lst ys)) C=none->C≠X.env.locals->X.s₀.heap.objs.size<=C->(∀ x c,X.env.cells.lookup x=some c->c≠C)->(∀ p∈X.pn++pins,p.1≠C) ->
   Q (.ref D) (upd H4 D (.lst ys))->RR (.ref D) C (.ok .next) s4) :
  wpAny (model X.prog X.w) X.A (newList []) (λacc s₃ =>wpAny (model X.prog X.w) X.A (aaO scope X.env.globals cl [] X.env.qual none .none (some X.env)) (λcenv s₄ =>
   aab (model X.prog X.w) X.A (.compStart (.ListComp elt [⟨tg,iter,ifs,0⟩] scope pos) 0 (.ref it) acc { cenv with scope:=relabel scope X.env }) (RR acc cenv.locals) s₄) E s₃) E s2:=by
 refine We (rG ?_);dsimp only;generalize hH2:s2.heap.push { cls:= .type "list",dict:=none,data:= .seq ([]:List Value).toArray }=P2;have hC:P2.objs.size=s2.heap.objs.size+1:=by rw[<- hH2,VW]
 have hDC:s2.heap.objs.size≠P2.objs.size:=by rw[hC];exact Vf (XU _)
 have hCle:s2.heap.objs.size<=P2.objs.size:=by rw[hC];exact Zy _
 have hz:(P2.push { cls:= .type "dict",data:= .dict #[] }).objs.size=P2.objs.size+1:=VW ..;have cn:=ye scope.names (P2.push { cls:= .type "dict",data:= .dict #[] }) cl;rw[hz] at cn;have ci: ∀ x y c,(Xb (P2.objs.size+1) scope.names cl).lookup x=some c->(Xb (P2.objs.size+1) scope.names cl).lookup y=some c->s2.heap.objs.size<=c->x=y:=xq scope.names (P2.objs.size+1) cl (λx y c e1 _ hl=>absurd (U0 (I2.cell x c (hc1 x c e1)).choose_spec.lt hl) (VJ _)) (λx c e=>U0 (I2.cell x c (hc1 x c e)).choose_spec.lt (Xf hCle));have cs: ∀ x,scope.names.lookup x=some .free\/scope.names.lookup x=some .cell-> ∃ c,(Xb (P2.objs.size+1) scope.names cl).lookup x=some c:=λx h=>X6.mp (Yp _ _ _ (h.elim (λz=> .inr (X6.mpr (hc2 x z))) .inl));have hns₁ :(ZY (P2.push { cls:= .type "dict",data:= .dict #[] }) scope.names).Ns P2.objs.size (λ_=>none):=(Heap.Ns.new P2 (.type "dict")).keeps (aaw _ _);have kp: ∀ b o,P2.get? b=some o->(ZY (P2.push { cls:= .type "dict",data:= .dict #[] }) scope.names).get? b=some o:=λb o e=>aaw _ _ b o (UQ _ e);generalize hh₁ :ZY (P2.push { cls:= .type "dict",data:= .dict #[] }) scope.names=h₁ at *;generalize hcl':Xb (P2.objs.size+1) scope.names cl=cl' at *;have c1: ∀ x c,cl'.lookup x=some c->(scope.names.lookup x≠some .cell/\X.env.cells.lookup x=some c)\/(scope.names.lookup x=some .cell/\P2.objs.size+1<=c/\h₁.IsCell c none):=λx c e=>by
  rcases cn x c e with⟨n,q⟩ | ⟨m,q⟩
  . exact .inl ⟨λz=>n (lookup_mem z),hc1 x c q⟩
  . exact .inr ⟨(iE (X:=X) hlc _ m).1 rfl,q⟩
 have old: ∀ b o,s2.heap.get? b=some o->h₁.get? b=some o:=λb o e=>kp b o (hH2 ▸ UQ _ e);have hacc:h₁.get? s2.heap.objs.size=some { cls:= .type "list",data:= .seq ([]:List Value).toArray 0 }:=kp _ _ (hH2 ▸ U7 _ rfl);have c1': ∀ x c,cl'.lookup x=some c->(scope.names.lookup x≠some .cell/\X.env.cells.lookup x=some c)\/(scope.names.lookup x=some .cell/\s2.heap.objs.size<=c/\h₁.IsCell c none):=λx c e=>(c1 x c e).imp id λz=>⟨z.1,Vn (Xf hCle) z.2.1,z.2.2⟩
 generalize hDe:s2.heap.objs.size=D at *;generalize hCe:P2.objs.size=C at *;have fo: ∀ b∈fp,∃ o,s2.heap.get? b=some o:=λb hb=>let ⟨o,e,_⟩:=T.obj _ _ st2 b hb;⟨o,e⟩
 have fpD: ∀ b∈fp,b < D:=λb hb=>by obtain⟨o,e⟩:=fo b hb;rw[<- hDe];exact U2 e
 have pnlt: ∀ p∈X.pn++pins,p.1 < D:=λp hp=>by rw[<- hDe];exact U2 (I2.pin p hp).1
 have cllt: ∀ x c,X.env.cells.lookup x=some c->c < D:=λx c e=>by obtain⟨v,q⟩:=I2.cell x c e;rw[<- hDe];exact q.lt
 have hLD:X.env.locals < D:=by rw[<- hDe];exact I2.lt
 have hD0:X.s₀.heap.objs.size<=D:=by rw[<- hDe];exact I2.sz
 have IY0:Inv (fJ X vars scope cl' C s2 H2 fp (X.pn++pins)) [] (σ ++UY vars.length none) H2 { s2 with heap:=h₁,toks:=s2.toks } :=
  I2.fJ hkind hlc (by rw[hDe];exact c1') cs (by rw[hDe];exact ci) f2 fo (by rw[hDe];exact hCle) hns₁ old
 have st1:tn 0 h₁ :=T.keep _ _ _ st2 λb _ o e=>old b o e;obtain⟨hg,hf,he⟩:=hb cl' C s2 H2 fp (X.pn++pins);generalize hY:fJ X vars scope cl' C s2 H2 fp (X.pn++pins)=Y at *;have Yprog:Y.prog=X.prog:=by rw[<- hY];rfl
 have Yw:Y.w=X.w:=by rw[<- hY];rfl
 have YK:Y.K=X.K:=by rw[<- hY];rfl
 have YA:Y.A=X.A:=by rw[<- hY];rfl
 have Ycalm:Y.calm=true:=by rw[<- hY];exact hc
 have Yenv:Y.env=WN scope cl' C X.env:=by rw[<- hY];rfl
 have Yloc:Y.env.locals=C:=by rw[Yenv];rfl
 have Yex:Y.ex=fp:=by rw[<- hY];rfl
 have Yfs:Y.fs=BX X.stack:=by rw[<- hY];rfl
 have Ys0:Y.s₀ =s2:=by rw[<- hY];rfl
 have YH0:Y.H₀ =H2:=by rw[<- hY];rfl
 have Ypn:Y.pn=X.pn++pins:=by rw[<- hY];rfl
 have YN:Y.N=om X.N vars:=by rw[<- hY];rfl
 have Yxe: ∀ v s,¬ Y.xe v s:=by rw[<- hY];exact hx
 have noE: ∀{E':Value->UR->Prop}{v:Value}{s:UR},Y.xe v s->E' v s:=λh=>absurd h (Yxe _ _);have Ycell: ∀ x c,Y.env.cells.lookup x=some c->c≠D:=λx c e=>by
  rw[Yenv] at e;exact(c1 x c e).elim (λz=>Vf (cllt x c z.2)) (λz=>WQ (U0 (abH hCle) z.2.1))
 have fpY: ∀{H':Hp}{pl:List (Addr × Obj)},(∀ b∈fp,H' b=none)->(∀ p∈pl,D<=p.1)-> ∀ b∈fp,oq Y pl H' b:=λ{H' pl} hn hp b hb=>by
  refine⟨hn b hb,?_,?_,.inl (by rw[Yex];exact hb),?_,?_⟩
  . rw[Yloc];exact Vf (U0 (fpD b hb) hCle)
  . rw[Yfs];intro z;rcases U1.mp (I2.m6 b z) with q | q
    . exact(f2 b hb).2.1 q
    . exact(f2 b hb).2.2.1 q
  . intro x c e z;rw[Yenv] at e;exact(c1 x c e).elim (λw=>(f2 b hb).2.2.2.2.1 x c w.2 z) (λw=>absurd (U0 (fpD b hb) (Vn (Xf hCle) (z ▸ w.2.1))) (VJ _))
  . intro p hp';rcases VT.mp hp' with q | q
    . rw[Ypn] at q;exact(f2 b hb).2.2.2.2.2 p q
    . intro z;have:=hp p q;rw[z] at this;exact absurd (U0 (fpD b hb) this) (VJ _)
 have Dfs:D ∉ Y.fs:=by
  rw[Yfs];intro z;rcases U1.mp (I2.m6 D z) with q | q
  . exact absurd hLD (by rw[q];exact VJ _)
  . exact I2.Pr (by rw[hDe];exact UT _) q
 have loop:aab (model X.prog X.w) X.A (.compLoop (.ListComp elt [⟨tg,iter,ifs,0⟩] scope pos) 0 (.ref it) (.ref D) (WN scope cl' C X.env)) (RR (.ref D) C) { s2 with heap:=h₁,toks:=s2.toks }:=by
  refine pP (λn s'=> ∃ i ys H' aj k,Inv Y [(D,{ cls:= .type "list",data:= .seq aj k })] (σ ++UY vars.length none) H' s'/\tn i s'.heap/\(∀ b∈fp,H' b=none)/\W i n ys H'/\Vals ys aj.toList/\ys.length<=sizeLine) ?_ m0
   ⟨0,[],H2,_,0,IY0.jL (λp hp=>?_),st1,λb hb=>(f2 b hb).1,w0,.nil,VM _⟩
  . rintro n s3 ⟨i,ys,H3,aj,k,I3,mn,fr3,w3,hv,hlen⟩;rcases turn i n ys H3 w3 with⟨stop,q⟩ | ⟨go,hlt,step⟩
    . have d:=T.done Y Yprog Yw YK Ycalm i _ s3 _ H3 (notedBy (model X.prog X.w) X.A (WN scope cl' C X.env) λe s'=>RR (.ref D) C (.error e) s') I3 (fpY fr3 (by intro p hp;rw[VL.mp hp];exact UT _)) mn stop;rw[YA] at d;refine VB d (λr s4 hr=>?_) λ_ _ z=>z;obtain⟨rfl,I4⟩:=hr;obtain⟨eD,nD,_,_,_⟩:=I4.pin (D,_) (Vl _ U3);dsimp only at eD nD;obtain⟨m,hnC,_⟩:=I4.loc;rw[Yloc] at hnC;have hb4:=I4.base;rw[Yfs,Yex,YH0,Ys0] at hb4;have hok4:=I4.bA;rw[Yprog,Yw] at hok4;have hCf:=I4.free;rw[Yloc] at hCf;have neD: ∀ b o,s2.heap.get? b=some o->b≠D:=λb o e=>by rw[<- hDe];exact Vf (U2 e)
      have IX:Inv X pins σ (upd H3 D (.lst ys)) s4:=by
       refine I2.P8 (ch:=fp) (I4.os.trans (by rw[Ys0])) ⟨hb4.keep,hb4.slot,λb o e n hx'=>?_,hb4.there,λb xs e=>?_,λb o u e=>?_,λb ps e=>?_⟩ (λb u e=>?_) I4.bare (λb hb'=>?_)
       . rw[aD (neD b o e)];exact hb4.free b o e n hx'
       . rw[aD (aF (hb4.mK b xs e) nD)];exact hb4.mK b xs e
       . rw[aD (aF (hb4.lQ b o u e) nD)];exact hb4.lQ b o u e
       . obtain⟨more,e'⟩:=hb4.nY b ps e;exact⟨more,by rw[aD (aF e' nD)];exact e'⟩
       . by_cases hbD:b=D
         . subst hbD;rw[bh] at e;cases e;exact⟨hlen,aj.toList,k,hv,by simpa using eD⟩
         . rw[aD hbD] at e;exact(hok4 b u e).uH (λc v _ z=>z) (λc z=>by rw[aD (aF z nD)];exact z) λc xs z=>by rw[aD (aF z nD)];exact z
       . have f:=f2 b hb';exact⟨f.2.2.2.1,f.2.1,f.2.2.2.2.1,f.2.2.2.2.2⟩
      refine hRR D C s4 H3 ys m IX hnC nD (by rw[aD (Xj hDC)];exact hCf) (WQ (U0 hLD hCle)) (Vn hD0 hCle) (λx c e=>Vf (U0 (cllt x c e) hCle)) (λp hp=>Vf (U0 (pnlt p hp) hCle)) (q D nD)
    . have d:=T.item Y Yprog Yw YK Ycalm i _ s3 _ H3 (notedBy (model X.prog X.w) X.A (WN scope cl' C X.env) λe s'=>RR (.ref D) C (.error e) s') I3 (fpY fr3 (by intro p hp;rw[VL.mp hp];exact UT _)) mn go;rw[YA] at d;refine VB d (λr s4 hr=>?_) λ_ _ z=>z;obtain⟨u,rfl,h4⟩:=hr;refine VB h4 (λ_ s5 h5=>?_) λ_ _ z=>z;obtain⟨x,H5,I5,r5,y5,st5,fr5⟩:=h5;have I5':=I5.pinned (fpY fr5 (by intro p hp;rw[VL.mp hp];exact UT _)) (T.obj _ _ st5);have a1:=hg _ s5 _ H5 x u _ I5' r5 (hgk _ _ _ _ (step x H5 y5));rw[Yprog,Yw,YA,Yenv] at a1;refine VB a1 (λ_ s6 h6=>?_) λ_ _ z=>noE z;obtain⟨σ6,H6,I6,q6,k6⟩:=h6;have a2:=hf _ s6 σ6 H6 _ I6 q6;rw[Yprog,Yw,YA,Yenv] at a2;have back: ∀{pl:List (Addr × Obj)}{H':Hp}{s':UR},Inv Y pl σ6 H' s'->Inv Y pl (σ ++UY vars.length none) H' s':=λ{pl H' s'} I'=>by
       refine I'.weak ?_ λj v e=>?_
       . rw[I'.len,<- I3.len]
       . by_cases hj:j < σ.length
         . rw[k6 j (by rw[<- I2.len];exact hj)];exact e
         . rw[Vq (abw.mp hj),Xp] at e;split at e<;>cases e
      refine VB a2 (λok s7 h7=>?_) λ_ _ z=>noE z;obtain⟨H7,I7,q7⟩:=h7;cases ok with
      | false =>
       rw[if_neg Vb] at q7
       unfold xN
       rw[if_neg (show ¬ false=true from Vb)]
       obtain⟨m',hm',w7⟩:=q7
       refine⟨m',hm',i+1,ys,H7,aj,k,(back I7).jL (λp hp=>I7.pin p (Vl _ (XQ _ hp))),T.keep _ _ _ st5 λb hb' o e=>(I7.pin (b,o) (Vl _ (Vl _ (eN hb' e)))).1,λb hb'=>?_,w7,hv,hlen⟩
       obtain⟨o,e,_⟩:=T.obj _ _ st5 b hb'
       exact(I7.pin (b,o) (Vl _ (Vl _ (eN hb' e)))).2.1
      | true =>
       rw[if_pos rfl] at q7
       unfold xN
       rw[if_pos (show true=true from rfl)]
       have a3:=he _ s7 σ6 H7 _ I7 q7
       rw[Yprog,Yw,YA,Yenv] at a3
       refine VB a3 (λy s8 h8=>?_) λ_ _ z=>noE z
       obtain⟨v,H8,I8,r8,m',hm',w8⟩:=h8
       obtain⟨eD,nD,neL,nfD,dD⟩:=I8.pin (D,_) (Vl _ (XQ _ U3))
       dsimp only at eD nD neL nfD dD
       refine append_at (hsz:=by have:=hv.length;simp at this;omega) eD λh9 hs9 e9=>?_
       have st8:tn (i+1) s8.heap:=T.keep _ _ _ st5 λb hb' o e=>(I8.pin (b,o) (Vl _ (Vl _ (eN hb' e)))).1
       have fr8: ∀ b∈fp,H8 b=none:=λb hb'=>by
        obtain⟨o,e,_⟩:=T.obj _ _ st5 b hb';exact(I8.pin (b,o) (Vl _ (Vl _ (eN hb' e)))).2.1
       have I8':Inv Y [] (σ ++UY vars.length none) H8 s8:=(back I8).jL λp hp=>nomatch hp
       have I9:=I8'.turned (it:=D) (h':=h9) (t':=s8.toks) (λb o hb' e=>hs9.extBut b o hb' e) nD neL (.inr (by rw[Ys0,hDe];exact UT _)) (λx c e=>Ycell x c e) (λp hp=>by
        rw[VF,Ypn] at hp;exact Vf (pnlt p hp))
       refine⟨m',hm',i+1,ys++[v],H8,aj.push y,k+1,I9.jL (λp hp=>?_),T.keep _ _ _ st8 λb hb' o e=>hs9.extBut b o (Vf (fpD b hb')) e,fr8,w8,?_,?_⟩
       . obtain rfl:=VL.mp hp;exact⟨e9,nD,neL,nfD,λv=>by simp⟩
       . rw[Array.toList_push];exact Vals.append hv (.cons r8 .nil)
       . rw[U5,Yx];exact hlt
  . obtain rfl:=VL.mp hp;refine⟨hacc,I2.bA.fresh (by rw[hDe];exact UT _),?_,Dfs,λv=>by simp⟩;rw[Yloc];exact hDC
 exact codeAny_compStart_list loop (T.self _ 0 _ _ _ st1 loop)
end
section
variable{X:Cx}{scope:Scope}{vars:List Str}{elt tg iter:Expr}{ifs:List Expr}{pos spos py:Pos}{wi:TI}{g:TG}{tt:TT}{te:TE}{i:Nat}{y:Str}
theorem ET(vars:List Str)(hc:X.calm=true)(hx: ∀ v s,¬ X.xe v s)(hkind:scope.kind= .function)(hlc:i6 scope.names X.env.scope.names X.N vars=true)(hi:PI X tg iter wi)
  (hb: ∀ cl C s₀ H₀ ex pn,PG (fJ X vars scope cl C s₀ H₀ ex pn) tg g/\PF (fJ X vars scope cl C s₀ H₀ ex pn) ifs tt/\PE (fJ X vars scope cl C s₀ H₀ ex pn) elt te) (hgk:GK X.N.length g)
  (hs: ∀ x,VP iter X.env x=pure x:=by intro _;rfl):PE X (.ListComp elt [⟨tg,iter,ifs,0⟩] scope pos) (R6 vars.length wi g tt te):=by
 intro pins s σ H Q I h;obtain⟨cl,hcl,hc1,hc2⟩:=pL (env:=X.env) (scope:=scope) λp hp hf=>I.ok.has p.1 ((iE (X:=X) hlc p hp).2.1 hf);rw[eval_ListComp];refine ZJ (use:=none) rfl hs hcl hkind (λp hp=>(iE (X:=X) hlc p hp).2.2) ?_;refine VB (hi pins s σ H _ I h) (λv s1 h1=>VB h1 (λitv s2 h2=>?_) λ_ _ z=>z) λ_ _ z=>z;obtain⟨it,fp,tn,J,H2,rfl,I2,T,st2,f2,W,⟨m0,w0⟩,turn⟩:=h2;refine qc (Q:=Q) (RR:=λacc C=>compPost (model X.prog X.w) X.A X.xe none (EP X pins σ Q) acc C) hc hx hkind hlc hb hgk hc1 hc2 I2 T st2 f2 w0 turn ?_;intro D C s4 H4 ys m I4 hn nD nC neL hsz hcell hpin q;refine⟨m,hn,λh' hs'=>⟨.ref D,_,I4.turned (it:=C) (t':=s4.toks) (λb o hb e=>hs'.extBut b o hb e) nC neL (.inr hsz) hcell hpin,rfl,q⟩⟩
noncomputable def EI(k i:Nat)(wi:TI)(g:TG)(tt:TT)(te:TE):TS:=λD σ H=>R6 k wi g tt te σ H λv H1=>D.nx (σ.set i (some v)) H1
theorem Dr(vars:List Str)(i:Nat)(hc:X.calm=true)(hx: ∀ v s,¬ X.xe v s)(hkind:scope.kind= .function)(hlc:i6 scope.names X.env.scope.names X.N vars=true)(hN:X.N.Nodup)(hiy:X.N[i]?=some y)(hy:Loc X.env.scope y)
  (hi:PI X tg iter wi)
  (hb: ∀ cl C s₀ H₀ ex pn,PG (fJ X vars scope cl C s₀ H₀ ex pn) tg g/\PF (fJ X vars scope cl C s₀ H₀ ex pn) ifs tt/\PE (fJ X vars scope cl C s₀ H₀ ex pn) elt te) (hgk:GK X.N.length g)
  (hsw:XF (.ListComp elt [⟨tg,iter,ifs,0⟩] scope pos) (some (.Name y py)) spos.line X.env=pure true:=by rfl)
  (hs: ∀ x,VP iter X.env x=pure x:=by intro _;rfl)
  (hf:X.fn y=true\/X.env.scope.names.lookup y=some .local:=by first | exact .inl rfl | exact .inr rfl | assumption) :
  PS X (.Assign [.Name y py] (.ListComp elt [⟨tg,iter,ifs,0⟩] scope pos) spos) (EI vars.length i wi g tt te):=by
 intro pins s σ H Dn I h;obtain⟨cl,hcl,hc1,hc2⟩:=pL (env:=X.env) (scope:=scope) λp hp hf=>I.ok.has p.1 ((iE (X:=X) hlc p hp).2.1 hf);rw[exec_Assign_Name_used _ _ _ _ hsw];refine UN (abf (UN ?_));show wpAny _ X.A (do let _ <- comprehension (.ListComp elt [⟨tg,iter,ifs,0⟩] scope pos) scope X.env _ (newList []) false (eval iter X.env) (some (Yn (.Name y py) X.env))) _ _ s;refine UN (VB (ZJ (use:=some (Yn (.Name y py) X.env)) (Q:=λ_ s'=>SP X pins Dn .next s') rfl hs hcl hkind (λp hp=>(iE (X:=X) hlc p hp).2.2) ?_) (λ_ s' hq=>UZ (UZ hq)) λ_ _ e=>e);refine VB (hi pins s σ H _ I h) (λv s1 h1=>VB h1 (λitv s2 h2=>?_) λ_ _ z=>z) λ_ _ z=>z;obtain⟨it,fp,tn,J,H2,rfl,I2,T,st2,f2,W,⟨m0,w0⟩,turn⟩:=h2;refine qc (Q:=λv H1=>Dn.nx (σ.set i (some v)) H1) (RR:=λacc C=>compPost (model X.prog X.w) X.A X.xe (some (Yn (.Name y py) X.env)) (λ_ s'=>SP X pins Dn .next s') acc C) hc hx hkind hlc hb hgk hc1 hc2 I2 T st2 f2 w0 turn ?_;intro D C s4 H4 ys m I4 hn nD nC neL hsz hcell hpin q;show wpAny _ X.A (Yn (.Name y py) X.env (.ref D)) _ _ s4;refine wpAny_assign_Name (sM I4 hN hiy hy (v:= .ref D) rfl (λs5 I5 ⟨a,hsb,ha⟩=>?_) hf);have hCa:C≠a:=by
  rcases ha with z | z
  . rw[z];exact neL
  . exact Xj (hcell _ _ z)
 refine⟨m,hn.sameBut hsb hCa,λh' hs'=>?_⟩;exact⟨_,_,I5.turned (it:=C) (t':=s5.toks) (λb o hb e=>hs'.extBut b o hb e) nC neL (.inr hsz) hcell hpin,q⟩
end
theorem K7{K:UL}{a:Addr}{xs:List V}{k:Nat}{g:TG}{tt:TT}{te:TE}{σ :St}{H:Hp}{Q:VK}(Pv:Nat->List V->Hp->Prop)(h0:Pv 0 [] H)(hl: ∀ i ys H,i<=xs.length->Pv i ys H->fq K H a xs/\ys.length<=i)(hz:xs.length<=sizeLine)
  (hs: ∀ i x ys H,xs[i]?=some x->Pv i ys H->g x (σ ++UY k none) H fun σ2 H2=>tt σ2 H2 λb H3=>if b=true then te σ2 H3 λy H4=>Pv (i+1) (ys++[y]) H4 else Pv (i+1) ys H3)
  (hd: ∀ ys H,Pv xs.length ys H-> ∀ p,H p=none->Q (.ref p) (upd H p (.lst ys)))
  (gm:tQ g) (tm: ∀ σ H Q Q',(∀ b H1,Q b H1->Q' b H1)->tt σ H Q->tt σ H Q') (em: ∀ σ H Q Q',(∀ b H1,Q b H1->Q' b H1)->te σ H Q->te σ H Q') :
  ∃ W:Nat->Nat->List V->Hp->Prop,(∃ m,W 0 m [] H)/\ ∀ i m ys H,W i m ys H ->
 ((CW K a).stop i H/\ ∀ p,H p=none->Q (.ref p) (upd H p (.lst ys))) \/
 ((CW K a).go i H/\ys.length < sizeLine/\ ∀ x H',(CW K a).Jk i H x H'->g x (σ ++UY k none) H' fun σ2 H2=>tt σ2 H2 λb H3 =>
  if b=true then te σ2 H3 λy H4=> ∃ m',m' < m/\W (i+1) m' (ys++[y]) H4 else ∃ m',m' < m/\W (i+1) m' ys H3):=by
 refine⟨λi m ys H=>m=xs.length - i/\i<=xs.length/\Pv i ys H,⟨xs.length,by simp,VM _,h0⟩,?_⟩
 rintro i m ys H ⟨rfl,hi,p⟩
 obtain⟨q,hy⟩:=hl i ys H hi p
 by_cases hlt:i < xs.length
 . refine .inr ⟨⟨xs,xs[i],q,by simp[hlt]⟩,by omega,λx H' y=>?_⟩;obtain⟨e,y⟩:=y;subst e;refine gm _ _ _ _ _ (fun σ2 H2 z=>tm _ _ _ _ (λb H3 z=>?_) z) (hs i x ys _ (y xs q) p);cases b with
   | true =>
    rw[if_pos rfl] at z ⊢
    exact em _ _ _ _ (λv H4 w=>⟨xs.length - (i+1),by omega,rfl,hlt,w⟩) z
   | false =>
    rw[if_neg Vb] at z ⊢
    exact⟨xs.length - (i+1),by omega,rfl,hlt,z⟩
 . have e:i=xs.length:=by omega
   subst e;exact .inl ⟨⟨xs,q,UT _⟩,hd ys H p⟩
theorem vP{X:Cx}:aT X (.builtin "isinstance") (λxs H Q=> ∃ x T t b,xs=[x,.ty T]/\jY X.K H x t/\Ze X.K t (.type T)=some b/\Q (.bl b) H):=by
 intro pins s σ H xs us Q I r h;obtain⟨x,T,t,b,rfl,ty,k,q⟩:=h;obtain⟨u,c,rfl,ru,rc⟩:=vals2 r;cases(show c=XO T from rc);exact Bw I ru ty k λtk=>⟨.bl b,H,I.tok tk,rfl,q⟩
theorem aY.get{P:Vg}{w:World}{H:Hp}{h:Heap}{a:Addr}{o:HO}(x:aY P w H h a o): ∃ ob,h.get? a=some ob:=by
 induction o with
 | lst xs=>obtain⟨_,aj,n,_,e⟩:=x;exact⟨_,e⟩
 | tup xs=>obtain⟨_,aj,_,ob,e,_⟩:=x;exact⟨_,e⟩
 | dK kvs=>obtain⟨_,_,vs,_,ob,es,ep,e,_⟩:=x;exact⟨_,e⟩
 | dT kvs=>obtain⟨_,_,xs,_,ob,es,ep,e,_⟩:=x;exact⟨_,e⟩
 | set S n=>obtain⟨ob,es,ep,t,e,_⟩:=x;exact⟨_,e⟩
 | ins C dx fs=>obtain⟨_,_,_,e,_⟩:=x;exact⟨_,e⟩
 | own y=>exact x
 | xd fs=>obtain⟨mA,⟨od,es,ep,e,_⟩,_⟩:=x;exact⟨_,e⟩
 | rS lo hi=>obtain⟨t,u,v,e⟩:=x;exact⟨_,e⟩
 | kK ob u ih=>obtain⟨e,_⟩:=x;exact⟨_,e⟩
 | tbl ps=>exact⟨_,x⟩
 | met f y=>exact⟨_,x⟩
 | ext φ =>obtain⟨_,e,_⟩:=x;exact e
theorem Inv.mC{X:Cx}{pins:List (Addr × Obj)}{σ :St}{H:Hp}{s:UR}{h':Heap}{a:Addr}{o:HO}{t':Nat}(I:Inv X pins σ H s)(k: ∀ b u,s.heap.get? b=some u->h'.get? b=some u)(hp:s.heap.get? a=none)(new:aY X.prog X.w (upd H a o) h' a o) :
  H a=none/\Inv X pins σ (upd H a o) { s with heap:=h',toks:=t' }:=by
 have hn:H a=none:=by
  cases q:H a with
  | none=>rfl
  | some u =>
   obtain⟨ob,e⟩:=(I.bA a u q).get
   rw[hp] at e;cases e
 have ne: ∀ b u,s.heap.get? b=some u->b≠a:=λb u e z=>by rw[z,hp] at e;cases e
 refine⟨hn,I.un ⟨λb u q _ _ _=>k b u q,λb u q _ _ _=>⟨u.slots,k b u q⟩,λb u q n _=>?_,λb u q _=>⟨u,k b u q⟩,λb xs q=>?_,λb u xs q=>?_,λb ps q=>?_⟩ λb u e=>?_⟩
 . rw[aD (ne b u q)];exact n
 . rw[aD (aF q hn)];exact q
 . rw[aD (aF q hn)];exact q
 . exact⟨#[],by rw[aD (aF q hn),q];simp⟩
 . by_cases hb:b=a
   . subst hb;rw[bh] at e;cases e;exact new
   . rw[aD hb] at e;exact(I.bA b u e).uH (λc v _ q=>k c v q) (λc q=>by rw[aD (aF q hn)];exact q) λc xs q=>by rw[aD (aF q hn)];exact q
theorem nq{h h':Heap}(k: ∀ b o,h.get? b=some o->h'.get? b=some o):h.get? h'.objs.size=none:=by
 cases q:h.get? h'.objs.size with
 | none=>rfl
 | some o=>exact absurd (U2 (k _ _ q)) (VJ _)
section
variable{prog:Vg}{w:World}{A:Vz}{E:Value->UR->Prop}{s:UR}
theorem kY{a:Addr}{vs:List Value}{ss:List Str}{n:Nat}{Q:Value->UR->Prop}(ho:s.heap.get? a=some (Xu "list" vs.toArray n))(hS:Y5 vs ss)(h64:vs.length < 64)
  (h: ∀(out:Array Value)(ss':List Str),Y5 out.toList ss'->ss'.Perm ss->ZA ss'=true->Q .none { s with heap:=aak s.heap a vs out }) :
  wpAny (model prog w) A (call (.builtin "list.sort") [.ref a]) Q E s:=by
 refine WC aaH ⟨_,ho,rfl⟩ aax (list_sort_treeK strKind_oneLt ho hS.keysOf (λv₁ v₂ rest e=>keyKind_strs (by rw[<- e];exact hS)) h64 λst' hp hs=>⟨_,rfl,?_⟩) (aaI _);have z:=sorted_out_str hS hp hs;exact h _ z.choose z.choose_spec.1 z.choose_spec.2.1 z.choose_spec.2.2
theorem ya{T:String}{r d:Addr}{n:Nat}{P:Nat->Value->Prop}{OK:Heap->Prop}{Q:Value->UR->Prop}(K:PySem.W.KdlSrc prog w T r d n P OK)(hh:A.handled=none)(bA:OK s.heap)(hn:n<=sizeLine)
  (h: ∀(D:Addr)(h':Heap)(tk:Nat)(vs:List Value),(∀ b o,s.heap.get? b=some o->h'.get? b=some o)->h'.get? D=some (Xu "list" vs.toArray 0)->s.heap.get? D=none->vs.length=n->(∀(j:Nat)(v:Value),vs[j]?=some v->P j v) ->
   wpAny (model prog w) A.in1 (call (.builtin "list.sort") [.ref D]) (λ_ z=>Q (.ref D) z) E { s with heap:=h',toks:=tk }):wpAny (model prog w) A (call (.builtin "sorted") [.ref r]) Q E s:=by
 refine XY acb abI abJ (abK (.ref r)) ?_;unfold Xv.«sorted»;refine UN (m:=checkCount "sorted" 1 1 [Ve r].length) (UZ (UN (PySem.W.kdu_collect (A:=A.in1) K hh bA hn λh' tk acc hk hacc=>?_)));have many:acc.toList.length=n:=Wy.trans hacc.1;refine UN (YI (UN (Ws (VB (h h'.objs.size (h'.push { cls:= .type "list",data:= .seq acc.toList.toArray }) tk acc.toList (λb o e=>UQ _ (hk b o e)) (U7 _ rfl) (nq hk) many
  λj v e=>hacc.2 j v (XH ▸ e)) (λ_ z q=>UZ (acC _ (ab0 rfl q))) λ_ _ e=>e))) (many ▸ hn))
end
theorem gj{ss:List Str}: ∀{us:List Value},Vals (ss.map V.str) us->Y5 us ss:=by
 induction ss with
 | nil=>intro us h;cases h;exact .nil
 | cons x r ih =>
  intro us h
  cases h with
  | cons hx ht =>
   obtain⟨t,rfl⟩:=hx
   exact .cons x t (ih ht)
theorem jF: ∀{us:List Value}{ss:List Str},Y5 us ss->Vals (ss.map V.str) us
 | _,_,.nil=> .nil
 | _,_,.cons x t h=> .cons ⟨t,rfl⟩ (jF h)
theorem zM{P:Nat->Value->Prop}: ∀{ss:List Str}{vs:List Value},vs.length=ss.length->(∀(j:Nat)(v:Value)(x:Str),vs[j]?=some v->ss[j]?=some x-> ∃ t,v=YC x t)->Y5 vs ss
 | [],[],_,_=> .nil
 | x::r,v::vs,hl,h=>by
  obtain⟨t,rfl⟩:=h 0 v x rfl rfl;exact .cons x t (zM (P:=P) (by simpa using hl) λj v y e1 e2=>h (j+1) v y (by simpa using e1) (by simpa using e2))
section
variable{X:Cx}
theorem nj:aT X (.builtin "sorted") (λxs H Q=> ∃ p ss,xs=[.ref p]/\iY X.K H p (ss.map V.str)/\ss.length < 64/\ ∀ l ss',H l=none->ss'.Perm ss->ZA ss'=true->Q (.ref l) (upd H l (.lst (ss'.map V.str)))):=by
 intro pins s σ H xs us Q I r h;obtain⟨p,ss,rfl,hS,h64,q⟩:=h;obtain⟨u,rfl,ru⟩:=vals1 r;cases(show u=Ve p from ru);obtain⟨aj,hv,hl,hz⟩:=I.list hS;have sa:=gj hv;refine sorted_strs hl.isList sa (by rw[sa.length];exact h64) λout ss' a1 a2 a3=>?_;obtain⟨e,he⟩:=abL s.heap aj out;have hlen:(ss'.map V.str).length<=sizeLine:=by rw[UO,a2.length_eq];exact WO (U0 h64 (by decide))
 obtain⟨hn,I'⟩:=I.mC (a:=s.heap.objs.size+1) (o:= .lst (ss'.map V.str)) (t':=s.toks) (λb o e=>abh e) (WH (Zy _)) ⟨hlen,out.toList,e,jF a1,by simpa [Xu] using he⟩;exact⟨.ref _,_,I',rfl,q _ ss' hn a2 a3⟩
theorem m7(hc:X.calm=true):aT X (.builtin "sorted") (λxs H Q=> ∃ d kvs ss,xs=[.ref d]/\H d=some (.dK kvs)/\kvs.map (·.1)=ss.map WA/\ss.length < 64/\ ∀ l ss',H l=none->ss'.Perm ss->ZA ss'=true->Q (.ref l) (upd H l (.lst (ss'.map V.str)))):=by
 intro pins s σ H xs us Q I r h;obtain⟨d,kvs,ss,rfl,hd,hk,h64,q⟩:=h;obtain⟨u,rfl,ru⟩:=vals1 r;cases(show u=Ve d from ru);obtain⟨z,lo,vs,rel,dd⟩:=vR I.bA hd;obtain⟨ep,da⟩:=dd.dictAt;have hlen:vs.length=ss.length:=by
  have e1:=rel.length;have e2:(kvs.map (·.1)).length=(ss.map (WA (α :=Int))).length:=by rw[hk]
  rw[UO,UO] at e2;omega
 refine ya (PySem.W.kdl_dict (knd:=aN X.prog X.w) (kvs:=vs) (ep:=ep) lo) (I.ok.hd hc) da (by rw[hlen];exact WO (U0 h64 (by decide))) λD h' tk ws keep hD hDn hl hP=>?_;have sa:Y5 ws ss:=by
  refine zM (P:=λ_ _=>True) (by rw[hl,hlen]) λj v x e1 e2=>?_;obtain⟨k,y,e3,hk'⟩:=hP j v e1;have e4:(kvs.map (·.1))[j]?=some k:=by
   have e5:=rel.keys;rw[e5,U8,e3];rfl
  rw[hk,U8,e2] at e4;have e6:(WA x:Key)=k:=VE e4;subst e6;rcases bM (show oK (WA x) v=true from hk') with⟨i,t,z,_⟩ | ⟨x',t,z,e⟩
  . cases z
  . cases z;exact⟨t,e⟩
 refine kY (n:=0) hD sa (by rw[hl,hlen];exact h64) λout ss' a1 a2 a3=>?_;obtain⟨e,he⟩:=sortedHeap_at (out:=out) hD;have hle:(ss'.map V.str).length<=sizeLine:=by rw[UO,a2.length_eq];exact WO (U0 h64 (by decide))
 have keep': ∀ b o,s.heap.get? b=some o->(aak h' D ws out).get? b=some o:=λb o e=>by
  rw[sortedHeap_old (λz=>by rw[z,hDn] at e;cases e) (U2 (keep b o e))];exact keep b o e
 obtain⟨hn,I'⟩:=I.mC (a:=D) (o:= .lst (ss'.map V.str)) (t':=tk) keep' hDn ⟨hle,out.toList,e,jF a1,by simpa [Xu] using he⟩;exact⟨.ref _,_,I',rfl,q _ ss' hn a2 a3⟩
end
section
variable{prog:Vg}{w:World}{A:Vz}{E:Value->UR->Prop}{s:UR}
theorem qO:typeLookup (.type "tuple") "keys" =pure none:=am_miss_of_fast (by decide +kernel)
set_option maxHeartbeats 4500000 in
set_option maxRecDepth 9000 in
theorem qG{a:Addr}{o:Obj}{xs:Array Value}{k:Nat}{Q:Option Value->UR->Prop}
  (hx:s.heap.get? a=some o) (hc:o.cls= .type "tuple") (hdat:o.data= .seq xs k) (hd:o.dict=none) (hA:A.handled=none)
  (h: ∀ h' tk,(∀ b o,s.heap.get? b=some o->h'.get? b=some o)->Q none { s with heap:=h',toks:=tk }):wpAny (model prog w) A (getAttr? (.ref a) "keys") Q E s:=by
 obtain⟨c,dct,dat,sl⟩:=o;simp only at hc hdat hd;subst hc hdat hd;obtain⟨h0,gs,dr,t0,o0⟩:=s;have hT: ∀ k,(Shared.mk h0 gs dr k o0).TypeIs (.ref a) "tuple" :=λ_=>acC _ (ab0 hx rfl);have f1:=sub_AttributeError;have f3:=F.slot_tuple_getattribute.lookup;have f4:=F.slot_tuple_getattribute.bind (.ref a);have f5:=am_tuple_getattr_none;unfold getAttr?;unfold getAttrBy?;unfold getAttrBy
 repeat (any_goals (first | assumption | exact hT _ | ((with_reducible show wpAny _ _ (call (Value.builtin "tuple.__getattribute__") _ _) _ _ _);refine WL F.slot_tuple_getattribute (hT _) am_entry_tuple_getattribute (F.args_tuple_getattribute_2 _ _) (meets_getattribute_miss_tuple a xs k sl "keys" _ qO (by decide +kernel)) ⟨hx,hA,λh' tk' e hx'=>?_⟩) | wp_step))
 obtain⟨_,_,he⟩:=hx'.there
 with_reducible_and_instances unfold getattributeRaised
 repeat (any_goals (first | exact he | assumption | wp_step))
 exact h _ _ λb o e=>hx'.keeps b o e
end
section
variable{prog:Vg}{w:World}{A:Vz}{E:Value->UR->Prop}{s:UR}
theorem gG:entryFor table "dict.update.loop" =some Xv.«dict.update.loop» :=entryFor_of_tree (by kernel_rfl)
theorem cM:plainId "dict.update.loop" =true:=by decide +kernel
theorem Ss{c:Prop}[Decidable c]{m m':Sem α}{M:Model}{Q: α ->UR->Prop}(hc:c)(h:wpAny M A m Q E s):wpAny M A (if c then m else m') Q E s:=by rw[if_pos hc];exact h
noncomputable def mD(prog:Vg)(w:World)(h:Heap)(v:Value)(kv:Key × Value):Prop:= ∃ b o kx n,v= .ref b/\h.get? b=some o/\o.cls= .type "tuple" /\o.data= .seq #[kx,kv.2] n/\(aN prog w).is kv.1 kx=true
theorem mD.keeps{h h':Heap}{v:Value}{kv:Key × Value}(x:mD prog w h v kv)(k: ∀ b o,h.get? b=some o->o.cls= .type "tuple" ->h'.get? b=some o):mD prog w h' v kv :=
 let ⟨b,o,kx,n,e,g,c,d,r⟩:=x;⟨b,o,kx,n,e,k b o g c,c,d,r⟩
theorem wC{R:Result->UR->Prop}{it tp d:Addr}{items:Array Value}{kvs:List (Key × Value)}{res:Value}(hh:A.handled=none)(hne:tp≠it)(hdi:d≠it)(hdt:d≠tp)(hl:kvs.length=items.size)(hz:items.size < sizeLine) :
  ∀(k i:Nat)(ii:Int)(s:UR)(acc:List (Key × Value)),items.size - i=k->i<=items.size->acc.length<=i->s.heap.IsTupleIter it tp i->s.heap.IsTuple tp items->s.heap.DictOf (aN prog w) d acc->(∃ od,s.heap.get? d=some od/\od.cls= .type "dict")->(∃ oi,s.heap.get? it=some oi/\oi.cls= .type "tuple_iterator") ->
   (∀(j:Nat)(v:Value)(kv:Key × Value),items[j]?=some v->kvs[j]?=some kv->mD prog w s.heap v kv) ->
   (∀ s' ,s'.heap.DictOf (aN prog w) d (merged acc (kvs.drop i))->(∃ h' tk,s'={ s with heap:=h',toks:=tk })->(∀ b o,b≠d->b≠it->s.heap.get? b=some o->s'.heap.get? b=some o)->R (.ok (.ret res)) s') ->
   aab (model prog w) A (.builtin "dict.update.loop" ⟨[.ref d,.ref it,.int ii 0,res],[]⟩) R s:=by
 have W:=Walks.tuple (prog:=prog) (w:=w) (A:=A.in1) hh it tp hne items;intro k
 induction k with
 | zero =>
  intro i ii s acc hk hi hac hit htp hd hdc hic hP hR
  obtain rfl:i=items.size:=Nat.le_antisymm hi (by omega)
  refine YV gG ?_
  rw[aaP cM _]
  show wpAny _ A.in1 (abW (.ref it) >>= _) _ _ s
  refine UN (W.done s _ _ ⟨hit,htp⟩ λh' tk keep=>?_)
  refine UN (m:=ZK d []) (UZ ?_)
  refine UZ (hR _ ?_ ⟨h',tk,rfl⟩ λb o _ hb e=>keep b o (by simpa using hb) e)
  rw[V9 (by omega)]
  exact hd.at λo e=>keep d o (by simpa using hdi) e
 | succ k ih =>
  intro i ii s acc hk hi hac hit htp hd hdc hic hP hR
  have hlt:i < items.size:=Nat.lt_of_le_of_ne hi (by omega)
  refine YV gG ?_
  rw[aaP cM _]
  show wpAny _ A.in1 (abW (.ref it) >>= _) _ _ s
  refine UN (W.item i s _ _ hlt ⟨hit,htp⟩ λv h' tk hv hst keep=>?_)
  have hkv:i < kvs.length:=by omega
  obtain⟨b,o,kx,n,rfl,hb,hc,hdat,his⟩:=hP i v kvs[i] hv (by simp[hkv])
  have hbi:b≠it:=λz=>by
   obtain⟨oi,e1,e2⟩:=hic;rw[z,e1] at hb;cases hb;rw[e2] at hc;exact absurd hc (by decide)
  have hb':h'.get? b=some o:=keep b o (by simpa using hbi) hb
  have hT:(({ s with heap:=h',toks:=tk }:UR)).TypeIs (.ref b) "tuple" :=⟨o,hb',hc⟩
  have hd':h'.DictOf (aN prog w) d acc:=hd.at λo e=>keep d o (by simpa using hdi) e
  dsimp only
  refine UN (Ws (UN (wpAny_tryCatch ?_)))
  unfold Builtin.Dict.pairItems
  refine UN (XW hT (Ss (by decide) (UN (WI hb' hdat (UZ ?_)))))
  show wpAny _ _ (Y0 [kx,kvs[i].2] (dictSet d kx kvs[i].2)) _ _ _
  refine Ws (wpAny_dictSet_pairs (hsz:=by omega) his hd' λh'' dd hs=>?_)
  obtain⟨od,hod,hodc⟩:=hdc
  have hbd:b≠d:=λz=>by rw[z,hod] at hb;cases hb;rw[hodc] at hc;exact absurd hc (by decide)
  have keep2: ∀ b o,b≠d->b≠it->s.heap.get? b=some o->h''.get? b=some o:=λb o h1 h2 e=>(hs.2 b h1).trans (keep b o (by simpa using h2) e)
  refine UZ ⟨plainId_quiet cM _,?_⟩
  refine ih (i+1) (ii+1) _ (stored acc kvs[i].1 kvs[i].2) (by omega) hlt (Vn (stored_length_le _ _ _) (by omega)) (hst.1.at λo e=>(hs.2 it (Xj hdi)).trans e) (htp.at λo e=>keep2 tp o (Xj hdt) hne e) dd ?_ ?_ ?_ ?_
  . obtain⟨q,es,ep,e1,e2,_⟩:=dd;exact⟨q,e1,e2.1⟩
  . obtain⟨oi,e1,e2,_⟩:=hst.1;exact⟨oi,(hs.2 it (Xj hdi)).trans e1,e2⟩
  . intro j v kv e1 e2;refine(hP j v kv e1 e2).keeps λb' o' e3 e4=>keep2 b' o' (λz=>?_) (λz=>?_) e3
    . rw[z,hod] at e3;cases e3;rw[hodc] at e4;exact absurd e4 (by decide)
    . obtain⟨oi,f1,f2⟩:=hic;rw[z,f1] at e3;cases e3;rw[f2] at e4;exact absurd e4 (by decide)
  . rintro s' dd' ⟨h3,tk3,rfl⟩ keep3;refine hR _ ?_ ⟨h3,tk3,rfl⟩ λb o h1 h2 e=>keep3 b o h1 h2 (keep2 b o h1 h2 e);have e:kvs.drop i=kvs[i]::kvs.drop (i+1):=XZ hkv;rw[e];exact dd'
theorem qS{p:Addr}{o:Obj}{items:Array Value}{n:Nat}{kvs:List (Key × Value)}{Q:Value->UR->Prop}(hh:A.handled=none)(hb:V6 < s.heap.objs.size)(hp:s.heap.get? p=some o)(hc:o.cls= .type "tuple")(hdt:o.data= .seq items n)(hdn:o.dict=none)
  (hl:kvs.length=items.size) (hz:items.size < sizeLine) (hP: ∀(j:Nat)(v:Value)(kv:Key × Value),items[j]?=some v->kvs[j]?=some kv->mD prog w s.heap v kv)
  (h: ∀ h' tk,h'.DictOf (aN prog w) s.heap.objs.size (merged [] kvs)->(∀ b o,s.heap.get? b=some o->h'.get? b=some o)->Q (.ref s.heap.objs.size) { s with heap:=h',toks:=tk }) :
  wpAny (model prog w) A (call (.type "dict") [.ref p]) Q E s:=by
 refine callType_codes (Q₁ :=λz u=>z= .ref s.heap.objs.size/\u={ s with heap:=s.heap.push { cls:= .type "dict",data:= .dict #[] } }) F.kt_called_dict (F.kt_typeCall_dict_1 _) F.entry_dict_init (kt_code_dict_new _ ⟨rfl,rfl⟩) ?_;rintro obj s₁ ⟨rfl,rfl⟩;have up: ∀ b o,s.heap.get? b=some o->(s.heap.push { cls:= .type "dict",data:= .dict #[] }).get? b=some o:=λb o e=>UQ _ e;have hnew:(s.heap.push { cls:= .type "dict",data:= .dict #[] }).DictOf (aN prog w) s.heap.objs.size []:=aav s.heap;have hp1:=up _ _ hp;refine⟨hnew.typeIs,F.args_dict_init_2 (.ref s.heap.objs.size) (.ref p),?_⟩
 with_unfolding_all refine UN (m:=ZL _ _) (UN (aaD hnew.typeIs (UZ ?_)))
 show wpAny _ _ (Xq "dict.__init__" s.heap.objs.size (.ref p) [] .none) _ _ _;unfold Xq;refine UN (XW (T:= "tuple") ⟨o,hp1,hc⟩ ?_);rw[if_pos (by decide)];refine UN (qG hp1 hc hdt hdn hh λh1 tk1 k1=>?_);simp only[Option.isNone_none,if_true];refine UN (aal ?_);have htp1:h1.IsTuple p items:=⟨o,k1 _ _ hp1,hc,n,hdt⟩
 refine UN (WD htp1 ?_);have up2: ∀ b o,h1.get? b=some o->(h1.push { cls:= .type "tuple_iterator",data:= .fields #[.ref p,.int 0 0] }).get? b=some o:=λb o e=>UQ _ e;have hd1:h1.get? s.heap.objs.size=some { cls:= .type "dict",data:= .dict #[] }:=k1 _ _ (U7 _ rfl);have hpl:p < h1.objs.size:=U2 (k1 _ _ hp1);have hdl:s.heap.objs.size < h1.objs.size:=U2 hd1;have hps:p < s.heap.objs.size:=U2 hp;refine UZ ⟨plainId_quiet cM _,?_⟩;refine wC (A:=A.in1) (it:=h1.objs.size) (tp:=p) (kvs:=kvs) hh (Vf hpl) (Vf hdl) (WQ hps) hl hz items.size 0 0 _ [] rfl (VM _) (UT _) ⟨_,U7 _ rfl,rfl,rfl⟩ (htp1.push _) ?_ ⟨_,up2 _ _ hd1,rfl⟩ ⟨_,U7 _ rfl,rfl⟩ ?_ ?_
 . exact(hnew.at λo e=>up2 _ o (k1 _ o e))
 . exact λj v kv e1 e2=>(hP j v kv e1 e2).keeps λb o e _=>up2 b o (k1 b o (up b o e))
 . rintro s' dd ⟨h3,tk3,rfl⟩ keep3;refine⟨rfl,h h3 tk3 (by simpa using dd) λb o e=>keep3 b o (Vf (U2 e)) (Vf (U2 (k1 _ _ (up _ _ e)))) (up2 _ _ (k1 _ _ (up _ _ e)))⟩
end
section
variable{X:Cx}
noncomputable def rM(H:Hp)(y:V)(kv:Key × V):Prop:= ∃ b,y= .ref b/\H b=some (.tup [kV kv.1,kv.2])
theorem sy{P:Vg}{w:World}{H:Hp}{h:Heap}(ok:kb P w H h): ∀{ys:List V}{kvs:List (Key × V)}{aj:List Value},V2 (rM H) ys kvs->Vals ys aj-> ∃ vs:List (Key × Value),KV kvs vs/\vs.length=aj.length /\
  ∀(j:Nat)(v:Value)(kv:Key × Value),aj[j]?=some v->vs[j]?=some kv->mD P w h v kv
 | _,_,_,.nil,.nil=>⟨[],.nil,rfl,λj v kv e=>by simp at e⟩
 | _,_,_,.cons (b:=kv0) hp hr,.cons hv hrv=>by
  obtain⟨vs,h1,h2,h3⟩:=sy ok hr hrv;obtain⟨b,rfl,hb⟩:=hp;obtain⟨_,its0,r0,o,e1,e2,n,e3,_⟩:=(show aY P w H h b (.tup [kV kv0.1,kv0.2]) from ok b _ hb)
  obtain⟨u1,u2,rfl,r1,r2⟩:=vals2 r0;cases(show _=Ve b from hv);refine⟨(kv0.1,u2)::vs,.cons ⟨rfl,r2⟩ h1,by simp[h2],λj v kv f1 f2=>?_⟩;cases j with
  | zero =>
   simp only[ZZ,XJ] at f1 f2
   subst f1 f2
   exact⟨b,o,u1,n,rfl,e1,e2,e3,lb r1⟩
  | succ j=>exact h3 j v kv (by simpa using f1) (by simpa using f2)
theorem KV.wL{kvs:List (Key × V)}{vs:List (Key × Value)}(r:KV kvs vs):KV (c7 [] kvs) (merged [] vs):=KV.merge r .nil
theorem nZ(hc:X.calm=true):aT X (.type "dict") (λxs H Q=> ∃ p ys kvs,xs=[.ref p]/\H p=some (.tup ys)/\V2 (rM H) ys kvs/\ys.length < sizeLine/\ ∀ d,H d=none->Q (.ref d) (upd H d (.dK (c7 [] kvs)))):=by
 intro pins s σ H xs us Q I r h;obtain⟨p,ys,kvs,rfl,hp,hP,hz,q⟩:=h;obtain⟨u,rfl,ru⟩:=vals1 r;cases(show u=Ve p from ru);obtain⟨_,aj,r0,o,e1,e2,n,e3,e4⟩:=(show aY X.prog X.w H s.heap p (.tup ys) from I.bA p _ hp)
 obtain⟨vs,h1,h2,h3⟩:=sy I.bA hP r0;have hlen:=r0.length;have hk:=X5 hP;refine qS (kvs:=vs) (I.ok.hd hc) I.big e1 e2 e3 e4 (by simpa using h2) (by simp;omega) (λj v kv f1 f2=>h3 j v kv (by simpa using f1) f2) λh' tk dd keep=>?_;have hle:(c7 [] kvs).length<=sizeLine:=by have:=eT kvs [];simp at this;omega
 obtain⟨hn,I'⟩:=I.mC (a:=s.heap.objs.size) (o:= .dK (c7 [] kvs)) (t':=tk) keep (WH (UT _)) (tU hle (beq_eq_false_iff_ne.mpr (Xj (Vf I.big))) (KV.wL h1) dd);exact⟨.ref _,_,I',rfl,q _ hn⟩
end
noncomputable def nV(P:Vg)(w:World)(K:UL)(mg:Str->Option Value)(base:Heap)(x:Str)(k:Nat)(ps:List Str)(sp:Sp):Prop :=
 ∃(f:Addr)(fd:WB),lP P w K mg base um k f fd ps sp/\mg x=some (.ref f)/\Xo K (.ref f)=true/\Binds K fd ps []/\ ∀ us:List Value,us.length=ps.length->Xx fd ⟨us,[]⟩=pure (ps.zip us)
theorem BV.args{K:UL}{x qual:Str}{st:Stmt}{f:Addr}{fd:WB}{ps:List Str}(F:BV K x qual st f fd)
  (h: ∀(kV doc pm:Value)(an:Option Addr)(cdv ct:Value)(us:List Value),us.length=ps.length->Xx (V3 x qual (cL st) (bj st) (ax st) .none kV doc pm an cdv ct) ⟨us,[]⟩=pure (ps.zip us)): ∀ us:List Value,us.length=ps.length->Xx fd ⟨us,[]⟩=pure (ps.zip us):=by
 obtain⟨oc,od,kV,doc,pm,an,cdv,ct,osl,rfl,lk,hcd⟩:=F.ex;exact h kV doc pm an cdv ct
noncomputable def At(K:UL)(mg:Str->Option Value)(x:Str)(st:Stmt):Prop:= ∃(f:Addr)(fd:WB),BV K x x st f fd/\mg x=some (.ref f)
section
variable{P:Vg}{w:World}{K:UL}{mg:Str->Option Value}{base:Heap}
theorem At.ok{x:Str}{st:Stmt}{N ps:List Str}{k:Nat}{sp:Sp}(a:At K mg x st)(S:d6 N ps (ax st))
  (hb: ∀(kV doc pm:Value)(an:Option Addr)(cdv ct:Value)(us:List Value),us.length=ps.length->Xx (V3 x x (cL st) (bj st) (ax st) .none kV doc pm an cdv ct) ⟨us,[]⟩=pure (ps.zip us))
  (len: ∀ vs H Q E,sp vs H Q E->vs.length=ps.length)
  (hbody: ∀(f:Addr)(cdv:Value)(A:Vz)(outer:List Env)(s:UR)(H:Hp)(vs:List V)(Q:VK)(E:XK),dJ k (A.deeper (Zg x (ax st) s.heap.objs.size f cdv))->sp vs H Q E ->
   ∃ t,wW (j7 um P w K mg base N x (ax st) f cdv A outer s H E).pW (bj st) t/\t { nx:=λ_ H'=>Q .non H',rt:=Q } (start N vs) H):nV P w K mg base x (k+1) ps sp:=by
 obtain⟨f,fd,F,hm⟩:=a;exact⟨f,fd,F.ok S len λcdv A outer s H vs Q E=>hbody f cdv A outer s H vs Q E,hm,F.kp,F.binds hb,F.args hb⟩
theorem At.Aa{x:Str}{st:Stmt}{ps:List Str}{sp:Sp}(a:At K mg x st)(hb: ∀(kV doc pm:Value)(an:Option Addr)(cdv ct:Value)(us:List Value),us.length=ps.length->Xx (V3 x x (cL st) (bj st) (ax st) .none kV doc pm an cdv ct) ⟨us,[]⟩=pure (ps.zip us))
  (no: ∀ vs H Q E,¬ sp vs H Q E):nV P w K mg base x 0 ps sp:=by
 obtain⟨f,fd,F,hm⟩:=a;exact⟨f,fd,⟨λvs H Q E h=>absurd h (no vs H Q E),λA outer s H args us vs Q E _ _ _ _ h=>absurd h (no vs H Q E)⟩,hm,F.kp,F.binds hb,F.args hb⟩
end
section
variable{X:Cx}{x:Str}{k j:Nat}{ps:List Str}{sp:Sp}{e:Expr}{es:List Expr}{t:TA}{p pos:Pos}
theorem Tt(D:nV X.prog X.w X.K X.mg X.base x j ps sp)(hr:dJ k X.A)(hg:Gl X x)(hj:j<=k)(ha:PA X (e::es) t)(hdb:(x == ("__debug__" :Str))=false:=by decide)
  (he:VD (e::es) X.env=(false,eval e X.env)::VD es X.env:=by rfl) (hpl:(Ym pos (VD es X.env)).any (·.1)=false:=by rfl):PE X (.Call (.Name x p) (e::es) [] pos) (zB sp [] E0 t):=by
 obtain⟨f,fd,F,hm,kp,bd,_⟩:=D;exact Hi F (hr.mono hj) hg hm kp bd .nil Q5 ha hdb he hpl
end
theorem aK{K:UL}{mg:Str->Option Value}{h:Heap}{x:Str}{st:Stmt}{f:Addr}{oc:Value}{od an:Option Addr}{osl:Array (Option Value)}{kV doc pm cdv ct:Value}(X:K.In h)(G:h.Ns Vc mg)
  (a:Vo K Vc x=some (some (.ref f))) (l:K.lookup f=some ⟨oc,od,.func (V3 x x (cL st) (bj st) (ax st) .none kV doc pm an cdv ct),osl⟩) (c:YU K cdv x=true) (k:Xo K (.ref f)=true):At K mg x st :=
 ⟨f,_,MB l c k,Wj X G a⟩
structure Bl(mg:Str->Option Value):Prop where
 len:mg "len" =none
 range:mg "range" =none
 isinstance:mg "isinstance" =none
 int:mg "int" =none
 bool:mg "bool" =none
 tuple:mg "tuple" =none
 dict:mg "dict" =none
 sorted:mg "sorted" =none
 min:mg "min" =none
 max:mg "max" =none
 abs:mg "abs" =none
noncomputable def Kp(a:Addr)(H H':Hp):Prop:= ∀ b o,b≠a->H b=some o->H' b=some o
theorem Kp.trans{a:Addr}{H H1 H2:Hp}(x:Kp a H H1)(y:Kp a H1 H2):Kp a H H2:=λb o n h=>y b o n (x b o n h)
theorem rC.kp{a:Addr}{H H':Hp}(x:rC H H'):Kp a H H':=λb o _ h=>x b o h
theorem Kp.st{a:Addr}{H:Hp}{o:HO}:Kp a H (upd H a o):=λb u n q=>by rw[aD n];exact q
theorem Kp.lst{a b:Addr}{H H':Hp}{K:UL}{xs:List V}{kvs:List (Key × V)}(x:Kp a H H')(ha:H a=some (.dK kvs))(h:iY K H b xs):iY K H' b xs:=by
 rcases h with(h | ⟨o,h⟩) | h
 . exact .inl (.inl (x _ _ (sH h ha (by intro z;cases z)) h))
 . exact .inl (.inr ⟨o,x _ _ (sH h ha (by intro z;cases z)) h⟩)
 . exact .inr h
theorem Kp.tup{a b:Addr}{H H':Hp}{xs:List V}{kvs:List (Key × V)}(x:Kp a H H')(ha:H a=some (.dK kvs))(h:H b=some (.tup xs)):H' b=some (.tup xs):=x _ _ (sH h ha (by intro z;cases z)) h
class wq (t:TE):Prop where
 m: ∀ σ H Q Q',(∀ x H1,Q x H1->Q' x H1)->t σ H Q->t σ H Q'
class ve (t:TT):Prop where
 m: ∀ σ H Q Q',(∀ x H1,Q x H1->Q' x H1)->t σ H Q->t σ H Q'
class TU (t:TA):Prop where
 m: ∀ σ H Q Q',(∀ x H1,Q x H1->Q' x H1)->t σ H Q->t σ H Q'
class Uc (t:TO):Prop where
 m: ∀ σ H Q Q',(∀ x H1,Q x H1->Q' x H1)->t σ H Q->t σ H Q'
class Uk (t:TI):Prop where
 m: ∀ σ H Q Q',(∀ x H1,Q x H1->Q' x H1)->t σ H Q->t σ H Q'
class Ui (r:R2):Prop where
 m: ∀ x y H Q Q',(∀ x H1,Q x H1->Q' x H1)->r x y H Q->r x y H Q'
class Ur (r:V->Hp->VK->Prop):Prop where
 m: ∀ x H Q Q',(∀ x H1,Q x H1->Q' x H1)->r x H Q->r x H Q'
class Us (r:List V->Hp->VK->Prop):Prop where
 m: ∀ x H Q Q',(∀ x H1,Q x H1->Q' x H1)->r x H Q->r x H Q'
class TN (r:V->List V->Hp->VK->Prop):Prop where
 m: ∀ x xs H Q Q',(∀ x H1,Q x H1->Q' x H1)->r x xs H Q->r x xs H Q'
class T6 (r:V->Option Int->Option Int->Hp->VK->Prop):Prop where
 m: ∀ x l u H Q Q',(∀ x H1,Q x H1->Q' x H1)->r x l u H Q->r x l u H Q'
class SN (sp:Sp):Prop where
 m: ∀ vs H Q Q' E,(∀ x H1,Q x H1->Q' x H1)->sp vs H Q E->sp vs H Q' E
section
variable{X:Cx}
noncomputable def Q1(K:UL):List V->Hp->VK->Prop:=λxs H Q=> ∃ p ys,xs=[.ref p]/\(iY K H p ys\/fq K H p ys)/\Q (.int ys.length) H
noncomputable def Qb:List V->Hp->VK->Prop:=λxs H Q=> ∃ z,xs=[.str z]/\z.length<=sizeLine/\Q (.int z.length) H
theorem Fi:aT X (.builtin "len") (λxs H Q=>Q1 X.K xs H Q\/Qb xs H Q):=sU.or uL
noncomputable def PQ(K:UL):List V->Hp->VK->Prop:=λxs H Q=> ∃ x T t b,xs=[x,.ty T]/\jY K H x t/\Ze K t (.type T)=some b/\Q (.bl b) H
theorem FD:aT X (.builtin "isinstance") (PQ X.K):=vP
noncomputable def CQ(K:UL):List V->Hp->VK->Prop:=λxs H Q=> ∃ p ss,xs=[.ref p]/\iY K H p (ss.map V.str)/\ss.length < 64/\ ∀ l ss',H l=none->ss'.Perm ss->ZA ss'=true->Q (.ref l) (upd H l (.lst (ss'.map V.str)))
noncomputable def Eh:List V->Hp->VK->Prop:=λxs H Q=> ∃ d kvs ss,xs=[.ref d]/\H d=some (.dK kvs)/\kvs.map (·.1)=ss.map WA/\ss.length < 64/\ ∀ l ss',H l=none->ss'.Perm ss->ZA ss'=true->Q (.ref l) (upd H l (.lst (ss'.map V.str)))
noncomputable def Oh:List V->Hp->VK->Prop:=λxs H Q=> ∃ p ys kvs,xs=[.ref p]/\H p=some (.tup ys)/\V2 (rM H) ys kvs/\ys.length < sizeLine/\ ∀ d,H d=none->Q (.ref d) (upd H d (.dK (c7 [] kvs)))
theorem Dc(hc:X.calm=true):aT X (.type "dict") Oh:=nZ hc
noncomputable def O6:List V->Hp->VK->Prop:=λxs H Q=>(∃ i,xs=[.int i]/\Q (.int i) H)\/ ∃ k,xs=[.bl k]/\Q (.int (if k then 1 else 0)) H
noncomputable def NX(K:UL):List V->Hp->VK->Prop:=λxs H Q=> ∃ p ys,xs=[.ref p]/\((iY K H p ys/\ ∀ l,H l=none->Q (.ref l) (upd H l (.tup ys)))\/(fq K H p ys/\Q (.ref p) H))
theorem G6:aT X (.type "int") O6:=Ak
theorem GI:aT X (.type "tuple") (NX X.K):=rF
end
structure Mf(D D':Ends):Prop where
 nx: ∀ σ H,D.nx σ H->D'.nx σ H
 rt: ∀ v H,D.rt v H->D'.rt v H
 bk: ∀ σ H,D.bk σ H->D'.bk σ H
 ct: ∀ σ H,D.ct σ H->D'.ct σ H
class TF (t:TS):Prop where
 m: ∀ D D' σ H,Mf D D'->t D σ H->t D' σ H
class wM (g:TG):Prop where
 m: ∀ x σ H Q Q',(∀ σ2 H2,Q σ2 H2->Q' σ2 H2)->g x σ H Q->g x σ H Q'
class Tp (g:uP):Prop where
 m: ∀ x σ H Q Q',(∀ σ2 H2,Q σ2 H2->Q' σ2 H2)->g x σ H Q->g x σ H Q'
theorem Ru{K:UL}{a:Addr}{xs:List V}{k:Nat}{g:TG}{tt:TT}{te:TE}[wM g][ve tt][wq te]{σ :St}{H:Hp}{Q:VK}(Pv:Nat->List V->Hp->Prop)(h0:Pv 0 [] H)(hl: ∀ i ys H,i<=xs.length->Pv i ys H->fq K H a xs/\ys.length<=i)(hz:xs.length<=sizeLine)
  (hs: ∀ i x ys H,xs[i]?=some x->Pv i ys H->g x (σ ++UY k none) H fun σ2 H2=>tt σ2 H2 λb H3=>if b=true then te σ2 H3 λy H4=>Pv (i+1) (ys++[y]) H4 else Pv (i+1) ys H3)
  (hd: ∀ ys H,Pv xs.length ys H-> ∀ p,H p=none->Q (.ref p) (upd H p (.lst ys))) :
  ∃ W:Nat->Nat->List V->Hp->Prop,(∃ m,W 0 m [] H)∧ ∀ i m ys H,W i m ys H->((CW K a).stop i H∧ ∀ p,H p=none->Q (.ref p) (upd H p (.lst ys))) ∨
   ((CW K a).go i H∧ys.length < sizeLine∧ ∀ x H',(CW K a).Jk i H x H'->g x (σ ++UY k none) H' fun σ2 H2=>tt σ2 H2 λb H3=>if b=true then te σ2 H3 λy H4=> ∃ m',m' < m∧W (i+1) m' (ys++[y]) H4 else ∃ m',m' < m∧W (i+1) m' ys H3):=K7 (K:=K) (a:=a) (k:=k) (g:=g) (tt:=tt) (te:=te) (σ := σ) (Q:=Q) Pv h0 hl hz hs hd (λx σ H Q Q' f h=>wM.m (g:=g) x σ H Q Q' f h) (ve.m (t:=tt)) (wq.m (t:=te))
noncomputable def stK(a:Addr)(k:Int)(l:Option Int):List (Key × V):=match l with
 | none=>[(.inr "script",.ref a),(.inr "k",.int k)]
 | some l=>[(.inr "script",.ref a),(.inr "k",.int k),(.inr "left",.int l)]
noncomputable def yZ(K:UL)(H:Hp)(a:Addr)(xs:List V):Prop:=(∃ o,H a=some (.kK o (.lst xs))) \/
 ∃(o:Obj)(aj:Array Value)(n:Nat),K.lookup a=some o/\o.cls= .type "list" /\o.dict=none/\o.data= .seq aj n/\aj.size<=sizeLine/\Vals xs aj.toList
theorem yZ.sq{K:UL}{H:Hp}{a:Addr}{xs:List V}(h:yZ K H a xs):iY K H a xs:=by
 rcases h with⟨o,h⟩ | h
 . exact .inl (.inr ⟨o,h⟩)
 . exact .inr h
theorem yZ.upd{K:UL}{H:Hp}{a c:Addr}{xs:List V}{u o':HO}(h:yZ K H a xs)(hc:H c=some u)(hu: ∀ o w,u≠ .kK o w):yZ K (upd H c o') a xs:=by
 rcases h with⟨o,h⟩ | h
 . exact .inl ⟨o,by rw[aD (sH h hc λz=>hu _ _ z.symm)];exact h⟩
 . exact .inr h
theorem Kp.kK{st a:Addr}{H H':Hp}{K:UL}{xs:List V}{kvs:List (Key × V)}(x:Kp st H H')(ha:H st=some (.dK kvs))(h:yZ K H a xs):yZ K H' a xs:=by
 rcases h with⟨o,h⟩ | h
 . exact .inl ⟨o,x _ _ (sH h ha (by intro z;cases z)) h⟩
 . exact .inr h
theorem rC.kK{a:Addr}{H H':Hp}{K:UL}{xs:List V}(x:rC H H')(h:yZ K H a xs):yZ K H' a xs:=by
 rcases h with⟨o,h⟩ | h
 . exact .inl ⟨o,x _ _ h⟩
 . exact .inr h
noncomputable def qN(K:UL)(H:Hp)(st:Addr)(k:Int)(l:Option Int):Prop:= ∃(a:Addr)(ns:List Int),H st=some (.dK (stK a k l))/\yZ K H a (ns.map V.int)/\ns.length<=63/\0<=k
theorem qN.keep{K:UL}{H H':Hp}{st:Addr}{k:Int}{l:Option Int}(x:qN K H st k l)(y:Kp st H H')(e:H' st=H st):qN K H' st k l :=
 let ⟨a,ns,h1,h2,h3,h4⟩:=x;⟨a,ns,e.trans h1,y.kK h1 h2,h3,h4⟩
theorem qN.upd{K:UL}{H:Hp}{st c:Addr}{k:Int}{l:Option Int}{u o:HO}(x:qN K H st k l)(hc:H c=some u)(hu: ∀ o w,u≠ .kK o w)(hn:c≠st):qN K (upd H c o) st k l :=
 let ⟨a,ns,h1,h2,h3,h4⟩:=x;⟨a,ns,by rw[aD (Xj hn)];exact h1,h2.upd hc hu,h3,h4⟩
theorem qN.at{K:UL}{H:Hp}{st:Addr}{k:Int}{l:Option Int}(x:qN K H st k l): ∃ kvs,H st=some (.dK kvs):=let ⟨a,ns,h1,_⟩:=x;⟨_,h1⟩
theorem qN.pos{K:UL}{H:Hp}{st:Addr}{k:Int}{l:Option Int}(x:qN K H st k l):0<=k:=let ⟨a,ns,h1,_,_,h⟩:=x;h
noncomputable def noStar:Expr->Bool
 | .Starred _ _=>false
 | _=>true
theorem bY{e:Expr}{es:List Expr}{env:Env}(h:noStar e=true):VD (e::es) env=(false,eval e env)::VD es env:=by
 cases e<;>first | rfl | cases h
theorem lh{pos:Pos}{env:Env}: ∀{es:List Expr},es.all noStar=true->(Ym pos (VD es env)).any (·.1)=false
 | [],_=>rfl
 | e::es,h=>by
  have h:=Bool.and_eq_true_iff.mp (X8 ▸ h);rw[bY h.1];have:=lh (pos:=pos) (env:=env) h.2;unfold Ym at this ⊢;simp only[US,Wi,acy];exact this
section
variable{X:Cx}{e:Expr}{es:List Expr}{te:TE}{t:TA}
theorem pk(ha:PE X e te)(hr:PA X es t)(hs:noStar e=true:=by rfl):PA X (e::es) (Cv te t):=H9 ha hr (bY hs)
variable{x:Str}{k j:Nat}{ps:List Str}{sp:Sp}{p pos:Pos}{id T:String}{r:List V->Hp->VK->Prop}
theorem kd(D:nV X.prog X.w X.K X.mg X.base x j ps sp)(hr:dJ k X.A)(hg:Gl X x)(hj:j<=k)(ha:PA X (e::es) t)(hdb:(x == ("__debug__" :Str))=false:=by decide)(he:noStar e=true:=by rfl)(hpl:es.all noStar=true:=by rfl) :
  PE X (.Call (.Name x p) (e::es) [] pos) (zB sp [] E0 t):=Tt D hr hg hj ha hdb (bY he) (lh hpl)
theorem kB(hc:aT X (.builtin id) r)(hg:Gl X x)(hm:X.mg x=none)(hv:V8 x=some (.builtin id))(ha:PA X (e::es) t)(hn:x≠ "__name__" :=by decide)(hdb:(x == ("__debug__" :Str))=false:=by decide)(he:noStar e=true:=by rfl)(hpl:es.all noStar=true:=by rfl) :
  PE X (.Call (.Name x p) (e::es) [] pos) (Nu r t):=Dq hc hg hm hv ha hn hdb (bY he) (lh hpl)
theorem kT(hc:aT X (.type T) r)(hg:Gl X x)(hm:X.mg x=none)(hv:V8 x=some (.type T))(ha:PA X (e::es) t)(hn:x≠ "__name__" :=by decide)(hdb:(x == ("__debug__" :Str))=false:=by decide)(he:noStar e=true:=by rfl)(hpl:es.all noStar=true:=by rfl) :
  PE X (.Call (.Name x p) (e::es) [] pos) (Nu r t):=Ac hc hg hm hv ha hn hdb (bY he) (lh hpl)
end
structure QE(X:Cx)(e:Expr)(t:TE):Prop where h:PE X e t
structure QT(X:Cx)(e:Expr)(t:TT):Prop where h:PT X e t
structure QW(X:Cx)(e:Expr)(t:TT):Prop where h:PW X e t
structure QA(X:Cx)(es:List Expr)(t:TA):Prop where h:PA X es t
structure QO(X:Cx)(e:Option Expr)(t:TO):Prop where h:PO X e t
structure QS(X:Cx)(s:Stmt)(t:TS):Prop where h:PS X s t
structure DP(X:Cx)(s:List Stmt)(t:TS):Prop where h:wW X s t
structure QG(X:Cx)(e:Expr)(t:TG):Prop where h:PG X e t
structure N0(X:Cx)(e:List Expr)(t:uP):Prop where h:Pd X e t
structure QI(X:Cx)(tg e:Expr)(t:TI):Prop where h:PI X tg e t
structure QF(X:Cx)(es:List Expr)(t:TT):Prop where h:PF X es t
structure QP(X:Cx)(pos:Pos)(ks:List (Option Expr))(vs:List Expr)(t:List (TE × TE)):Prop where h:Rn X pos ks vs t
section
variable{X:Cx}{a b c e o i:Expr}{es:List Expr}{ta tb tc te td ty tx tv to ti:TE}{t t':TT}{tr:TA}{pos p p2 pos' apos cpos:Pos}{x y:Str}
theorem qv(i:Nat){x:Str}{pos:Pos}(hN:X.N[i]?=some x:=by rfl)(hv:OA X.env.scope x:=by first | exact ab1 rfl | exact aaQ (ab1 rfl) | exact aaQ (aaQ rfl))(hd:(x == ("__debug__" :Str))=false:=by decide)
  (hcd:(x == ("__classdict__" :Str))=false:=by decide):QE X (.Name x pos) (QV i):=⟨MQ hN hv hd hcd⟩
theorem N4{n:Int}{j:Nat}:QE X (.Constant (.int n) j pos) (tC (.int n)):=⟨LO⟩
theorem RD{n:Bool}{j:Nat}:QE X (.Constant (.bool n) j pos) (tC (.bl n)):=⟨RB⟩
theorem J7{j:Nat}:QE X (.Constant .none j pos) (tC .non):=⟨Oq⟩
theorem Kl{n:Str}{j:Nat}:QE X (.Constant (.str n) j pos) (tC (.str n)):=⟨Om⟩
theorem zE{v:V}{u:Value}(hg:Gl X x)(hm:X.mg x=some u)(r:RelV v u)(hd:(x == ("__debug__" :Str))=false:=by decide):QE X (.Name x pos) (tC v):=⟨zo hg hm r hd⟩
theorem Fs{v:V}{u:Value}(hg:Gl X x)(hm:X.mg x=none)(hv:V8 x=some u)(r:RelV v u)(hn:x≠ "__name__" :=by decide)(hd:(x == ("__debug__" :Str))=false:=by decide):QE X (.Name x pos) (tC v):=⟨FW hg hm hv r hn hd⟩
theorem Qv{op:Operator}{r:R2}(ho:c9 X (Wa op) r)(ha:QE X a ta)(hb:QE X b tb):QE X (.BinOp a op b pos) (HP r ta tb):=⟨QR ho ha.h hb.h⟩
theorem Lg(ha:QE X a ta):QE X (.UnaryOp .Not a pos) (Jc ta):=⟨Lr ha.h⟩
theorem Ox{op:BoolOp}(h:QE X a ta):QE X (.BoolOp op [a] pos) ta:=⟨Lh h.h⟩
theorem Kc{rest:List Expr}(ha:QE X a ta)(hb:QE X (.BoolOp .And (b::rest) pos) tb):QE X (.BoolOp .And (a::b::rest) pos) (Js ta tb):=⟨Ml ha.h hb.h⟩
theorem O1{rest:List Expr}(ha:QE X a ta)(hb:QE X (.BoolOp .Or (b::rest) pos) tb):QE X (.BoolOp .Or (a::b::rest) pos) (Pl ta tb):=⟨Rh ha.h hb.h⟩
theorem Di(hc:QT X c t)(ha:QE X a ta)(hb:QE X b tb):QE X (.IfExp c a b pos) (Uv t ta tb):=⟨Dz hc.h ha.h hb.h⟩
theorem NR{x1}(h:QA X es tr):QE X (.Tuple es x1 pos) (OS tr):=⟨Oo h.h⟩
theorem Ng(h:QA X es tr):QE X (.List es pos) (Py tr):=⟨MH h.h⟩
theorem Ep:QE X (.Dict [] [] pos) Dm:=⟨Cw⟩
theorem Ht:QP X pos [] [] []:=⟨Gh⟩
theorem Ei{k v:Expr}{ks:List (Option Expr)}{vs:List Expr}{tk:TE}{trs:List (TE × TE)}(hk:QE X k tk)(hv:QE X v tv)(hr:QP X pos ks vs trs):QP X pos (some k::ks) (v::vs) ((tk,tv)::trs):=⟨B4 hk.h hv.h hr.h⟩
theorem ID{ks:List (Option Expr)}{vs:List Expr}{trs:List (TE × TE)}(h:QP X pos ks vs trs)(hall:ks.all (·.isSome)=true)(hl:ks.length=vs.length)(h0:ks≠[])(h15:ks.length<=15):QE X (.Dict ks vs pos) (JM trs):=⟨F9 h.h hall hl h0 h15⟩
theorem HL:QO X none y9:=⟨G5⟩
theorem FO(h:QE X e te):QO X (some e) (JC te):=⟨Io h.h⟩
theorem EN{r:V->Option Int->Option Int->Hp->VK->Prop}{lo hi:Option Expr}{tl th:TO}(hr:E6 X r)(he:QE X e te)(hl:QO X lo tl)(hu:QO X hi th):QE X (.Subscript e (.Slice lo hi none p2) pos) (TH r te tl th):=⟨DF hr he.h hl.h hu.h⟩
theorem QB{r:R2}(hr:zY X r)(ha:QE X a ta)(hb:QE X b tb)(hs:sW b):QE X (.Subscript a b pos) (HP r ta tb):=⟨Qu hr ha.h hb.h hs⟩
theorem Ex{f:Expr}(hu:X.A.units+1 < cLine)(ho:QE X o td)(he:QE X e ty)(hf:QE X f tx)(m:M2 X o "get" apos e f cpos):QE X (.Call (.Attribute o "get" apos) [e,f] [] cpos) (C0 td ty tx):=⟨Dx hu ho.h he.h hf.h m⟩
theorem yw:QA X [] Rl:=⟨LL⟩
theorem qk(ha:QE X e te)(hr:QA X es tr)(hs:noStar e=true:=by rfl):QA X (e::es) (Cv te tr):=⟨pk ha.h hr.h hs⟩
variable{k j:Nat}{ps:List Str}{sp:Sp}{id T:String}{r:List V->Hp->VK->Prop}
theorem qd(D:nV X.prog X.w X.K X.mg X.base x j ps sp)(hr:dJ k X.A)(hg:Gl X x)(hj:j<=k)(ha:QA X (e::es) tr)(hdb:(x == ("__debug__" :Str))=false:=by decide)(he:noStar e=true:=by rfl)(hpl:es.all noStar=true:=by rfl) :
  QE X (.Call (.Name x p) (e::es) [] pos) (zB sp [] E0 tr):=⟨kd D hr hg hj ha.h hdb he hpl⟩
theorem qB(hc:aT X (.builtin id) r)(hg:Gl X x)(hm:X.mg x=none)(hv:V8 x=some (.builtin id))(ha:QA X (e::es) tr)(hn:x≠ "__name__" :=by decide)(hdb:(x == ("__debug__" :Str))=false:=by decide)(he:noStar e=true:=by rfl)(hpl:es.all noStar=true:=by rfl) :
  QE X (.Call (.Name x p) (e::es) [] pos) (Nu r tr):=⟨kB hc hg hm hv ha.h hn hdb he hpl⟩
theorem qT(hc:aT X (.type T) r)(hg:Gl X x)(hm:X.mg x=none)(hv:V8 x=some (.type T))(ha:QA X (e::es) tr)(hn:x≠ "__name__" :=by decide)(hdb:(x == ("__debug__" :Str))=false:=by decide)(he:noStar e=true:=by rfl)(hpl:es.all noStar=true:=by rfl) :
  QE X (.Call (.Name x p) (e::es) [] pos) (Nu r tr):=⟨kT hc hg hm hv ha.h hn hdb he hpl⟩
theorem JH{name:Str}{rm:V->List V->Hp->VK->Prop}(pa:abt T)(slot:Slot T name id)(hty:typeOf (.builtin id)=pure (.type "method_descriptor"))(hm:Ju X id rm)(ho:QE X o to)(ha:QA X [e] tr)
  (hbase:Xi o name X.env (eval o X.env)=eval o X.env:=by rfl) (hline:(apos.endLine == cpos.line)=true:=by rfl) (hs:noStar e=true:=by rfl) :
  QE X (.Call (.Attribute o name apos) [e] [] cpos) (TX X.K T rm to tr):=⟨OW pa slot hty hm ho.h ha.h hbase (by rw[bY hs];rfl) hline (bY hs) rfl⟩
theorem II{op:CmpOp}{r:R2}(ho:c9 X (Vu op) r)(ha:QE X a ta)(hb:QE X b tb)(hm:Wg op b=false):QE X (.Compare a [op] [b] pos) (HP r ta tb):=⟨Fz ho ha.h hb.h hm⟩
theorem Hv{op:CmpOp}{r:R2}(ho:c9 X (Vu op) r)(ha:QE X a ta)(hb:QE X b tb)(hm:Wg op b=false):QT X (.Compare a [op] [b] pos) (CL (HP r ta tb)):=⟨Ih ho ha.h hb.h hm⟩
theorem D9{op op':CmpOp}{r r':R2}(ho:c9 X (Vu op) r)(ho':c9 X (Vu op') r')(ha:QE X a ta)(hb:QE X b tb)(hc:QE X c tc)(hm:lastMarks [op,op'] [b,c]=false:=by with_unfolding_all rfl):QE X (.Compare a [op,op'] [b,c] pos) (yB r r' ta tb tc):=⟨C5 ho ho' ha.h hb.h hc.h hm⟩
theorem NF{j:Nat}(ha:QE X a ta):QE X (.Compare a [.Is] [.Constant .none j pos'] pos) (N7 ta):=⟨Nj (C6 ha.h)⟩
theorem J5{j:Nat}(ha:QE X a ta):QT X (.Compare a [.Is] [.Constant .none j pos'] pos) (tB (N7 ta)):=⟨DL (C6 ha.h)⟩
theorem IG{j:Nat}(ha:QE X a ta):QT X (.Compare a [.IsNot] [.Constant .none j pos'] pos) (tB (Ja ta)):=⟨DL (Gu ha.h)⟩
theorem IC(ha:QT X a t):QW X (.BoolOp .And [a] pos) t:=⟨pw_and1 ha.h⟩
theorem Me(ha:QT X a t):QW X (.BoolOp .Or [a] pos) t:=⟨pw_or1 ha.h⟩
theorem Kd{rest:List Expr}(ha:QT X a t)(hb:QW X (.BoolOp .And (b::rest) pos) t'):QW X (.BoolOp .And (a::b::rest) pos) (O4 t t'):=⟨pw_and ha.h hb.h⟩
theorem Q6{rest:List Expr}(ha:QT X a t)(hb:QW X (.BoolOp .Or (b::rest) pos) t'):QW X (.BoolOp .Or (a::b::rest) pos) (TV t t'):=⟨pw_or ha.h hb.h⟩
theorem QW.pt(h:QW X e t):QT X e t:=⟨h.h.pt⟩
theorem Ol(ha:QT X a t):QT X (.UnaryOp .Not a pos) (O3 t):=⟨Mw ha.h⟩
theorem MN(h:QE X e te)(he: ∀ whole,abV e X.env whole=(do let v <- whole;acm e.pos;Y0 [v] (truthy v)):=by intro _;rfl):QT X e (tB te):=⟨NO h.h he⟩
theorem zU{i:Nat}(hN:X.N.Nodup)(hi:X.N[i]?=some x)(hx:Loc X.env.scope x)(hf:X.fn x=true\/X.env.scope.names.lookup x=some .local:=by first | exact .inl rfl | exact .inr rfl | assumption):QG X (.Name x pos) (fW i):=⟨HJ hN hi hx hf⟩
theorem zG:N0 X [] BO:=⟨FE⟩
theorem v8{t:TG}{u:uP}(h1:QG X e t)(h2:N0 X es u)(hs:(V4 (e::es) X.env).map (·.2)=Yn e X.env::(V4 es X.env).map (·.2):=by rfl):N0 X (e::es) (nM t u):=⟨Ci h1.h h2.h hs⟩
theorem Ez{k:Nat}{t:uP}{n:Nat}(hc:X.calm=true)(h:N0 X es t)(hn:(V4 es X.env).length=n:=by rfl)(hst:(V4 es X.env).findIdx? (·.1)=none:=by rfl):QG X (.Tuple es k pos) (xF X.K n t):=⟨L0 hc h.h hn hst⟩
variable{tg iter l:Expr}{wi:TI}{g:TG}{ta':TA}
theorem Np:QF X [] Jv:=⟨LX⟩
theorem Nz(h:QT X c t):QF X [c] t:=⟨MK h.h⟩
variable{scope:Scope}{ifs:List Expr}{body rest:List Stmt}{spos py:Pos}{tb' ts us:TS}{st:Stmt}
theorem Eg(vars:List Str)(hc:X.calm=true)(hx: ∀ v s,¬ X.xe v s)(hkind:scope.kind= .function)(hlc:i6 scope.names X.env.scope.names X.N vars=true)(hi:QI X tg iter wi)
  (hb: ∀ cl C s₀ H₀ ex pn,QG (fJ X vars scope cl C s₀ H₀ ex pn) tg g/\QF (fJ X vars scope cl C s₀ H₀ ex pn) ifs t/\QE (fJ X vars scope cl C s₀ H₀ ex pn) e te) (hgk:GK X.N.length g)
  (hs: ∀ x,VP iter X.env x=pure x:=by intro _;rfl):QE X (.ListComp e [⟨tg,iter,ifs,0⟩] scope pos) (R6 vars.length wi g t te) :=
 ⟨ET vars hc hx hkind hlc hi.h (λcl C s₀ H₀ ex pn=>let ⟨h1,h2,h3⟩:=hb cl C s₀ H₀ ex pn;⟨h1.h,h2.h,h3.h⟩) hgk hs⟩
theorem EH(vars:List Str)(i:Nat)(hc:X.calm=true)(hx: ∀ v s,¬ X.xe v s)(hkind:scope.kind= .function)(hlc:i6 scope.names X.env.scope.names X.N vars=true)(hN:X.N.Nodup)(hiy:X.N[i]?=some y)(hy:Loc X.env.scope y)(hi:QI X tg iter wi)
  (hb: ∀ cl C s₀ H₀ ex pn,QG (fJ X vars scope cl C s₀ H₀ ex pn) tg g/\QF (fJ X vars scope cl C s₀ H₀ ex pn) ifs t/\QE (fJ X vars scope cl C s₀ H₀ ex pn) e te) (hgk:GK X.N.length g)
  (hsw:XF (.ListComp e [⟨tg,iter,ifs,0⟩] scope pos) (some (.Name y py)) spos.line X.env=pure true:=by rfl) (hs: ∀ x,VP iter X.env x=pure x:=by intro _;rfl)
  (hf:X.fn y=true\/X.env.scope.names.lookup y=some .local:=by first | exact .inl rfl | exact .inr rfl | assumption) :
  QS X (.Assign [.Name y py] (.ListComp e [⟨tg,iter,ifs,0⟩] scope pos) spos) (EI vars.length i wi g t te) :=
 ⟨Dr vars i hc hx hkind hlc hN hiy hy hi.h (λcl C s₀ H₀ ex pn=>let ⟨h1,h2,h3⟩:=hb cl C s₀ H₀ ex pn;⟨h1.h,h2.h,h3.h⟩) hgk hsw hs hf⟩
theorem Od{i:Nat}(hN:X.N.Nodup)(hi:X.N[i]?=some x)(hx:Loc X.env.scope x)(he:QE X e te)(hs:XF e (some (.Name x pos')) pos.line X.env=pure false:=by rfl)(hf:X.fn x=true\/X.env.scope.names.lookup x=some .local:=by first | exact .inl rfl | exact .inr rfl | assumption) :
  QS X (.Assign [.Name x pos'] e pos) (F7 te (fW i)):=⟨KY hN hi hx he.h hs hf⟩
theorem DY(he:QE X e te)(hg:QG X tg g)(hs:ZE [tg] e pos.line X.env=pure false:=by rfl)(hw:ZF [tg] e X.env=pure none:=by rfl)(h1:(V4 [tg] X.env).map (·.2)=[Yn tg X.env]:=by rfl):QS X (.Assign [tg] e pos) (F7 te g):=⟨KU he.h hg.h hs hw h1⟩
theorem Rj{A B:List Stmt}(hc:QT X c t)(ha:DP X A ts)(hb:DP X B us):QS X (.If c A B pos) (OH t ts us):=⟨P9 hc.h ha.h hb.h⟩
theorem L3(hp:ZT (model X.prog X.w) X.A X.env X.xe)(hc:X.calm=true)(hi:QI X tg iter wi)(hg:QG X tg g)(hb:DP X body tb')(hs: ∀ x,VP iter X.env x=pure x:=by intro _;rfl):QS X (.For tg iter body [] pos) (Qa wi g tb'):=⟨Nb hp hc hi.h hg.h hb.h hs⟩
theorem B0(hp:ZT (model X.prog X.w) X.A X.env X.xe)(hc:QT X c t)(hb:DP X body tb'):QS X (.While c body [] pos) (B1 t tb'):=⟨Dk hp hc.h hb.h⟩
theorem G8(he:QE X e te)(hs:XF e none pos.line X.env=pure false:=by rfl):QS X (.Expr e pos) (JN te):=⟨G9 he.h hs⟩
theorem Mm(he:QE X e te):QS X (.Return (some e) pos) (Pc te):=⟨Kf he.h⟩
theorem FT:DP X [] DQ:=⟨GG⟩
theorem Ew(h1:QS X st ts)(h2:DP X rest us):DP X (st::rest) (NS ts us):=⟨Dj h1.h h2.h⟩
theorem Gd(h1:QS X st ts):DP X [st] ts:=⟨Ge h1.h⟩
end
theorem At.Th{P:Vg}{w:World}{K:UL}{mg:Str->Option Value}{base:Heap}{x:Str}{st:Stmt}{N ps:List Str}{k:Nat}{sp:Sp}(a:At K mg x st)(S:d6 N ps (ax st))
  (hb: ∀(kV doc pm:Value)(an:Option Addr)(cdv ct:Value)(us:List Value),us.length=ps.length->Xx (V3 x x (cL st) (bj st) (ax st) .none kV doc pm an cdv ct) ⟨us,[]⟩=pure (ps.zip us))
  (len: ∀ vs H Q E,sp vs H Q E->vs.length=ps.length)
  (hbody: ∀(f:Addr)(cdv:Value)(A:Vz)(outer:List Env)(s:UR)(H:Hp)(vs:List V)(Q:VK)(E:XK),dJ k (A.deeper (Zg x (ax st) s.heap.objs.size f cdv))->sp vs H Q E ->
   ∃ t,DP (j7 um P w K mg base N x (ax st) f cdv A outer s H E).pW (bj st) t/\t { nx:=λ_ H'=>Q .non H',rt:=Q } (start N vs) H):nV P w K mg base x (k+1) ps sp :=
 a.ok S hb len λf cdv A outer s H vs Q E hr h=>let ⟨t,q,z⟩:=hbody f cdv A outer s H vs Q E hr h;⟨t,q.h,z⟩
theorem jC{xs:List V}{r:Int}(h:0<=r):oh xs (some r) none=xs.drop r.toNat:=by
 have e:r=((r.toNat:Nat):Int):=by omega
 unfold oh;rw[e,HT.oH,HT.lM];simp only[VH];rcases aam r.toNat xs.length with z | z
 . rw[Yf z];exact Wv (by rw[Wn];omega)
 . rw[YF z,V9 (UT _),V9 z];simp
theorem mW{xs:List V}{r:Int}(h:0<=r):oh xs none (some r)=xs.take r.toNat:=by
 have e:r=((r.toNat:Nat):Int):=by omega
 unfold oh;rw[e,HT.oH,HT.lM];simp only[VH,aaR,abM];rcases aam r.toNat xs.length with z | z
 . rw[Yf z]
 . rw[YF z,Wv (UT _),Wv z]
theorem UG{c A B:Prop}[Decidable c](hc: ¬ c)(h:B):if c then A else B:=by rw[if_neg hc];exact h
noncomputable def Ue(k:Nat)(g:TG)(tt:TT)(te:TE)(σ :St)(Q:VK)(J:It)(H1:Hp):Prop:= ∃ W:Nat->Nat->List V->Hp->Prop,(∃ m,W 0 m [] H1)/\ ∀ i m ys H,W i m ys H ->
 (J.stop i H/\ ∀ p,H p=none->Q (.ref p) (upd H p (.lst ys))) \/
 (J.go i H/\ys.length < sizeLine/\ ∀ x H',J.Jk i H x H'->g x (σ ++UY k none) H' fun σ2 H2=>tt σ2 H2 λb H3 =>
  if b=true then te σ2 H3 λy H4=> ∃ m',m' < m/\W (i+1) m' (ys++[y]) H4 else ∃ m',m' < m/\W (i+1) m' ys H3)
theorem LC{K:UL}{a:Addr}{xs:List V}{k:Nat}{g:TG}{tt:TT}{te:TE}[wM g][ve tt][wq te]{σ :St}{H:Hp}{Q:VK}(Pv:Nat->List V->Hp->Prop)(h0:Pv 0 [] H)(hl: ∀ i ys H,i<=xs.length->Pv i ys H->fq K H a xs/\ys.length<=i)(hz:xs.length<=sizeLine)
  (hs: ∀ i x ys H,xs[i]?=some x->Pv i ys H->g x (σ ++UY k none) H fun σ2 H2=>tt σ2 H2 λb H3=>if b=true then te σ2 H3 λy H4=>Pv (i+1) (ys++[y]) H4 else Pv (i+1) ys H3)
  (hd: ∀ ys H,Pv xs.length ys H-> ∀ p,H p=none->Q (.ref p) (upd H p (.lst ys))):Ue k g tt te σ Q (CW K a) H:=Ru Pv h0 hl hz hs hd
class S4 (trs:List (TE × TE)):Prop where
 m: ∀ σ H Q Q',(∀ ps H1,Q ps H1->Q' ps H1)->nA trs σ H Q->nA trs σ H Q'
theorem BV.Th{P:Vg}{w:World}{K:UL}{mg:Str->Option Value}{base:Heap}{x:Str}{st:Stmt}{f:Addr}{fd:WB}{N ps:List Str}{k:Nat}{sp:Sp}(F:BV K x x st f fd)(S:d6 N ps (ax st))(len: ∀ vs H Q E,sp vs H Q E->vs.length=ps.length)
  (hbody: ∀(f:Addr)(cdv:Value)(A:Vz)(outer:List Env)(s:UR)(H:Hp)(vs:List V)(Q:VK)(E:XK),dJ k (A.deeper (Zg x (ax st) s.heap.objs.size f cdv))->sp vs H Q E ->
   ∃ t,DP (j7 um P w K mg base N x (ax st) f cdv A outer s H E).pW (bj st) t/\t { nx:=λ_ H'=>Q .non H',rt:=Q } (start N vs) H):lP P w K mg base um (k+1) f fd ps sp :=
 F.ok S len λcdv A outer s H vs Q E hr h=>let ⟨t,q,z⟩:=hbody f cdv A outer s H vs Q E hr h;⟨t,q.h,z⟩
theorem NT{K:UL}{H:Hp}{a:Addr}{xs:List V}(o:Dp H)(h:iY K H a xs):yZ K H a xs:=by
 rcases h with(h | ⟨u,h⟩) | h
 . rcases o a with z | ⟨u,ys,z⟩<;>(rw[h] at z;cases z)
 . exact .inl ⟨u,h⟩
 . exact .inr h
noncomputable def KD(P:Vg)(w:World)(K:UL)(a:Addr)(kvs:List (Key × V)):Prop:=(a == V6)=false /\
 ∃(o:Obj)(es:Array aa4)(ep:Nat)(vs:List (Key × Value)),K.lookup a=some o/\o.ExactDict/\o.data= .dict es ep/\PySem.KeysOf (aN P w) es/\Pairs (aN P w) es.toList vs/\(vs.map (·.1)).Nodup/\KV kvs vs
theorem Inv.kd{X:Cx}{pins:List (Addr × Obj)}{σ :St}{H:Hp}{s:UR}{a:Addr}{kvs:List (Key × V)}(I:Inv X pins σ H s)(h:KD X.prog X.w X.K a kvs): ∃ vs,KV kvs vs/\s.heap.DictOf (aN X.prog X.w) a vs:=by
 obtain⟨_,o,es,ep,vs,h1,h2,h3,h4,h5,h6,h7⟩:=h;exact⟨vs,h7,o,es,ep,I.l9 a o h1,h2,h3,h4,h5,h6⟩
noncomputable def Jm(kvs:List (Key × V))(ty:TE):TE:=fun σ H Q=>ty σ H λy H2=> ∃ k v,y=kV k/\hZ kvs k=some v/\Q v H2
section
variable{X:Cx}{o i:Expr}{pos:Pos}{ty:TE}{a:Addr}{kvs:List (Key × V)}
theorem FQ(hk:KD X.prog X.w X.K a kvs)(ho:PE X o (tC (.ref a)))(hi:PE X i ty)(hs:HF i):PE X (.Subscript o i pos) (Jm kvs ty):=by
 intro pins s σ H Q I h;refine Fu Zs.lookup hs (cJ (ho pins s σ H (λx H1=>x= .ref a/\H1=H) I ⟨rfl,rfl⟩) λu s1 ⟨x,H1,I1,rx,ex,eH⟩=>?_);subst ex eH;obtain rfl:u=Ve a:=rx;refine cJ (hi pins s1 σ H1 _ I1 h) λiv s2 ⟨y,H2,I2,ry,k,v,ey,l,q2⟩=>?_;subst ey;obtain⟨vs,rel,dd⟩:=I2.kd hk;obtain⟨w',hw,rw'⟩:=lZ.some_of (v:=v) (o:=aai vs k) (by rw[<- l];exact rel.val k);exact⟨dd.typeIs,wpAny_getItem_of (lb ry) dd.mapOf hw ⟨v,H2,I2.tok _,rw',q2⟩⟩
theorem F6(hk:KD X.prog X.w X.K a kvs)(ho:QE X o (tC (.ref a)))(hi:QE X i ty)(hs:HF i):QE X (.Subscript o i pos) (Jm kvs ty):=⟨FQ hk ho.h hi.h hs⟩
end
noncomputable def Fp(w:World)(p:Str × Tok × Value):aa4:={ hash:=Vt w.params p.1,key:= .str p.1 p.2.1,val:=p.2.2 }
theorem QN{P:Vg}{w:World}{K:UL}{a:Addr}{ls:List (Str × Tok × Value)}{kvs:List (Key × V)}{ep:Nat}(hl:K.lookup a=some { cls:= .type "dict",data:= .dict (ls.map (Fp w)).toArray ep })(ha:(a == V6)=false)
  (hn:(ls.map λp=>(WA p.1:Key)).Nodup) (hk:KV kvs (ls.map λp=>((WA p.1:Key),p.2.2))):KD P w K a kvs:=by
 refine⟨ha,_,_,ep,ls.map λp=>((WA p.1:Key),p.2.2),hl,⟨rfl,rfl,rfl⟩,rfl,?_,?_,by rw[VN];exact hn,hk⟩
 . intro e he;have he':e∈ls.map (Fp w):=List.mem_toArray.mp he;obtain⟨p,_,rfl⟩:=Vv.mp he';exact⟨.inr p.1,mN p.1 p.2.1,rfl⟩
 . clear hl hn hk
   show Pairs (aN P w) (ls.map (Fp w)) _
   induction ls with
   | nil=>exact .nil
   | cons p r ih=>exact .cons (mN p.1 p.2.1) rfl ih
noncomputable def Sg (x:Str):It:=⟨λi _=>i < x.cps.size,λi H v H'=>H'=H∧ ∃ c,x.cps[i]?=some c∧v= .str ⟨#[c]⟩,λi _=>i=x.cps.size⟩
theorem vi {P:Vg} {w:World} {K:UL} {tg:Expr} {ty:String} (x:Str) (t:Tok) (it:Addr) (hty:["enumerate", "zip", "dict_itemiterator", "dict_reverseitemiterator", "odict_iterator", "itertools.zip_longest", "itertools.pairwise"].contains ty=false)
  (W: ∀ A:Vz,A.handled=none->Walks P w A it [it] [it] x.cps.size (SignAt x) (λi h=>h.IsStrIter it ty x t i)) (S: ∀ (A:Vz) (i:Nat) (s:UR) (Q:Value->UR->Prop) (E:Value->UR->Prop),s.heap.IsStrIter it ty x t i->Q (.ref it) s->wpAny (model P w) A (abX (.ref it)) Q E s) :
  Turn P w K tg (Sg x) [it] it (λi h=>h.IsStrIter it ty x t i) where
 mem:=by simp
 obj:=λi h st b hb=>by
  have e:b=it:=by simpa using hb
  subst e;obtain⟨o,e,c,d⟩:=st;exact⟨o,e,λv z=>by rw[d] at z;cases z⟩
 keep:=λi h h' st k=>let ⟨o,e,r⟩:=st;⟨o,k it (by simp) o e,r⟩
 item:=by
  intro X hP hw hK hc i pins s σ H E I hf st hg;subst hP hw hK;obtain⟨f0,f1,f2,f3,f4,f5⟩:=hf it (by simp);refine(W X.A (I.ok.hd hc)).item i s _ _ hg st λv h' tk hv st' hk=>?_;obtain⟨c,u,hx,rfl⟩:=hv;have I1:Inv X pins σ H { s with heap:=h',toks:=tk }:=I.turned (t':=tk) (λb o hb e=>hk b o (by simpa using hb) e) f0 f1 f3 f4 f5;obtain⟨o,e,cc,d⟩:=id st';exact⟨_,rfl,yS (s:={ s with heap:=h',toks:=tk }) e cc d hty ⟨.str ⟨#[c]⟩,H,I1,⟨_,rfl⟩,⟨rfl,c,hx,rfl⟩,st',λb hb=>(hf b hb).1⟩⟩
 done:=by
  intro X hP hw hK hc i pins s σ H E I hf st hg;subst hP hw hK;obtain⟨f0,f1,f2,f3,f4,f5⟩:=hf it (by simp);have hi:i=x.cps.size:=hg;subst hi;exact(W X.A (I.ok.hd hc)).done s _ _ st λh' tk hk=>⟨rfl,I.turned (t':=tk) (λb o hb e=>hk b o (by simpa using hb) e) f0 f1 f3 f4 f5⟩
 self:=λA i s Q E st h=>S A i s Q E st h
theorem iq{x:Str}{k:Nat}{g:TG}{tt:TT}{te:TE}[wM g][ve tt][wq te]{σ :St}{H:Hp}{Q:VK}(Pv:Nat->List V->Hp->Prop)(h0:Pv 0 [] H)(hl: ∀ i ys H,i<=x.cps.size->Pv i ys H->ys.length<=i)(hz:x.cps.size<=sizeLine)
  (hs: ∀ i c ys H,x.cps[i]?=some c->Pv i ys H->g (.str ⟨#[c]⟩) (σ ++UY k none) H fun σ2 H2=>tt σ2 H2 λb H3=>if b=true then te σ2 H3 λy H4=>Pv (i+1) (ys++[y]) H4 else Pv (i+1) ys H3)
  (hd: ∀ ys H,Pv x.cps.size ys H-> ∀ p,H p=none->Q (.ref p) (upd H p (.lst ys))):Ue k g tt te σ Q (Sg x) H:=by
 refine⟨λi m ys H=>m=x.cps.size - i/\i<=x.cps.size/\Pv i ys H,⟨x.cps.size,by simp,VM _,h0⟩,?_⟩;rintro i m ys H ⟨rfl,hi,p⟩;have hy:=hl i ys H hi p;by_cases hlt:i < x.cps.size
 . refine .inr ⟨hlt,by omega,λv H' y=>?_⟩;obtain⟨e,c,hc,rfl⟩:=y;subst e;refine wM.m (g:=g) _ _ _ _ _ (fun σ2 H2 z=>ve.m (t:=tt) _ _ _ _ (λb H3 z=>?_) z) (hs i c ys _ hc p);cases b with
   | true =>
    rw[if_pos rfl] at z ⊢
    exact wq.m (t:=te) _ _ _ _ (λv H4 w=>⟨x.cps.size - (i+1),by omega,rfl,hlt,w⟩) z
   | false =>
    rw[if_neg Vb] at z ⊢
    exact⟨x.cps.size - (i+1),by omega,rfl,hlt,z⟩
 . have e:i=x.cps.size:=by omega
   subst e;exact .inl ⟨rfl,hd ys H p⟩
theorem Iw{X:Cx}{x:Str}{a:Addr}{pos:Pos}(hg:Gl X x)(hm:X.mg x=some (.ref a))(hd:(x == ("__debug__" :Str))=false:=by decide):QE X (.Name x pos) (tC (.ref a)):=⟨zo hg hm rfl hd⟩
theorem rD(l:Addr)(o:Obj)(b:Str)(u:Tok) :
  Meets (Xv.«dict.__eq__» ⟨[.ref l,.str b u],[]⟩) (λ_ R s=>s.heap.get? l=some o/\R (.ok (.ret .notImplemented)) s) :=
 .of_wp λprog w A R s h=>by
  obtain⟨hp,g,d,tk,os⟩:=s;obtain⟨hl,h⟩:=h;have f1:=aaS;wp_walk;exact⟨_,rfl,h⟩
theorem ua(b:Str)(u:Tok)(l:Addr)(c:Value)(es:Array aa4)(ep:Nat)(dd:Option Addr)(sl:Array (Option Value)) :
  Meets (Xv.«str.__eq__» ⟨[.str b u,.ref l],[]⟩) (λ_ R s=>s.heap.get? l=some { cls:=c,dict:=dd,data:= .dict es ep,slots:=sl }/\R (.ok (.ret .notImplemented)) s) :=
 .of_wp λprog w A R s h=>by obtain⟨hp,g,d,tk,os⟩:=s;obtain⟨hl,h⟩:=h;wp_walk using VO hl,Xh hl;exact⟨_,rfl,h⟩
theorem vC{A:Vz}{s:UR}{l:Addr}{o:Obj}{es:Array aa4}{ep:Nat}(b:Str)(u:Tok)(hl:s.heap.get? l=some o)(hx:o.ExactDict)(hd:o.data= .dict es ep)(hu:A.units < cLine):SeqAt.RcAt A s (.ref l) (.str b u) false:=λprog w E Q h=>by
 obtain⟨cls,dd,data,sl⟩:=o;have hc:cls= .type "dict" :=hx.1;simp only at hd;subst hc hd;exact SeqAt.rc_eq_decline_or (k:=false) ⟨_,hl,rfl⟩ (abq s b u) (by decide) aaS aaT ZM
  (λ_ hq=>WL aaT ⟨_,hl,rfl⟩ PySem.F.entry_dict_eq (PySem.F.args_dict_eq_2 _ _) (rD l _ b u) ⟨hl,hq⟩)
  (λ_ hq=>WL ZM (abq s b u) PySem.F.entry_str_eq (PySem.F.args_str_eq_2 _ _) (ua b u l (.type "dict") es ep dd sl) ⟨hl,hq⟩)
  (λ_ z=>wpAny_of_eq (show isSame (.ref l) (.str b u)=pure false from rfl) z) (.inr hu) h
noncomputable def Px(K:UL):R2:=λx y H Q=> ∃ p z,x= .ref p/\y= .str z/\((∃ xs,iY K H p xs)\/(∃ xs,fq K H p xs)\/ ∃ kvs,H p=some (.dK kvs))/\Q (.bl false) H
noncomputable def QX(K:UL):V->Option Int->Option Int->Hp->VK->Prop:=λx lo hi H Q=> ∃ a xs,x= .ref a/\fq K H a xs/\(HT.cX xs.length 0 lo=0/\HT.cX xs.length xs.length hi=xs.length)/\Q (.ref a) H
noncomputable def Jt(K:UL):R2:=λx y H Q=> ∃ a b ys,x= .ref a/\y= .ref b/\fq K H a []/\fq K H b ys/\Q (.ref b) H
noncomputable def Jp:R2:=λx y H Q=> ∃ a b,x= .str a/\y= .str b/\a.length+b.length<=sizeLine/\Q (.str (a++b)) H
theorem nz:fillsNumberSlot (.type "tuple") "mul" =pure false :=
 PySem.fillsNumberSlot_seq (id:= "tuple.__mul__") (r:=some (.builtin "tuple.__rmul__")) WR.lookup (by decide +kernel) Z2.lookup (by decide +kernel)
theorem tf:seqRepeat? (.type "tuple")=pure (some (.builtin "tuple.__mul__")):=by
 unfold seqRepeat?;rw[ab2 (T:= "tuple") (name:= "__mul__") (id:= "tuple.__mul__") WR.lookup (by decide +kernel),ab2 (T:= "tuple") (name:= "__rmul__") (id:= "tuple.__rmul__") Z2.lookup (by decide +kernel)];rfl
theorem pD(a:Int)(t:Tok)(l:Addr)(items:Array Value)(n:Nat)(dd:Option Addr)(sl:Array (Option Value)) :
  Meets (Xv.«int.__rmul__» ⟨[.int a t,.ref l],[]⟩) (λ_ R s=>s.heap.get? l=some { cls:= .type "tuple",dict:=dd,data:= .seq items n,slots:=sl }/\R (.ok (.ret Value.notImplemented)) s) :=
 .of_wp λprog w A R s h=>by obtain⟨hp,g,d,tk,os⟩:=s;obtain⟨hl,h⟩:=h;wp_walk using VO hl,Xh hl;exact⟨_,rfl,h⟩
theorem q8{prog:Vg}{w:World}{A:Vz}{E:Value->UR->Prop}{s:UR}{t sl:Addr}{items:Array Value}{vl vu:Value}{lo hi:Option Int}{Q:Value->UR->Prop}(ht:IsTup s.heap t items)(hs:s.heap.IsSliceOf sl vl vu .none)(pl:aac vl lo)(pu:aac vu hi)
  (hw:HT.cX items.size 0 lo=0/\HT.cX items.size items.size hi=items.size) (h:Q (.ref t) s):wpAny (model prog w) A (Y3 (.ref t) (.ref sl)) Q E s:=by
 obtain⟨os,hos,hcs,hds⟩:=id hs;have hTs:s.TypeIs (.ref sl) "slice" :=⟨os,hos,hcs⟩
 unfold Y3
 try with_reducible refine Ws ?_
 first | refine UN (UZ ?_) | skip
 refine UN (wpAny_sequenceKey ht.typeIs (by decide) ?_);refine UN (Wo (name:=Va "__getitem__") ht.typeIs VQ
  (WC VQ ht.typeIs aa6 ?_ (abp _ _)))
 show wpAny _ _ (Zi (.ref t) >>= _) _ _ s;refine UN (tupleItemsOf_ ht ?_);refine UN (XW hTs ?_);rw[if_pos (by decide)];refine UN (HT.hV hs pl pu ?_);show wpAny _ _ (if (((HT.cX items.size 0 lo:Nat):Int) == 0&&(1:Int) == 1&&(HT.cX items.size items.size hi - HT.cX items.size 0 lo) == items.size)=true then _ else _) _ _ s;rw[if_pos (by rw[hw.1,hw.2];simp)];refine UN (m:=Builtin.Tuple.tupleIsExact _) (UN (XW ht.typeIs (UZ ?_)));rw[if_pos (by decide)];exact UN (aal (UZ ⟨_,rfl,UZ h⟩))
section
variable{X:Cx}
theorem FA(hu:X.A.units < cLine):c9 X (Vu .Eq) (Px X.K):=by
 intro pins s σ H x y v u Q I rx ry h;obtain⟨p,z,rfl,rfl,hp,hQ⟩:=h;cases(show v=Ve p from rx);obtain⟨t,rfl⟩:=ry;have fin:EP X pins σ Q (.bool false) s:=⟨.bl false,H,I,rfl,hQ⟩
 rcases hp with⟨xs,hp⟩ | ⟨xs,hp⟩ | ⟨kvs,hp⟩
 . obtain⟨aj,hv,pl,hz⟩:=I.list hp;exact SeqAt.RcAt.list_str z t pl.isList hu _ _ _ _ fin
 . obtain⟨aj,hv,pl,hz⟩:=I.tuple hp;exact SeqAt.RcAt.tuple_str z t pl hu _ _ _ _ fin
 . obtain⟨_,_,vs,_,o,es,ep,e,hx,hd,_⟩:=vR I.bA hp;exact vC z t e hx hd hu _ _ _ _ fin
theorem HZ:E6 X (QX X.K):=by
 intro pins s σ H x v vl vu lo hi sl Q I rx hs pl pu h;obtain⟨a,xs,rfl,hx,hw,q⟩:=h;cases rx;obtain⟨aj,r,ht,hz⟩:=I.tuple hx;have hlen:aj.toArray.size=xs.length:=by rw[U4];exact r.length.symm
 refine⟨"tuple",_,VQ.lookup,ht.typeIs,?_⟩;exact q8 ht hs pl pu (by rw[hlen];exact hw) ⟨.ref a,H,I,rfl,q⟩
theorem Ij:c9 X (Wa .Add) (Jt X.K):=by
 intro pins s σ H x y v u Q I rx ry h;obtain⟨a,b,ys,rfl,rfl,ha,hb,q⟩:=h;cases(show v=Ve a from rx);cases(show u=Ve b from ry);obtain⟨aj,r1,p1,_⟩:=I.tuple ha;obtain⟨its2,r2,p2,_⟩:=I.tuple hb;have e1:aj=[]:=by cases r1;rfl
 subst e1;obtain⟨⟨cls,dd,data,sl⟩,ho,hc,n,hd⟩:=id p1;obtain⟨⟨cls2,dd2,data2,sl2⟩,ho2,hc2,n2,hd2⟩:=id p2;simp only at hc hd hc2 hd2;subst hc hd hc2 hd2;exact abE ⟨_,ho,rfl⟩ ⟨_,ho2,rfl⟩ ZV abg Yq Yi (X7 _ _)
  (tuple_addW0 a b _ _ n n2 dd dd2 sl sl2 rfl) ⟨ho,ho2,⟨.ref b,H,I,rfl,q⟩⟩
theorem Gp:c9 X (Wa .Add) Jp:=by
 intro pins s σ H x y v u Q I rx ry h;obtain⟨a,b,rfl,rfl,hz,q⟩:=h;obtain⟨t,rfl⟩:=rx;obtain⟨t',rfl⟩:=ry;exact PyProof.Rows.add_str (λt' tk=>⟨.str (a++b),H,I.tok _,⟨_,rfl⟩,q⟩) hz
theorem NZ:c9 X (Wa .Add) (λx y H Q=>(E5 λi j=> .int (i+j)) x y H Q\/(Ql x y H Q\/(Jf X.K x y H Q\/(Jt X.K x y H Q\/Jp x y H Q)))):=LK.or (LP.or (GQ.or (Ij.or Gp)))
theorem Ux:E6 X (λx lo hi H Q=>PD X.K x lo hi H Q\/(Qm X.K x lo hi H Q\/QX X.K x lo hi H Q)):=Fh.or (Ni.or HZ)
end
noncomputable def y0{α :Type}(c:Nat->Nat->Bool):KasT α -> α
 | .ret a=>a
 | .ask i j k=>y0 c (k (c i j))
noncomputable def CU{α :Type}(n:Nat)(c:Nat->Nat->Bool):KasT α ->Bool
 | .ret _=>true
 | .ask i j k=>decide (i < n)&&decide (j < n)&& !decide (i=j)&&CU n c (k (c i j))
theorem wy{α :Type}{cmp:Nat->Nat->(Bool->UR->Prop)->UR->Prop}{n:Nat}{c:Nat->Nat->Bool}{s:UR}(hc: ∀ i j C,i < n->j < n->i≠j->C (c i j) s->cmp i j C s){Q: α ->UR->Prop} :
  ∀ t:KasT α,CU n c t=true->Q (y0 c t) s->t.kasWp cmp Q s
 | .ret a,_,q=>q
 | .ask i j k,h,q=>by
  simp only[CU,U9,decide_eq_true_eq,WK,decide_eq_false_iff_not] at h;exact hc i j _ h.1.1.1 h.1.1.2 h.1.2 (wy hc (k (c i j)) h.2 q)
noncomputable def gX{α :Type}(n:Nat)(c:Nat->Nat->Bool)(t:KasT α)(Q: α ->Prop):Prop:=CU n c t=true/\Q (y0 c t)
theorem gX.ret{α :Type}{n:Nat}{c:Nat->Nat->Bool}{a: α}{Q: α ->Prop}(h:Q a):gX n c (.ret a) Q:=⟨rfl,h⟩
theorem gX.ask{α :Type}{n:Nat}{c:Nat->Nat->Bool}{i j:Nat}{k:Bool->KasT α}{Q: α ->Prop}(hi:i < n)(hj:j < n)(hij:i≠j)(h:gX n c (k (c i j)) Q):gX n c (.ask i j k) Q :=
 ⟨by simp only[CU,hi,hj,hij,h.1,decide_true,decide_false,Bool.not_false,Ya],h.2⟩
theorem gX.bind{α β :Type}{n:Nat}{c:Nat->Nat->Bool}{f: α ->KasT β}{Q: β ->Prop}: ∀{t:KasT α},gX n c t (λa=>gX n c (f a) Q)->gX n c (t.bind f) Q
 | .ret a,h=>h.2
 | .ask i j k,h=>by
  have e:=h.1;simp only[CU,U9,decide_eq_true_eq,WK,decide_eq_false_iff_not] at e;exact gX.ask e.1.1.1 e.1.1.2 e.1.2 (gX.bind (t:=k (c i j)) ⟨e.2,h.2⟩)
theorem gX.mono{α :Type}{n:Nat}{c:Nat->Nat->Bool}{t:KasT α}{Q Q': α ->Prop}(h:gX n c t Q)(f: ∀ a,Q a->Q' a):gX n c t Q':=⟨h.1,f _ h.2⟩
structure gE(n:Nat)(p:Array Nat):Prop where
 perm:p.toList.Perm (VX n)
theorem gE.size{n:Nat}{p:Array Nat}(h:gE n p):p.size=n:=by simpa using h.perm.length_eq
theorem gE.lt{n:Nat}{p:Array Nat}(h:gE n p){i:Nat}(hi:i < n):p.getD i 0 < n:=by
 have hi':i < p.size:=h.size ▸ hi;have:p.getD i 0∈p.toList:=by
  rw[VA,VR hi'];exact Array.getElem_mem_toList hi'
 exact Xm.mp (h.perm.mem_iff.mp this)
theorem gE.ne{n:Nat}{p:Array Nat}(h:gE n p){i j:Nat}(hi:i < n)(hj:j < n)(hij:i≠j):p.getD i 0≠p.getD j 0:=λe=>by
 have hi':i < p.size:=h.size ▸ hi;have hj':j < p.size:=h.size ▸ hj;have nd:p.toList.Nodup:=h.perm.nodup_iff.mpr List.nodup_range;rw[VA,VA,VR hi',VR hj'] at e;exact hij ((ZC (by simpa using hi') nd).mp (by rw[XH,XH,VR hi',VR hj'];exact congrArg some e))
theorem gE.of{n:Nat}{p q:Array Nat}(h:gE n p)(pm:q.Perm p):gE n q:=⟨(Array.perm_iff_toList_perm.mp pm).trans h.perm⟩
theorem yh(n:Nat):gE n (List.toArray (VX n)):=⟨acs _⟩
section
variable{n:Nat}{r:Nat->Nat}
noncomputable def rk(r:Nat->Nat)(p:Array Nat)(i:Nat):Nat:=r (p.getD i 0)
noncomputable def qI(r:Nat->Nat)(p:Array Nat)(k:Nat):Prop:= ∀ i j,i < j->j < k->rk r p i < rk r p j
noncomputable def qu(r:Nat->Nat)(p:Array Nat)(k:Nat):Prop:= ∀ i j,i < j->j < k->rk r p j < rk r p i
noncomputable def cN(r:Nat->Nat)(i j:Nat):Bool:=decide (r i < r j)
noncomputable def sS(n:Nat)(r:Nat->Nat):Prop:= ∀ i j,i < n->j < n->r i=r j->i=j
theorem DZ{p:Array Nat}(hr:sS n r)(h:gE n p){i j:Nat}(hi:i < n)(hj:j < n)(hij:i≠j):rk r p i≠rk r p j:=λe=>h.ne hi hj hij (hr _ _ (h.lt hi) (h.lt hj) e)
theorem GW{p:Array Nat}{k:Nat}(h:qI r p k)(hk:1<=k)(x:rk r p (k - 1) < rk r p k):qI r p (k+1):=λi j hij hj=>by
 rcases WS j k with c | c
 . exact h i j hij c
 . have:j=k:=by omega
   subst this;rcases WS i (j - 1) with d | d
   . exact Y4 (h i (j - 1) d (by omega)) x
   . have:i=j - 1:=by omega
     subst this;exact x
theorem sF{p:Array Nat}{k:Nat}(h:qu r p k)(hk:1<=k)(x:rk r p k < rk r p (k - 1)):qu r p (k+1):=λi j hij hj=>by
 rcases WS j k with c | c
 . exact h i j hij c
 . have:j=k:=by omega
   subst this;rcases WS i (j - 1) with d | d
   . exact Y4 x (h i (j - 1) d (by omega))
   . have:i=j - 1:=by omega
     subst this;exact x
theorem xD{p:Array Nat}(hr:sS n r)(h:gE n p): ∀(f m:Nat),1<=m->m+f<=n->qI r p m ->
  gX n (cN r) (kas_asc p f m) λm'=>m<=m'/\m'<=m+f/\qI r p m'/\(m' < m+f->rk r p m' < rk r p (m' - 1))
 | 0,m,h1,hm,u=>gX.ret ⟨UT _,UT _,u,λx=>absurd x (VJ _)⟩
 | f+1,m,h1,hm,u=>by
  refine gX.ask (h.lt (by omega)) (h.lt (by omega)) (h.ne (by omega) (by omega) (by omega)) ?_;have ne:=DZ hr h (i:=m) (j:=m - 1) (by omega) (by omega) (by omega);by_cases c:rk r p m < rk r p (m - 1)
  . have e:cN r (p.getD m 0) (p.getD (m - 1) 0)=true:=decide_eq_true c;rw[e,if_pos rfl];exact gX.ret ⟨UT _,by omega,u,λ_=>c⟩
  . have e:cN r (p.getD m 0) (p.getD (m - 1) 0)=false:=decide_eq_false c;rw[e,if_neg (by simp)];refine(xD hr h f (m+1) (by omega) (by omega) (GW u h1 (by omega))).mono λm' x=>⟨by omega,by omega,x.2.2.1,λy=>x.2.2.2 (by omega)⟩
theorem zA{p:Array Nat}(hr:sS n r)(h:gE n p): ∀(f m:Nat),1<=m->m+f<=n->qu r p m ->
  gX n (cN r) (kas_desc f p m 0) λt=>t.1=p/\t.2.2=0/\m<=t.2.1/\t.2.1<=m+f/\qu r p t.2.1
 | 0,m,h1,hm,u=>gX.ret ⟨rfl,rfl,UT _,UT _,u⟩
 | f+1,m,h1,hm,u=>by
  refine gX.ask (h.lt (by omega)) (h.lt (by omega)) (h.ne (by omega) (by omega) (by omega)) ?_;have ne:=DZ hr h (i:=m) (j:=m - 1) (by omega) (by omega) (by omega);by_cases c:rk r p m < rk r p (m - 1)
  . have e:cN r (p.getD m 0) (p.getD (m - 1) 0)=true:=decide_eq_true c;rw[e,if_pos rfl,if_neg (by omega)];refine(zA hr h f (m+1) (by omega) (by omega) (sF u h1 c)).mono λt x=>⟨x.1,x.2.1,by omega,by omega,x.2.2.2.2⟩
  . have e:cN r (p.getD m 0) (p.getD (m - 1) 0)=false:=decide_eq_false c;rw[e,if_neg (by simp)];refine gX.ask (h.lt (by omega)) (h.lt (by omega)) (h.ne (by omega) (by omega) (by omega)) ?_;have e2:cN r (p.getD (m - 1) 0) (p.getD m 0)=true:=decide_eq_true (show rk r p (m - 1) < rk r p m by omega);rw[e2,if_pos rfl];exact gX.ret ⟨rfl,rfl,UT _,Nat.le_add_right _ _,u⟩
theorem DW{p:Array Nat}{m:Nat}(hm:m<=p.size)(k:Nat):rk r (kas_rev p 0 m) k=if k < m then rk r p (m - 1 - k) else rk r p k:=by
 unfold rk kas_rev;rw[VA,getElem?_mirror_all hm];by_cases c:k < m
 . rw[if_pos ⟨VM _,c⟩,if_pos c,VA,aan]
 . rw[if_neg (λx=>c x.2),if_neg c,VA]
theorem Dw{p:Array Nat}(hr:sS n r)(h:gE n p){m:Nat}(h1:1<=m)(hm:m<=n)(u:qu r p m):gX n (cN r) (kas_tail3 m n p) λt=>gE n t.2/\1<=t.1/\t.1<=n/\qI r t.2 t.1:=by
 have h':gE n (kas_rev p 0 m):=h.of (mirror_perm _ _ _ _);refine gX.bind ((xD hr h' (n - m) m h1 (by omega) λi j hij hj=>?_).mono λm' x=>gX.ret ⟨h',by omega,by omega,x.2.2.1⟩);rw[DW (by rw[h.size];exact hm),DW (by rw[h.size];exact hm),if_pos (by omega),if_pos hj];exact u _ _ (by omega) (by omega)
theorem CH{p:Array Nat}(hr:sS n r)(h:gE n p)(h1:1<=n):gX n (cN r) (kas_count n p) λt=>gE n t.2/\1<=t.1/\t.1<=n/\qI r t.2 t.1:=by
 refine gX.bind ((xD hr h (n - 1) 1 (UT _) (by omega) λi j hij hj=>by omega).mono λm x=>?_);obtain⟨x1,x2,x3,x4⟩:=x;by_cases c:m=n
 . rw[if_pos (by simpa using c)];exact gX.ret ⟨h,x1,by omega,x3⟩
 . rw[if_neg (by simpa using c)];by_cases c2:m > 1
   . rw[if_pos c2];refine gX.ask (h.lt (by omega)) (h.lt (by omega)) (h.ne (by omega) (by omega) (by omega)) ?_;have e2:cN r (p.getD 0 0) (p.getD (m - 1) 0)=true:=decide_eq_true (x3 0 (m - 1) (by omega) (by omega));rw[e2,if_pos rfl];exact gX.ret ⟨h,x1,by omega,x3⟩
   . rw[if_neg c2];have:m=1:=by omega
     subst this;refine gX.bind ((zA hr h (n - (1+1)) (1+1) (by omega) (by omega) (sF (λi j hij hj=>by omega) (UT _) (x4 (by omega)))).mono λt y=>?_);obtain⟨y1,y2,y3,y4,y5⟩:=y;rw[if_neg (by omega),y1];exact Dw hr h (by omega) (by omega) y5
theorem qy{p:Array Nat}(hr:sS n r)(h:gE n p){k:Nat}(hk:k < n)(u:qI r p k): ∀(f l m:Nat),l<=m->m<=k->m - l<=f->(∀ i,i < l->rk r p i < rk r p k)->(∀ i,m<=i->i < k->rk r p k < rk r p i) ->
  gX n (cN r) (kas_place p k f l m) λt=>t<=k/\(∀ i,i < t->rk r p i < rk r p k)/\(∀ i,t<=i->i < k->rk r p k < rk r p i)
 | 0,l,m,h1,h2,h3,a,b=>gX.ret ⟨by omega,a,λi hi hik=>b i (by omega) hik⟩
 | f+1,l,m,h1,h2,h3,a,b=>by
  unfold kas_place;by_cases c:l ≥ m
  . rw[if_pos c];exact gX.ret ⟨by omega,a,λi hi hik=>b i (by omega) hik⟩
  . rw[if_neg c];refine gX.ask (h.lt (by omega)) (h.lt (by omega)) (h.ne (by omega) (by omega) (by omega)) ?_;have ne:=DZ hr h (i:=k) (j:=(l+m) / 2) (by omega) (by omega) (by omega);by_cases d:rk r p k < rk r p ((l+m) / 2)
    . have e:cN r (p.getD k 0) (p.getD ((l+m) / 2) 0)=true:=decide_eq_true d;rw[e,if_pos rfl];refine qy hr h hk u f l ((l+m) / 2) (by omega) (by omega) (by omega) a λi hi hik=>?_;rcases WS ((l+m) / 2) i with z | z
      . exact Y4 d (u _ _ z hik)
      . have:i=(l+m) / 2:=by omega
        rw[this];exact d
    . have e:cN r (p.getD k 0) (p.getD ((l+m) / 2) 0)=false:=decide_eq_false d;rw[e,if_neg (by simp)];refine qy hr h hk u f ((l+m) / 2+1) m (by omega) (by omega) (by omega) (λi hi=>?_) b;have d':rk r p ((l+m) / 2) < rk r p k:=by omega
      rcases WS i ((l+m) / 2) with z | z
      . exact Y4 (u _ _ z (by omega)) d'
      . have:i=(l+m) / 2:=by omega
        rw[this];exact d'
theorem rR{p:Array Nat}{k d:Nat}(hk:k < p.size)(hd:d<=k)(i:Nat):rk r (bubble p k d) i=if i=k - d then rk r p k else if k - d < i/\i<=k then rk r p (i - 1) else rk r p i:=by
 have g: ∀(q:Array Nat)(j:Nat),rk r q j=r (q[j]?.getD 0):=λq j=>by unfold rk;rw[VA]
 rw[g,g,g,g,getElem?_bubble hk d hd]
 repeat' split
 all_goals rfl
theorem CZ(hr:sS n r): ∀(f:Nat)(p:Array Nat)(k:Nat),gE n p->k+f=n->qI r p k->gX n (cN r) (kas_bin f p k) λq=>gE n q/\qI r q n
 | 0,p,k,h,e,u=>gX.ret ⟨h,(show k=n from e) ▸ u⟩
 | f+1,p,k,h,e,u=>by
  refine gX.bind ((qy hr h (by omega) u k 0 k (by omega) (by omega) (by omega) (λi hi=>by omega) (λi h1 h2=>by omega)).mono λl x=>?_);obtain⟨x1,x2,x3⟩:=x;refine CZ hr f _ (k+1) (h.of (bubble_perm _ _ _)) (by omega) λi j hij hj=>?_;have hs:k < p.size:=by rw[h.size];omega
  rw[rR hs (by omega),rR hs (by omega)]
  repeat' split
  all_goals first | (exfalso;omega) | exact u _ _ (by omega) (by omega) | exact x2 _ (by omega) | exact x3 _ (by omega) (by omega)
theorem HG(hr:sS n r)(h1:1<=n):gX n (cN r) (XC n) λq=>gE n q/\qI r q n:=by
 refine gX.bind ((CH hr (yh n) h1).mono λt x=>?_);obtain⟨x1,x2,x3,x4⟩:=x;by_cases c:t.1 < n
 . rw[if_pos c];have:max t.1 1=t.1:=by omega
   rw[this];exact CZ hr _ _ _ x1 (by omega) x4
 . rw[if_neg c];have:t.1=n:=by omega
   exact gX.ret ⟨x1,this ▸ x4⟩
end
theorem vY{α :Type}{n:Nat}{c c':Nat->Nat->Bool}(h: ∀ i j,i < n->j < n->c i j=c' i j): ∀ t:KasT α,CU n c' t=true->CU n c t=true/\y0 c t=y0 c' t
 | .ret a,_=>⟨rfl,rfl⟩
 | .ask i j k,e=>by
  simp only[CU,U9,decide_eq_true_eq,WK,decide_eq_false_iff_not] at e;have hc:=h i j e.1.1.1 e.1.1.2;have:=vY h (k (c' i j)) e.2;simp only[CU,y0,U9,decide_eq_true_eq,WK,decide_eq_false_iff_not];rw[hc];exact⟨⟨e.1,this.1⟩,this.2⟩
noncomputable def iZ(a b:Str):Prop:=a.cps.toList < b.cps.toList
instance (a b:Str):Decidable (iZ a b):=inferInstanceAs (Decidable (a.cps.toList < b.cps.toList))
theorem kH(a:Str): ¬ iZ a a:=List.lt_irrefl _
theorem jQ{a b c:Str}(h1:iZ a b)(h2:iZ b c):iZ a c:=List.lt_trans h1 h2
theorem jR{a b:Str}(h:iZ a b): ¬ iZ b a:=λz=>kH a (jQ h z)
theorem FN{a b:Str}(h:a.cps.toList=b.cps.toList):a=b:=by
 cases a;cases b;simp only at h;rw[ab3.mp h]
theorem nc{a b:Str}(h:a≠b):iZ a b\/iZ b a:=by
 by_cases h1:iZ a b
 . exact .inl h1
 . by_cases h2:iZ b a
   . exact .inr h2
   . exact absurd (FN (List.le_antisymm (List.not_lt.mp h2) (List.not_lt.mp h1))) h
noncomputable def k4(xs:List Str)(x:Str):Nat:=(xs.filter λy=>decide (iZ y x)).length
theorem rV{xs:List Str}{x y:Str}(hx:x∈xs)(h:iZ x y):k4 xs x < k4 xs y:=by
 unfold k4;have sub: ∀ l:List Str,(l.filter λz=>decide (iZ z x)).length<=(l.filter λz=>decide (iZ z y)).length:=λl=>by
  induction l with
  | nil=>exact UT _
  | cons z r ih =>
   by_cases h1:iZ z x
   . rw[Vw (by simpa using h1),Vw (by simpa using jQ h1 h)];simpa using ih
   . rw[VI (by simpa using h1)];by_cases h2:iZ z y
     . rw[Vw (by simpa using h2)];exact Xf ih
     . rw[VI (by simpa using h2)];exact ih
 induction xs with
 | nil=>cases hx
 | cons z r ih =>
  rcases U1.mp hx with rfl | hr
  . rw[VI (by simpa using kH x),Vw (by simpa using h)];exact abH (sub r)
  . by_cases h1:iZ z x
    . rw[Vw (by simpa using h1),Vw (by simpa using jQ h1 h)];simpa using ih hr
    . rw[VI (by simpa using h1)];by_cases h2:iZ z y
      . rw[Vw (by simpa using h2)];exact Xe (ih hr)
      . rw[VI (by simpa using h2)];exact ih hr
theorem Dv{xs:List Str}{x y:Str}(hx:x∈xs)(hy:y∈xs):k4 xs x < k4 xs y↔iZ x y:=by
 refine⟨λh=>?_,rV hx⟩;by_cases e:x=y
 . subst e;exact absurd h (VJ _)
 . rcases nc e with z | z
   . exact z
   . exact absurd (rV hy z) (Nat.lt_asymm h)
noncomputable def cS(xs:List Str)(i j:Nat):Bool:=decide (iZ (xs.getD i "") (xs.getD j ""))
theorem getD_mem{xs:List Str}{i:Nat}(h:i < xs.length):xs.getD i "" ∈xs:=by
 rw[VY,UW h];exact Wq h
theorem vO{xs:List Str}(h1:1<=xs.length)(nd:xs.Nodup) :
  CU xs.length (cS xs) (XC xs.length)=true/\(y0 (cS xs) (XC xs.length)).toList.Perm (VX xs.length)/\((y0 (cS xs) (XC xs.length)).toList.map λi=>xs.getD i "").Pairwise iZ:=by
 have rkI: ∀ i j,i < xs.length->j < xs.length->(k4 xs (xs.getD i "") < k4 xs (xs.getD j "")↔iZ (xs.getD i "") (xs.getD j "")):=λi j hi hj=>Dv (getD_mem hi) (getD_mem hj);have hr:sS xs.length λi=>k4 xs (xs.getD i ""):=λi j hi hj e=>by
  have a:=rkI i j hi hj;have b:=rkI j i hj hi;have e':xs.getD i "" =xs.getD j "" :=Zt λne=>by
   rcases nc ne with z | z
   . have:=a.mpr z;simp only at e;omega
   . have:=b.mpr z;simp only at e;omega
  rw[VY,VY,UW hi,UW hj] at e';exact(ZC hi nd).mp (by rw[UW hi,UW hj];exact congrArg some e')
 have ok:=HG hr h1;have al: ∀ i j,i < xs.length->j < xs.length->cS xs i j=cN (λi=>k4 xs (xs.getD i "")) i j:=λi j hi hj=>by
  unfold cS cN;rw[decide_eq_decide];exact(rkI i j hi hj).symm
 have ea:=vY al (XC xs.length) ok.1;rw[ea.2];have sh:=ok.2.1;refine⟨ea.1,sh.perm,?_⟩;rw[Xg,List.pairwise_iff_getElem];intro i j hi hj hij;have hj':j < xs.length:=by rw[<- sh.size];simpa using hj
 have:=ok.2.2 i j hij hj';unfold rk at this;have:=(rkI _ _ (sh.lt (by omega)) (sh.lt hj')).mp this;rw[VA,VA,VR (by simpa using hi),VR (by simpa using hj)] at this;simpa using this
section
variable{prog:Vg}{w:World}{A:Vz}{E:Value->UR->Prop}{s:UR}
noncomputable def dA(h:Heap)(a:Addr)(vs:List Value):Heap:=((h.update a (WY λ_=>(#[]:Array Value))).push (Xu "tuple" vs.toArray 0)).push (Xu "list" #[] 0)
theorem pv{h:Heap}{a b:Addr}{vs:List Value}(hb:b < h.objs.size):(dA h a vs).get? b=(h.update a (WY λ_=>(#[]:Array Value))).get? b :=
 (Ys _ _ _ (Vf (Zk (Xe hb) ((size_push' _ _).trans (congrArg (· +1) (Z3 _ _ _))).symm))).trans
  (Ys _ _ _ (Vf (Zk hb (Z3 _ _ _).symm)))
theorem vy{h:Heap}{a b:Addr}{vs:List Value}{o:Obj}(hb:b≠a)(e:h.get? b=some o):(dA h a vs).get? b=some o :=
 (pv (U2 e)).trans ((aa7 _ _ _ _ hb).trans e)
theorem mh{vs:List Value}(h:vs.length < 64):vs.length<=sizeLine:=Vn (WO h) (by decide)
theorem qF{a:Addr}{vs:List Value}{n:Nat}{P:PySem.Fin->UR->Prop}{κ :abN}{G:Array Nat->Prop}(ho:s.heap.get? a=some (Xu "list" vs.toArray n))(h64:vs.length < 64)
  (hk:2<=vs.length-> ∀ Q':abN->UR->Prop,Q' κ { s with heap:=dA s.heap a vs }->wpAny (model prog w) A (keyKind' vs.toArray) Q' E { s with heap:=dA s.heap a vs })
  (ha:2<=vs.length-> ∀ Q':Array Nat->UR->Prop,(∀ p,G p->Q' p { s with heap:=dA s.heap a vs })->(XC vs.length).kasWp (kas_ask prog w A κ vs) Q' { s with heap:=dA s.heap a vs })
  (h0:vs.length < 2->P (.done (.ret .none)) { s with heap:=aak s.heap a vs vs.toArray })
  (h: ∀ p:Array Nat,p.size=vs.length->G p->P (.done (.ret .none)) { s with heap:=aak s.heap a vs (p.toList.map λi=>vs.getD i WW).toArray }):wpAny (model prog w) A (Xv.«list.sort» ⟨[.ref a],[]⟩) P E s:=by
 obtain⟨ep,g1⟩: ∃ k,(s.heap.update a (WY λ_=>(#[]:Array Value))).get? a=some (Xu "list" #[] k):=⟨_,get?_update_seq ho λ_=> #[]⟩
 have g2:(dA s.heap a vs).get? a=some (Xu "list" #[] ep):=(pv (U2 ho)).trans g1;have z:=U4 (as:=vs);rw[list_sort_plain];refine UN (abO ho rfl (UN (ZN ho rfl (UN (acd g1 rfl (UN (wpAny_newTuple (UN (YI (Ws ?_) (VM _))) (mh h64))))) (z ▸ mh h64) (VM _))));show wpAny (model prog w) A _ P E { s with heap:=dA s.heap a vs };dsimp only;have last: ∀ out:Array Value,out.size<=sizeLine->P (.done (.ret .none)) { s with heap:=aak s.heap a vs out }->P (.done (.ret .none)) { s with heap:=(dA s.heap a vs).update a (WY λ_=>out) }:=λ_ _ q=>q;rcases WS vs.toArray.size 2 with c | c
 . rw[if_pos c,if_pos c];have e:(arrOf (SortSt.mk' general' (vs.toArray.zip vs.toArray) #[] 7 none)).map (·.2)=vs.toArray:=by
    apply ab3.mp;show((vs.toArray.zip vs.toArray).map (·.2)).toList=_
    rw[Array.toList_map,Array.toList_zip];exact List.map_snd_zip (UT _)
   refine UN (m:=pure general') (UZ ?_);rw[StateT.run_pure];refine UN (UZ (UN (acd g2 rfl (UN (ZN g2 rfl ?_ (VM _) (hsz2:=by rw[e,z];exact Xf (mh h64)))))));rw[if_neg (by simp)];refine UZ ?_;rw[e];exact last _ (by rw[z];exact mh h64) (h0 (z ▸ c))
 . rw[if_neg (abw.mpr c),if_neg (abw.mpr c)];have c':2<=vs.length:=z ▸ c;have run:=kat_run (E:=E) (ks:=vs) (vs:=vs) (Q:=λst u=>u={ s with heap:=dA s.heap a vs }/\ ∃ p:Array Nat,p.size=vs.length/\arrOf st=p.map (kas_item (vs.toArray.zip vs.toArray))/\failedOf st=none/\G p)
    (G:=λp u=>u={ s with heap:=dA s.heap a vs }/\G p) rfl c' h64 (λp st u b1 b2 b3 b4=>⟨b4.1,p,b1,b2,b3,b4.2⟩) (ha c' _ λp g=>⟨rfl,g⟩)
   refine UN (hk c' _ (UN (VB run (λr u x=>?_) λ_ _ x=>x)));obtain⟨⟨⟩,st⟩:=r;obtain⟨rfl,p,hp,har,hf,g⟩:=x;have el:(List.toArray (p.toList.map λi=>vs.getD i WW)).size<=sizeLine:=by rw[U4,UO,Wy,hp];exact mh h64
   dsimp only;rw[kat_snds rfl har,hf];refine UN (acd g2 rfl (UN (ZN g2 rfl ?_ (VM _) (Xf el))));rw[if_neg (by simp)];exact UZ (last _ el (h p hp g))
abbrev lL(h:Heap)(vs:List Value):Heap:=((h.push (Xu "list" #[] 0)).update h.objs.size (WY (· ++vs.toArray))).push (Xu "list" vs.toArray 0)
theorem fI(h:Heap)(vs:List Value):((h.push (Xu "list" #[] 0)).update h.objs.size (WY (· ++vs.toArray))).objs.size=h.objs.size+1:=(Z3 _ _ _).trans (size_push' _ _)
theorem i8(h:Heap)(vs:List Value):(lL h vs).get? (h.objs.size+1)=some (Xu "list" vs.toArray 0):=(fI h vs) ▸ U7 _ rfl
theorem uW{h:Heap}{vs:List Value}{b:Addr}{o:Obj}(e:h.get? b=some o):(lL h vs).get? b=some o:=by
 have l:=U2 e;have z:=fI h vs;exact(Ys _ _ _ (Vf (Zk (Xe l) z.symm))).trans ((aa7 _ _ _ _ (Vf l)).trans ((Ys _ _ _ (Vf l)).trans e))
theorem yF{l:Addr}{vs:List Value}{Q:Value->UR->Prop}{κ :abN}{G:Array Nat->Prop}(hl:s.heap.IsList l vs.toArray)(h64:vs.length < 64)
  (hk: ∀ h':Heap,(∀ b o,s.heap.get? b=some o->h'.get? b=some o)->2<=vs.length-> ∀ Q':abN->UR->Prop,Q' κ { s with heap:=h' }->wpAny (model prog w) A.in1.in1 (keyKind' vs.toArray) Q' E { s with heap:=h' })
  (ha: ∀ h':Heap,(∀ b o,s.heap.get? b=some o->h'.get? b=some o)->2<=vs.length-> ∀ Q':Array Nat->UR->Prop,(∀ p,G p->Q' p { s with heap:=h' })->(XC vs.length).kasWp (kas_ask prog w A.in1.in1 κ vs) Q' { s with heap:=h' })
  (h0:vs.length < 2->Q (.ref (s.heap.objs.size+1)) { s with heap:=ab4 s.heap vs vs.toArray })
  (h: ∀ p:Array Nat,p.size=vs.length->G p->Q (.ref (s.heap.objs.size+1)) { s with heap:=ab4 s.heap vs (p.toList.map λi=>vs.getD i WW).toArray }):wpAny (model prog w) A (call (.builtin "sorted") [.ref l]) Q E s:=by
 have kp: ∀ b o,s.heap.get? b=some o->(dA (lL s.heap vs) (s.heap.objs.size+1) vs).get? b=some o:=λb o e=>vy (Vf (Xe (U2 e))) (uW e);refine XY acb abI abJ (abK (.ref l)) ?_;unfold Xv.«sorted»;refine UN (m:=checkCount "sorted" 1 1 [Ve l].length) (UZ (UN (collect_list hl (UN (YI ?_ (mh h64))) (mh h64))));show wpAny _ _ _ _ _ { s with heap:=lL s.heap vs };rw [fI];refine UN (Ws (WC aaH ⟨_,i8 s.heap vs,rfl⟩ aax (qF (G:=G) (κ := κ) (i8 s.heap vs) h64 (hk _ kp) (ha _ kp) (λc=>⟨_,rfl,?_⟩) λp hp g=>⟨_,rfl,?_⟩) (aaI (.ref (s.heap.objs.size+1)))))
 . exact UZ ⟨_,rfl,h0 c⟩
 . exact UZ ⟨_,rfl,h p hp g⟩
end
noncomputable def oV(H:Hp)(y:V)(q:Str × Int):Prop:= ∃ b,y= .ref b/\H b=some (.tup [.str q.1,.int q.2])
theorem oV.v{H:Hp}{y:V}{q:Str × Int}(h:oV H y q):rM H y (.inr q.1,.int q.2):=h
noncomputable def Fm(h:Heap)(v:Value)(q:Str × Int):Prop:= ∃ b o k t u,v= .ref b/\h.get? b=some o/\o.cls= .type "tuple" /\o.data= .seq #[.str q.1 t,.int q.2 u] k
theorem Fm.kept{h h':Heap}{v:Value}{q:Str × Int}(k: ∀ b o,h.get? b=some o->h'.get? b=some o)(x:Fm h v q):Fm h' v q:=let ⟨b,o,n,t,u,e1,e2,e3,e4⟩:=x;⟨b,o,n,t,u,e1,k _ _ e2,e3,e4⟩
theorem vA{P:Vg}{w:World}{H:Hp}{h:Heap}(ok:kb P w H h): ∀{ys:List V}{ps:List (Str × Int)}{aj:List Value},V2 (oV H) ys ps->Vals ys aj->V2 (Fm h) aj ps
 | _,_,_,.nil,.nil=> .nil
 | _,_,_,.cons hp hr,.cons hv hrv=>by
  obtain⟨b,rfl,hb⟩:=hp;obtain⟨_,its0,r0,o,e1,e2,n,e3,_⟩:=(show aY P w H h b (.tup [.str _,.int _]) from ok b _ hb)
  obtain⟨u1,u2,rfl,⟨t1,rfl⟩,⟨t2,rfl⟩⟩:=vals2 r0;cases(show _=Ve b from hv);exact .cons ⟨b,o,n,t1,t2,rfl,e1,e2,e3⟩ (vA ok hr hrv)
theorem uA{h:Heap}: ∀{vs:List Value}{ps:List (Str × Int)},V2 (Fm h) vs ps-> ∀{i:Nat},i < vs.length-> ∃ q,ps[i]?=some q/\Fm h (vs.getD i WW) q
 | _,_,.nil,i,hi=>absurd hi (YW _)
 | _,_,.cons hp hr,0,_=>⟨_,rfl,hp⟩
 | _,_,.cons hp hr,i+1,hi=>by
  obtain ⟨q,e,a⟩:=uA hr (i:=i) (by simpa using hi);exact ⟨q,by simpa using e,by simpa using a⟩
theorem vD {h : Heap} : ∀ {vs : List Value} {ps : List (Str × Int)}, V2 (Fm h) vs ps -> ∃ fs, KatTups h vs fs /\ fs.length = vs.length /\ ∀ v ∈ fs, ∃ x t, v = YC x t
  | _, _, .nil => ⟨[], .nil, rfl, λv m => nomatch m⟩
  | _, _, .cons hp hr => by
    obtain ⟨fs, k, l, st⟩ := vD hr;obtain ⟨b, o, n, t, u, rfl, e1, e2, e3⟩ := hp
    exact ⟨_, .cons e1 e2 e3 rfl k, by simp [l], fun v m => by rcases List.mem_cons.mp m with rfl | m; · exact ⟨_, _, rfl⟩
                                                               . exact st v m⟩
section
variable {prog:Vg} {w:World} {A:Vz} {E:Value->UR->Prop} {s:UR}
theorem Aq{vs:List Value}{ps:List (Str × Int)}(hp:V2 (Fm s.heap) vs ps)(nd:(ps.map (·.1)).Nodup){i j:Nat}{C:Bool->UR->Prop}(hi:i < vs.length)(hj:j < vs.length)(hij:i≠j)(h:C (cS (ps.map (·.1)) i j) s):kas_ask prog w A (tuples' true) vs i j C s:=by
 obtain⟨q1,f1,b1,o1,n1,t1,u1,e1,g1,c1,d1⟩:=uA hp hi;obtain⟨q2,f2,b2,o2,n2,t2,u2,e2,g2,c2,d2⟩:=uA hp hj;have hne:q1.1≠q2.1:=λz=>hij ((ZC (by rw[UO];exact(UP.mp f1).1) nd).mp (by rw[U8,U8,f1,f2];simp[z]));unfold kas_ask;rw[e1,e2];refine kat_lt g1 d1 g2 d2 (abr q1.1 t1 q2.1 t2 _ _ _ _ ?_);refine UG (by simpa using hne) ?_;refine oneLt_str ?_;have e:cS (ps.map (·.1)) i j=decide (q1.1.cps.toList < q2.1.cps.toList):=by
  unfold cS;rw[VY,VY,U8,U8,f1,f2];rfl
 rw[e] at h;exact h
theorem xV{vs:List Value}{ps:List (Str × Int)}(hp:V2 (Fm s.heap) vs ps)(h2:2<=vs.length){Q':abN->UR->Prop}(q:Q' (tuples' true) s):wpAny (model prog w) A (keyKind' vs.toArray) Q' E s:=by
 obtain⟨fs,k,l,st⟩:=vD hp;refine kat_kind (T:= .type "str") k (by omega) (λv m=>?_) (by decide) q;obtain⟨x,t,rfl⟩:=st v m;exact Looks.now
end
theorem oT{α β :Type}{R: α -> β ->Prop}: ∀{xs:List α}{zs:List β},V2 R xs zs-> ∀{i:Nat}(d: α)(e: β),i < xs.length->R (xs.getD i d) (zs.getD i e)
 | _,_,.nil,i,_,_,hi=>absurd hi (YW _)
 | _,_,.cons hp hr,0,_,_,_=>hp
 | _,_,.cons hp hr,i+1,d,e,hi=>by simpa using oT hr (i:=i) d e (by simpa using hi)
theorem nN{α β :Type}{R: α -> β ->Prop}{xs:List α}{zs:List β}(hp:V2 R xs zs)(d: α)(e: β): ∀{is:List Nat},(∀ i∈is,i < xs.length)->V2 R (is.map λi=>xs.getD i d) (is.map λi=>zs.getD i e)
 | [],_=> .nil
 | i::r,hi=> .cons (oT hp d e (hi i U3)) (nN hp d e λj m=>hi j (U6 _ m))
theorem vm: ∀{xs:List V}{us:List Value},Vals xs us-> ∀{i:Nat},i < xs.length->RelV (xs.getD i .non) (us.getD i .none)
 | _,_,.nil,i,hi=>absurd hi (YW _)
 | _,_,.cons hp hr,0,_=>hp
 | _,_,.cons hp hr,i+1,hi=>by simpa using vm hr (i:=i) (by simpa using hi)
theorem rZ{xs:List V}{us:List Value}(h:Vals xs us): ∀{is:List Nat},(∀ i∈is,i < xs.length)->Vals (is.map λi=>xs.getD i .non) (is.map λi=>us.getD i .none)
 | [],_=> .nil
 | i::r,hi=> .cons (vm h (hi i U3)) (rZ h λj m=>hi j (U6 _ m))
theorem Bz{α :Type}(l:List α)(d: α):(VX l.length).map (λi=>l.getD i d)=l:=by
 refine abP λi=>?_;rw[U8];by_cases h:i < l.length
 . rw[aa8 h,UW h];simp[h]
 . rw[Wf (by rw[XM];omega),Wf (by omega)];rfl
noncomputable def yf(K:UL):List V->Hp->VK->Prop:=λxs H Q=> ∃(p:Addr)(ys:List V)(ps:List (Str × Int)),xs=[.ref p]/\iY K H p ys/\V2 (oV H) ys ps/\ps.length < 64/\(ps.map (·.1)).Nodup /\
 ∀ l ys' ps',H l=none->ps'.Perm ps->(ps'.map (·.1)).Pairwise iZ->V2 (oV H) ys' ps'->Q (.ref l) (upd H l (.lst ys'))
section
variable{X:Cx}
theorem sV:aT X (.builtin "sorted") (yf X.K):=by
 intro pins s σ H xs us Q I r h;obtain⟨p,ys,ps,rfl,hS,hP,h5,nd,q⟩:=h;obtain⟨u,rfl,ru⟩:=vals1 r;cases(show u=Ve p from ru);obtain⟨aj,hv,hl,hz⟩:=I.list hS;have hat:=vA I.bA hP hv;have hlen:=hv.length;have hpl:=X5 hP;have fs0:=vO (xs:=ps.map (·.1))
 rw[UO] at fs0;have el:aj.length=ps.length:=by omega
 have fin: ∀(out:List Value)(ys':List V)(ps':List (Str × Int)),ys'.length=ps.length->Vals ys' out->ps'.Perm ps->(ps'.map (·.1)).Pairwise iZ->V2 (oV H) ys' ps'->EP X pins σ Q (.ref (s.heap.objs.size+1)) { s with heap:=ab4 s.heap aj out.toArray }:=λout ys' ps' hl' hv' pm pw pp=>by
  obtain⟨e,he⟩:=abL s.heap aj out.toArray;obtain⟨hn,I'⟩:=I.mC (a:=s.heap.objs.size+1) (o:= .lst ys') (t':=s.toks) (λb o e=>abh e) (WH (Zy _)) ⟨by rw[hl'];exact Vn (WO h5) (by decide),out,e,hv',by simpa [Xu] using he⟩;exact⟨.ref _,_,I',rfl,q _ ys' ps' hn pm pw pp⟩
 refine yF (κ :=tuples' true) (G:=λp=>2<=aj.length/\p=y0 (cS (ps.map (·.1))) (XC ps.length)) hl.isList (by omega)
  (λh' k h2 Q' hq=>xV (s:={ s with heap:=h' }) (Paired.AG hat λv q x=>x.kept k) h2 hq)
  (λh' k h2 Q' hq=>wy (n:=aj.length) (c:=cS (ps.map (·.1))) (λi j C hi hj hij hc=>Aq (s:={ s with heap:=h' }) (Paired.AG hat λv q x=>x.kept k) nd hi hj hij hc) _ (by rw[el];exact(fs0 (by omega) nd).1) (hq _ ⟨h2,by rw[el]⟩))
  (λh2=>?_) λpp hpp g=>?_
 . refine fin aj ys ps (by omega) hv (acs _) ?_ hP;cases ps with
   | nil=>exact .nil
   | cons x r=>cases r with
    | nil=>exact Z4 _ _
    | cons y r'=>simp at el;omega
 . obtain⟨g2,g⟩:=g;have fs:=fs0 (by omega) nd;subst g;have lt: ∀ i∈(y0 (cS (ps.map (·.1))) (XC ps.length)).toList,i < ps.length:=λi hi=>Xm.mp (fs.2.1.mem_iff.mp hi)
   refine fin _ ((y0 (cS (ps.map (·.1))) (XC ps.length)).toList.map λi=>ys.getD i .non) ((y0 (cS (ps.map (·.1))) (XC ps.length)).toList.map λi=>ps.getD i ("",0)) ?_ (rZ hv λi hi=>by have:=lt i hi;omega) ?_ ?_ (nN hP _ _ λi hi=>by have:=lt i hi;omega)
   . rw[UO,Wy,hpp,el]
   . have:=fs.2.1.map (λi=>ps.getD i ("",0));rw[Bz] at this;exact this
   . have e:(((y0 (cS (ps.map (·.1))) (XC ps.length)).toList.map λi=>ps.getD i ("",0)).map (·.1))=(y0 (cS (ps.map (·.1))) (XC ps.length)).toList.map λi=>(ps.map (·.1)).getD i ("" :Str):=by
      rw[VN];refine Xl λi hi=>?_;show(ps.getD i ("",0)).1=_;rw[VY,VY,U8,UW (lt i hi)];rfl
     rw[e];exact fs.2.2
theorem wD(hc:X.calm=true):aT X (.builtin "sorted") (λxs H Q=>CQ X.K xs H Q\/(Eh xs H Q\/yf X.K xs H Q)):=nj.or ((m7 hc).or sV)
end
noncomputable def Jg(K:UL):List V->Hp->VK->Prop:=λxs H Q=> ∃ x p Ts T b,xs=[x,.ref p]/\H p=some (.tup (acu V.ty Ts))/\jY K H x (.type T)/\aaU K (.type T) (acu XO Ts)=some b/\Q (.bl b) H
theorem zr: ∀{Ts:List String}{us:List Value},Vals (Ts.map V.ty) us->us=Ts.map XO
 | [],_,.nil=>rfl
 | T::r,u::us,.cons h t=>by rw[zr t,show u=XO T from h];rfl
section
variable{X:Cx}
theorem tH:aT X (.builtin "isinstance") (Jg X.K):=by
 intro pins s σ H xs us Q I r h;obtain⟨x,p,Ts,T,b,rfl,hp,ty,e,q⟩:=h;obtain⟨u,c,rfl,ru,rc⟩:=vals2 r;cases(show c=Ve p from rc);obtain⟨_,aj,hv,⟨oc,dd,dat,sl⟩,e1,e2,n,e3,_⟩:=(show aY X.prog X.w H s.heap p (.tup (Ts.map V.ty)) from I.bA p _ hp)
 simp only at e2 e3;subst e2 e3;obtain rfl:=zr hv;have fin: ∀ tk,EP X pins σ Q (.bool b) { s with toks:=tk }:=λtk=>⟨.bl b,H,I.tok tk,rfl,q⟩
 generalize hT:XO T=t at ty e;cases ty with
 | non=>cases(show u=WW from ru);exact Y6 kitx_none I.l9 trivial e1 e nofun fin
 | bl y=>cases(show u=Zb y from ru);exact Y6 kitx_bool I.l9 trivial e1 e nofun fin
 | int i=>obtain⟨_,rfl⟩:=(show ∃ t,u=XT i t from ru);exact Y6 kitx_int I.l9 trivial e1 e nofun fin
 | str y=>obtain⟨_,rfl⟩:=(show ∃ t,u=YC y t from ru);exact Y6 kitx_str I.l9 trivial e1 e nofun fin
 | flt y=>obtain⟨_,rfl⟩:=(show ∃ t,u=ab7 y t from ru);exact Y6 aco I.l9 trivial e1 e nofun fin
 | @lst a xs ea =>
  cases(show u=Ve a from ru)
  obtain⟨_,_,_,_,g⟩:=(show aY X.prog X.w H s.heap a (.lst xs) from I.bA a _ ea)
  exact Y6 ZG I.l9 ⟨_,g,rfl⟩ e1 e nofun fin
 | @kK a ob xs ea =>
  cases(show u=Ve a from ru)
  obtain⟨_,_,_,_,_,g⟩:=(show aY X.prog X.w H s.heap a (.kK ob (.lst xs)) from I.bA a _ ea)
  exact Y6 ZG I.l9 ⟨_,g,rfl⟩ e1 e nofun fin
 | @tup a xs ea =>
  cases(show u=Ve a from ru)
  obtain⟨_,_,_,o,g1,g2,_⟩:=(show aY X.prog X.w H s.heap a (.tup xs) from I.bA a _ ea)
  exact Y6 acp I.l9 ⟨o,g1,g2⟩ e1 e nofun fin
 | @dK a kvs ea =>
  cases(show u=Ve a from ru)
  obtain⟨_,_,_,_,o,_,_,g1,g2,_⟩:=(show aY X.prog X.w H s.heap a (.dK kvs) from I.bA a _ ea)
  exact Y6 ZH I.l9 ⟨o,g1,g2.1⟩ e1 e nofun fin
 | @dT a kvs ea =>
  cases(show u=Ve a from ru)
  obtain⟨_,_,_,_,o,_,_,g1,g2,_⟩:=(show aY X.prog X.w H s.heap a (.dT kvs) from I.bA a _ ea)
  exact Y6 ZH I.l9 ⟨o,g1,g2.1⟩ e1 e nofun fin
 | ins=>cases hT
theorem Dy:aT X (.builtin "isinstance") (λxs H Q=>PQ X.K xs H Q\/Jg X.K xs H Q):=FD.or tH
end
section
variable{prog:Vg}{w:World}{A:Vz}{E:Value->UR->Prop}{s:UR}
theorem S9{α :Type}{c:Prop}[Decidable c]{m m':Sem α}{M:Model}{Q: α ->UR->Prop}(hc: ¬ c)(h:wpAny M A m' Q E s):wpAny M A (if c then m else m') Q E s:=by rw[if_neg hc];exact h
theorem iC{it t:Addr}{i:Nat}{items:Array Value}{x:Value}{Q:Value->UR->Prop}(hit:s.heap.IsTupleIter it t i)(ht:s.heap.IsTuple t items)(hx:items[i]?=some x)
  (q: ∀ h',h'.IsTupleIter it t (i+1)->Z9 it s.heap h'->Q x { s with heap:=h' }):wpAny (model prog w) A (V1 (.ref it)) Q E s:=by
 obtain⟨oi,g1,c1,d1⟩:=id hit;obtain⟨ot,g2,_,k,d2⟩:=id ht;have new:(s.heap.update it (Obj.mapFields (·.setIfInBounds 1 (abo ((i:Int)+1))))).IsTupleIter it t (i+1):=⟨_,aaB _ g1 (Obj.isFreed_of_fields (abx d1 _)),(Obj.cls_mapFields ..).trans c1,(abx d1 _).trans (by simp[abo])⟩
 refine UN (Wo (name:=Va "__next__") hit.typeIs Ww (WC Ww hit.typeIs Yl ?_ (Yh (.ref it))));refine UN (m:=field (.ref it) 0) (Wc g1 d1 (x:= .ref t) rfl (S9 (λz=>nomatch z) (UN (m:=field (.ref it) 1) (Wc g1 d1 (x:= .int i 0) rfl (UN (m:=seqItems? (.ref t)) (WI g2 d2 ?_))))));dsimp only;rw[VH,hx];exact UN (wpAny_setField g1 d1 (by simp) (UZ ⟨x,rfl,UZ (q _ new (aa9 ..))⟩))
theorem mV{it t:Addr}{i:Nat}{items:Array Value}{Q:Value->UR->Prop}(hh:A.handled=none)(hit:s.heap.IsTupleIter it t i)(ht:s.heap.IsTuple t items)(hx:items[i]?=none)
  (q: ∀ h' e,Heap.ExtBut it s.heap h'->(∃ o,h'.get? e=some o/\o.cls= .type "StopIteration")->E (.ref e) { s with heap:=h' }):wpAny (model prog w) A (V1 (.ref it)) Q E s:=by
 obtain⟨oi,g1,c1,d1⟩:=id hit;obtain⟨ot,g2,_,k,d2⟩:=id ht;refine UN (Wo (name:=Va "__next__") hit.typeIs Ww (WC Ww hit.typeIs Yl ?_ (Yh (.ref it))));refine UN (m:=field (.ref it) 0) (Wc g1 d1 (x:= .ref t) rfl (S9 (λz=>nomatch z) (UN (m:=field (.ref it) 1) (Wc g1 d1 (x:= .int i 0) rfl (UN (m:=seqItems? (.ref t)) (WI g2 d2 ?_))))));dsimp only;rw[VH,hx];refine UN (aal (UN (wpAny_setField g1 d1 (by simp) (UN (m:=newExc (.type "StopIteration") []) (UN (m:=newTuple []) (We ?_ (by size_fits)))))));refine UN (m:=firstArgMember _ _) (wpAny_of_eq (a:=WW) (by simp only[firstArgMember];rfl) (We ?_ (by size_fits)));unfold raiseNew;refine UN (wpAny_handled ?_);rw[show A.in1.handled=none from hh];exact UN (UZ (wpAny_throw (q _ _ (((aa9 ..).extBut.push _).push _) ⟨_,U7 _ rfl,rfl⟩)))
structure vf(h:Heap)(z TI TO i1 i2 l1 l2:Addr)(k:Nat):Prop where
 Bu:IsZip h z TI TO .none
 aj:Yt h TI (.ref i1) (.ref i2)
 old: ∃ a b,Yt h TO a b
 one:h.IsTupleIter i1 l1 k
 two:h.IsTupleIter i2 l2 k
theorem AJ{z TI TO i1 i2 l1 l2:Addr}{k:Nat}{xs ys:Array Value}{x y:Value}{Q:Value->UR->Prop}(D:abQ z TI TO i1 i2 l1 l2)(Z:vf s.heap z TI TO i1 i2 l1 l2 k)(t1:s.heap.IsTuple l1 xs)(t2:s.heap.IsTuple l2 ys)(hx:xs[k]?=some x)(hy:ys[k]?=some y)
  (q: ∀ h',IsZip h' z TI TO (abo s.heap.objs.size)->Yt h' TI (.ref i1) (.ref i2)->Yt h' TO x y->h'.IsTupleIter i1 l1 (k+1)->h'.IsTupleIter i2 l2 (k+1)->Yt h' s.heap.objs.size x y ->
   (∀ c o,c≠z->c≠TO->c≠i1->c≠i2->s.heap.get? c=some o->h'.get? c=some o)->Q (.ref s.heap.objs.size) { s with heap:=h' }):wpAny (model prog w) A (Xv.«zip.__next__» ⟨[.ref z],[]⟩) (λr u=> ∃ v,r= .done (.ret v)/\Q v u) E s:=by
 obtain⟨hz,hTI,⟨a,b,hTO⟩,o1,o2⟩:=Z;refine UN (m:=field (.ref z) 2) (Wc hz rfl (x:= .bool false) rfl ?_);refine UN (m:=field (.ref z) 3) (Wc hz rfl (x:= .ref TI) rfl (UN (WI hTI rfl ?_)));refine UN (m:=Yb (.ref z)) (UN (m:=field (.ref z) 0) (Wc hz rfl (x:= .none) rfl (UZ (Ss rfl (UN (aal ?_))))));refine UN (m:=field (.ref z) 4) (Wc hz rfl (x:= .ref TO) rfl (UN (W3 hz (by simp) λu1 z1 b1=>?_)))
 replace z1:IsZip u1 z TI TO .ellipsis:=z1
 refine UN ?_;rw[show(#[Ve i1,Ve i2]:Array Value).toList.zipIdx=[(Ve i1,0),(Ve i2,1)] from rfl,XA];refine UN (UN (YJ (UN (m:=V1 (.ref i1)) (iC (o1.at λo e=>b1.extBut _ _ D.i1z e) (t1.at λo e=>b1.extBut _ _ D.l1z e) hx λu2 p1 b2=>UZ ?_))));have T2:Yt u2 TO a b:=b2.extBut _ _ D.TOi1 (b1.extBut _ _ D.TOz hTO);refine UN (WI T2 rfl (UN (YO T2 λu3 T3 b3=>UN (ace (UZ ?_)))))
 replace T3:Yt u3 TO x b:=T3
 have k3: ∀ c o,c≠z->c≠TO->c≠i1->s.heap.get? c=some o->u3.get? c=some o:=λc o n1 n2 n3 e=>b3.extBut _ _ n2 (b2.extBut _ _ n3 (b1.extBut _ _ n1 e));dsimp only;rw[XA];refine UN (UN (YJ (UN (m:=V1 (.ref i2)) (iC (o2.at λo e=>k3 _ o D.i2z D.TOi2.symm D.i12.symm e) (t2.at λo e=>k3 _ o D.l2z D.l2TO D.l2i1 e) hy λu4 p2 b4=>UZ ?_))));have T4:Yt u4 TO x b:=b4.extBut _ _ D.TOi2 T3;refine UN (WI T4 rfl (UN (YO T4 λu5 T5 b5=>UN (ace (UZ ?_)))))
 replace T5:Yt u5 TO x y:=T5
 have k5: ∀ c o,c≠z->c≠TO->c≠i1->c≠i2->s.heap.get? c=some o->u5.get? c=some o:=λc o n1 n2 n3 n4 e=>b5.extBut _ _ n2 (b4.extBut _ _ n4 (k3 c o n1 n2 n3 e));have sz:u5.objs.size=s.heap.objs.size:=b5.1.trans (b4.1.trans (b3.1.trans (b2.1.trans b1.1)));have z5:IsZip u5 z TI TO .ellipsis:=b5.extBut _ _ D.TOz.symm (b4.extBut _ _ D.i2z.symm (b3.extBut _ _ D.TOz.symm (b2.extBut _ _ D.i1z.symm z1)));have p15:u5.IsTupleIter i1 l1 (k+1):=p1.at λo e=>b5.extBut _ _ D.TOi1.symm (b4.extBut _ _ D.i12 (b3.extBut _ _ D.TOi1.symm e));have p25:u5.IsTupleIter i2 l2 (k+1):=p2.at λo e=>b5.extBut _ _ D.TOi2.symm e;have lz:z < u5.objs.size:=U2 z5;dsimp only;rw[acr];refine UZ (UN (WI T5 rfl (UN (wpAny_newTuple ?_ (by show 2<=sizeLine;decide)))));have z6:IsZip (u5.push { cls:= .type "tuple",data:= .seq #[x,y] }) z TI TO .ellipsis:=UQ _ z5;refine UN (m:=aba (.ref z) (.ref u5.objs.size)) (UN (W3 z6 (by simp) λu7 z7 b7=>W3 (show IsZip u7 z TI TO (abo u5.objs.size) from z7) (by simp) λu8 z8 b8=>UZ ⟨_,rfl,?_⟩));have up: ∀ c o,c≠z->u5.get? c=some o->u8.get? c=some o:=λc o n e=>b8.extBut _ _ n (b7.extBut _ _ n (UQ _ e));have T8:Yt u8 u5.objs.size x y:=b8.extBut _ _ (WQ lz) (b7.extBut _ _ (WQ lz) (U7 _ rfl))
 replace z8:IsZip u8 z TI TO (abo u5.objs.size):=z8
 rw[sz] at z8 T8 ⊢;exact q u8 z8 (up _ _ D.TIz (k5 _ _ D.TIz D.TITO D.TIi1 D.TIi2 hTI)) (up _ _ D.TOz T5) (p15.at λo e=>up _ o D.i1z e) (p25.at λo e=>up _ o D.i2z e) T8 λc o n1 n2 n3 n4 e=>up c o n1 (k5 c o n1 n2 n3 n4 e)
theorem EY{z TI TO i1 i2 l1 l2:Addr}{k:Nat}{xs ys:Array Value}{Q:PySem.Fin->UR->Prop}(hh:A.handled=none)(D:abQ z TI TO i1 i2 l1 l2)(Z:vf s.heap z TI TO i1 i2 l1 l2 k)(t1:s.heap.IsTuple l1 xs)(t2:s.heap.IsTuple l2 ys)(he:xs[k]?=none\/ys[k]?=none)
  (q: ∀ h' e,(∀ c o,c≠z->c≠TO->c≠i1->c≠i2->s.heap.get? c=some o->h'.get? c=some o)->(∃ o,h'.get? e=some o/\o.cls= .type "StopIteration")->E (.ref e) { s with heap:=h' }):wpAny (model prog w) A (Xv.«zip.__next__» ⟨[.ref z],[]⟩) Q E s:=by
 obtain⟨hz,hTI,⟨a,b,hTO⟩,o1,o2⟩:=Z;have ap: ∀(h':Heap)(f0:Value)(e:Addr)(o:Obj),IsZip h' z TI TO f0->h'.get? e=some o->o.cls= .type "StopIteration" ->e≠z:=λh' f0 e o y g c n=>by rw[n,y] at g;cases g;simp at c
 refine UN (m:=field (.ref z) 2) (Wc hz rfl (x:= .bool false) rfl ?_);refine UN (m:=field (.ref z) 3) (Wc hz rfl (x:= .ref TI) rfl (UN (WI hTI rfl ?_)));refine UN (m:=Yb (.ref z)) (UN (m:=field (.ref z) 0) (Wc hz rfl (x:= .none) rfl (UZ (Ss rfl (UN (aal ?_))))));refine UN (m:=field (.ref z) 4) (Wc hz rfl (x:= .ref TO) rfl (UN (W3 hz (by simp) λu1 z1 b1=>?_)))
 replace z1:IsZip u1 z TI TO .ellipsis:=z1
 refine UN ?_;rw[show(#[Ve i1,Ve i2]:Array Value).toList.zipIdx=[(Ve i1,0),(Ve i2,1)] from rfl,XA]
 match hx:xs[k]? with
 | none =>
  refine UN (UN (YJ (UN (m:=V1 (.ref i1)) (mV hh (o1.at λo e=>b1.extBut _ _ D.i1z e) (t1.at λo e=>b1.extBut _ _ D.l1z e) hx λu2 e b2 g=>?_))))
  obtain⟨oe,g1,g2⟩:=g
  have z2:IsZip u2 z TI TO .ellipsis:=b2 _ _ D.i1z.symm z1
  exact W3 z2 (by simp) λu3 _ b3=>q u3 e (λc o n1 _ n3 _ y=>b3.extBut _ _ n1 (b2 _ _ n3 (b1.extBut _ _ n1 y))) ⟨oe,b3.extBut _ _ (ap u2 _ e oe z2 g1 g2) g1,g2⟩
 | some x =>
  have hy:ys[k]?=none:=he.resolve_left (by rw[hx];intro y;cases y)
  refine UN (UN (YJ (UN (m:=V1 (.ref i1)) (iC (o1.at λo e=>b1.extBut _ _ D.i1z e) (t1.at λo e=>b1.extBut _ _ D.l1z e) hx λu2 p1 b2=>UZ ?_))))
  have T2:Yt u2 TO a b:=b2.extBut _ _ D.TOi1 (b1.extBut _ _ D.TOz hTO)
  refine UN (WI T2 rfl (UN (YO T2 λu3 T3 b3=>UN (ace (UZ ?_)))))
  have k3: ∀ c o,c≠z->c≠TO->c≠i1->s.heap.get? c=some o->u3.get? c=some o:=λc o n1 n2 n3 e=>b3.extBut _ _ n2 (b2.extBut _ _ n3 (b1.extBut _ _ n1 e))
  dsimp only
  rw[XA]
  refine UN (UN (YJ (UN (m:=V1 (.ref i2)) (mV hh (o2.at λo e=>k3 _ o D.i2z D.TOi2.symm D.i12.symm e) (t2.at λo e=>k3 _ o D.l2z D.l2TO D.l2i1 e) hy λu4 e b4 g=>?_))))
  obtain⟨oe,g1,g2⟩:=g
  have z4:IsZip u4 z TI TO .ellipsis:=b4 _ _ D.i2z.symm (b3.extBut _ _ D.TOz.symm (b2.extBut _ _ D.i1z.symm z1))
  exact W3 z4 (by simp) λu5 _ b5=>q u5 e (λc o n1 n2 n3 n4 y=>b5.extBut _ _ n1 (b4 _ _ n4 (k3 c o n1 n2 n3 y))) ⟨oe,b5.extBut _ _ (ap u4 _ e oe z4 g1 g2) g1,g2⟩
theorem o7{z TI TO i1 i2 l1 l2:Addr}{k:Nat}{xs ys:Array Value}{x y:Value}{Q:Option Value->UR->Prop}(D:abQ z TI TO i1 i2 l1 l2)(Z:vf s.heap z TI TO i1 i2 l1 l2 k)(t1:s.heap.IsTuple l1 xs)(t2:s.heap.IsTuple l2 ys)(hx:xs[k]?=some x)(hy:ys[k]?=some y)
  (q: ∀ h',IsZip h' z TI TO (abo s.heap.objs.size)->Yt h' TI (.ref i1) (.ref i2)->Yt h' TO x y->h'.IsTupleIter i1 l1 (k+1)->h'.IsTupleIter i2 l2 (k+1)->Yt h' s.heap.objs.size x y ->
   (∀ c o,c≠z->c≠TO->c≠i1->c≠i2->s.heap.get? c=some o->h'.get? c=some o)->Q (some (.ref s.heap.objs.size)) { s with heap:=h' }):wpAny (model prog w) A (abW (.ref z)) Q E s :=
 have ty:s.TypeIs (.ref z) "zip" :=⟨_,Z.Bu,rfl⟩
 UN (wpAny_attempt (Wo (name:=Va "__next__") ty XI (WC XI ty aao (AJ D Z t1 t2 hx hy λh' a1 a2 a3 a4 a5 a6 a7=>UZ (q h' a1 a2 a3 a4 a5 a6 a7)) (Z5 (.ref z)))))
theorem q9{z TI TO i1 i2 l1 l2:Addr}{k:Nat}{xs ys:Array Value}{Q:Option Value->UR->Prop}(hh:A.handled=none)(D:abQ z TI TO i1 i2 l1 l2)(Z:vf s.heap z TI TO i1 i2 l1 l2 k)(t1:s.heap.IsTuple l1 xs)(t2:s.heap.IsTuple l2 ys)(he:xs[k]?=none\/ys[k]?=none)
  (q: ∀ h',(∀ c o,c≠z->c≠TO->c≠i1->c≠i2->s.heap.get? c=some o->h'.get? c=some o)->Q none { s with heap:=h' }):wpAny (model prog w) A (abW (.ref z)) Q E s :=
 have ty:s.TypeIs (.ref z) "zip" :=⟨_,Z.Bu,rfl⟩
 UN (wpAny_attempt (Wo (name:=Va "__next__") ty XI (WC XI ty aao (EY (A:=A.in1) hh D Z t1 t2 he λh' e a1 g =>
  let ⟨o,g1,g2⟩:=g;UN (wpAny_isInstance (T:= "StopIteration") (b:=true) ⟨o,g1,g2⟩ isSubtype_stop (UZ (q h' a1)))) (Z5 (.ref z)))))
end
end L2
end
section
open PySem PySem.W PyProof.Rows
namespace P3
open PySem PySem.Spec PyProof.Rows L2
inductive PV where
 | non | bl (b:Bool) | int (i:Int) | str (x:Str) | tup (xs:List PV) | ktup (xs:List PV) | ref (n:Nat) | ty (n:String)
mutual
def PV.beq:PV->PV->Bool
 | .non,.non=>true
 | .bl a,.bl b=>decide (a=b)
 | .int a,.int b=>decide (a=b)
 | .str a,.str b=>decide (a=b)
 | .tup a,.tup b=>PV.yJ a b
 | .ktup a,.ktup b=>PV.yJ a b
 | .ref a,.ref b=>decide (a=b)
 | .ty a,.ty b=>decide (a=b)
 | _,_=>false
def PV.yJ:List PV->List PV->Bool
 | [],[]=>true
 | a::x,b::y=>PV.beq a b&&PV.yJ x y
 | _,_=>false
end
mutual
theorem PV.beq_iff: ∀(a b:PV),PV.beq a b=true↔a=b
 | .non,b=>by cases b<;>simp[PV.beq]
 | .bl _,b=>by cases b<;>simp[PV.beq]
 | .int _,b=>by cases b<;>simp[PV.beq]
 | .str _,b=>by cases b<;>simp[PV.beq]
 | .ref _,b=>by cases b<;>simp[PV.beq]
 | .ty _,b=>by cases b<;>simp[PV.beq]
 | .tup a,b=>by
  cases b with
  | tup b=>rw[PV.beq,PV.qf a b];simp
  | _=>simp[PV.beq]
 | .ktup a,b=>by
  cases b with
  | ktup b=>rw[PV.beq,PV.qf a b];simp
  | _=>simp[PV.beq]
theorem PV.qf: ∀(a b:List PV),PV.yJ a b=true↔a=b
 | [],b=>by cases b<;>simp[PV.yJ]
 | a::x,b=>by
  cases b with
  | nil=>simp[PV.yJ]
  | cons b y=>rw[PV.yJ,U9,PV.beq_iff a b,PV.qf x y];simp
end
instance:DecidableEq PV:=λa b=>decidable_of_iff _ (PV.beq_iff a b)
mutual
def PV.flat:PV->Bool
 | .ref _=>false
 | .tup xs=>PV.aQ xs
 | .ktup xs=>PV.aQ xs
 | _=>true
def PV.aQ:List PV->Bool
 | []=>true
 | x::r=>x.flat&&PV.aQ r
end
mutual
def PV.gW(n:Nat):PV->Bool
 | .ref m=>decide (m < n)
 | .tup xs=>PV.ib n xs
 | .ktup xs=>PV.ib n xs
 | _=>true
def PV.ib(n:Nat):List PV->Bool
 | []=>true
 | x::r=>x.gW n&&PV.ib n r
end
inductive PO where
 | lst (xs:List PV) | lB (xs:List PV) | dct (kvs:List (Key × PV))
 deriving DecidableEq
noncomputable def PO.dE:PO->Bool
 | .lB _=>false
 | _=>true
noncomputable def PO.gW(n:Nat):PO->Bool
 | .lst xs=>PV.ib n xs
 | .lB xs=>PV.ib n xs
 | .dct kvs=>PV.ib n (kvs.map (·.2))
abbrev PH:=List PO
abbrev aq:=List (Option PV)
noncomputable def KT(K:UL)(a:Addr)(xs:List V):Prop:= ∃(o:Obj)(aj:Array Value)(n:Nat),K.lookup a=some o/\o.cls= .type "tuple" /\o.data= .seq aj n/\aj.size<=sizeLine/\Vals xs aj.toList
mutual
def rel(K:UL)(ρ :List Addr)(H:Hp):PV->V->Prop
 | .non,v=>v= .non
 | .bl b,v=>v= .bl b
 | .int i,v=>v= .int i
 | .str x,v=>v= .str x
 | .ty n,v=>v= .ty n
 | .ref n,v=> ∃ a, ρ[n]?=some a∧v= .ref a
 | .tup xs,v=> ∃ a vs,v= .ref a∧H a=some (.tup vs)∧av K ρ H xs vs
 | .ktup xs,v=> ∃ a vs,v= .ref a∧KT K a vs∧av K ρ H xs vs
def av (K:UL) (ρ :List Addr) (H:Hp):List PV->List V->Prop
 | [],vs=>vs=[]
 | x::r,vs=> ∃ v t,vs=v::t∧rel K ρ H x v∧av K ρ H r t
end
structure Gr (ρ :List Addr) (H:Hp) (ρ':List Addr) (H':Hp):Prop where
 pre: ∀ (n:Nat) (a:Addr), ρ[n]?=some a-> ρ'[n]?=some a
 tup: ∀ a xs,H a=some (.tup xs)->H' a=some (.tup xs)
 kK: ∀ a o u,H a=some (.kK o u)->H' a=some (.kK o u)
theorem Gr.refl (ρ :List Addr) (H:Hp):Gr ρ H ρ H:=⟨λ_ _ h=>h,λ_ _ h=>h,λ_ _ _ h=>h⟩
theorem Gr.trans{ρ ρ1 ρ2:List Addr}{H H1 H2:Hp}(a:Gr ρ H ρ1 H1)(b:Gr ρ1 H1 ρ2 H2):Gr ρ H ρ2 H2 :=
 ⟨λn x h=>b.pre n x (a.pre n x h),λx xs h=>b.tup x xs (a.tup x xs h),λx o u h=>b.kK x o u (a.kK x o u h)⟩
section
variable{K:UL}{ρ ρ':List Addr}{H H':Hp}
theorem Gr.E4(g:Gr ρ H ρ' H'){a:Addr}{xs:List V}(h:fq K H a xs):fq K H' a xs:=by
 rcases h with(h | ⟨o,h⟩) | h
 . exact .inl (.inl (g.tup _ _ h))
 . exact .inl (.inr ⟨o,g.kK _ _ _ h⟩)
 . exact .inr h
theorem Gr.Uy(g:Gr ρ H ρ' H'){a:Addr}{xs:List V}(h:yZ K H a xs):yZ K H' a xs:=by
 rcases h with⟨o,h⟩ | h
 . exact .inl ⟨o,g.kK _ _ _ h⟩
 . exact .inr h
mutual
theorem rel.gr(g:Gr ρ H ρ' H'): ∀(x:PV)(v:V),rel K ρ H x v->rel K ρ' H' x v
 | .non,v,h=>by simpa only[rel] using h
 | .bl _,v,h=>by simpa only[rel] using h
 | .int _,v,h=>by simpa only[rel] using h
 | .str _,v,h=>by simpa only[rel] using h
 | .ty _,v,h=>by simpa only[rel] using h
 | .ref n,v,h=>by
  rw[rel] at h ⊢;obtain⟨a,e,h⟩:=h;exact⟨a,g.pre _ _ e,h⟩
 | .tup xs,v,h=>by
  rw[rel] at h ⊢;obtain⟨a,vs,e,s,r⟩:=h;exact⟨a,vs,e,g.tup _ _ s,av.gr g xs vs r⟩
 | .ktup xs,v,h=>by
  rw[rel] at h ⊢;obtain⟨a,vs,e,s,r⟩:=h;exact⟨a,vs,e,s,av.gr g xs vs r⟩
theorem av.gr(g:Gr ρ H ρ' H'): ∀(xs:List PV)(vs:List V),av K ρ H xs vs->av K ρ' H' xs vs
 | [],vs,h=>by simpa only[av] using h
 | x::r,vs,h=>by
  rw[av] at h ⊢;obtain⟨v,t,e,h1,h2⟩:=h;exact⟨v,t,e,rel.gr g x v h1,av.gr g r t h2⟩
end
noncomputable def PV.seq?:PV->Option (List PV)
 | .tup xs=>some xs
 | .ktup xs=>some xs
 | _=>none
theorem rel.seq{x:PV}{xs:List PV}{v:V}(e:x.seq?=some xs)(h:rel K ρ H x v): ∃ a vs,v= .ref a/\fq K H a vs/\av K ρ H xs vs:=by
 cases x<;>simp only[PV.seq?,reduceCtorEq,XJ] at e
 . subst e;rw[rel] at h;obtain⟨a,vs,e,z,r⟩:=h;exact⟨a,vs,e,.of z,r⟩
 . subst e;rw[rel] at h;obtain⟨a,vs,e,z,r⟩:=h;exact⟨a,vs,e,.inr z,r⟩
theorem aO{vs:List V}:av K ρ H [] vs↔vs=[]:=by rw[av]
theorem aE{x:PV}{r:List PV}{vs:List V}:av K ρ H (x::r) vs↔ ∃ v t,vs=v::t/\rel K ρ H x v/\av K ρ H r t:=by rw[av]
theorem av.len: ∀{xs:List PV}{vs:List V},av K ρ H xs vs->xs.length=vs.length
 | [],vs,h=>by rw[aO] at h;rw[h];rfl
 | x::r,vs,h=>by
  obtain⟨v,t,rfl,_,h2⟩:=aE.mp h;simp[av.len h2]
theorem av.get: ∀{xs:List PV}{vs:List V}{i:Nat}{x:PV},av K ρ H xs vs->xs[i]?=some x-> ∃ v,vs[i]?=some v/\rel K ρ H x v
 | [],vs,i,x,h,e=>by simp at e
 | y::r,vs,i,x,h,e=>by
  obtain⟨v,t,rfl,h1,h2⟩:=aE.mp h;cases i with
  | zero=>simp at e;subst e;exact⟨v,rfl,h1⟩
  | succ i=>simpa using av.get h2 (by simpa using e)
theorem av.app: ∀{xs ys:List PV}{vs ws:List V},av K ρ H xs vs->av K ρ H ys ws->av K ρ H (xs++ys) (vs++ws)
 | [],ys,vs,ws,h,h'=>by rw[aO] at h;subst h;exact h'
 | x::r,ys,vs,ws,h,h'=>by
  obtain⟨v,t,rfl,h1,h2⟩:=aE.mp h;exact aE.mpr ⟨v,t++ws,rfl,h1,av.app h2 h'⟩
theorem av.one{x:PV}{v:V}(h:rel K ρ H x v):av K ρ H [x] [v]:=aE.mpr ⟨v,[],rfl,h,aO.mpr rfl⟩
theorem av.take: ∀{xs:List PV}{vs:List V}(n:Nat),av K ρ H xs vs->av K ρ H (xs.take n) (vs.take n)
 | xs,vs,0,h=>by simp[aO]
 | [],vs,n+1,h=>by rw[aO] at h;subst h;simp[aO]
 | x::r,vs,n+1,h=>by
  obtain⟨v,t,rfl,h1,h2⟩:=aE.mp h;exact aE.mpr ⟨v,t.take n,rfl,h1,av.take n h2⟩
theorem av.drop: ∀{xs:List PV}{vs:List V}(n:Nat),av K ρ H xs vs->av K ρ H (xs.drop n) (vs.drop n)
 | xs,vs,0,h=>h
 | [],vs,n+1,h=>by rw[aO] at h;subst h;simp[aO]
 | x::r,vs,n+1,h=>by
  obtain⟨v,t,rfl,h1,h2⟩:=aE.mp h;exact av.drop n h2
theorem av.set: ∀{xs:List PV}{vs:List V}{x:PV}{v:V}(i:Nat),av K ρ H xs vs->rel K ρ H x v->av K ρ H (xs.set i x) (vs.set i v)
 | [],vs,x,v,i,h,hv=>by rw[aO] at h;subst h;simp[aO]
 | y::r,vs,x,v,i,h,hv=>by
  obtain⟨w,t,rfl,h1,h2⟩:=aE.mp h;cases i with
  | zero=>exact aE.mpr ⟨v,t,rfl,hv,h2⟩
  | succ i=>exact aE.mpr ⟨w,t.set i v,rfl,h1,av.set i h2 hv⟩
theorem av.ints: ∀(ns:List Int),av K ρ H (ns.map PV.int) (ns.map V.int)
 | []=>aO.mpr rfl
 | n::r=>aE.mpr ⟨.int n,r.map V.int,rfl,by rw[rel],av.ints r⟩
end
noncomputable def nv(K:UL)(ρ :List Addr)(H:Hp)(a:Addr):PO->Prop
 | .lst xs=> ∃ vs,H a=some (.lst vs)/\av K ρ H xs vs
 | .lB xs=> ∃ vs,yZ K H a vs/\av K ρ H xs vs
 | .dct kvs=> ∃ kws,H a=some (.dK kws)/\V2 (λ(p:Key × PV) (q:Key × V)=>p.1=q.1/\rel K ρ H p.2 q.2) kvs kws
structure dq(K:UL)(ρ :List Addr)(h:PH)(H:Hp):Prop where
 len: ρ.length=h.length
 nd: ∀(i j:Nat)(a:Addr)(oi oj:PO),h[i]?=some oi->h[j]?=some oj->oi.dE=true->oj.dE=true-> ρ[i]?=some a-> ρ[j]?=some a->i=j
 ob: ∀ (i:Nat) (o:PO) (a:Addr),h[i]?=some o-> ρ[i]?=some a->nv K ρ H a o
section
variable {K:UL} {ρ ρ':List Addr} {H H':Hp} {h:PH}
theorem dq.at (s:dq K ρ h H) {i:Nat} {o:PO} (e:h[i]?=some o): ∃ a, ρ[i]?=some a∧nv K ρ H a o:=by
 have hi:i < ρ.length:=by rw [s.len];exact (UP.mp e).1
 exact ⟨ρ[i],UW hi,s.ob i o _ e (UW hi)⟩
theorem Paired.jP {kvs:List (Key × PV)} {kws:List (Key × V)} (g:Gr ρ H ρ' H') (h:V2 (λ(p:Key × PV) (q:Key × V)=>p.1=q.1∧rel K ρ H p.2 q.2) kvs kws) :
  V2 (λ(p:Key × PV) (q:Key × V)=>p.1=q.1/\rel K ρ' H' p.2 q.2) kvs kws:=Paired.AG h λ_ _ z=>⟨z.1,rel.gr g _ _ z.2⟩
theorem jc{a:Addr}{o:PO}(m:o.dE=true)(r:nv K ρ H a o):(∃ vs,H a=some (.lst vs))\/ ∃ kws,H a=some (.dK kws):=by
 cases o with
 | lst xs=>obtain⟨vs,e,_⟩:=r;exact .inl ⟨vs,e⟩
 | lB xs=>exact nomatch m
 | dct kvs=>obtain⟨kws,e,_⟩:=r;exact .inr ⟨kws,e⟩
theorem mX{a:Addr}{o:PO}(g:Gr ρ H ρ' H')(k:o.dE=true->H' a=H a)(r:nv K ρ H a o):nv K ρ' H' a o:=by
 cases o with
 | lst xs=>obtain⟨vs,e,r⟩:=r;exact⟨vs,(k rfl).trans e,av.gr g _ _ r⟩
 | lB xs=>obtain ⟨vs,e,r⟩:=r;exact ⟨vs,g.Uy e,av.gr g _ _ r⟩
 | dct kvs=>obtain ⟨kws,e,r⟩:=r;exact ⟨kws,(k rfl).trans e,Paired.jP g r⟩
theorem Gr.new {p : Addr} {o : HO} (hp : H p = none) (l : List Addr) : Gr ρ H (ρ ++ l) (upd H p o) :=
  ⟨λn a e => by rw [Vy (UP.mp e).1]; exact e,
   λa xs e => by rw [aD (aF e hp)]; exact e, λa o u e => by rw [aD (aF e hp)]; exact e⟩
theorem Gr.xl {p:Addr} {o:HO} (hp:H p=none):Gr ρ H ρ (upd H p o):=by simpa using Gr.new (ρ := ρ) (o:=o) hp []
theorem dq.tup (s:dq K ρ h H) {p:Addr} {o:HO} (hp:H p=none):dq K ρ h (upd H p o) :=
 ⟨s.len,s.nd,λi x a e1 e2=>mX (Gr.xl hp) (λm=>by
  have:=jc m (s.ob i x a e1 e2);refine aD ?_;rcases this with⟨_,z⟩ | ⟨_,z⟩<;>exact aF z hp) (s.ob i x a e1 e2)⟩
theorem dq.new(s:dq K ρ h H){p:Addr}{ho:HO}{o:PO}(hp:H p=none)(r:nv K (ρ ++[p]) (upd H p ho) p o):dq K (ρ ++[p]) (h++[o]) (upd H p ho):=by
 have g:Gr ρ H (ρ ++[p]) (upd H p ho):=Gr.new hp [p];have old: ∀{i:Nat}{x:PO},(h++[o])[i]?=some x->(i < h.length/\h[i]?=some x)\/(i=h.length/\x=o):=λ{i x} e=>by
  rcases WS i h.length with z | z
  . rw[Vy z] at e;exact .inl ⟨z,e⟩
  . rw[Vq z] at e;have:i - h.length=0:=by
     rcases Nat.eq_zero_or_pos (i - h.length) with y | y
     . exact y
     . rw[Wf (by simp;omega)] at e;exact nomatch e
    rw[this] at e;exact .inr ⟨by omega,by simpa using e.symm⟩
 have oldρ : ∀{i:Nat}{a:Addr},i < h.length->(ρ ++[p])[i]?=some a-> ρ[i]?=some a:=λ{i a} z e=>by
  rw[Vy (by rw[s.len];exact z)] at e;exact e
 have newρ : ∀{a:Addr},(ρ ++[p])[h.length]?=some a->a=p:=λ{a} e=>by
  rw[<- s.len,Vq (UT _)] at e;simpa using e.symm
 refine⟨by simp[s.len],λi j a oi oj ei ej mi mj ri rj=>?_,λi x a e1 e2=>?_⟩
 . rcases old ei with⟨zi,ei⟩ | ⟨zi,ei⟩<;>rcases old ej with⟨zj,ej⟩ | ⟨zj,ej⟩
   . exact s.nd i j a oi oj ei ej mi mj (oldρ zi ri) (oldρ zj rj)
   . subst zj;have:=jc mi (s.ob i oi a ei (oldρ zi ri));rw[newρ rj] at this;rcases this with⟨_,z⟩ | ⟨_,z⟩<;>(rw[hp] at z;exact nomatch z)
   . subst zi;have:=jc mj (s.ob j oj a ej (oldρ zj rj));rw[newρ ri] at this;rcases this with⟨_,z⟩ | ⟨_,z⟩<;>(rw[hp] at z;exact nomatch z)
   . rw[zi,zj]
 . rcases old e1 with⟨z,e⟩ | ⟨z,e⟩
   . refine mX g (λm=>?_) (s.ob i x a e (oldρ z e2));have:=jc m (s.ob i x a e (oldρ z e2));refine aD ?_;rcases this with ⟨_,y⟩ | ⟨_,y⟩<;>exact aF y hp
   . subst z;subst e;rw [newρ e2];exact r
theorem Gr.write {a : Addr} {ho : HO} (m : (∃ vs, H a = some (.lst vs)) ∨ ∃ kws, H a = some (.dK kws)) : Gr ρ H ρ (upd H a ho) :=
  ⟨fun _ _ h => h, fun b xs e => by rw [aD]; · exact e
                                    . rintro rfl; rcases m with ⟨_, z⟩ | ⟨_, z⟩ <;> (rw [e] at z; exact nomatch z),
   fun b o u e => by rw [aD]; · exact e
                     . rintro rfl; rcases m with ⟨_, z⟩ | ⟨_, z⟩ <;> (rw [e] at z; exact nomatch z)⟩
theorem dq.write (s:dq K ρ h H) {i:Nat} {a:Addr} {ho:HO} {o o':PO} (e:h[i]?=some o) (ea: ρ[i]?=some a) (m:o.dE=true) (m':o'.dE=true) (r:nv K ρ (upd H a ho) a o') :
  dq K ρ (h.set i o') (upd H a ho):=by
 have ma:=jc m (s.ob i o a e ea);have g:Gr ρ H ρ (upd H a ho):=Gr.write ma;have hi:i < h.length:=(UP.mp e).1;have at_: ∀{j:Nat}{x:PO},(h.set i o')[j]?=some x->(j=i/\x=o')\/(j≠i/\h[j]?=some x):=λ{j x} q=>by
  by_cases z:j=i
  . subst z;rw[Vx hi] at q;exact .inl ⟨rfl,by simpa using q.symm⟩
  . rw[VU (Xj z)] at q;exact .inr ⟨z,q⟩
 refine⟨by simp[s.len],λj k b oj ok ej ek mj mk rj rk=>?_,λj x b e1 e2=>?_⟩
 . rcases at_ ej with⟨zj,_⟩ | ⟨_,ej2⟩<;>rcases at_ ek with⟨zk,_⟩ | ⟨_,ek2⟩
   . rw[zj,zk]
   . rw[zj] at rj ⊢; exact s.nd _ _ b o ok e ek2 m mk rj rk
   . rw[zk] at rk ⊢; exact s.nd _ _ b oj o ej2 e mj m rj rk
   . exact s.nd j k b oj ok ej2 ek2 mj mk rj rk
 . rcases at_ e1 with⟨rfl,rfl⟩ | ⟨z,e1⟩
   . rw[ea] at e2;cases e2;exact r
   . refine mX g (λmx=>aD λq=>z ?_) (s.ob j x b e1 e2);subst q;exact s.nd j i b x o e1 e mx m e2 ea
end
inductive RV(α :Type) where
 | ok (a: α) (h:PH) | ex (c:String) (vs:List PV) (h:PH) | no
variable{α β :Type}
noncomputable def RV.bind:RV α ->(α ->PH->RV β)->RV β
 | .ok a h,f=>f a h
 | .ex c vs h,_=> .ex c vs h
 | .no,_=> .no
theorem cK{a: α}{h:PH}{f: α ->PH->RV β}:(RV.ok a h).bind f=f a h:=rfl
theorem bind_eq{r:RV α}{f: α ->PH->RV β}{b: β}{h':PH}:r.bind f= .ok b h'↔ ∃ a h,r= .ok a h/\f a h= .ok b h':=by
 cases r with
 | ok a h=>exact⟨λe=>⟨a,h,rfl,e⟩,λ⟨a',h2,e,q⟩=>by cases e;exact q⟩
 | ex c vs h=>exact⟨λe=>(nomatch e),λ⟨_,_,e,_⟩=>(nomatch e)⟩
 | no=>exact⟨λe=>(nomatch e),λ⟨_,_,e,_⟩=>(nomatch e)⟩
theorem CY{c:Prop}[Decidable c]{a b:RV α}{f: α ->PH->RV β}:(if c then a else b).bind f=if c then a.bind f else b.bind f:=by split<;>rfl
noncomputable def Ok(r:RV α)(Q: α ->PH->Prop):Prop:= ∃ a h,r= .ok a h/\Q a h
abbrev CF:=String->List PV->PH->RV PV
abbrev ME:=CF->aq->PH->RV PV
abbrev MT:=CF->aq->PH->RV Bool
abbrev MA:=CF->aq->PH->RV (List PV)
inductive Fl where
 | nx (e:aq) | rt (v:PV) | bk (e:aq) | ct (e:aq)
abbrev MS:=CF->aq->PH->RV Fl
abbrev MG:=PV->aq->PH->RV aq
structure lA where
 gd:Option Nat
 items:List PV
abbrev MI:=CF->aq->PH->RV lA
structure Df where
 ps:List Str
 nl:Nat
 body:MS
structure Tb where
 fns:String->Option Df
 con:Str->Option PV
 zK:Str->Option (List (Key × PV))
noncomputable def bW(n:Nat):PH->PH->Bool
 | [],_=>true
 | _::_,[]=>false
 | o::h,o'::h'=>(decide (o=o')||(o'.gW n&&o.dE == o'.dE))&&bW n h h'
noncomputable def settle(h:PH)(v:PV)(h':PH):RV PV:=if (v.flat&&bW h.length h h')=true then .ok v (h'.take h.length) else .ok v h'
theorem kO(n:Nat): ∀(h g:PH),bW n h (h++g)=true
 | [],g=>rfl
 | o::h,g=>by rw[VZ,bW,kO n h g];simp
theorem oM{n:Nat}{o':PO}(hu:o'.gW n=true): ∀(h h':PH)(i:Nat)(o:PO),bW n h h'=true->h[i]?=some o->o.dE=o'.dE->bW n h (h'.set i o')=true
 | [],h',i,o,_,e,_=>by simp at e
 | a::h,[],i,o,q,_,_=>by simp[bW] at q
 | a::h,b::h',0,o,q,e,m=>by
  rw[bW,U9] at q;simp at e;subst e;rw[aby,bW,q.2,hu,m];simp
 | a::h,b::h',i+1,o,q,e,m=>by
  rw[bW,U9] at q;rw[List.set_cons_succ,bW,oM hu h h' i o q.2 (by simpa using e) m,q.1];rfl
theorem o8{n:Nat}: ∀{h h':PH},bW n h h'=true->h.length<=h'.length
 | [],h',_=>VM _
 | o::h,[],e=>by simp[bW] at e
 | o::h,o'::h',e=>by
  rw[bW,U9] at e;simp only[UU];exact ZW (o8 e.2)
theorem sI{n:Nat}: ∀{h h':PH}{i:Nat}{o':PO},bW n h h'=true->(h'.take h.length)[i]?=some o'-> ∃ o,h[i]?=some o/\o.dE=o'.dE/\(o=o'\/o'.gW n=true)
 | [],h',i,o',_,e=>by simp at e
 | a::h,[],i,o',q,_=>by simp[bW] at q
 | a::h,b::h',0,o',q,e=>by
  rw[bW,U9,XB,U9] at q;simp at e;subst e;refine⟨a,rfl,?_,?_⟩
  . rcases q.1 with z | z
    . rw[of_decide_eq_true z]
    . simpa using z.2
  . rcases q.1 with z | z
    . exact .inl (of_decide_eq_true z)
    . exact .inr z.1
 | a::h,b::h',i+1,o',q,e=>by
  rw[bW,U9] at q;simpa using sI q.2 (by simpa using e)
noncomputable def run(pg:Tb):Nat->CF
 | 0,_,_,_=> .no
 | k+1,f,vs,h=>match pg.fns f with
  | none=> .no
  | some d=>if vs.length=d.ps.length then
    (match d.body (run pg k) (vs.map some++UY d.nl none) h with
    | .ok (.rt v) h'=>settle h v h'
    | .ok (.nx _) h'=>settle h .non h'
    | .ok _ _=> .no
    | .ex c us h'=> .ex c us h'
    | .no=> .no)
   else .no
noncomputable def eE(K:UL)(ρ :List Addr)(H:Hp)(v:PV)(h':PH)(Q:VK):Prop:= ∀ v' ρ' H',Gr ρ H ρ' H'->dq K ρ' h' H'->rel K ρ' H' v v'->Q v' H'
noncomputable def nT(K:UL)(ρ :List Addr)(H:Hp)(h':PH)(Q:Hp->Prop):Prop:= ∀ ρ' H',Gr ρ H ρ' H'->dq K ρ' h' H'->Q H'
noncomputable def Rm (K:UL) (ρ :List Addr) (H:Hp) (vs:List PV) (h':PH) (Q:List V->Hp->Prop):Prop:= ∀ us ρ' H',Gr ρ H ρ' H'->dq K ρ' h' H'->av K ρ' H' vs us->Q us H'
structure ee (K:UL) (ρ :List Addr) (H:Hp) (e:aq) (σ :L2.St):Prop where
 len:e.length= σ.length
 get: ∀ (i:Nat) (v:PV),e[i]?=some (some v)-> ∃ v', σ[i]?=some (some v')∧rel K ρ H v v'
noncomputable def gc (K:UL) (ρ :List Addr) (H:Hp) (e':aq) (h':PH) (Q:L2.St->Hp->Prop):Prop:= ∀ σ' ρ' H',Gr ρ H ρ' H'->dq K ρ' h' H'->ee K ρ' H' e' σ'->Q σ' H'
noncomputable def zR (K:UL) (ρ :List Addr) (H:Hp) (D:Ends) (h':PH):Fl->Prop
 | .nx e=>gc K ρ H e h' D.nx
 | .bk e=>gc K ρ H e h' D.bk
 | .ct e=>gc K ρ H e h' D.ct
 | .rt v=>eE K ρ H v h' D.rt
section
variable{K:UL}{ρ ρ1:List Addr}{H H1:Hp}{h':PH}
theorem ee.gr{e:aq}{σ :L2.St}(r:ee K ρ H e σ)(g:Gr ρ H ρ1 H1):ee K ρ1 H1 e σ :=⟨r.len,λi v q=>let ⟨v',a,b⟩:=r.get i v q;⟨v',a,rel.gr g _ _ b⟩⟩
theorem ee.set{e:aq}{σ :L2.St}{v:PV}{v':V}(r:ee K ρ H e σ)(i:Nat)(h:rel K ρ H v v'):ee K ρ H (e.set i (some v)) (σ.set i (some v')):=by
 refine⟨by simp[r.len],λj x q=>?_⟩;by_cases z:j=i
 . subst z;have hj:j < e.length:=by
    have:=(UP.mp q).1;simpa using this
   rw[Vx hj] at q;cases q;exact⟨v',Vx (by rw[<- r.len];exact hj),h⟩
 . rw[VU (Xj z)] at q ⊢;exact r.get j x q
theorem ee.more{e:aq}{σ :L2.St}(r:ee K ρ H e σ)(k:Nat):ee K ρ H (e++UY k none) (σ ++UY k none):=by
 refine⟨by simp[r.len],λj x q=>?_⟩;rcases WS j e.length with z | z
 . rw[Vy z] at q;rw[Vy (by rw[<- r.len];exact z)];exact r.get j x q
 . rw[Vq z,Xp] at q;split at q<;>exact nomatch q
theorem eE.gr{v:PV}{Q:VK}(p:eE K ρ H v h' Q)(g:Gr ρ H ρ1 H1):eE K ρ1 H1 v h' Q:=λv' ρ' H' g'=>p v' ρ' H' (g.trans g')
theorem nT.gr{Q:Hp->Prop}(p:nT K ρ H h' Q)(g:Gr ρ H ρ1 H1):nT K ρ1 H1 h' Q:=fun ρ' H' g'=>p ρ' H' (g.trans g')
theorem gc.gr{e:aq}{Q:L2.St->Hp->Prop}(p:gc K ρ H e h' Q)(g:Gr ρ H ρ1 H1):gc K ρ1 H1 e h' Q:=λv' ρ' H' g'=>p v' ρ' H' (g.trans g')
theorem zR.gr{D:Ends}{f:Fl}(p:zR K ρ H D h' f)(g:Gr ρ H ρ1 H1):zR K ρ1 H1 D h' f:=by
 cases f with
 | nx e=>exact gc.gr p g
 | bk e=>exact gc.gr p g
 | ct e=>exact gc.gr p g
 | rt e=>exact eE.gr p g
end
noncomputable def SE(c:CF)(K:UL)(t:TE)(m:ME):Prop:= ∀ ρ h H e σ Q v h',dq K ρ h H->ee K ρ H e σ ->m c e h= .ok v h'->eE K ρ H v h' Q->t σ H Q
noncomputable def ST(c:CF)(K:UL)(t:TT)(m:MT):Prop:= ∀ ρ h H e σ Q b h',dq K ρ h H->ee K ρ H e σ ->m c e h= .ok b h'->nT K ρ H h' (Q b)->t σ H Q
noncomputable def SA(c:CF)(K:UL)(t:TA)(m:MA):Prop:= ∀ ρ h H e σ Q vs h',dq K ρ h H->ee K ρ H e σ ->m c e h= .ok vs h'->Rm K ρ H vs h' Q->t σ H Q
noncomputable def SS(c:CF)(K:UL)(t:TS)(m:MS):Prop:= ∀ ρ h H e σ D f h',dq K ρ h H->ee K ρ H e σ ->m c e h= .ok f h'->zR K ρ H D h' f->t D σ H
noncomputable def SG(K:UL)(t:TG)(m:MG):Prop:= ∀ ρ h H e σ Q v v' e' h',dq K ρ h H->ee K ρ H e σ ->rel K ρ H v v'->m v e h= .ok e' h'->gc K ρ H e' h' Q->t v' σ H Q
noncomputable def lA.ko(it:lA)(h:PH):Bool:=match it.gd with
 | none=>true
 | some n=>decide (h[n]?=some (.lst it.items)\/h[n]?=some (.lB it.items))
noncomputable def TQ(K:UL)(ρ0:List Addr)(H0:Hp)(J:It)(it:lA):Prop:= ∀ i ρ h H,Gr ρ0 H0 ρ H->dq K ρ h H->it.ko h=true ->
 (∀ x,it.items[i]?=some x->J.go i H∧ ∀ v H',J.Jk i H v H'-> ∃ ρ',Gr ρ H ρ' H'∧dq K ρ' h H'∧rel K ρ' H' x v)∧(i=it.items.length->J.stop i H)
noncomputable def SI (c:CF) (K:UL) (t:TI) (m:MI):Prop:= ∀ ρ h H e σ R it h',dq K ρ h H->ee K ρ H e σ ->m c e h= .ok it h'->(∀ ρ' H' J,Gr ρ H ρ' H'->dq K ρ' h' H'->TQ K ρ' H' J it->R J H')->t σ H R
noncomputable def xC (K:UL) (pg:Tb) (k:Nat) (f:String):Sp:=λvs H Q _=> ∃ ρ h args v h',dq K ρ h H∧av K ρ H args vs∧run pg k f args h= .ok v h'∧eE K ρ H v h' Q
noncomputable def jx:List Str:=["len", "range", "isinstance", "int", "bool", "tuple", "dict", "sorted", "min", "max", "abs", "all", "any", "sum", "str", "list", "zip", "set", "repr", "enumerate"]
noncomputable def Bv (K:UL) (v:V):Prop:= ∀ a,v= .ref a-> ∃ o,K.lookup a=some o∧o.cls= .type "tuple" ∧o.dict=none
structure dc (X:Cx) (pg:Tb) (k:Nat):Prop where
 room:dJ k X.A
 calm:X.calm=true
 pW: ∀ v s,¬ X.xe v s
 defs: ∀ f d,pg.fns f=some d->nV X.prog X.w X.K X.mg X.base (Va f) k d.ps (xC X.K pg k f)
 blt: ∀ x∈jx,X.mg x=none
 con: ∀ x v,pg.con x=some v-> ∃ u v',X.mg x=some u/\RelV v' u/\Bv X.K v'/\ ∀ ρ H,rel X.K ρ H v v'
 zK: ∀ x kvs,pg.zK x=some kvs-> ∃ a kws,X.mg x=some (.ref a)/\KD X.prog X.w X.K a kws/\ ∀ ρ H,V2 (λ(p:Key × PV) (q:Key × V)=>p.1=q.1/\rel X.K ρ H p.2 q.2) kvs kws
theorem dc.fJ{X:Cx}{pg:Tb}{k:Nat}(a:dc X pg k)(vars:List Str)(scope:Scope)(cl:List (Str × Addr))(C:Addr)(s₀ :UR)(H₀ :Hp)(ex:List Addr)(pn:List (Addr × Obj)):dc (fJ X vars scope cl C s₀ H₀ ex pn) pg k :=
 ⟨a.room,a.calm,a.pW,a.defs,a.blt,a.con,a.zK⟩
structure JE(X:Cx)(pg:Tb)(k:Nat)(e:Expr)(m:ME):Prop where h:dc X pg k-> ∃ t,QE X e t/\SE (run pg k) X.K t m
structure JT(X:Cx)(pg:Tb)(k:Nat)(e:Expr)(m:MT):Prop where h:dc X pg k-> ∃ t,QT X e t/\ST (run pg k) X.K t m
structure JW(X:Cx)(pg:Tb)(k:Nat)(e:Expr)(m:MT):Prop where h:dc X pg k-> ∃ t,QW X e t/\ST (run pg k) X.K t m
structure JA(X:Cx)(pg:Tb)(k:Nat)(e:List Expr)(m:MA):Prop where h:dc X pg k-> ∃ t,QA X e t/\SA (run pg k) X.K t m
structure JS(X:Cx)(pg:Tb)(k:Nat)(s:Stmt)(m:MS):Prop where h:dc X pg k-> ∃ t,QS X s t/\SS (run pg k) X.K t m
structure ym(X:Cx)(pg:Tb)(k:Nat)(s:List Stmt)(m:MS):Prop where h:dc X pg k-> ∃ t,DP X s t/\SS (run pg k) X.K t m
structure JG(X:Cx)(pg:Tb)(k:Nat)(e:Expr)(m:MG):Prop where h:dc X pg k-> ∃ t,QG X e t/\SG X.K t m
structure JI(X:Cx)(pg:Tb)(k:Nat)(tg e:Expr)(m:MI):Prop where h:dc X pg k-> ∃ t,QI X tg e t/\SI (run pg k) X.K t m
structure JF(X:Cx)(pg:Tb)(k:Nat)(es:List Expr)(m:MT):Prop where h:dc X pg k-> ∃ t,QF X es t/\ST (run pg k) X.K t m
noncomputable def nQ(K:UL)(r:R2)(f:PV->PV->PH->RV PV):Prop:= ∀ ρ h H x y x' y' Q v h',dq K ρ h H->rel K ρ H x x'->rel K ρ H y y'->f x y h= .ok v h'->eE K ρ H v h' Q->r x' y' H Q
noncomputable def BY(K:UL)(r:List V->Hp->VK->Prop)(f:List PV->PH->RV PV):Prop:= ∀ ρ h H xs us Q v h',dq K ρ h H->av K ρ H xs us->f xs h= .ok v h'->eE K ρ H v h' Q->r us H Q
noncomputable def RL(K:UL)(T:String)(r:V->List V->Hp->VK->Prop)(f:PV->List PV->PH->RV PV)(ty:PV->PH->Bool):Prop :=
 (∀ ρ h H x x',dq K ρ h H->rel K ρ H x x'->ty x h=true->RJ K T x' H) /\
 ∀ ρ h H x x' xs us Q v h',dq K ρ h H->rel K ρ H x x'->av K ρ H xs us->f x xs h= .ok v h'->eE K ρ H v h' Q->r x' us H Q
noncomputable def aa(i:Nat):ME:=λ_ e h=>match e[i]? with
 | some (some v)=> .ok v h
 | _=> .no
noncomputable def eC(v:PV):ME:=λ_ _ h=> .ok v h
noncomputable def ak(f:PV->PV->PH->RV PV)(a b:ME):ME:=λc e h=>(a c e h).bind λx h1=>(b c e h1).bind λy h2=>f x y h2
noncomputable def Au(f:PV->PH->RV PV)(a:ME):ME:=λc e h=>(a c e h).bind f
noncomputable def uN(v:PV)(h:PH):RV Bool:=match v with
 | .bl b=> .ok b h
 | _=> .no
noncomputable def Bp(a b:ME):ME:=λc e h=>((a c e h).bind uN).bind λx h1=>if x=true then b c e h1 else .ok (.bl false) h1
noncomputable def Qn(a b:ME):ME:=λc e h=>((a c e h).bind uN).bind λx h1=>if x=true then .ok (.bl true) h1 else b c e h1
noncomputable def FJ(a:ME):ME:=λc e h=>((a c e h).bind uN).bind λx h1=> .ok (.bl (!x)) h1
noncomputable def uO(t:MT)(a b:ME):ME:=λc e h=>(t c e h).bind λx h1=>if x=true then a c e h1 else b c e h1
noncomputable def aH(a:ME):MT:=λc e h=>(a c e h).bind uN
noncomputable def pV(a b:MT):MT:=λc e h=>(a c e h).bind λx h1=>if x=true then b c e h1 else .ok false h1
noncomputable def Lc(a b:MT):MT:=λc e h=>(a c e h).bind λx h1=>if x=true then .ok true h1 else b c e h1
noncomputable def qh(a:MT):MT:=λc e h=>(a c e h).bind λx h1=> .ok (!x) h1
noncomputable def bo:MT:=λ_ _ h=> .ok true h
noncomputable def ah:MA:=λ_ _ h=> .ok [] h
noncomputable def ab(a:ME)(r:MA):MA:=λc e h=>(a c e h).bind λx h1=>(r c e h1).bind λxs h2=> .ok (x::xs) h2
noncomputable def mh(n:Nat)(r:RV α):RV α :=if n<=sizeLine then r else .no
noncomputable def ao(r:MA):ME:=λc e h=>(r c e h).bind λxs h1=>mh xs.length (.ok (.tup xs) h1)
noncomputable def bH(r:MA):ME:=λc e h=>(r c e h).bind λxs h1=>mh xs.length (.ok (.ref h1.length) (h1++[.lst xs]))
noncomputable def ag(f:String)(r:MA):ME:=λc e h=>(r c e h).bind λxs h1=>c f xs h1
noncomputable def eB(f:List PV->PH->RV PV)(r:MA):ME:=λc e h=>(r c e h).bind f
noncomputable def eM(f:PV->List PV->PH->RV PV)(ty:PV->PH->Bool)(a:ME)(r:MA):ME:=λc e h=>(a c e h).bind λx h1=>if ty x h1=true then(r c e h1).bind λxs h2=>f x xs h2 else .no
noncomputable def uw(f g:PV->PV->PH->RV PV)(a b d:ME):ME:=λc e h=>(a c e h).bind λx h1=>(b c e h1).bind λy h2=>((f x y h2).bind uN).bind λk h3=>if k=true then(d c e h3).bind λz h4=>g y z h4 else .ok (.bl false) h3
theorem kA{n:Nat}{r:RV α}{a: α}{h:PH}:mh n r= .ok a h↔n<=sizeLine/\r= .ok a h:=by
 unfold mh;split
 . exact⟨λe=>⟨by assumption,e⟩,λe=>e.2⟩
 . exact⟨λe=>(nomatch e),λe=>absurd e.1 (by assumption)⟩
theorem oP{v:PV}{h h':PH}{b:Bool}:uN v h= .ok b h'↔v= .bl b/\h'=h:=by
 cases v<;>simp[uN,eq_comm]
section
variable{X:Cx}{pg:Tb}{k:Nat}{a b c d e:Expr}{es:List Expr}{ma mb mc md:ME}{mr:MA}{mt mt':MT}{pos p pos' apos cpos:Pos}{x:Str}
theorem Kw(i:Nat){x:Str}{pos:Pos}(hN:X.N[i]?=some x:=by rfl)(hv:OA X.env.scope x:=by first | exact ab1 rfl | exact aaQ (ab1 rfl) | exact aaQ (aaQ rfl))(hd:(x == ("__debug__" :Str))=false:=by decide)
  (hcd:(x == ("__classdict__" :Str))=false:=by decide):JE X pg k (.Name x pos) (aa i):=⟨λA=>⟨_,qv i hN hv hd hcd,fun ρ h H e σ Q v h' s r q P=>by
 unfold aa at q;split at q
 . cases q;obtain⟨v',e1,e2⟩:=r.get i v (by assumption);exact⟨v',e1,P v' ρ H (.refl _ _) s e2⟩
 . exact nomatch q⟩⟩
theorem Bf{cf:CF}{K:UL}{v:PV}{v':V}(hr: ∀ ρ H,rel K ρ H v v'):SE cf K (tC v') (eC v):=fun ρ h H e σ Q w h' s r q P=>by cases q;exact P v' ρ H (.refl _ _) s (hr ρ H)
theorem KZ{n:Int}{j:Nat}:JE X pg k (.Constant (.int n) j pos) (eC (.int n)):=⟨λA=>⟨_,N4,Bf fun ρ H=>by rw[rel]⟩⟩
theorem O8{n:Bool}{j:Nat}:JE X pg k (.Constant (.bool n) j pos) (eC (.bl n)):=⟨λA=>⟨_,RD,Bf fun ρ H=>by rw[rel]⟩⟩
theorem Nd{j:Nat}:JE X pg k (.Constant .none j pos) (eC .non):=⟨λA=>⟨_,J7,Bf fun ρ H=>by rw[rel]⟩⟩
theorem MW{n:Str}{j:Nat}:JE X pg k (.Constant (.str n) j pos) (eC (.str n)):=⟨λA=>⟨_,Kl,Bf fun ρ H=>by rw[rel]⟩⟩
theorem N1{v:PV}(hc:pg.con x=some v)(hg:Gl X x)(hd:(x == ("__debug__" :Str))=false:=by decide):JE X pg k (.Name x pos) (eC v):=⟨λA=>let ⟨u,v',e1,e2,_,e3⟩:=A.con x v hc;⟨_,zE hg e1 e2 hd,Bf e3⟩⟩
theorem vU{T:String}(hg:Gl X x)(hb:x∈jx)(hv:V8 x=some (.type T))(hn:x≠ "__name__" :=by decide)(hd:(x == ("__debug__" :Str))=false:=by decide):JE X pg k (.Name x pos) (eC (.ty T)) :=
 ⟨λA=>⟨_,Fs (v:= .ty T) hg (A.blt x hb) hv rfl hn hd,Bf fun ρ H=>by rw[rel]⟩⟩
theorem y6{cf:CF}{K:UL}{r:R2}{f:PV->PV->PH->RV PV}{ta tb:TE}(ho:nQ K r f)(ha:SE cf K ta ma)(hb:SE cf K tb mb):SE cf K (HP r ta tb) (ak f ma mb):=fun ρ h H e σ Q v h' s r q P=>by
 obtain⟨x,h1,e1,q⟩:=bind_eq.mp q;obtain⟨y,h2,e2,q⟩:=bind_eq.mp q;refine ha ρ h H e σ _ x h1 s r e1 λx' ρ1 H1 g1 s1 r1=>?_;refine hb ρ1 h1 H1 e σ _ y h2 s1 (r.gr g1) e2 λy' ρ2 H2 g2 s2 r2=>?_;exact ho ρ2 h2 H2 x y x' y' Q v h' s2 (rel.gr g2 _ _ r1) r2 q (P.gr (g1.trans g2))
theorem OT{op:Operator}{f:PV->PV->PH->RV PV}(ho:dc X pg k-> ∃ r,c9 X (Wa op) r/\nQ X.K r f)(ha:JE X pg k a ma)(hb:JE X pg k b mb):JE X pg k (.BinOp a op b pos) (ak f ma mb):=⟨λA =>
 let ⟨_,q1,s1⟩:=ha.h A;let ⟨_,q2,s2⟩:=hb.h A;let ⟨_,q,s⟩:=ho A;⟨_,Qv q q1 q2,y6 s s1 s2⟩⟩
theorem DB{op:CmpOp}{f:PV->PV->PH->RV PV}(ho:dc X pg k-> ∃ r,c9 X (Vu op) r/\nQ X.K r f)(ha:JE X pg k a ma)(hb:JE X pg k b mb)(hm:Wg op b=false):JE X pg k (.Compare a [op] [b] pos) (ak f ma mb):=⟨λA =>
 let ⟨_,q1,s1⟩:=ha.h A;let ⟨_,q2,s2⟩:=hb.h A;let ⟨_,q,s⟩:=ho A;⟨_,II q q1 q2 hm,y6 s s1 s2⟩⟩
theorem uD{cf:CF}{K:UL}{ta:TE}(ha:SE cf K ta ma):ST cf K (CL ta) (aH ma):=fun ρ h H e σ Q v h' s r q P=>by
 obtain⟨x,h1,e1,q⟩:=bind_eq.mp q;obtain⟨rfl,rfl⟩:=oP.mp q;refine ha ρ h H e σ _ _ _ s r e1 λx' ρ1 H1 g1 s1 r1=>?_;rw[rel] at r1;exact⟨v,r1,P ρ1 H1 g1 s1⟩
theorem EX{op:CmpOp}{f:PV->PV->PH->RV PV}(ho:dc X pg k-> ∃ r,c9 X (Vu op) r/\nQ X.K r f)(ha:JE X pg k a ma)(hb:JE X pg k b mb)(hm:Wg op b=false):JT X pg k (.Compare a [op] [b] pos) (aH (ak f ma mb)):=⟨λA =>
 let ⟨_,q1,s1⟩:=ha.h A;let ⟨_,q2,s2⟩:=hb.h A;let ⟨_,q,s⟩:=ho A;⟨_,Hv q q1 q2 hm,uD (y6 s s1 s2)⟩⟩
theorem Ku(ha:JE X pg k e ma)(he: ∀ whole,abV e X.env whole=(do let v <- whole;acm e.pos;Y0 [v] (truthy v)):=by intro _;rfl):JT X pg k e (aH ma):=⟨λA =>
 let ⟨_,q1,s1⟩:=ha.h A;⟨_,MN q1 he,uD s1⟩⟩
theorem Nm(ha:JE X pg k a ma):JE X pg k (.UnaryOp .Not a pos) (FJ ma):=⟨λA =>
 let ⟨_,q1,s1⟩:=ha.h A;⟨_,Lg q1,fun ρ h H e σ Q v h' s r q P=>by
  obtain⟨x,h2,q2,q⟩:=bind_eq.mp q;obtain⟨y,h1,e1,q2⟩:=bind_eq.mp q2;obtain⟨rfl,rfl⟩:=oP.mp q2;cases q;refine s1 ρ h H e σ _ _ _ s r e1 λx' ρ1 H1 g1 z1 r1=>?_;rw[rel] at r1;exact⟨x,r1,P _ ρ1 H1 g1 z1 (by rw[rel])⟩⟩⟩
theorem L6{op:BoolOp}(h:JE X pg k a ma):JE X pg k (.BoolOp op [a] pos) ma:=⟨λA=>let ⟨_,q1,s1⟩:=h.h A;⟨_,Ox q1,s1⟩⟩
theorem L5{rest:List Expr}(ha:JE X pg k a ma)(hb:JE X pg k (.BoolOp .And (b::rest) pos) mb):JE X pg k (.BoolOp .And (a::b::rest) pos) (Bp ma mb):=⟨λA =>
 let ⟨_,q1,s1⟩:=ha.h A;let ⟨_,q2,s2⟩:=hb.h A;⟨_,Kc q1 q2,fun ρ h H e σ Q v h' s r q P=>by
  obtain⟨x,h2,q2,q⟩:=bind_eq.mp q;obtain⟨y,h1,e1,q2⟩:=bind_eq.mp q2;obtain⟨rfl,rfl⟩:=oP.mp q2;refine s1 ρ h H e σ _ _ _ s r e1 λx' ρ1 H1 g1 z1 r1=>?_;rw[rel] at r1;refine⟨x,r1,?_⟩;cases x with
  | true=>exact s2 ρ1 _ H1 e σ _ _ _ z1 (r.gr g1) q (P.gr g1)
  | false=>cases q;exact P _ ρ1 H1 g1 z1 (by rw[rel])⟩⟩
theorem Q9{rest:List Expr}(ha:JE X pg k a ma)(hb:JE X pg k (.BoolOp .Or (b::rest) pos) mb):JE X pg k (.BoolOp .Or (a::b::rest) pos) (Qn ma mb):=⟨λA =>
 let ⟨_,q1,s1⟩:=ha.h A;let ⟨_,q2,s2⟩:=hb.h A;⟨_,O1 q1 q2,fun ρ h H e σ Q v h' s r q P=>by
  obtain⟨x,h2,q2,q⟩:=bind_eq.mp q;obtain⟨y,h1,e1,q2⟩:=bind_eq.mp q2;obtain⟨rfl,rfl⟩:=oP.mp q2;refine s1 ρ h H e σ _ _ _ s r e1 λx' ρ1 H1 g1 z1 r1=>?_;rw[rel] at r1;refine⟨x,r1,?_⟩;cases x with
  | false=>exact s2 ρ1 _ H1 e σ _ _ _ z1 (r.gr g1) q (P.gr g1)
  | true=>cases q;exact P _ ρ1 H1 g1 z1 (by rw[rel])⟩⟩
theorem D4(hc:JT X pg k c mt)(ha:JE X pg k a ma)(hb:JE X pg k b mb):JE X pg k (.IfExp c a b pos) (uO mt ma mb):=⟨λA =>
 let ⟨_,q0,s0⟩:=hc.h A;let ⟨_,q1,s1⟩:=ha.h A;let ⟨_,q2,s2⟩:=hb.h A;⟨_,Di q0 q1 q2,fun ρ h H e σ Q v h' s r q P=>by
  obtain⟨x,h1,e1,q⟩:=bind_eq.mp q;refine s0 ρ h H e σ _ _ _ s r e1 fun ρ1 H1 g1 z1=>?_;cases x with
  | true=>exact s1 ρ1 _ H1 e σ _ _ _ z1 (r.gr g1) q (P.gr g1)
  | false=>exact s2 ρ1 _ H1 e σ _ _ _ z1 (r.gr g1) q (P.gr g1)⟩⟩
theorem Hl(ha:JT X pg k a mt):JW X pg k (.BoolOp .And [a] pos) mt:=⟨λA=>let ⟨_,q1,s1⟩:=ha.h A;⟨_,IC q1,s1⟩⟩
theorem Ls(ha:JT X pg k a mt):JW X pg k (.BoolOp .Or [a] pos) mt:=⟨λA=>let ⟨_,q1,s1⟩:=ha.h A;⟨_,Me q1,s1⟩⟩
theorem B7{rest:List Expr}(ha:JT X pg k a mt)(hb:JW X pg k (.BoolOp .And (b::rest) pos) mt'):JW X pg k (.BoolOp .And (a::b::rest) pos) (pV mt mt'):=⟨λA =>
 let ⟨_,q1,s1⟩:=ha.h A;let ⟨_,q2,s2⟩:=hb.h A;⟨_,Kd q1 q2,fun ρ h H e σ Q v h' s r q P=>by
  obtain⟨x,h1,e1,q⟩:=bind_eq.mp q;refine s1 ρ h H e σ _ _ _ s r e1 fun ρ1 H1 g1 z1=>?_;cases x with
  | true=>exact s2 ρ1 _ H1 e σ _ _ _ z1 (r.gr g1) q (P.gr g1)
  | false=>cases q;exact P ρ1 H1 g1 z1⟩⟩
theorem JD{rest:List Expr}(ha:JT X pg k a mt)(hb:JW X pg k (.BoolOp .Or (b::rest) pos) mt'):JW X pg k (.BoolOp .Or (a::b::rest) pos) (Lc mt mt'):=⟨λA =>
 let ⟨_,q1,s1⟩:=ha.h A;let ⟨_,q2,s2⟩:=hb.h A;⟨_,Q6 q1 q2,fun ρ h H e σ Q v h' s r q P=>by
  obtain⟨x,h1,e1,q⟩:=bind_eq.mp q;refine s1 ρ h H e σ _ _ _ s r e1 fun ρ1 H1 g1 z1=>?_;cases x with
  | false=>exact s2 ρ1 _ H1 e σ _ _ _ z1 (r.gr g1) q (P.gr g1)
  | true=>cases q;exact P ρ1 H1 g1 z1⟩⟩
theorem JW.pt(h:JW X pg k e mt):JT X pg k e mt:=⟨λA=>let ⟨_,q1,s1⟩:=h.h A;⟨_,q1.pt,s1⟩⟩
theorem MU(ha:JT X pg k a mt):JT X pg k (.UnaryOp .Not a pos) (qh mt):=⟨λA=>let ⟨_,q1,s1⟩:=ha.h A;⟨_,Ol q1,fun ρ h H e σ Q v h' s r q P=>by
  obtain⟨x,h1,e1,q⟩:=bind_eq.mp q;cases q;exact s1 ρ h H e σ _ _ _ s r e1 fun ρ1 H1 g1 z1=>P ρ1 H1 g1 z1⟩⟩
theorem L7:JF X pg k [] bo:=⟨λA=>⟨_,Np,fun ρ h H e σ Q v h' s r q P=>by cases q;exact P ρ H (.refl _ _) s⟩⟩
theorem Mg(h:JT X pg k c mt):JF X pg k [c] mt:=⟨λA=>let ⟨_,q1,s1⟩:=h.h A;⟨_,Nz q1,s1⟩⟩
theorem NM:JA X pg k [] ah:=⟨λA=>⟨_,yw,fun ρ h H e σ Q v h' s r q P=>by cases q;exact P [] ρ H (.refl _ _) s (aO.mpr rfl)⟩⟩
theorem Iu(ha:JE X pg k e ma)(hr:JA X pg k es mr)(hs:noStar e=true:=by rfl):JA X pg k (e::es) (ab ma mr):=⟨λA =>
 let ⟨_,q1,s1⟩:=ha.h A;let ⟨_,q2,s2⟩:=hr.h A;⟨_,qk q1 q2 hs,fun ρ h H e σ Q v h' s r q P=>by
  obtain⟨x,h1,e1,q⟩:=bind_eq.mp q;obtain⟨xs,h2,e2,q⟩:=bind_eq.mp q;cases q;refine s1 ρ h H e σ _ _ _ s r e1 λx' ρ1 H1 g1 z1 r1=>?_;refine s2 ρ1 h1 H1 e σ _ _ _ z1 (r.gr g1) e2 λus ρ2 H2 g2 z2 r2=>?_;exact P _ ρ2 H2 (g1.trans g2) z2 (aE.mpr ⟨x',us,rfl,rel.gr g2 _ _ r1,r2⟩)⟩⟩
theorem Kt{x1}(h:JA X pg k es mr):JE X pg k (.Tuple es x1 pos) (ao mr):=⟨λA =>
 let ⟨_,q1,s1⟩:=h.h A;⟨_,NR q1,fun ρ h H e σ Q v h' s r q P=>by
  obtain⟨xs,h1,e1,q⟩:=bind_eq.mp q;obtain⟨hl,q⟩:=kA.mp q;cases q;refine s1 ρ h H e σ _ _ _ s r e1 λus ρ1 H1 g1 z1 r1=>⟨by rw[<- r1.len];exact hl,λp hp=>?_⟩
  refine P _ ρ1 _ (g1.trans (Gr.xl hp)) (z1.tup hp) ?_;rw[rel];exact⟨p,us,rfl,bh,av.gr (Gr.xl hp) _ _ r1⟩⟩⟩
theorem dY{K:UL}{ρ :List Addr}{h:PH}{H:Hp}{xs:List PV}{us:List V}{Q:VK}(s:dq K ρ h H)(r:av K ρ H xs us)(P:eE K ρ H (.ref h.length) (h++[.lst xs]) Q)(p:Addr)(hp:H p=none):Q (.ref p) (upd H p (.lst us)):=by
 refine P _ (ρ ++[p]) _ (Gr.new hp [p]) (s.new hp ⟨us,bh,av.gr (Gr.new hp [p]) _ _ r⟩) ?_;rw[rel];exact⟨p,by rw[<- s.len,Vq (UT _)];simp,rfl⟩
theorem Kv(h:JA X pg k es mr):JE X pg k (.List es pos) (bH mr):=⟨λA =>
 let ⟨_,q1,s1⟩:=h.h A;⟨_,Ng q1,fun ρ h H e σ Q v h' s r q P=>by
  obtain⟨xs,h1,e1,q⟩:=bind_eq.mp q;obtain⟨hl,q⟩:=kA.mp q;cases q;exact s1 ρ h H e σ _ _ _ s r e1 λus ρ1 H1 g1 z1 r1=>⟨by rw[<- r1.len];exact hl,λp hp=>dY z1 r1 (P.gr g1) p hp⟩⟩⟩
theorem HM{f:String}{d:Df}(hf:pg.fns f=some d)(hg:Gl X (Va f))(ha:JA X pg k (e::es) mr)(hdb:(Va f == ("__debug__" :Str))=false:=by decide)(he:noStar e=true:=by rfl)(hpl:es.all noStar=true:=by rfl) :
  JE X pg k (.Call (.Name (Va f) p) (e::es) [] pos) (ag f mr):=⟨λA =>
 let ⟨_,q1,s1⟩:=ha.h A;⟨_,qd (A.defs f d hf) A.room hg (UT _) q1 hdb he hpl,fun ρ h H e σ Q v h' s r q P=>by
  obtain⟨xs,h1,e1,q⟩:=bind_eq.mp q;refine s1 ρ h H e σ _ _ _ s r e1 λus ρ1 H1 g1 z1 r1=>?_;rw[VF];exact⟨ρ1,h1,xs,v,h',z1,r1,q,P.gr g1⟩⟩⟩
theorem P7{cf:CF}{K:UL}{r:List V->Hp->VK->Prop}{f:List PV->PH->RV PV}{ta:TA}(ho:BY K r f)(ha:SA cf K ta mr):SE cf K (Nu r ta) (eB f mr):=fun ρ h H e σ Q v h' s r q P=>by
 obtain⟨xs,h1,e1,q⟩:=bind_eq.mp q;exact ha ρ h H e σ _ _ _ s r e1 λus ρ1 H1 g1 z1 r1=>ho ρ1 h1 H1 xs us Q v h' z1 r1 q (P.gr g1)
theorem He{id:String}{f:List PV->PH->RV PV}(hc:dc X pg k-> ∃ r,aT X (.builtin id) r/\BY X.K r f)(hg:Gl X x)(hb:x∈jx)(hv:V8 x=some (.builtin id))(ha:JA X pg k (e::es) mr)
  (hn:x≠ "__name__" :=by decide) (hdb:(x == ("__debug__" :Str))=false:=by decide) (he:noStar e=true:=by rfl) (hpl:es.all noStar=true:=by rfl):JE X pg k (.Call (.Name x p) (e::es) [] pos) (eB f mr):=⟨λA =>
 let ⟨_,q1,s1⟩:=ha.h A;let ⟨_,q,s⟩:=hc A;⟨_,qB q hg (A.blt x hb) hv q1 hn hdb he hpl,P7 s s1⟩⟩
theorem F0{T:String}{f:List PV->PH->RV PV}(hc:dc X pg k-> ∃ r,aT X (.type T) r/\BY X.K r f)(hg:Gl X x)(hb:x∈jx)(hv:V8 x=some (.type T))(ha:JA X pg k (e::es) mr)
  (hn:x≠ "__name__" :=by decide) (hdb:(x == ("__debug__" :Str))=false:=by decide) (he:noStar e=true:=by rfl) (hpl:es.all noStar=true:=by rfl):JE X pg k (.Call (.Name x p) (e::es) [] pos) (eB f mr):=⟨λA =>
 let ⟨_,q1,s1⟩:=ha.h A;let ⟨_,q,s⟩:=hc A;⟨_,qT q hg (A.blt x hb) hv q1 hn hdb he hpl,P7 s s1⟩⟩
theorem KQ{name:Str}{id T:String}{f:PV->List PV->PH->RV PV}{ty:PV->PH->Bool}(pa:abt T)(slot:Slot T name id)(hty:typeOf (.builtin id)=pure (.type "method_descriptor"))(hm:dc X pg k-> ∃ r,Ju X id r/\RL X.K T r f ty)
  (ho:JE X pg k d md) (ha:JA X pg k [e] mr) (hbase:Xi d name X.env (eval d X.env)=eval d X.env:=by rfl) (hline:(apos.endLine == cpos.line)=true:=by rfl) (hs:noStar e=true:=by rfl) :
  JE X pg k (.Call (.Attribute d name apos) [e] [] cpos) (eM f ty md mr):=⟨λA =>
 let ⟨_,q0,s0⟩:=ho.h A;let ⟨_,q1,s1⟩:=ha.h A;let ⟨_,q,s⟩:=hm A;⟨_,JH pa slot hty q q0 q1 hbase hline hs,fun ρ h H e σ Q v h' z r q P=>by
  obtain⟨x,h1,e1,q⟩:=bind_eq.mp q;refine s0 ρ h H e σ _ _ _ z r e1 λx' ρ1 H1 g1 z1 r1=>?_;split at q
  . rename_i ht;obtain⟨xs,h2,e2,q⟩:=bind_eq.mp q;refine⟨s.1 ρ1 h1 H1 x x' z1 r1 ht,?_⟩;exact s1 ρ1 h1 H1 e σ _ _ _ z1 (r.gr g1) e2 λus ρ2 H2 g2 z2 r2=>s.2 ρ2 h2 H2 x x' xs us Q v h' z2 (rel.gr g2 _ _ r1) r2 q (P.gr (g1.trans g2))
  . exact nomatch q⟩⟩
theorem CT{cf:CF}{K:UL}{r r':R2}{f g:PV->PV->PH->RV PV}{ta tb tc:TE}(ho:nQ K r f)(ho':nQ K r' g)(ha:SE cf K ta ma)(hb:SE cf K tb mb)(hc:SE cf K tc mc):SE cf K (yB r r' ta tb tc) (uw f g ma mb mc):=fun ρ h H e σ Q v h' s r q P=>by
 obtain⟨x,h1,e1,q⟩:=bind_eq.mp q;obtain⟨y,h2,e2,q⟩:=bind_eq.mp q;obtain⟨z,h3,e3,q⟩:=bind_eq.mp q;obtain⟨z0,h4,e4,e5⟩:=bind_eq.mp e3;obtain⟨rfl,rfl⟩:=oP.mp e5;refine ha ρ h H e σ _ x h1 s r e1 λx' ρ1 H1 g1 s1 r1=>?_;refine hb ρ1 h1 H1 e σ _ y h2 s1 (r.gr g1) e2 λy' ρ2 H2 g2 s2 r2=>?_;refine ho ρ2 h2 H2 x y x' y' _ _ _ s2 (rel.gr g2 _ _ r1) r2 e4 λz' ρ3 H3 g3 s3 r3=>?_;rw[rel] at r3;refine⟨z,r3,?_⟩;cases z with
 | true =>
  obtain⟨w,h5,e5,q⟩:=bind_eq.mp q
  refine hc ρ3 _ H3 e σ _ w h5 s3 (r.gr ((g1.trans g2).trans g3)) e5 λw' ρ4 H4 g4 s4 r4=>?_
  exact ho' ρ4 h5 H4 y w y' w' Q v h' s4 (rel.gr (g3.trans g4) _ _ r2) r4 q (P.gr (((g1.trans g2).trans g3).trans g4))
 | false=>cases q;exact P _ ρ3 H3 ((g1.trans g2).trans g3) s3 (by rw[rel])
theorem CG{op op':CmpOp}{f g:PV->PV->PH->RV PV}(ho:dc X pg k-> ∃ r,c9 X (Vu op) r/\nQ X.K r f)(ho':dc X pg k-> ∃ r,c9 X (Vu op') r/\nQ X.K r g)(ha:JE X pg k a ma)(hb:JE X pg k b mb)(hc:JE X pg k c mc)
  (hm:lastMarks [op,op'] [b,c]=false:=by with_unfolding_all rfl):JE X pg k (.Compare a [op,op'] [b,c] pos) (uw f g ma mb mc):=⟨λA =>
 let ⟨_,q1,s1⟩:=ha.h A;let ⟨_,q2,s2⟩:=hb.h A;let ⟨_,q3,s3⟩:=hc.h A;let ⟨_,q,s⟩:=ho A;let ⟨_,q',s'⟩:=ho' A;⟨_,D9 q q' q1 q2 q3 hm,CT s s' s1 s2 s3⟩⟩
end
noncomputable def cD:MS:=λ_ e h=> .ok (.nx e) h
noncomputable def ae(a b:MS):MS:=λc e h=>(a c e h).bind λf h1=>match f with
 | .nx e1=>b c e1 h1
 | f=> .ok f h1
noncomputable def cb(a:ME):MS:=λc e h=>(a c e h).bind λ_ h1=> .ok (.nx e) h1
noncomputable def aw(a:ME):MS:=λc e h=>(a c e h).bind λv h1=> .ok (.rt v) h1
noncomputable def bR(t:MT)(a b:MS):MS:=λc e h=>(t c e h).bind λx h1=>if x=true then a c e h1 else b c e h1
noncomputable def jd:MS:=λ_ _ _=> .no
noncomputable def ai(a:ME)(g:MG):MS:=λc e h=>(a c e h).bind λv h1=>(g v e h1).bind λe1 h2=> .ok (.nx e1) h2
noncomputable def gN(i:Nat):MG:=λv e h=> .ok (e.set i (some v)) h
noncomputable def gT(n:Nat)(g:List PV->aq->PH->RV aq):MG:=λv e h=>match v.seq? with
 | some xs=>if xs.length=n then g xs e h else .no
 | none=> .no
noncomputable def cv:List PV->aq->PH->RV aq:=λvs e h=>match vs with
 | []=> .ok e h
 | _=> .no
noncomputable def au(g:MG)(r:List PV->aq->PH->RV aq):List PV->aq->PH->RV aq:=λvs e h=>match vs with
 | []=> .no
 | v::t=>(g v e h).bind λe1 h1=>r t e1 h1
noncomputable def gF(f:PV->PV->PV->PH->RV Unit)(o i a:ME):MS:=λc e h=>(a c e h).bind λv h1=>(o c e h1).bind λx h2=>(i c e h2).bind λy h3=>(f x y v h3).bind λ_ h4=> .ok (.nx e) h4
noncomputable def bN(it:lA)(step:PV->aq->PH->RV Fl):List PV->aq->PH->RV Fl
 | [],e,h=>if it.ko h=true then .ok (.nx e) h else .no
 | x::xs,e,h=>if it.ko h=true then(step x e h).bind (λf h1=>match f with
   | .nx e1=>bN it step xs e1 h1
   | .ct e1=>bN it step xs e1 h1
   | .bk e1=> .ok (.nx e1) h1
   | .rt v=> .ok (.rt v) h1) else .no
noncomputable def j5(i:MI)(g:MG)(b:MS):MS:=λc e h=>(i c e h).bind λit h1=>bN it (λx e h=>(g x e h).bind λe1 h1=>b c e1 h1) it.items e h1
noncomputable def cI(t:aq->PH->RV Bool)(b:aq->PH->RV Fl):Nat->aq->PH->RV Fl
 | 0,_,_=> .no
 | n+1,e,h=>(t e h).bind λx h1=>if x=true then(b e h1).bind (λf h2=>match f with
   | .nx e1=>cI t b n e1 h2
   | .ct e1=>cI t b n e1 h2
   | .bk e1=> .ok (.nx e1) h2
   | .rt v=> .ok (.rt v) h2) else .ok (.nx e) h1
noncomputable def uE(t:MT)(b:MS):MS:=λc e h=>cI (t c) (b c) 100000 e h
noncomputable def iq(it:lA)(step:PV->PH->RV (Option PV)):List PV->List PV->PH->RV (List PV)
 | [],ys,h=>if it.ko h=true then .ok ys h else .no
 | x::xs,ys,h=>if it.ko h=true/\ys.length < sizeLine then(step x h).bind (λo h1=>match o with
   | some y=>iq it step xs (ys++[y]) h1
   | none=>iq it step xs ys h1) else .no
noncomputable def aV(k:Nat)(g:MG)(t:MT)(a:ME)(c:CF)(e:aq)(x:PV)(h:PH):RV (Option PV):=(g x (e++UY k none) h).bind λe2 h2=>(t c e2 h2).bind λb h3=>if b=true then(a c e2 h3).bind (λy h4=> .ok (some y) h4) else .ok none h3
noncomputable def ji(k:Nat)(i:MI)(g:MG)(t:MT)(a:ME):ME:=λc e h=>(i c e h).bind λit h1=>(iq it (aV k g t a c e) it.items [] h1).bind λys h2=> .ok (.ref h2.length) (h2++[.lst ys])
section
variable{X:Cx}{pg:Tb}{k:Nat}{a b c d e o i:Expr}{es:List Expr}{ma mb mc md mo mi:ME}{mr:MA}{mt mt':MT}{ms ms' mu:MS}{pos p pos' apos cpos spos:Pos}{x y:Str}{st:Stmt}{body rest:List Stmt}{g:MG}{mI:MI}{tg iter:Expr}{gs:List PV->aq->PH->RV aq}
theorem Qw{c:CF}{K:UL}:SS c K DQ cD:=fun ρ h H e σ D f h' s r q P=>by cases q;exact P σ ρ H (.refl _ _) s r
theorem Nt{c:CF}{K:UL}{t u:TS}(h1:SS c K t ms)(h2:SS c K u mu):SS c K (NS t u) (ae ms mu):=fun ρ h H e σ D f h' s r q P=>by
 obtain⟨f1,h1',e1,q⟩:=bind_eq.mp q;refine h1 ρ h H e σ _ f1 h1' s r e1 ?_;cases f1 with
 | nx e'=>exact fun σ1 ρ1 H1 g1 s1 r1=>h2 ρ1 h1' H1 e' σ1 D f h' s1 r1 q (P.gr g1)
 | rt v=>cases q;exact P
 | bk e'=>cases q;exact P
 | ct e'=>cases q;exact P
theorem Ic:ym X pg k [] cD:=⟨λA=>⟨_,FT,Qw⟩⟩
theorem IQ(h:JS X pg k st ms):ym X pg k [st] ms:=⟨λA=>let ⟨_,q,s⟩:=h.h A;⟨_,Gd q,s⟩⟩
theorem B6(h1:JS X pg k st ms)(h2:ym X pg k rest mu):ym X pg k (st::rest) (ae ms mu):=⟨λA=>let ⟨_,q1,s1⟩:=h1.h A;let ⟨_,q2,s2⟩:=h2.h A;⟨_,Ew q1 q2,Nt s1 s2⟩⟩
theorem GZ(ha:JE X pg k e ma)(hs:XF e none pos.line X.env=pure false:=by rfl):JS X pg k (.Expr e pos) (cb ma):=⟨λA=>let ⟨_,q1,s1⟩:=ha.h A;⟨_,G8 q1 hs,fun ρ h H e σ D f h' s r q P=>by
 obtain⟨x,h1,e1,q⟩:=bind_eq.mp q;cases q;exact s1 ρ h H e σ _ x _ s r e1 λx' ρ1 H1 g1 z1 r1=>P σ ρ1 H1 g1 z1 (r.gr g1)⟩⟩
theorem KN(ha:JE X pg k e ma):JS X pg k (.Return (some e) pos) (aw ma):=⟨λA=>let ⟨_,q1,s1⟩:=ha.h A;⟨_,Mm q1,fun ρ h H e σ D f h' s r q P=>by
 obtain⟨x,h1,e1,q⟩:=bind_eq.mp q;cases q;exact s1 ρ h H e σ _ x _ s r e1 P⟩⟩
theorem OZ{A B:List Stmt}(hc:JT X pg k c mt)(ha:ym X pg k A ms)(hb:ym X pg k B mu):JS X pg k (.If c A B pos) (bR mt ms mu):=⟨λZ =>
 let ⟨_,q0,s0⟩:=hc.h Z;let ⟨_,q1,s1⟩:=ha.h Z;let ⟨_,q2,s2⟩:=hb.h Z;⟨_,Rj q0 q1 q2,fun ρ h H e σ D f h' s r q P=>by
  obtain⟨x,h1,e1,q⟩:=bind_eq.mp q;refine s0 ρ h H e σ _ _ _ s r e1 fun ρ1 H1 g1 z1=>?_;cases x with
  | true=>exact s1 ρ1 _ H1 e σ _ _ _ z1 (r.gr g1) q (P.gr g1)
  | false=>exact s2 ρ1 _ H1 e σ _ _ _ z1 (r.gr g1) q (P.gr g1)⟩⟩
theorem Cm:JS X pg k st jd:=⟨λA=>⟨_,⟨D7⟩,fun ρ h H e σ D f h' s r q P=>nomatch q⟩⟩
theorem zI{K:UL}{i:Nat}:SG K (fW i) (gN i):=fun ρ h H e σ Q v v' e' h' s r rv q P=>by cases q;exact P _ ρ H (.refl _ _) s (r.set i rv)
theorem Hy{i:Nat}(hN:X.N.Nodup)(hi:X.N[i]?=some x)(hx:Loc X.env.scope x)(hf:X.fn x=true\/X.env.scope.names.lookup x=some .local:=by first | exact .inl rfl | exact .inr rfl | assumption):JG X pg k (.Name x pos) (gN i):=⟨λA=>⟨_,zU hN hi hx hf,zI⟩⟩
structure Rq(X:Cx)(pg:Tb)(k:Nat)(e:List Expr)(m:List PV->aq->PH->RV aq):Prop where
 h:dc X pg k-> ∃ t,N0 X e t/\ ∀ ρ h H e σ Q vs us e' h',dq X.K ρ h H->ee X.K ρ H e σ ->av X.K ρ H vs us->m vs e h= .ok e' h'->gc X.K ρ H e' h' Q->t us σ H Q
theorem Fx:Rq X pg k [] cv:=⟨λA=>⟨_,zG,fun ρ h H e σ Q vs us e' h' s r rv q P=>by
 cases vs with
 | nil=>cases q;rw[aO] at rv;exact⟨rv,P σ ρ H (.refl _ _) s r⟩
 | cons=>exact nomatch q⟩⟩
theorem DN(h1:JG X pg k e g)(h2:Rq X pg k es gs)(hs:(V4 (e::es) X.env).map (·.2)=Yn e X.env::(V4 es X.env).map (·.2):=by rfl):Rq X pg k (e::es) (au g gs):=⟨λA =>
 let ⟨_,q1,s1⟩:=h1.h A;let ⟨_,q2,s2⟩:=h2.h A;⟨_,v8 q1 q2 hs,fun ρ h H e σ Q vs us e' h' s r rv q P=>by
 cases vs with
 | nil=>exact nomatch q
 | cons v t =>
  obtain⟨w,u,rfl,r1,r2⟩:=aE.mp rv
  obtain⟨e1,h1,e2,q⟩:=bind_eq.mp q
  refine⟨w,u,rfl,?_⟩
  exact s1 ρ h H e σ _ v w e1 h1 s r r1 e2 fun σ1 ρ1 H1 g1 z1 y1=>s2 ρ1 h1 H1 e1 σ1 Q t u e' h' z1 y1 (av.gr g1 _ _ r2) q (P.gr g1)⟩⟩
theorem KP{j:Nat}{n:Nat}(h:Rq X pg k es gs)(hn:(V4 es X.env).length=n:=by rfl)(hst:(V4 es X.env).findIdx? (·.1)=none:=by rfl):JG X pg k (.Tuple es j pos) (gT n gs):=⟨λA =>
 let ⟨_,q1,s1⟩:=h.h A;⟨_,Ez A.calm q1 hn hst,fun ρ h H e σ Q v v' e' h' s r rv q P=>by
 unfold gT at q
 split at q
 . rename_i xs ex;obtain⟨a,vs,rfl,z,rr⟩:=rel.seq ex rv;split at q
   . rename_i hl;exact⟨a,vs,rfl,z,by rw[<- rr.len];exact hl,s1 ρ h H e σ Q xs vs e' h' s r rr q P⟩
   . exact nomatch q
 . exact nomatch q⟩⟩
theorem L8{j:Nat}(hN:X.N.Nodup)(hi:X.N[j]?=some x)(hx:Loc X.env.scope x)(he:JE X pg k e ma)(hs:XF e (some (.Name x pos')) pos.line X.env=pure false:=by rfl)(hf:X.fn x=true\/X.env.scope.names.lookup x=some .local:=by first | exact .inl rfl | exact .inr rfl | assumption) :
  JS X pg k (.Assign [.Name x pos'] e pos) (ai ma (gN j)):=⟨λA=>let ⟨_,q1,s1⟩:=he.h A;⟨_,Od hN hi hx q1 hs hf,fun ρ h H e σ D f h' s r q P=>by
 obtain⟨v,h1,e1,q⟩:=bind_eq.mp q;obtain⟨e2,h2,e3,q⟩:=bind_eq.mp q;cases q;cases e3;exact s1 ρ h H e σ _ v _ s r e1 λv' ρ1 H1 g1 z1 r1=>P _ ρ1 H1 g1 z1 ((r.gr g1).set j r1)⟩⟩
theorem KW(he:JE X pg k e ma)(hg:JG X pg k tg g)(hs:ZE [tg] e pos.line X.env=pure false:=by rfl)(hw:ZF [tg] e X.env=pure none:=by rfl)(h1:(V4 [tg] X.env).map (·.2)=[Yn tg X.env]:=by rfl) :
  JS X pg k (.Assign [tg] e pos) (ai ma g):=⟨λA=>let ⟨_,q1,s1⟩:=he.h A;let ⟨_,q2,s2⟩:=hg.h A;⟨_,DY q1 q2 hs hw h1,fun ρ h H e σ D f h' s r q P=>by
 obtain⟨v,h1,e1,q⟩:=bind_eq.mp q;obtain⟨e2,h2,e3,q⟩:=bind_eq.mp q;cases q;exact s1 ρ h H e σ _ v h1 s r e1 λv' ρ1 H1 g1 z1 r1=>s2 ρ1 h1 H1 e σ _ v v' e2 _ z1 (r.gr g1) r1 e3 (gc.gr P g1)⟩⟩
theorem LJ{f:PV->PV->PV->PH->RV Unit}(hp:dc X pg k-> ∃ t,rq X t/\ ∀ ρ h H x y v x' y' v' u h' Q,dq X.K ρ h H->rel X.K ρ H x x'->rel X.K ρ H y y'->rel X.K ρ H v v'->f x y v h= .ok u h'->nT X.K ρ H h' Q->t x' y' v' H Q)
  (ho:JE X pg k o mo) (hi:JE X pg k i mi) (hv:JE X pg k e ma) (hs:ZE [.Subscript o i pos'] e pos.line X.env=pure false:=by rfl) (hw:ZF [.Subscript o i pos'] e X.env=pure none:=by rfl) (h1:(V4 [.Subscript o i pos'] X.env).map (·.2)=[Yn (.Subscript o i pos') X.env]:=by rfl)
  (ha: ∀ v,Yn (.Subscript o i pos') X.env v=(do
   let ov <- Y0 [v] (eval o X.env)
   let iv <- Y0 [v,ov] (eval i X.env)
   acm pos'
   Y0 [v,ov,iv] (setItem ov iv v)
   release [v,ov,iv] []):=by intro _;rfl):JS X pg k (.Assign [.Subscript o i pos'] e pos) (gF f mo mi ma):=⟨λA =>
 let ⟨_,q0,s0⟩:=hv.h A;let ⟨_,q1,s1⟩:=ho.h A;let ⟨_,q2,s2⟩:=hi.h A;let ⟨_,q3,s3⟩:=hp A;⟨_,DY q0 ⟨MV q1.h q2.h q3 ha⟩ hs hw h1,fun ρ h H e σ D f' h' s r q P=>by
 obtain⟨v,h1,e1,q⟩:=bind_eq.mp q
 obtain⟨x,h2,e2,q⟩:=bind_eq.mp q
 obtain⟨y,h3,e3,q⟩:=bind_eq.mp q
 obtain⟨u,h4,e4,q⟩:=bind_eq.mp q
 cases q
 refine s0 ρ h H e σ _ v h1 s r e1 λv' ρ1 H1 g1 z1 r1=>?_
 refine s1 ρ1 h1 H1 e σ _ x h2 z1 (r.gr g1) e2 λx' ρ2 H2 g2 z2 r2=>?_
 refine s2 ρ2 h2 H2 e σ _ y h3 z2 (r.gr (g1.trans g2)) e3 λy' ρ3 H3 g3 z3 r3=>?_
 have g:=(g1.trans g2).trans g3
 exact s3 ρ3 h3 H3 x y v x' y' v' u _ _ z3 (rel.gr g3 _ _ r2) r3 (rel.gr (g2.trans g3) _ _ r1) e4 fun ρ4 H4 g4 z4=>P σ ρ4 H4 (g.trans g4) z4 (r.gr (g.trans g4))⟩⟩
theorem Mj(hi:JI X pg k tg iter mI)(hg:JG X pg k tg g)(hb:ym X pg k body ms)(hp:ZT (model X.prog X.w) X.A X.env X.xe)(hs: ∀ x,VP iter X.env x=pure x:=by intro _;rfl):JS X pg k (.For tg iter body [] pos) (j5 mI g ms):=⟨λA =>
 let ⟨_,q1,s1⟩:=hi.h A;let ⟨_,q2,s2⟩:=hg.h A;let ⟨_,q3,s3⟩:=hb.h A;⟨_,L3 hp A.calm q1 q2 q3 hs,fun ρ h H e σ D f h' s r q P=>by
 obtain ⟨it,h1,e1,q⟩:=bind_eq.mp q
 refine s1 ρ h H e σ _ it h1 s r e1 fun ρ1 H1 J g1 z1 w1=>?_
 let step:PV->aq->PH->RV Fl:=λx e h=>(g x e h).bind λe1 h1=>ms (run pg k) e1 h1
 refine ⟨λi m σ' H'=> ∃ ρ' h2 e',Gr ρ1 H1 ρ' H'∧dq X.K ρ' h2 H'∧ee X.K ρ' H' e' σ'∧i<=it.items.length∧m=it.items.length - i∧bN it step (it.items.drop i) e' h2= .ok f h',⟨_, ρ1,h1,e,.refl _ _,z1,r.gr g1,VM _,rfl,q⟩,?_⟩
 rintro i m σ2 H2 ⟨ρ2,h2,e2,g2,z2,r2,hi,rfl,q2⟩
 cases hx:it.items[i]? with
 | none =>
  have hl:it.items.length<=i:=Wb.mp hx
  rw[V9 hl,bN] at q2
  split at q2
  . rename_i hf;cases q2;exact .inl ⟨(w1 i ρ2 _ H2 g2 z2 hf).2 (by omega),P σ2 ρ2 H2 (g1.trans g2) z2 r2⟩
  . exact nomatch q2
 | some x =>
  have hlt:i < it.items.length:=(UP.mp hx).1
  have hd:it.items.drop i=x::it.items.drop (i+1):=by
   rw[XZ hlt,(UP.mp hx).2]
  rw[hd,bN] at q2
  split at q2
  . rename_i hf;obtain⟨go,yl⟩:=(w1 i ρ2 _ H2 g2 z2 hf).1 x hx;obtain⟨f3,h3,e3,q3⟩:=bind_eq.mp q2;obtain ⟨e4,h4,e5,q4⟩:=bind_eq.mp e3;refine .inr ⟨go,fun σ' H'=> ∃ ρ' h2 e',Gr ρ1 H1 ρ' H'∧dq X.K ρ' h2 H'∧ee X.K ρ' H' e' σ'∧bN it step (it.items.drop (i+1)) e' h2= .ok f h',?_,?_⟩
    . rintro σ' H' ⟨ρ',h2,e',a1,a2,a3,a4⟩;exact ⟨it.items.length - (i+1),by omega, ρ',h2,e',a1,a2,a3,hlt,rfl,a4⟩
    . intro v H3 hy;obtain ⟨ρ3,g3,z3,r3⟩:=yl v H3 hy;refine s2 ρ3 h2 H3 e2 σ2 _ x v e4 h4 z3 (r2.gr g3) r3 e5 fun σ4 ρ4 H4 g4 z4 r4=>?_;have gg:=(g2.trans g3).trans g4;refine s3 ρ4 h4 H4 e4 σ4 _ f3 h3 z4 r4 q4 ?_;cases f3 with
      | nx e6=>exact fun σ5 ρ5 H5 g5 z5 r5=>⟨ρ5,h3,e6,gg.trans g5,z5,r5,q3⟩
      | ct e6=>exact fun σ5 ρ5 H5 g5 z5 r5=>⟨ρ5,h3,e6,gg.trans g5,z5,r5,q3⟩
      | bk e6=>cases q3;exact gc.gr P (g1.trans gg)
      | rt v=>cases q3;exact eE.gr P (g1.trans gg)
  . exact nomatch q2⟩⟩
theorem DU (hc:JT X pg k c mt) (hb:ym X pg k body ms) (hp:ZT (model X.prog X.w) X.A X.env X.xe):JS X pg k (.While c body [] pos) (uE mt ms):=⟨λA =>
 let ⟨_,q1,s1⟩:=hc.h A;let ⟨_,q2,s2⟩:=hb.h A;⟨_,B0 hp q1 q2,fun ρ h H e σ D f h' s r q P=>by
 refine ⟨λm σ' H'=> ∃ ρ' h2 e',Gr ρ H ρ' H'∧dq X.K ρ' h2 H'∧ee X.K ρ' H' e' σ'∧cI (mt (run pg k)) (ms (run pg k)) m e' h2= .ok f h',⟨100000, ρ,h,e,.refl _ _,s,r,q⟩,?_⟩
 rintro m σ1 H1 ⟨ρ1,h1,e1,g1,z1,r1,q1⟩
 cases m with
 | zero=>exact nomatch q1
 | succ m =>
  obtain⟨x,h2,e2,q1⟩:=bind_eq.mp q1
  refine s1 ρ1 h1 H1 e1 σ1 _ x h2 z1 r1 e2 fun ρ2 H2 g2 z2=>?_
  cases x with
  | false=>cases q1;exact P σ1 ρ2 H2 (g1.trans g2) z2 (r1.gr g2)
  | true =>
   obtain⟨f3,h3,e3,q3⟩:=bind_eq.mp q1
   refine⟨fun σ' H'=> ∃ ρ' h2 e',Gr ρ H ρ' H'/\dq X.K ρ' h2 H'/\ee X.K ρ' H' e' σ'/\cI (mt (run pg k)) (ms (run pg k)) m e' h2= .ok f h',fun σ' H' w=>⟨m,XU _,w⟩,?_⟩
   refine s2 ρ2 h2 H2 e1 σ1 _ f3 h3 z2 (r1.gr g2) e3 ?_
   have gg:=g1.trans g2
   cases f3 with
   | nx e6=>exact fun σ5 ρ5 H5 g5 z5 r5=>⟨ρ5,h3,e6,gg.trans g5,z5,r5,q3⟩
   | ct e6=>exact fun σ5 ρ5 H5 g5 z5 r5=>⟨ρ5,h3,e6,gg.trans g5,z5,r5,q3⟩
   | bk e6=>cases q3;exact gc.gr P gg
   | rt v=>cases q3;exact eE.gr P gg⟩⟩
theorem JU{cf:CF}{K:UL}{wi:TI}{tg:TG}{tt:TT}{te:TE}{n:Nat}(s1:SI cf K wi mI)(s2:SG K tg g)(s3:ST cf K tt mt)(s4:SE cf K te ma):SE cf K (R6 n wi tg tt te) (ji n mI g mt ma):=fun ρ h H e σ Q v h' s r q P=>by
 obtain⟨it,h1,e1,q⟩:=bind_eq.mp q;obtain ⟨ys,h2,e2,q⟩:=bind_eq.mp q;cases q;refine s1 ρ h H e σ _ it h1 s r e1 fun ρ1 H1 J g1 z1 w1=>?_;refine ⟨λi m us H'=> ∃ ρ' h3 zs,Gr ρ1 H1 ρ' H'∧dq K ρ' h3 H'∧av K ρ' H' zs us∧i<=it.items.length∧m=it.items.length - i∧iq it (aV n g mt ma cf e) (it.items.drop i) zs h3= .ok ys h2,⟨_, ρ1,h1,[],.refl _ _,z1,aO.mpr rfl,VM _,rfl,e2⟩,?_⟩;rintro i m us H2 ⟨ρ2,h3,zs,g2,z2,r2,hi,rfl,q2⟩;cases hx:it.items[i]? with
 | none =>
  have hl:it.items.length<=i:=Wb.mp hx
  rw[V9 hl,iq] at q2
  split at q2
  . rename_i hf;cases q2;exact .inl ⟨(w1 i ρ2 _ H2 g2 z2 hf).2 (by omega),λp hp=>dY z2 r2 (P.gr (g1.trans g2)) p hp⟩
  . exact nomatch q2
 | some x =>
  have hlt:i < it.items.length:=(UP.mp hx).1
  have hd:it.items.drop i=x::it.items.drop (i+1):=by
   rw[XZ hlt,(UP.mp hx).2]
  rw[hd,iq] at q2
  split at q2
  . rename_i hf;obtain⟨go,yl⟩:=(w1 i ρ2 _ H2 g2 z2 hf.1).1 x hx;obtain⟨o,h4,e3,q3⟩:=bind_eq.mp q2;obtain⟨e4,h5,e5,q4⟩:=bind_eq.mp e3;obtain⟨b,h6,e6,q5⟩:=bind_eq.mp q4;refine .inr ⟨go,by rw[<- r2.len];exact hf.2,λv H3 hy=>?_⟩;obtain⟨ρ3,g3,z3,r3⟩:=yl v H3 hy;refine s2 ρ3 h3 H3 _ _ _ x v e4 h5 z3 (((r.gr (g1.trans (g2.trans g3)))).more n) r3 e5 fun σ4 ρ4 H4 g4 z4 r4=>?_;refine s3 ρ4 h5 H4 e4 σ4 _ b h6 z4 r4 e6 fun ρ5 H5 g5 z5=>?_;have gg:=((g2.trans g3).trans g4).trans g5;cases b with
    | false=>cases q5;exact ⟨it.items.length - (i+1),by omega, ρ5,_,zs,gg,z5,av.gr ((g3.trans g4).trans g5) _ _ r2,hlt,rfl,q3⟩
    | true =>
     obtain ⟨y,h7,e7,q6⟩:=bind_eq.mp q5
     cases q6
     refine s4 ρ5 h6 H5 e4 σ4 _ y _ z5 (r4.gr g5) e7 λy' ρ6 H6 g6 z6 r6=>?_
     exact ⟨it.items.length - (i+1),by omega, ρ6,_,zs++[y],gg.trans g6,z6,(av.gr (((g3.trans g4).trans g5).trans g6) _ _ r2).app (av.one r6),hlt,rfl,q3⟩
  . exact nomatch q2
end
noncomputable def Ul (c:CF) (K:UL) (m:ME):TE:=fun σ H Q=> ∃ ρ h e v h',dq K ρ h H∧ee K ρ H e σ ∧m c e h= .ok v h'∧eE K ρ H v h' Q
noncomputable def TK(c:CF)(K:UL)(m:MT):TT:=fun σ H Q=> ∃ ρ h e b h',dq K ρ h H/\ee K ρ H e σ /\m c e h= .ok b h'/\nT K ρ H h' (Q b)
theorem Jx{c:CF}{K:UL}{m:ME}:SE c K (Ul c K m) m:=fun ρ h H e σ Q v h' s r q P=>⟨ρ,h,e,v,h',s,r,q,P⟩
theorem Jl{c:CF}{K:UL}{m:MT}:ST c K (TK c K m) m:=fun ρ h H e σ Q v h' s r q P=>⟨ρ,h,e,v,h',s,r,q,P⟩
theorem JE.HC{X:Cx}{pg:Tb}{k:Nat}{e:Expr}{m:ME}(j:JE X pg k e m)(A:dc X pg k):QE X e (Ul (run pg k) X.K m) :=
 let ⟨_,q,s⟩:=j.h A;⟨λpins st σ H Q I ⟨ρ,h,e,v,h',a,b,c,d⟩=>q.h pins st σ H Q I (s ρ h H e σ Q v h' a b c d)⟩
theorem JF.HC{X:Cx}{pg:Tb}{k:Nat}{e:List Expr}{m:MT}(j:JF X pg k e m)(A:dc X pg k):QF X e (TK (run pg k) X.K m) :=
 let ⟨_,q,s⟩:=j.h A;⟨λpins st σ H Q I ⟨ρ,h,e,v,h',a,b,c,d⟩=>q.h pins st σ H Q I (s ρ h H e σ Q v h' a b c d)⟩
structure GC(K:UL)(n:Nat)(t:TG)(m:MG):Prop where
 sg:SG K t m
 gk:GK n t
 mono:tQ t
structure RO(K:UL)(n:Nat)(t:uP)(m:List PV->aq->PH->RV aq):Prop where
 sg: ∀ ρ h H e σ Q vs us e' h',dq K ρ h H->ee K ρ H e σ ->av K ρ H vs us->m vs e h= .ok e' h'->gc K ρ H e' h' Q->t us σ H Q
 gk:OL n t
 mono: ∀ xs σ H Q Q',(∀ σ2 H2,Q σ2 H2->Q' σ2 H2)->t xs σ H Q->t xs σ H Q'
theorem Il{K:UL}{n i:Nat}(h:n<=i):GC K n (fW i) (gN i):=⟨zI,GO h,yD⟩
theorem zq{K:UL}{n:Nat}:RO K n BO cv:=⟨fun ρ h H e σ Q vs us e' h' s r rv q P=>by
 cases vs with
 | nil=>cases q;rw[aO] at rv;exact⟨rv,P σ ρ H (.refl _ _) s r⟩
 | cons=>exact(nomatch q),MX,λxs σ H Q Q' f q=>⟨q.1,f _ _ q.2⟩⟩
theorem kZ{K:UL}{n:Nat}{t:TG}{m:MG}{ts:uP}{ms:List PV->aq->PH->RV aq}(a:GC K n t m)(b:RO K n ts ms):RO K n (nM t ts) (au m ms):=⟨fun ρ h H e σ Q vs us e' h' s r rv q P=>by
 cases vs with
 | nil=>exact nomatch q
 | cons v t =>
  obtain⟨w,u,rfl,r1,r2⟩:=aE.mp rv
  obtain⟨e1,h1,e2,q⟩:=bind_eq.mp q
  refine⟨w,u,rfl,?_⟩
  exact a.sg ρ h H e σ _ v w e1 h1 s r r1 e2 fun σ1 ρ1 H1 g1 z1 y1=>b.sg ρ1 h1 H1 e1 σ1 Q t u e' h' z1 y1 (av.gr g1 _ _ r2) q (P.gr g1),Hk a.gk a.mono b.gk,
 λxs σ H Q Q' f ⟨v,r,e,q⟩=>⟨v,r,e,a.mono _ _ _ _ _ (fun σ2 H2 z=>b.mono _ _ _ _ _ f z) q⟩⟩
theorem EM{K:UL}{n j:Nat}{ts:uP}{ms:List PV->aq->PH->RV aq}(b:RO K n ts ms):GC K n (xF K j ts) (gT j ms):=⟨fun ρ h H e σ Q v v' e' h' s r rv q P=>by
 unfold gT at q;split at q
 . rename_i xs ex;obtain⟨a,vs,rfl,z,rr⟩:=rel.seq ex rv;split at q
   . rename_i hl;exact⟨a,vs,rfl,z,by rw[<- rr.len];exact hl,b.sg ρ h H e σ Q xs vs e' h' s r rr q P⟩
   . exact nomatch q
 . exact(nomatch q),MC b.gk,λx σ H Q Q' f ⟨a,xs,e1,e2,e3,q⟩=>⟨a,xs,e1,e2,e3,b.mono _ _ _ _ _ f q⟩⟩
section
variable{X:Cx}{pg:Tb}{k:Nat}{e tg iter:Expr}{ma:ME}{mt:MT}{g:MG}{tG:TG}{mI:MI}{scope:Scope}{ifs:List Expr}{pos spos py:Pos}{y:Str}
theorem vt(vars:List Str)(hkind:scope.kind= .function)(hlc:i6 scope.names X.env.scope.names X.N vars=true)(hi:JI X pg k tg iter mI)
  (hb: ∀ cl C s₀ H₀ ex pn,(dc X pg k->QG (fJ X vars scope cl C s₀ H₀ ex pn) tg tG)/\JF (fJ X vars scope cl C s₀ H₀ ex pn) pg k ifs mt/\JE (fJ X vars scope cl C s₀ H₀ ex pn) pg k e ma) (hG:GC X.K X.N.length tG g)
  (hs: ∀ x,VP iter X.env x=pure x:=by intro _;rfl):JE X pg k (.ListComp e [⟨tg,iter,ifs,0⟩] scope pos) (ji vars.length mI g mt ma):=⟨λA =>
 let ⟨_,q1,s1⟩:=hi.h A
 ⟨_,Eg vars A.calm A.pW hkind hlc q1 (λcl C s₀ H₀ ex pn=>let ⟨h1,h2,h3⟩:=hb cl C s₀ H₀ ex pn;⟨h1 A,h2.HC (A.fJ ..),h3.HC (A.fJ ..)⟩) hG.gk hs,JU s1 hG.sg Jl Jx⟩⟩
theorem vh(vars:List Str)(i:Nat)(hkind:scope.kind= .function)(hlc:i6 scope.names X.env.scope.names X.N vars=true)(hN:X.N.Nodup)(hiy:X.N[i]?=some y)(hy:Loc X.env.scope y)(hi:JI X pg k tg iter mI)
  (hb: ∀ cl C s₀ H₀ ex pn,(dc X pg k->QG (fJ X vars scope cl C s₀ H₀ ex pn) tg tG)/\JF (fJ X vars scope cl C s₀ H₀ ex pn) pg k ifs mt/\JE (fJ X vars scope cl C s₀ H₀ ex pn) pg k e ma) (hG:GC X.K X.N.length tG g)
  (hsw:XF (.ListComp e [⟨tg,iter,ifs,0⟩] scope pos) (some (.Name y py)) spos.line X.env=pure true:=by rfl) (hs: ∀ x,VP iter X.env x=pure x:=by intro _;rfl)
  (hf:X.fn y=true\/X.env.scope.names.lookup y=some .local:=by first | exact .inl rfl | exact .inr rfl | assumption) :
  JS X pg k (.Assign [.Name y py] (.ListComp e [⟨tg,iter,ifs,0⟩] scope pos) spos) (ai (ji vars.length mI g mt ma) (gN i)):=⟨λA =>
 let ⟨_,q1,s1⟩:=hi.h A
 ⟨_,EH vars i A.calm A.pW hkind hlc hN hiy hy q1 (λcl C s₀ H₀ ex pn=>let ⟨h1,h2,h3⟩:=hb cl C s₀ H₀ ex pn;⟨h1 A,h2.HC (A.fJ ..),h3.HC (A.fJ ..)⟩) hG.gk hsw hs hf,fun ρ h H e σ D f h' s r q P=>by
  obtain⟨v,h1,e1,q⟩:=bind_eq.mp q;obtain⟨e2,h2,e3,q⟩:=bind_eq.mp q;cases q;cases e3;exact JU s1 hG.sg Jl Jx ρ h H e σ _ v _ s r e1 λv' ρ1 H1 g1 z1 r1=>P _ ρ1 H1 g1 z1 ((r.gr g1).set i r1)⟩⟩
end
section
variable{K:UL}{ρ ρ':List Addr}{H H':Hp}{h h':PH}
mutual
theorem rel.flat: ∀(x:PV)(v:V),x.flat=true->rel K ρ' H' x v->rel K ρ H' x v
 | .non,v,_,h=>by simpa only[rel] using h
 | .bl _,v,_,h=>by simpa only[rel] using h
 | .int _,v,_,h=>by simpa only[rel] using h
 | .str _,v,_,h=>by simpa only[rel] using h
 | .ty _,v,_,h=>by simpa only[rel] using h
 | .ref n,v,f,h=>by simp[PV.flat] at f
 | .tup xs,v,f,h=>by
  rw[rel] at h ⊢;rw[PV.flat] at f;obtain⟨a,vs,e,s,r⟩:=h;exact⟨a,vs,e,s,av.flat xs vs f r⟩
 | .ktup xs,v,f,h=>by
  rw[rel] at h ⊢;rw[PV.flat] at f;obtain⟨a,vs,e,s,r⟩:=h;exact⟨a,vs,e,s,av.flat xs vs f r⟩
theorem av.flat: ∀(xs:List PV)(vs:List V),PV.aQ xs=true->av K ρ' H' xs vs->av K ρ H' xs vs
 | [],vs,_,h=>by simpa only[av] using h
 | x::r,vs,f,h=>by
  rw[av] at h ⊢;rw[PV.aQ,U9] at f;obtain⟨v,t,e,h1,h2⟩:=h;exact ⟨v,t,e,rel.flat x v f.1 h1,av.flat r t f.2 h2⟩
end
mutual
theorem rel.gW (g: ∀ (n:Nat) (a:Addr), ρ[n]?=some a-> ρ'[n]?=some a): ∀ (x:PV) (v:V),x.gW ρ.length=true->rel K ρ' H' x v->rel K ρ H' x v
 | .non,v,_,h=>by simpa only [rel] using h
 | .bl _,v,_,h=>by simpa only [rel] using h
 | .int _,v,_,h=>by simpa only [rel] using h
 | .str _,v,_,h=>by simpa only[rel] using h
 | .ty _,v,_,h=>by simpa only[rel] using h
 | .ref n,v,f,h=>by
  rw[rel] at h ⊢;rw[PV.gW,decide_eq_true_eq] at f;obtain⟨a,e,h⟩:=h;have:=g n _ (UW f);rw[e] at this;exact⟨a,by rw[UW f,<- VE this],h⟩
 | .tup xs,v,f,h=>by
  rw[rel] at h ⊢;rw[PV.gW] at f;obtain⟨a,vs,e,s,r⟩:=h;exact⟨a,vs,e,s,av.gW g xs vs f r⟩
 | .ktup xs,v,f,h=>by
  rw[rel] at h ⊢;rw [PV.gW] at f;obtain ⟨a,vs,e,s,r⟩:=h;exact ⟨a,vs,e,s,av.gW g xs vs f r⟩
theorem av.gW (g: ∀ (n:Nat) (a:Addr), ρ[n]?=some a-> ρ'[n]?=some a): ∀ (xs:List PV) (vs:List V),PV.ib ρ.length xs=true->av K ρ' H' xs vs->av K ρ H' xs vs
 | [],vs,_,h=>by simpa only [av] using h
 | x::r,vs,f,h=>by
  rw [av] at h ⊢;rw[PV.ib,U9] at f;obtain⟨v,t,e,h1,h2⟩:=h;exact⟨v,t,e,rel.gW g x v f.1 h1,av.gW g r t f.2 h2⟩
end
mutual
theorem rel.low: ∀(x:PV)(v:V),rel K ρ H x v->x.gW ρ.length=true
 | .non,v,_=>rfl
 | .bl _,v,_=>rfl
 | .int _,v,_=>rfl
 | .str _,v,_=>rfl
 | .ty _,v,_=>rfl
 | .ref n,v,h=>by
  rw[rel] at h;obtain⟨a,e,h⟩:=h;rw[PV.gW,decide_eq_true_eq];exact(UP.mp e).1
 | .tup xs,v,h=>by
  rw[rel] at h;obtain⟨a,vs,e,s,r⟩:=h;rw[PV.gW];exact av.low xs vs r
 | .ktup xs,v,h=>by
  rw[rel] at h;obtain⟨a,vs,e,s,r⟩:=h;rw[PV.gW];exact av.low xs vs r
theorem av.low: ∀(xs:List PV)(vs:List V),av K ρ H xs vs->PV.ib ρ.length xs=true
 | [],vs,_=>rfl
 | x::r,vs,h=>by
  rw[av] at h;obtain⟨v,t,e,h1,h2⟩:=h;rw[PV.ib,rel.low x v h1,av.low r t h2];rfl
end
theorem Paired.low: ∀{kvs:List (Key × PV)}{kws:List (Key × V)},V2 (λ(p:Key × PV) (q:Key × V)=>p.1=q.1/\rel K ρ H p.2 q.2) kvs kws->PV.ib ρ.length (kvs.map (·.2))=true
 | _,_,.nil=>rfl
 | _,_,.cons r t=>by rw[US,PV.ib,rel.low _ _ r.2,Paired.low t];rfl
theorem nv.low{a:Addr}: ∀{o:PO},nv K ρ H a o->o.gW ρ.length=true
 | .lst xs,⟨vs,_,r⟩=>av.low _ _ r
 | .lB xs,⟨vs,_,r⟩=>av.low _ _ r
 | .dct kvs,⟨kws,_,r⟩=>Paired.low r
theorem Paired.gW (g: ∀ (n:Nat) (a:Addr), ρ[n]?=some a-> ρ'[n]?=some a): ∀ {kvs:List (Key × PV)} {kws:List (Key × V)},PV.ib ρ.length (kvs.map (·.2))=true ->
  V2 (λ(p:Key × PV) (q:Key × V)=>p.1=q.1∧rel K ρ' H' p.2 q.2) kvs kws->V2 (λ(p:Key × PV) (q:Key × V)=>p.1=q.1∧rel K ρ H' p.2 q.2) kvs kws
 | _,_,_,.nil=> .nil
 | _,_,f,.cons r t=>by
  rw [US,PV.ib,U9] at f;exact .cons ⟨r.1,rel.gW g _ _ f.1 r.2⟩ (Paired.gW g f.2 t)
theorem nv.gW (g: ∀ (n:Nat) (a:Addr), ρ[n]?=some a-> ρ'[n]?=some a) {a:Addr}: ∀ {o:PO},o.gW ρ.length=true->nv K ρ' H' a o->nv K ρ H' a o
 | .lst xs,f,⟨vs,e,r⟩=>⟨vs,e,av.gW g _ _ f r⟩
 | .lB xs,f,⟨vs,e,r⟩=>⟨vs,e,av.gW g _ _ f r⟩
 | .dct kvs,f,⟨kws,e,r⟩=>⟨kws,e,Paired.gW g f r⟩
theorem dq.drop(s:dq K ρ h H)(g:Gr ρ H ρ' H')(s':dq K ρ' h' H')(ok:bW h.length h h'=true):dq K ρ (h'.take h.length) H':=by
 have old: ∀{i:Nat}{o:PO},(h'.take h.length)[i]?=some o->i < h.length/\h'[i]?=some o:=λ{i o} e=>by
  have hi:i < h.length:=by
   have:=(UP.mp e).1;rw[VC] at this;omega
  rw[abz,if_pos hi] at e;exact⟨hi,e⟩
 refine⟨by rw[VC,s.len,Yf (o8 ok)],λi j a oi oj ei ej mi mj ri rj=>?_,λi o a e ea=>?_⟩
 . exact s'.nd i j a oi oj (old ei).2 (old ej).2 mi mj (g.pre _ _ ri) (g.pre _ _ rj)
 . have r:=s'.ob i o a (old e).2 (g.pre _ _ ea);obtain⟨o0,e0,_,z⟩:=sI ok e;refine nv.gW g.pre ?_ r;rcases z with z | z
   . subst z;exact(s.ob i o0 a e0 ea).low
   . rw[s.len];exact z
theorem gL{v w:PV}{h2:PH}{Q:VK}(s:dq K ρ h H)(e:settle h v h'= .ok w h2)(P:eE K ρ H w h2 Q):eE K ρ H v h' Q:=by
 unfold settle at e;split at e
 . rename_i ok;rw[U9] at ok;cases e;exact λv' ρ' H' g s' r=>P v' ρ H' ⟨λ_ _ z=>z,g.tup,g.kK⟩ (s.drop g s' ok.2) (rel.flat _ _ ok.1 r)
 . cases e;exact P
end
theorem iP{K:UL}{ρ :List Addr}{H:Hp}: ∀{args:List PV}{vs:List V},av K ρ H args vs-> ∀(n:Nat),ee K ρ H (args.map some++UY n none) (vs.map some++UY n none)
 | args,vs,r,n=>by
  have:ee K ρ H (args.map some) (vs.map some):=⟨by simp[r.len],λi v e=>by
   rw[U8] at e;cases q:args[i]? with
   | none=>rw[q] at e;exact nomatch e
   | some w =>
    rw[q] at e
    cases e
    obtain⟨v',e1,e2⟩:=r.get q
    exact⟨v',by rw[U8,e1];rfl,e2⟩⟩
  exact this.more n
structure jO(P:Vg)(w:World)(K:UL)(mg:Str->Option Value)(base:Heap)(pg:Tb)(f:String)(d:Df):Prop where
 ex: ∃(st:Stmt)(N:List Str),At K mg (Va f) st/\d6 N d.ps (ax st)/\N.length=d.ps.length+d.nl /\
  (∀(kV doc pm:Value)(an:Option Addr)(cdv ct:Value)(us:List Value),us.length=d.ps.length->Xx (V3 (Va f) (Va f) (cL st) (bj st) (ax st) .none kV doc pm an cdv ct) ⟨us,[]⟩=pure (d.ps.zip us)) /\
  ∀(fa:Addr)(cdv:Value)(A:Vz)(outer:List Env)(s:UR)(H:Hp)(E:XK)(k:Nat),ym (j7 um P w K mg base N (Va f) (ax st) fa cdv A outer s H E).pW pg k (bj st) d.body
structure Top(P:Vg)(w:World)(K:UL)(mg:Str->Option Value)(pg:Tb):Prop where
 blt: ∀ x∈jx,mg x=none
 con: ∀ x v,pg.con x=some v-> ∃ u v',mg x=some u/\RelV v' u/\Bv K v'/\ ∀ ρ H,rel K ρ H v v'
 zK: ∀ x kvs,pg.zK x=some kvs-> ∃ a kws,mg x=some (.ref a)∧KD P w K a kws∧ ∀ ρ H,V2 (λ(p:Key × PV) (q:Key × V)=>p.1=q.1∧rel K ρ H p.2 q.2) kvs kws
section
variable {P:Vg} {w:World} {K:UL} {mg:Str->Option Value} {base:Heap} {pg:Tb}
theorem CA (T : Top P w K mg pg) (G : ∀ f d, pg.fns f = some d -> jO P w K mg base pg f d) : ∀ k f d, pg.fns f = some d -> nV P w K mg base (Va f) k d.ps (xC K pg k f) := by
  intro k
  induction k with
  | zero =>
    intro f d hf
    obtain ⟨st, N, a, S, hl, hb, body⟩ := (G f d hf).ex
    exact At.Aa a hb λvs H Q E ⟨ρ, h, args, v, h', _, _, q, _⟩ => nomatch q
  | succ k ih =>
    intro f d hf
    obtain ⟨st, N, a, S, hl, hb, body⟩ := (G f d hf).ex
    have run_eq : ∀ {args : List PV} {h h' : PH} {v : PV}, run pg (k + 1) f args h = .ok v h' -> args.length = d.ps.length ∧
        ((∃ w h2, d.body (run pg k) (args.map some ++ UY d.nl none) h = .ok (.rt w) h2 /\ settle h w h2 = .ok v h') ∨
         (∃ e h2, d.body (run pg k) (args.map some ++ UY d.nl none) h = .ok (.nx e) h2 /\ settle h .non h2 = .ok v h')) := λ{args h h' v} q => by
      rw [run, hf] at q;simp only at q;split at q
      . rename_i hn;refine ⟨hn, ?_⟩;split at q
        . rename_i w h2 e; exact .inl ⟨w, h2, e, q⟩
        . rename_i e' h2 e; exact .inr ⟨e', h2, e, q⟩
        . exact nomatch q
        . exact nomatch q
        . exact nomatch q
      . exact nomatch q
    refine At.Th a S hb (λvs H Q E ⟨ρ, h, args, v, h', _, r, q, _⟩ => by rw [<- r.len]; exact (run_eq q).1) ?_
    rintro fa cdv A outer s H vs Q E hr ⟨ρ, h, args, v, h', sm, r, q, post⟩
    have amb : dc (j7 um P w K mg base N (Va f) (ax st) fa cdv A outer s H E).pW pg k := ⟨hr, rfl, λ_ _ z => z, ih, T.blt, T.con, T.zK⟩
    obtain ⟨t, qt, st'⟩ := (body fa cdv A outer s H E k).h amb
    refine ⟨t, qt, ?_⟩
    obtain ⟨hn, q⟩ := run_eq q
    have he : L2.start N vs = vs.map some ++ UY d.nl none := by
      unfold L2.start;rw [hl, <- r.len, hn, Z6]
    rw [he]
    rcases q with ⟨w, h2, e, q⟩ | ⟨e', h2, e, q⟩
    . exact st' ρ h H _ _ _ _ h2 sm (iP r _) e (gL sm q post)
    . exact st' ρ h H _ _ _ _ h2 sm (iP r _) e fun σ' ρ' H' g s' _ => gL sm q post .non ρ' H' g s' (by rw [rel])
end
noncomputable def p2(f:Int->Int->RV PV):PV->PV->PH->RV PV:=λx y h=>match x,y with
 | .int i,.int j=>(f i j).bind λv _=> .ok v h
 | _,_=> .no
noncomputable def E1(v:PV):RV PV:= .ok v []
section
variable{K:UL}{X:Cx}{pg:Tb}{k:Nat}
theorem Le{C:Int->Int->Prop}{g:Int->Int->V}{f:Int->Int->RV PV}(hf: ∀ i j v h,f i j= .ok v h->C i j/\ ∀ ρ H,rel K ρ H v (g i j)):nQ K (rI C g) (p2 f):=fun ρ h H x y x' y' Q v h' s rx ry q P=>by
 unfold p2 at q;split at q
 . rename_i i j;rw[rel] at rx ry;obtain⟨w,h0,e,q⟩:=bind_eq.mp q;cases q;obtain⟨hc,hr⟩:=hf i j v h0 e;exact⟨i,j,rx,ry,hc,P _ ρ H (.refl _ _) s (hr ρ H)⟩
 . exact nomatch q
theorem vV{g:Int->Int->V}{f:Int->Int->RV PV}(hf: ∀ i j v h,f i j= .ok v h-> ∀ ρ H,rel K ρ H v (g i j)):nQ K (E5 g) (p2 f):=fun ρ h H x y x' y' Q v h' s rx ry q P=>by
 unfold p2 at q;split at q
 . rename_i i j;rw[rel] at rx ry;obtain⟨w,h0,e,q⟩:=bind_eq.mp q;cases q;exact⟨i,j,rx,ry,P _ ρ H (.refl _ _) s (hf i j v h0 e ρ H)⟩
 . exact nomatch q
noncomputable def rH:PV->PV->PH->RV PV:=p2 λi j=>E1 (.int (i - j))
noncomputable def mY:PV->PV->PH->RV PV:=p2 λi j=>if 0 < j then E1 (.int (i % j)) else .no
noncomputable def pR:PV->PV->PH->RV PV:=p2 λi j=>if 0 < j/\j < 1073741824 then E1 (.int (i / j)) else .no
noncomputable def IM:PV->PV->PH->RV PV:=p2 λi j=>if 0<=j/\j<=1000000/\i.natAbs < 2 ^ 64 then E1 (.int (i ^ j.toNat)) else .no
noncomputable def Bd:PV->PV->PH->RV PV:=p2 λi j=>E1 (.bl (decide (i < j)))
noncomputable def Si:PV->PV->PH->RV PV:=p2 λi j=>E1 (.bl (decide (i<=j)))
noncomputable def OC:PV->PV->PH->RV PV:=p2 λi j=>E1 (.bl (decide (j < i)))
noncomputable def Tu:PV->PV->PH->RV PV:=p2 λi j=>E1 (.bl (decide (j<=i)))
theorem Pn:dc X pg k-> ∃ r,c9 X (Wa .Sub) r/\nQ X.K r rH:=λ_=>⟨_,NG,vV λi j v h e ρ H=>by cases e;rw[rel]⟩
theorem Pu:dc X pg k-> ∃ r,c9 X (Wa .Mod) r/\nQ X.K r mY:=λ_=>⟨_,Nq,Le λi j v h e=>by
 split at e
 . cases e;exact⟨by assumption,fun ρ H=>by rw[rel]⟩
 . exact nomatch e⟩
theorem Ld:dc X pg k-> ∃ r,c9 X (Wa .FloorDiv) r/\nQ X.K r pR:=λ_=>⟨_,GY,Le λi j v h e=>by
 split at e
 . cases e;exact⟨by assumption,fun ρ H=>by rw[rel]⟩
 . exact nomatch e⟩
theorem Qe:dc X pg k-> ∃ r,c9 X (Wa .Pow) r/\nQ X.K r IM:=λ_=>⟨_,KA,Le λi j v h e=>by
 split at e
 . cases e;exact⟨by assumption,fun ρ H=>by rw[rel]⟩
 . exact nomatch e⟩
theorem Tv:dc X pg k-> ∃ r,c9 X (Vu .Lt) r/\nQ X.K r Bd:=λ_=>⟨_,Q7,vV λi j v h e ρ H=>by cases e;rw[rel]⟩
theorem Ti:dc X pg k-> ∃ r,c9 X (Vu .LtE) r/\nQ X.K r Si:=λ_=>⟨_,OG,vV λi j v h e ρ H=>by cases e;rw[rel]⟩
theorem SK:dc X pg k-> ∃ r,c9 X (Vu .Gt) r/\nQ X.K r OC:=λ_=>⟨_,Q3,vV λi j v h e ρ H=>by cases e;rw[rel]⟩
theorem Td:dc X pg k-> ∃ r,c9 X (Vu .GtE) r/\nQ X.K r Tu:=λ_=>⟨_,Pt,vV λi j v h e ρ H=>by cases e;rw[rel]⟩
noncomputable def Rr(xs:List PV)(h:PH):RV PV:=mh xs.length (.ok (.ref h.length) (h++[.lst xs]))
noncomputable def aX:PV->PV->PH->RV PV:=λx y h=>match x,y with
 | .int i,.int j=> .ok (.int (i+j)) h
 | .str a,.str b=>mh (a.length+b.length) (.ok (.str (a++b)) h)
 | .tup xs,.tup ys=>mh (xs.length+ys.length) (.ok (.tup (xs++ys)) h)
 | .ref n,.ref m=>(match h[n]?,h[m]? with
  | some (.lst xs),some (.lst ys)=>Rr (xs++ys) h
  | _,_=> .no)
 | _,_=> .no
theorem dq.lst{ρ :List Addr}{h:PH}{H:Hp}(s:dq K ρ h H){n:Nat}{xs:List PV}(e:h[n]?=some (.lst xs)){v:V}(r:rel K ρ H (.ref n) v): ∃ a vs,v= .ref a/\ ρ[n]?=some a/\H a=some (.lst vs)/\av K ρ H xs vs:=by
 rw[rel] at r;obtain⟨a,ea,rfl⟩:=r;obtain⟨vs,e1,e2⟩:=s.ob n _ a e ea;exact⟨a,vs,rfl,ea,e1,e2⟩
theorem dq.lB{ρ :List Addr}{h:PH}{H:Hp}(s:dq K ρ h H){n:Nat}{xs:List PV}(e:h[n]?=some (.lB xs)){v:V}(r:rel K ρ H (.ref n) v): ∃ a vs,v= .ref a/\ ρ[n]?=some a/\iY K H a vs/\av K ρ H xs vs:=by
 rw[rel] at r;obtain⟨a,ea,rfl⟩:=r;obtain⟨vs,e1,e2⟩:=s.ob n _ a e ea;exact⟨a,vs,rfl,ea,e1.sq,e2⟩
noncomputable def de(h:PH)(n:Nat):Option (List PV):=match h[n]? with
 | some (.lst xs)=>some xs
 | some (.lB xs)=>some xs
 | _=>none
theorem dq.sq{ρ :List Addr}{h:PH}{H:Hp}(s:dq K ρ h H){n:Nat}{xs:List PV}(e:de h n=some xs){v:V}(r:rel K ρ H (.ref n) v): ∃ a vs,v= .ref a/\ ρ[n]?=some a/\iY K H a vs/\av K ρ H xs vs:=by
 unfold de at e;split at e
 . cases e;obtain⟨a,vs,e1,e2,e3,e4⟩:=s.lst (by assumption) r;exact⟨a,vs,e1,e2,.of e3,e4⟩
 . cases e;exact s.lB (by assumption) r
 . exact nomatch e
theorem oz{ρ :List Addr}{h:PH}{H:Hp}{xs:List PV}{us:List V}{Q:VK}(s:dq K ρ h H)(r:av K ρ H xs us)(P:eE K ρ H (.tup xs) h Q)(p:Addr)(hp:H p=none):Q (.ref p) (upd H p (.tup us)):=by
 refine P _ ρ _ (Gr.xl hp) (s.tup hp) ?_;rw[rel];exact⟨p,us,rfl,bh,av.gr (Gr.xl hp) _ _ r⟩
theorem Qi:dc X pg k-> ∃ r,c9 X (Wa .Add) r/\nQ X.K r aX:=λ_=>⟨_,NZ,fun ρ h H x y x' y' Q v h' s rx ry q P=>by
 unfold aX at q;split at q
 . cases q;rw[rel] at rx ry;exact .inl ⟨_,_,rx,ry,P _ ρ H (.refl _ _) s (by rw[rel])⟩
 . obtain⟨hl,q⟩:=kA.mp q;cases q;rw[rel] at rx ry;exact .inr (.inr (.inr (.inr ⟨_,_,rx,ry,hl,P _ ρ H (.refl _ _) s (by rw[rel])⟩)))
 . rename_i xs ys;obtain⟨hl,q⟩:=kA.mp q;cases q;have ry':=ry;rw[rel] at rx ry;obtain⟨a,us,e1,e2,e3⟩:=rx;obtain⟨b,ws,d1,d2,d3⟩:=ry;cases xs with
   | nil =>
    rw[aO] at e3;subst e3
    exact .inr (.inr (.inr (.inl ⟨a,b,ws,e1,d1,.of e2,.of d2,d1 ▸ P y' ρ H (.refl _ _) s ry'⟩)))
   | cons x r =>
    refine .inr (.inr (.inl ⟨a,b,us,ws,e1,d1,.of e2,.of d2,?_,by rw[<- e3.len,<- d3.len];exact hl,?_⟩))
    . rintro rfl;have:=e3.len;simp at this
    . refine⟨λz=>?_,λ_ p hp=>oz s (e3.app d3) P p hp⟩;subst z;have:ys=[]:=YQ d3.len;subst this;rw[VF] at P;exact P _ ρ H (.refl _ _) s (by rw[rel];exact⟨a,us,rfl,e2,e3⟩)
 . split at q
   . rename_i h1 h2;unfold Rr at q;obtain⟨hl,q⟩:=kA.mp q;cases q;obtain⟨a,us,rfl,_,e1,e2⟩:=s.lst h1 rx;obtain⟨b,ws,rfl,_,d1,d2⟩:=s.lst h2 ry;refine .inr (.inl ⟨a,b,us,ws,rfl,rfl,e1,d1,?_,λp hp=>dY s (e2.app d2) P p hp⟩);rw[<- e2.len,<- d2.len];simpa using hl
   . exact nomatch q
 . exact nomatch q⟩
noncomputable def cw(kvs:List (Key × PV))(k:Key):Option PV:=(kvs.find? λkv=>decide (kv.1=k)).map (·.2)
noncomputable def ia(kvs:List (Key × PV))(k:Key)(v:PV):List (Key × PV) :=
 if (kvs.any λkv=>decide (kv.1=k))=true then kvs.map (λkv=>if kv.1=k then(kv.1,v) else kv) else kvs++[(k,v)]
noncomputable def iR:PV->Option Key
 | .int i=>some (.inl i)
 | .str x=>some (.inr x)
 | _=>none
theorem gx{ρ :List Addr}{H:Hp}{x:PV}{k:Key}{v:V}(e:iR x=some k)(r:rel K ρ H x v):v=kV k:=by
 cases x<;>simp only[iR,reduceCtorEq,XJ] at e<;>(subst e;rw[rel] at r;exact r)
abbrev RK(K:UL)(ρ :List Addr)(H:Hp)(kvs:List (Key × PV))(kws:List (Key × V)):Prop:=V2 (λ(p:Key × PV) (q:Key × V)=>p.1=q.1/\rel K ρ H p.2 q.2) kvs kws
theorem RK.val{ρ :List Addr}{H:Hp}: ∀{kvs:List (Key × PV)}{kws:List (Key × V)}(k:Key),RK K ρ H kvs kws->match cw kvs k,hZ kws k with
  | some x,some v=>rel K ρ H x v
  | none,none=>True
  | _,_=>False
 | _,_,k,.nil=>trivial
 | _,_,k,.cons (a:=p) (b:=q) r t=>by
  have ih:=RK.val k t;unfold cw hZ at ih ⊢;rw[WM,WM,<- r.1];by_cases e:p.1=k
  . simp only[e,decide_true,Xc];exact r.2
  . simp only[e,decide_false];exact ih
theorem RK.some{ρ :List Addr}{H:Hp}{kvs:List (Key × PV)}{kws:List (Key × V)}{k:Key}{x:PV}(r:RK K ρ H kvs kws)(e:cw kvs k=some x): ∃ v,hZ kws k=some v/\rel K ρ H x v:=by
 have:=RK.val k r;rw[e] at this;cases q:hZ kws k with
 | none=>rw[q] at this;exact Wt this
 | some v=>rw[q] at this;exact⟨v,rfl,this⟩
theorem RK.is{ρ :List Addr}{H:Hp}{kvs:List (Key × PV)}{kws:List (Key × V)}(k:Key)(r:RK K ρ H kvs kws):(hZ kws k).isSome=(cw kvs k).isSome:=by
 have:=RK.val k r;cases p:cw kvs k<;>cases q:hZ kws k<;>rw[p,q] at this<;>first | rfl | exact Wt this
theorem RK.len{ρ :List Addr}{H:Hp}{kvs:List (Key × PV)}{kws:List (Key × V)}(r:RK K ρ H kvs kws):kvs.length=kws.length:=X5 r
theorem RK.any{ρ :List Addr}{H:Hp}: ∀{kvs:List (Key × PV)}{kws:List (Key × V)}(k:Key),RK K ρ H kvs kws->(kws.any λkv=>decide (kv.1=k))=kvs.any λkv=>decide (kv.1=k)
 | _,_,k,.nil=>rfl
 | _,_,k,.cons (a:=p) (b:=q) r t=>by rw[Wi,Wi,RK.any k t,r.1]
theorem RK.Cp{ρ :List Addr}{H:Hp}{k:Key}{x:PV}{v:V}(h:rel K ρ H x v): ∀{kvs:List (Key × PV)}{kws:List (Key × V)},RK K ρ H kvs kws->RK K ρ H (kvs.map λkv=>if kv.1=k then(kv.1,x) else kv) (kws.map λkv=>if kv.1=k then(kv.1,v) else kv)
 | _,_,.nil=> .nil
 | _,_,.cons (a:=p) (b:=q) a t=> .cons (by
   show(if p.1=k then(p.1,x) else p).1=(if q.1=k then(q.1,v) else q).1/\rel K ρ H (if p.1=k then(p.1,x) else p).2 (if q.1=k then(q.1,v) else q).2;rw[<- a.1];split
   . exact⟨rfl,h⟩
   . exact a) (RK.Cp h t)
theorem RK.snoc{ρ :List Addr}{H:Hp}{k:Key}{x:PV}{v:V}(h:rel K ρ H x v): ∀{kvs:List (Key × PV)}{kws:List (Key × V)},RK K ρ H kvs kws->RK K ρ H (kvs++[(k,x)]) (kws++[(k,v)])
 | _,_,.nil=> .cons ⟨rfl,h⟩ .nil
 | _,_,.cons a t=> .cons a (RK.snoc h t)
theorem RK.put{ρ :List Addr}{H:Hp}{kvs:List (Key × PV)}{kws:List (Key × V)}{k:Key}{x:PV}{v:V}(r:RK K ρ H kvs kws)(h:rel K ρ H x v):RK K ρ H (ia kvs k x) (putK kws k v):=by
 unfold ia putK;rw[RK.any k r];split
 . exact RK.Cp h r
 . exact RK.snoc h r
noncomputable def aB:PV->PV->PH->RV PV:=λx y h=>match x with
 | .tup xs=>(match y with
  | .int i=>(match d9 xs i with | some v=> .ok v h | none=> .no)
  | _=> .no)
 | .ktup xs=>(match y with
  | .int i=>(match d9 xs i with | some v=> .ok v h | none=> .no)
  | _=> .no)
 | .str z=>(match y with
  | .int i=>mh z.length (match d9 z.cps.toList i with | some c=> .ok (.str ⟨#[c]⟩) h | none=> .no)
  | _=> .no)
 | .ref n=>(match h[n]? with
  | some (.dct kvs)=>(match iR y with
   | some k=>(match cw kvs k with | some v=> .ok v h | none=> .no)
   | none=> .no)
  | some (.lst xs)=>(match y with
   | .int i=>(match d9 xs i with | some v=> .ok v h | none=> .no)
   | _=> .no)
  | some (.lB xs)=>(match y with
   | .int i=>(match d9 xs i with | some v=> .ok v h | none=> .no)
   | _=> .no)
  | none=> .no)
 | _=> .no
theorem av.at{ρ :List Addr}{H:Hp}{xs:List PV}{vs:List V}{i:Int}{x:PV}(r:av K ρ H xs vs)(e:d9 xs i=some x): ∃ v,d9 vs i=some v/\rel K ρ H x v:=by
 unfold d9 at e ⊢;rw[<- r.len];cases q:pJ xs.length i with
 | none=>rw[q] at e;exact nomatch e
 | some j =>
  rw [q] at e
  exact r.get e
noncomputable def UB:R2:=λx y H Q=> ∃ a v,x= .ref a∧jX H a y (some v)∧Q v H
theorem Bk (hu : X.A.units + 1 < cLine) : zY X UB := by
  intro value slice pins s σ H x y v u Q I rx ry h hs;obtain ⟨a, w, rfl, g, q⟩ := h;obtain rfl : v = Ve a := rx;have hT : s.TypeIs (.ref a) "dict" := wU I g;unfold ZI;refine UN ?_;rw [aaC hT.not_modules];refine UN (aau hT Zs.lookup ?_);have fin : wpAny (model X.prog X.w) X.A (Zx slice false (.ref a) u) (λr s₃ => wpAny (model X.prog X.w) X.A (letTemporaryGo value (.ref a) r >>= λ_ => pure r) (EP X pins σ Q) X.xe s₃) X.xe s := by
    rw [hs];exact wpAny_operating (BM hu I g ry λw' s' I' r' => UN (aaN (UZ ⟨w, H, I', r', q⟩)))
  first
    | exact UZ (UN fin)
    | exact UN (UZ (UN fin))
    | exact UN fin
theorem dc.hu{X:Cx}{pg:Tb}{k:Nat}(A:dc X pg k):X.A.units+1 < cLine:=Pb A.room
theorem SY:dc X pg k-> ∃ r,zY X r/\nQ X.K r aB:=λA=>⟨_,Ms.or (Bk A.hu),fun ρ h H x y x' y' Q v h' s rx ry q P=>by
 cases x with
 | tup xs =>
  cases y with
  | int i =>
   simp only[aB] at q
   split at q
   . rename_i w e;cases q;obtain⟨a,vs,rfl,z,r⟩:=rel.seq (x:= .tup xs) rfl rx;obtain⟨u,e1,e2⟩:=r.at e;rw[rel] at ry;exact .inl (.inr (.inl ⟨a,vs,i,u,rfl,ry,z,e1,P _ ρ H (.refl _ _) s e2⟩))
   . exact nomatch q
  | _=>exact nomatch q
 | ktup xs =>
  cases y with
  | int i =>
   simp only[aB] at q
   split at q
   . rename_i w e;cases q;obtain⟨a,vs,rfl,z,r⟩:=rel.seq (x:= .ktup xs) rfl rx;obtain⟨u,e1,e2⟩:=r.at e;rw[rel] at ry;exact .inl (.inr (.inl ⟨a,vs,i,u,rfl,ry,z,e1,P _ ρ H (.refl _ _) s e2⟩))
   . exact nomatch q
  | _=>exact nomatch q
 | str z =>
  cases y with
  | int i =>
   simp only[aB] at q
   obtain⟨hl,q⟩:=kA.mp q
   split at q
   . rename_i c e;cases q;rw[rel] at ry;rw[rel] at rx;exact .inl (.inr (.inr ⟨z,i,c,rx,ry,hl,e,P _ ρ H (.refl _ _) s (by rw[rel])⟩))
   . exact nomatch q
  | _=>exact nomatch q
 | ref n =>
  simp only[aB] at q
  split at q
  . rename_i kvs e;split at q
    . rename_i key ek;split at q
      . rename_i w ew;cases q;rw[rel] at rx;obtain⟨a,ea,rfl⟩:=rx;obtain⟨kws,e1,e2⟩:=s.ob n _ a e ea;obtain⟨u,e3,e4⟩:=RK.some e2 ew;have:=gx ek ry;subst this;exact .inr ⟨a,u,rfl,e3 ▸ jX.k (k:=key) e1,P _ ρ H (.refl _ _) s e4⟩
      . exact nomatch q
    . exact nomatch q
  . rename_i xs e;cases y with
    | int i =>
     simp only at q
     split at q
     . rename_i w ew;cases q;obtain⟨a,vs,rfl,_,z,r⟩:=s.lst e rx;obtain⟨u,e1,e2⟩:=r.at ew;rw[rel] at ry;exact .inl (.inl ⟨a,vs,i,u,rfl,ry,.of z,e1,P _ ρ H (.refl _ _) s e2⟩)
     . exact nomatch q
    | _=>exact nomatch q
  . rename_i xs e;cases y with
    | int i =>
     simp only at q
     split at q
     . rename_i w ew;cases q;obtain⟨a,vs,rfl,_,z,r⟩:=s.lB e rx;obtain⟨u,e1,e2⟩:=r.at ew;rw[rel] at ry;exact .inl (.inl ⟨a,vs,i,u,rfl,ry,z,e1,P _ ρ H (.refl _ _) s e2⟩)
     . exact nomatch q
    | _=>exact nomatch q
  . exact nomatch q
 | _=>exact nomatch q⟩
theorem Pe{f:PV->PV->PH->RV PV}{a b:Expr}{ma mb:ME}{pos:Pos}(hr:dc X pg k-> ∃ r,zY X r/\nQ X.K r f)(ha:JE X pg k a ma)(hb:JE X pg k b mb)(hs:sW b):JE X pg k (.Subscript a b pos) (ak f ma mb):=⟨λA =>
 let ⟨_,q1,s1⟩:=ha.h A;let ⟨_,q2,s2⟩:=hb.h A;let ⟨_,q,s⟩:=hr A;⟨_,QB q q1 q2 hs,y6 s s1 s2⟩⟩
noncomputable def fG:PV->PV->PV->PH->RV Unit:=λx y v h=>match x with
 | .ref n=>(match h[n]? with
  | some (.dct kvs)=>(match iR y with
   | some k=>if kvs.length < sizeLine then .ok () (h.set n (.dct (ia kvs k v))) else .no
   | none=> .no)
  | some (.lst xs)=>(match y with
   | .int i=>(match pJ xs.length i with | some j=> .ok () (h.set n (.lst (xs.set j v))) | none=> .no)
   | _=> .no)
  | _=> .no)
 | _=> .no
noncomputable def Ph:Cf:=λo i v H Q=> ∃ a H',o= .ref a/\x9 H a i v H'/\Q H'
theorem set_dict(hu:X.A.units+1 < cLine):rq X Ph:=by
 intro pins s σ H o i v ov iv u Q I ro ri rv h;obtain⟨a,H',rfl,g,q⟩:=h;obtain rfl:ov=Ve a:=ro;exact BC hu I g ri rv λs' I'=>⟨H',I',q⟩
theorem rq.or{t t':Cf}(h:rq X t)(h':rq X t'):rq X (λo i v H Q=>t o i v H Q\/t' o i v H Q):=by
 intro pins s σ H o i v ov iv u Q I ro ri rv q;rcases q with q | q
 . exact h pins s σ H o i v ov iv u Q I ro ri rv q
 . exact h' pins s σ H o i v ov iv u Q I ro ri rv q
theorem RA:dc X pg k-> ∃ t,rq X t/\ ∀ ρ h H x y v x' y' v' u h' Q,dq X.K ρ h H->rel X.K ρ H x x'->rel X.K ρ H y y'->rel X.K ρ H v v'->fG x y v h= .ok u h'->nT X.K ρ H h' Q->t x' y' v' H Q:=λA =>
 ⟨_,rq.or set_list (set_dict A.hu),fun ρ h H x y v x' y' v' u h' Q s rx ry rv q P=>by
 cases x with
 | ref n =>
  simp only[fG] at q
  rw[rel] at rx
  obtain⟨a,ea,rfl⟩:=rx
  split at q
  . rename_i kvs e;split at q
    . rename_i key ek;split at q
      . rename_i hl;cases q;obtain⟨kws,e1,e2⟩:=s.ob n _ a e ea;have:=gx ek ry;subst this;refine .inr ⟨a,_,rfl,x9.k e1 (by rw[<- RK.len e2];exact hl),?_⟩;have g:Gr ρ H ρ (upd H a (.dK (putK kws key v'))):=Gr.write (.inr ⟨_,e1⟩);exact P ρ _ g (s.write e ea rfl rfl ⟨_,bh,Paired.jP g (RK.put e2 rv)⟩)
      . exact nomatch q
    . exact nomatch q
  . rename_i xs e;cases y with
    | int i =>
     simp only at q
     split at q
     . rename_i j ej;cases q;obtain⟨vs,e1,e2⟩:=s.ob n _ a e ea;rw[rel] at ry;have g:Gr ρ H ρ (upd H a (.lst (vs.set j v'))):=Gr.write (.inl ⟨_,e1⟩);exact .inl ⟨a,vs,i,j,rfl,ry,e1,by rw[<- e2.len];exact ej,P ρ _ g (s.write e ea rfl rfl ⟨_,bh,av.gr g _ _ (e2.set j rv)⟩)⟩
     . exact nomatch q
    | _=>exact nomatch q
  . exact nomatch q
 | _=>exact nomatch q⟩
end
mutual
def bU(K:UL)(H:Hp):W4->V->Prop
 | .none,v=>v= .non
 | .bool b,v=>v= .bl b
 | .int i,v=>v= .int i
 | .str x,v=>v= .str x
 | .list xs,v=> ∃ a vs,v= .ref a/\iY K H a vs/\gA K H xs vs
 | .tuple xs,v=> ∃ a vs,v= .ref a/\fq K H a vs/\gA K H xs vs
 | .dict _,_=>False
def gA(K:UL)(H:Hp):List W4->List V->Prop
 | [],vs=>vs=[]
 | x::r,vs=> ∃ v t,vs=v::t/\bU K H x v/\gA K H r t
end
mutual
theorem bU.reads{X:Cx}{pins:List (Addr × Obj)}{σ :L2.St}{H:Hp}{s:UR}(I:Inv X pins σ H s): ∀(d:W4)(v:V)(u:Value),bU X.K H d v->RelV v u-> ∃ as,Reads s.heap u d as
 | .none,v,u,h,r=>by rw[bU] at h;subst h;cases(show u=WW from r);exact⟨_,.none⟩
 | .bool b,v,u,h,r=>by rw[bU] at h;subst h;cases(show u=Zb b from r);exact⟨_,.bool b⟩
 | .int i,v,u,h,r=>by rw[bU] at h;subst h;obtain⟨t,rfl⟩:=(show ∃ t,u=XT i t from r);exact⟨_,.int i t⟩
 | .str x,v,u,h,r=>by rw[bU] at h;subst h;obtain⟨t,rfl⟩:=(show ∃ t,u=YC x t from r);exact⟨_,.str x t⟩
 | .list xs,v,u,h,r=>by
  rw[bU] at h;obtain⟨a,vs,rfl,z,q⟩:=h;cases(show u=Ve a from r);obtain⟨aj,rv,⟨o,n,e,c,_,dd⟩,_⟩:=I.list z;obtain⟨as,ra⟩:=gA.reads I xs vs aj q rv;exact⟨_,.list e c dd (by simpa using ra)⟩
 | .tuple xs,v,u,h,r=>by
  rw[bU] at h;obtain⟨a,vs,rfl,z,q⟩:=h;cases(show u=Ve a from r);obtain⟨aj,rv,⟨o,e,c,n,dd⟩,_⟩:=I.tuple z;obtain⟨as,ra⟩:=gA.reads I xs vs aj q rv;exact⟨_,.tuple e c dd (by simpa using ra)⟩
 | .dict _,v,u,h,r=>by rw[bU] at h;exact h.elim
theorem gA.reads{X:Cx}{pins:List (Addr × Obj)}{σ :L2.St}{H:Hp}{s:UR}(I:Inv X pins σ H s): ∀(xs:List W4)(vs:List V)(us:List Value),gA X.K H xs vs->Vals vs us-> ∃ as,ReadsAll s.heap us xs as
 | [],vs,us,h,r=>by rw[gA] at h;subst h;cases r;exact⟨_,.nil⟩
 | x::t,vs,us,h,r=>by
  rw[gA] at h;obtain⟨v,w,rfl,h1,h2⟩:=h;cases r with
  | cons r1 r2 =>
   obtain⟨as,a⟩:=bU.reads I x v _ h1 r1
   obtain⟨bs,b⟩:=gA.reads I t w _ h2 r2
   exact⟨_,.cons a b⟩
end
mutual
def jm(sub:Nat->Option W4):PV->Option W4
 | .non=>some .none
 | .bl b=>some (.bool b)
 | .int i=>some (.int i)
 | .str x=>some (.str x)
 | .tup xs=>(bT sub xs).map .tuple
 | .ktup xs=>(bT sub xs).map .tuple
 | .ref n=>sub n
 | .ty _=>none
def bT(sub:Nat->Option W4):List PV->Option (List W4)
 | []=>some []
 | x::r=>match jm sub x,bT sub r with
  | some d1,some ds1=>some (d1::ds1)
  | _,_=>none
end
noncomputable def dat:Nat->PH->PV->Option W4
 | 0,_=>jm λ_=>none
 | n+1,h=>jm λm=>match h[m]? with
  | some (.lst xs)=>(bT (λj=>dat n h (.ref j)) xs).map .list
  | some (.lB xs)=>(bT (λj=>dat n h (.ref j)) xs).map .list
  | _=>none
mutual
theorem jm.v{K:UL}{ρ :List Addr}{H:Hp}{sub:Nat->Option W4}(hs: ∀ n d v,sub n=some d->rel K ρ H (.ref n) v->bU K H d v): ∀(x:PV)(d:W4)(v:V),jm sub x=some d->rel K ρ H x v->bU K H d v
 | .non,d,v,e,r=>by cases e;rw[rel] at r;rw[bU];exact r
 | .bl b,d,v,e,r=>by cases e;rw[rel] at r;rw[bU];exact r
 | .int b,d,v,e,r=>by cases e;rw[rel] at r;rw[bU];exact r
 | .str b,d,v,e,r=>by cases e;rw[rel] at r;rw[bU];exact r
 | .ty b,d,v,e,r=>by exact nomatch e
 | .ref n,d,v,e,r=>hs n d v e r
 | .tup xs,d,v,e,r=>by
  rw[jm] at e;cases q:bT sub xs with
  | none=>rw[q] at e;exact nomatch e
  | some ds =>
   rw[q] at e;cases e
   obtain⟨a,vs,e1,e2,e3⟩:=rel.seq (x:= .tup xs) rfl r
   rw[bU];exact⟨a,vs,e1,e2,bT.v hs xs ds vs q e3⟩
 | .ktup xs,d,v,e,r=>by
  rw[jm] at e;cases q:bT sub xs with
  | none=>rw[q] at e;exact nomatch e
  | some ds =>
   rw[q] at e;cases e
   obtain⟨a,vs,e1,e2,e3⟩:=rel.seq (x:= .ktup xs) rfl r
   rw[bU];exact⟨a,vs,e1,e2,bT.v hs xs ds vs q e3⟩
theorem bT.v{K:UL}{ρ :List Addr}{H:Hp}{sub:Nat->Option W4}(hs: ∀ n d v,sub n=some d->rel K ρ H (.ref n) v->bU K H d v): ∀(xs:List PV)(ds:List W4)(vs:List V),bT sub xs=some ds->av K ρ H xs vs->gA K H ds vs
 | [],ds,vs,e,r=>by cases e;rw[av] at r;rw[gA];exact r
 | x::t,ds,vs,e,r=>by
  rw[bT] at e;split at e
  . rename_i d ds' e1 e2;cases e;obtain⟨v,w,rfl,r1,r2⟩:=aE.mp r;rw[gA];exact⟨v,w,rfl,jm.v hs x d v e1 r1,bT.v hs t ds' w e2 r2⟩
  . exact nomatch e
end
theorem dat.v{K:UL}{ρ :List Addr}{h:PH}{H:Hp}(s:dq K ρ h H): ∀(n:Nat)(x:PV)(d:W4)(v:V),dat n h x=some d->rel K ρ H x v->bU K H d v
 | 0,x,d,v,e,r=>jm.v (λ_ _ _ z _=>by cases z) x d v e r
 | n+1,x,d,v,e,r=>by
  refine jm.v (λm d' v' z rv=>?_) x d v e r;split at z
  . rename_i xs em;cases q:bT (λj=>dat n h (.ref j)) xs with
    | none=>rw[q] at z;exact nomatch z
    | some ds =>
     rw[q] at z;cases z
     obtain⟨a,vs,e1,_,e2,e3⟩:=s.lst em rv
     rw[bU];exact⟨a,vs,e1,.of e2,bT.v (λj d v z rv=>dat.v s n (.ref j) d v z rv) xs ds vs q e3⟩
  . rename_i xs em;cases q:bT (λj=>dat n h (.ref j)) xs with
    | none=>rw[q] at z;exact nomatch z
    | some ds =>
     rw[q] at z;cases z
     obtain⟨a,vs,e1,_,e2,e3⟩:=s.lB em rv
     rw[bU];exact⟨a,vs,e1,e2,bT.v (λj d v z rv=>dat.v s n (.ref j) d v z rv) xs ds vs q e3⟩
  . exact nomatch z
section
variable{K:UL}{X:Cx}{pg:Tb}{k:Nat}
noncomputable def Q0(K:UL)(f:Bool->Bool):R2:=λx y H Q=> ∃ d d',bU K H d x/\bU K H d' y/\d.canLay0=true/\d'.canLay0=true/\min d.depth d'.depth<=64/\Q (.bl (f (Zl d d'))) H
theorem Kx(hr:X.A.units+64 < cLine):c9 X (Vu .Eq) (Q0 X.K id):=by
 intro pins s σ H x y v u Q I rx ry ⟨d,d',h1,h2,c1,c2,hd,q⟩;obtain⟨as,ra⟩:=bU.reads I d x v h1 rx;obtain⟨bs,rb⟩:=bU.reads I d' y u h2 ry;exact SeqAt.compareEq_reads ra rb c1 c2 (by omega) ⟨.bl _,H,I,rfl,q⟩
theorem Mv(hr:X.A.units+64 < cLine):c9 X (Vu .NotEq) (Q0 X.K not):=by
 intro pins s σ H x y v u Q I rx ry ⟨d,d',h1,h2,c1,c2,hd,q⟩;obtain⟨as,ra⟩:=bU.reads I d x v h1 rx;obtain⟨bs,rb⟩:=bU.reads I d' y u h2 ry;exact SeqAt.compareNe_reads ra rb c1 c2 (by omega) ⟨.bl _,H,I,rfl,q⟩
noncomputable def kc:PV->PV->Bool
 | .non,.non=>true | .non,.int _=>true | .int _,.non=>true | .non,.bl _=>true | .bl _,.non=>true | .non,.str _=>true | .str _,.non=>true
 | .int _,.int _=>true | .bl _,.bl _=>true | .str _,.str _=>true
 | .int _,.str _=>true | .str _,.int _=>true | .bl _,.str _=>true | .str _,.bl _=>true
 | _,_=>false
noncomputable def gM(h:PH):PV->Bool
 | .ref n=>(match h[n]? with
  | some (.dct _)=>true
  | _=>false)
 | _=>false
noncomputable def isStr:PV->Bool
 | .str _=>true
 | _=>false
noncomputable def alike(x y:PV)(h:PH):Option Bool :=
 if kc x y=true then some (decide (x=y)) else match dat 6 h x,dat 6 h y with
  | some a,some b=>if a.canLay0=true/\b.canLay0=true/\min a.depth b.depth<=64 then some (Zl a b) else none
  | _,_=>if gM h x=true/\isStr y=true then some false else none
noncomputable def jW(x y:PV)(h:PH):RV PV:=match alike x y h with
 | some b=> .ok (.bl b) h
 | none=> .no
noncomputable def jT (x y:PV) (h:PH):RV PV:=match alike x y h with
 | some b=>if gM h x=true then .no else .ok (.bl (!b)) h
 | none=> .no
theorem Cz {ρ : List Addr} {H : Hp} {x y : PV} {x' y' : V} (h : kc x y = true) (rx : rel K ρ H x x') (ry : rel K ρ H y y') : Ds x' y' = true /\ decide (x' = y') = decide (x = y) := by
  cases x <;> cases y <;> first
    | (exfalso; revert h; simp [kc]; done)
    | (rw [rel] at rx; rw [rel] at ry; subst rx; subst ry; simp [Ds])
theorem pb{ρ :List Addr}{h:PH}{H:Hp}{x y:PV}{x' y':V}{b:Bool}(s:dq K ρ h H)(rx:rel K ρ H x x')(ry:rel K ρ H y y')(e:alike x y h=some b) :
  (Ds x' y'=true/\b=decide (x'=y'))\/(∃ d d',bU K H d x'/\bU K H d' y'/\d.canLay0=true/\d'.canLay0=true/\min d.depth d'.depth<=64/\b=Zl d d') \/
  (gM h x=true/\b=false/\ ∃ p z,x'= .ref p/\y'= .str z/\ ∃ kvs,H p=some (.dK kvs)):=by
 unfold alike at e;split at e
 . rename_i hs;cases e;obtain⟨z,w⟩:=Cz hs rx ry;exact .inl ⟨z,w.symm⟩
 . split at e
   . rename_i a c e1 e2;split at e
     . rename_i hc;cases e;exact .inr (.inl ⟨a,c,dat.v s 6 x a x' e1 rx,dat.v s 6 y c y' e2 ry,hc.1,hc.2.1,hc.2.2,rfl⟩)
     . exact nomatch e
   . split at e
     . rename_i hc;cases e;refine .inr (.inr ⟨hc.1,rfl,?_⟩);obtain⟨c1,c2⟩:=hc;cases x with
       | ref n =>
        cases y with
        | str z =>
         rw[rel] at ry
         rw[rel] at rx
         obtain⟨a,ea,rfl⟩:=rx
         simp only[gM] at c1
         split at c1
         . rename_i kvs en;obtain⟨kws,e1,_⟩:=s.ob n _ a en ea;exact⟨a,z,rfl,ry,kws,e1⟩
         . exact nomatch c1
        | _=>exact nomatch c2
       | _=>exact nomatch c1
     . exact nomatch e
theorem Tw:dc X pg k-> ∃ r,c9 X (Vu .Eq) r/\nQ X.K r jW:=λA=>⟨_,PX.or ((Kx A.room.units).or (FA A.room.Of)),fun ρ h H x y x' y' Q v h' s rx ry q P=>by
 unfold jW at q;split at q
 . rename_i b e;cases q;have fin:Q (.bl b) H:=P _ ρ H (.refl _ _) s (by rw[rel]);rcases pb s rx ry e with⟨z,rfl⟩ | ⟨d,d',h1,h2,h3,h4,h5,rfl⟩ | ⟨_,rfl,p,z,e1,e2,kvs,e3⟩
   . exact .inl ⟨z,fin⟩
   . exact .inr (.inl ⟨d,d',h1,h2,h3,h4,h5,fin⟩)
   . exact .inr (.inr ⟨p,z,e1,e2,.inr (.inr ⟨kvs,e3⟩),fin⟩)
 . exact nomatch q⟩
theorem SJ:dc X pg k-> ∃ r,c9 X (Vu .NotEq) r/\nQ X.K r jT:=λA=>⟨_,Qh.or (Mv A.room.units),fun ρ h H x y x' y' Q v h' s rx ry q P=>by
 unfold jT at q;split at q
 . rename_i b e;split at q
   . exact nomatch q
   . rename_i hd;cases q;have fin:Q (.bl (!b)) H:=P _ ρ H (.refl _ _) s (by rw[rel]);rcases pb s rx ry e with⟨z,rfl⟩ | ⟨d,d',h1,h2,h3,h4,h5,rfl⟩ | ⟨z,_⟩
     . exact .inl ⟨z,fin⟩
     . exact .inr ⟨d,d',h1,h2,h3,h4,h5,fin⟩
     . exact absurd z hd
 . exact nomatch q⟩
noncomputable def Ri(K:UL)(f:Bool->Bool):R2:=λx y H Q=> ∃ p vs xs d,y= .ref p/\(iY K H p vs\/fq K H p vs)/\gA K H xs vs/\bU K H d x/\Wx xs=true/\d.canLay0=true/\min (XD xs) d.depth<=60/\Q (.bl (f (xs.any λz=>Zl z d))) H
theorem M8(hr:X.A.units+64 < cLine):c9 X (Vu .In) (Ri X.K id):=by
 intro pins s σ H x y v u Q I rx ry ⟨p,vs,xs,d,e,hq,h1,h2,c1,c2,hd,q⟩;subst e;obtain⟨bs,rb⟩:=bU.reads I d x v h2 rx;rcases hq with hq | hq
 . obtain⟨as,ra⟩:=bU.reads I (.list xs) (.ref p) u (by rw[bU];exact⟨p,vs,rfl,hq,h1⟩) ry;exact SeqAt.in_list_reads ra rb c1 c2 (by omega) ⟨.bl _,H,I,rfl,q⟩
 . obtain⟨as,ra⟩:=bU.reads I (.tuple xs) (.ref p) u (by rw[bU];exact⟨p,vs,rfl,hq,h1⟩) ry;exact SeqAt.in_tuple_reads ra rb c1 c2 (by omega) ⟨.bl _,H,I,rfl,q⟩
theorem AL(hr:X.A.units+64 < cLine):c9 X (Vu .NotIn) (Ri X.K not):=by
 intro pins s σ H x y v u Q I rx ry ⟨p,vs,xs,d,e,hq,h1,h2,c1,c2,hd,q⟩;subst e;obtain⟨bs,rb⟩:=bU.reads I d x v h2 rx;rcases hq with hq | hq
 . obtain⟨as,ra⟩:=bU.reads I (.list xs) (.ref p) u (by rw[bU];exact⟨p,vs,rfl,hq,h1⟩) ry;exact SeqAt.notIn_list_reads ra rb c1 c2 (by omega) ⟨.bl _,H,I,rfl,q⟩
 . obtain⟨as,ra⟩:=bU.reads I (.tuple xs) (.ref p) u (by rw[bU];exact⟨p,vs,rfl,hq,h1⟩) ry;exact SeqAt.notIn_tuple_reads ra rb c1 c2 (by omega) ⟨.bl _,H,I,rfl,q⟩
noncomputable def Qx(f:Bool->Bool):R2:=λx y H Q=> ∃ a o,y= .ref a/\jX H a x o/\Q (.bl (f o.isSome)) H
theorem LH(hu:X.A.units+1 < cLine):c9 X (Vu .In) (Qx id):=by
 intro pins s σ H x y v u Q I rx ry ⟨a,o,e,g,q⟩;subst e;obtain rfl:u=Ve a:=ry;exact SF hu I g rx λs' I'=>⟨.bl _,H,I',rfl,q⟩
theorem Bj(hu:X.A.units+1 < cLine):c9 X (Vu .NotIn) (Qx not):=by
 intro pins s σ H x y v u Q I rx ry ⟨a,o,e,g,q⟩;subst e;obtain rfl:u=Ve a:=ry;exact Hj hu I g rx λs' I'=>⟨.bl _,H,I',rfl,q⟩
noncomputable def itemsOf(h:PH):PV->Option (List PV)
 | .tup xs=>some xs
 | .ktup xs=>some xs
 | .ref n=>de h n
 | _=>none
theorem dq.items{ρ :List Addr}{h:PH}{H:Hp}(s:dq K ρ h H){x:PV}{xs:List PV}{v:V}(e:itemsOf h x=some xs)(r:rel K ρ H x v): ∃ a vs,v= .ref a/\(iY K H a vs\/fq K H a vs)/\av K ρ H xs vs:=by
 cases x with
 | tup ys=>cases e;obtain⟨a,vs,e1,e2,e3⟩:=rel.seq (x:= .tup xs) rfl r;exact⟨a,vs,e1,.inr e2,e3⟩
 | ktup ys=>cases e;obtain⟨a,vs,e1,e2,e3⟩:=rel.seq (x:= .ktup xs) rfl r;exact⟨a,vs,e1,.inr e2,e3⟩
 | ref n=>obtain⟨a,vs,e1,_,e2,e3⟩:=s.sq e r;exact⟨a,vs,e1,.inl e2,e3⟩
 | _=>exact nomatch e
noncomputable def gy:PV->Bool
 | .non=>true
 | .bl _=>true
 | .int _=>true
 | .str _=>true
 | _=>false
noncomputable def OE:PV->PV->Bool
 | .non,.non=>true
 | .bl a,.bl b=>a == b
 | .bl a,.int b=>(if a then 1 else 0) == b
 | .int a,.bl b=>a == (if b then 1 else 0)
 | .int a,.int b=>a == b
 | .str a,.str b=>a == b
 | _,_=>false
theorem vk {ρ :List Addr} {H:Hp} {x:PV} {v:V} (h:gy x=true) (r:rel K ρ H x v):iX v=true:=by
 cases x<;>first | (exfalso;revert h;simp [gy];done) | (rw [rel] at r;subst r;rfl)
theorem Fc {ρ : List Addr} {H : Hp} {x y : PV} {v w : V} (hx : gy x = true) (hy : gy y = true) (rx : rel K ρ H x v) (ry : rel K ρ H y w) : Ig v w = OE x y := by
  cases x <;> first
    | (exfalso; revert hx; simp [gy]; done)
    | (cases y <;> first
        | (exfalso; revert hy; simp[gy]; done)
        | (rw[rel] at rx; rw[rel] at ry; subst rx; subst ry; rfl))
theorem IT{ρ :List Addr}{H:Hp}{x:PV}{v:V}(hx:gy x=true)(rx:rel K ρ H x v): ∀{xs:List PV}{vs:List V},xs.all gy=true->av K ρ H xs vs->vs.all iX=true/\gq v vs=xs.any λz=>OE z x
 | [],vs,_,r=>by rw[aO] at r;subst r;exact⟨rfl,rfl⟩
 | y::t,vs,h,r=>by
  obtain⟨w,u,rfl,r1,r2⟩:=aE.mp r;simp only[U9,X8] at h;obtain⟨a,b⟩:=IT hx rx h.2 r2;refine⟨by rw[X8,vk h.1 r1,a];rfl,?_⟩;unfold gq at b ⊢;rw[Wi,Wi,b,Fc h.1 hx r1 rx]
noncomputable def isIn(x y:PV)(h:PH):Option Bool:=match itemsOf h y with
 | some xs=>if (gy x&&xs.all gy)=true then some (xs.any λz=>OE z x) else(match dat 6 h x,bT (λj=>dat 6 h (.ref j)) xs with
  | some d,some ds=>if Wx ds=true/\d.canLay0=true/\min (XD ds) d.depth<=60 then some (ds.any λz=>Zl z d) else none
  | _,_=>none)
 | none=>(match y with
  | .ref n=>(match h[n]? with
   | some (.dct kvs)=>(iR x).map λk=>(cw kvs k).isSome
   | _=>none)
  | .str j=>(match x with
   | .str i=>some (!(Xn j i 0 j.length 1).isEmpty)
   | _=>none)
  | _=>none)
noncomputable def jz(x y:PV)(h:PH):RV PV:=match isIn x y h with
 | some b=> .ok (.bl b) h
 | none=> .no
noncomputable def kI(x y:PV)(h:PH):RV PV:=match isIn x y h with
 | some b=> .ok (.bl (!b)) h
 | none=> .no
theorem sJ{ρ :List Addr}{h:PH}{H:Hp}{x y:PV}{x' y':V}{b:Bool}(s:dq K ρ h H)(rx:rel K ρ H x x')(ry:rel K ρ H y y')(e:isIn x y h=some b) :
  (∃ p xs,y'= .ref p/\(iY K H p xs\/fq K H p xs)/\iX x'=true/\xs.all iX=true/\b=gq x' xs) \/
  (∃ p vs xs d,y'= .ref p/\(iY K H p vs\/fq K H p vs)/\gA K H xs vs/\bU K H d x'/\Wx xs=true/\d.canLay0=true/\min (XD xs) d.depth<=60/\b=xs.any λz=>Zl z d) \/
  (∃ a o,y'= .ref a/\jX H a x' o/\b=o.isSome) \/
  (∃ i j,x'= .str i/\y'= .str j/\b= !(Xn j i 0 j.length 1).isEmpty):=by
 unfold isIn at e;split at e
 . rename_i xs ei;obtain⟨a,vs,rfl,z,r⟩:=s.items ei ry;split at e
   . rename_i hf;cases e;rw[U9] at hf;obtain⟨f1,f2⟩:=IT hf.1 rx hf.2 r;exact .inl ⟨a,vs,rfl,z,vk hf.1 rx,f1,f2.symm⟩
   . split at e
     . rename_i d ds e1 e2;split at e
       . rename_i hc;cases e;exact .inr (.inl ⟨a,vs,ds,d,rfl,z,bT.v (λj d v w rv=>dat.v s 6 (.ref j) d v w rv) xs ds vs e2 r,dat.v s 6 x d x' e1 rx,hc.1,hc.2.1,hc.2.2,rfl⟩)
       . exact nomatch e
     . exact nomatch e
 . split at e
   . rename_i n ei;split at e
     . rename_i kvs en;cases q:iR x with
       | none=>rw[q] at e;exact nomatch e
       | some key =>
        rw[q] at e
        cases e
        rw[rel] at ry
        obtain⟨a,ea,rfl⟩:=ry
        obtain⟨kws,e1,e2⟩:=s.ob n _ a en ea
        have:=gx q rx
        subst this
        exact .inr (.inr (.inl ⟨a,_,rfl,jX.k (k:=key) e1,(RK.is key e2).symm⟩))
     . exact nomatch e
   . split at e
     . cases e;rw[rel] at rx;rw[rel] at ry;exact .inr (.inr (.inr ⟨_,_,rx,ry,rfl⟩))
     . exact nomatch e
   . exact nomatch e
theorem TC:dc X pg k-> ∃ r,c9 X (Vu .In) r/\nQ X.K r jz:=λA=>⟨_,zW.or ((M8 A.room.units).or ((LH A.hu).or Av)),fun ρ h H x y x' y' Q v h' s rx ry q P=>by
 unfold jz at q;split at q
 . rename_i b e;cases q;have fin:Q (.bl b) H:=P _ ρ H (.refl _ _) s (by rw[rel]);rcases sJ s rx ry e with⟨p,xs,e1,e2,e3,e4,rfl⟩ | ⟨p,vs,xs,d,e1,e2,e3,e4,e5,e6,e7,rfl⟩ | ⟨a,o,e1,e2,rfl⟩ | ⟨i,j,e1,e2,rfl⟩
   . exact .inl ⟨p,xs,e1,e2,e3,e4,fin⟩
   . exact .inr (.inl ⟨p,vs,xs,d,e1,e2,e3,e4,e5,e6,e7,fin⟩)
   . exact .inr (.inr (.inl ⟨a,o,e1,e2,fin⟩))
   . exact .inr (.inr (.inr ⟨i,j,e1,e2,fin⟩))
 . exact nomatch q⟩
theorem IF:dc X pg k-> ∃ r,c9 X (Vu .NotIn) r/\nQ X.K r kI:=λA=>⟨_,sX.or ((AL A.room.units).or ((Bj A.hu).or uC)),fun ρ h H x y x' y' Q v h' s rx ry q P=>by
 unfold kI at q;split at q
 . rename_i b e;cases q;have fin:Q (.bl (!b)) H:=P _ ρ H (.refl _ _) s (by rw[rel]);rcases sJ s rx ry e with⟨p,xs,e1,e2,e3,e4,rfl⟩ | ⟨p,vs,xs,d,e1,e2,e3,e4,e5,e6,e7,rfl⟩ | ⟨a,o,e1,e2,rfl⟩ | ⟨i,j,e1,e2,rfl⟩
   . exact .inl ⟨p,xs,e1,e2,e3,e4,fin⟩
   . exact .inr (.inl ⟨p,vs,xs,d,e1,e2,e3,e4,e5,e6,e7,fin⟩)
   . exact .inr (.inr (.inl ⟨a,o,e1,e2,fin⟩))
   . exact .inr (.inr (.inr ⟨i,j,e1,e2,fin⟩))
 . exact nomatch q⟩
noncomputable def ip(neg:Bool)(x:PV)(h:PH):RV PV:= .ok (.bl (if neg then !decide (x= .non) else decide (x= .non))) h
theorem Iy{ρ :List Addr}{H:Hp}{x:PV}{v:V}(r:rel K ρ H x v):decide (v= .non)=decide (x= .non):=by
 cases x with
 | non=>rw[rel] at r;subst r;rfl
 | bl=>rw[rel] at r;subst r;rfl
 | int=>rw[rel] at r;subst r;rfl
 | str=>rw[rel] at r;subst r;rfl
 | ty=>rw[rel] at r;subst r;rfl
 | tup=>rw[rel] at r;obtain⟨a,_,rfl,_⟩:=r;rfl
 | ktup=>rw[rel] at r;obtain⟨a,_,rfl,_⟩:=r;rfl
 | ref=>rw[rel] at r;obtain⟨a,_,rfl⟩:=r;rfl
variable{a:Expr}{ma:ME}{pos pos':Pos}
theorem xP{c:CF}{ta:TE}(neg:Bool)(s1:SE c K ta ma):SE c K (fun σ H Q=>ta σ H λx H1=>Q (.bl (if neg then !decide (x= .non) else decide (x= .non))) H1) (Au (ip neg) ma):=fun ρ h H e σ Q v h' s r q P=>by
 obtain⟨x,h1,e1,q⟩:=bind_eq.mp q;cases q;refine s1 ρ h H e σ _ x _ s r e1 λx' ρ1 H1 g1 z1 r1=>?_;rw[Iy r1];exact P _ ρ1 H1 g1 z1 (by rw[rel])
theorem Mu{j:Nat}(ha:JE X pg k a ma):JE X pg k (.Compare a [.Is] [.Constant .none j pos'] pos) (Au (ip false) ma):=⟨λA=>let ⟨_,q1,s1⟩:=ha.h A;⟨_,NF q1,xP false s1⟩⟩
theorem LN{j:Nat}(ha:JE X pg k a ma):JT X pg k (.Compare a [.Is] [.Constant .none j pos'] pos) (aH (Au (ip false) ma)):=⟨λA=>let ⟨_,q1,s1⟩:=ha.h A;⟨_,J5 q1,uD (xP false s1)⟩⟩
theorem Gn{j:Nat}(ha:JE X pg k a ma):JT X pg k (.Compare a [.IsNot] [.Constant .none j pos'] pos) (aH (Au (ip true) ma)):=⟨λA=>let ⟨_,q1,s1⟩:=ha.h A;⟨_,IG q1,uD (xP true s1)⟩⟩
end
section
variable{K:UL}{X:Cx}{pg:Tb}{k:Nat}
abbrev MO:=CF->aq->PH->RV (Option Int)
noncomputable def eF:MO:=λ_ _ h=> .ok none h
noncomputable def cY(a:ME):MO:=λc e h=>(a c e h).bind λv h1=>match v with
 | .int i=> .ok (some i) h1
 | _=> .no
noncomputable def fF(xs:List PV)(lo hi:Option Int):List PV:=(xs.drop (HT.cX xs.length 0 lo)).take (HT.cX xs.length xs.length hi - HT.cX xs.length 0 lo)
noncomputable def E2(x:PV)(lo hi:Option Int)(h:PH):RV PV:=match x with
 | .tup xs=> .ok (.tup (fF xs lo hi)) h
 | .ref n=>(match de h n with
  | some xs=> .ok (.ref h.length) (h++[.lst (fF xs lo hi)])
  | none=> .no)
 | _=> .no
noncomputable def rL(a:ME)(l u:MO):ME:=λc e h=>(a c e h).bind λx h1=>(l c e h1).bind λlo h2=>(u c e h2).bind λhi h3=>E2 x lo hi h3
structure JO(X:Cx)(pg:Tb)(k:Nat)(e:Option Expr)(m:MO):Prop where
 h:dc X pg k-> ∃ t,QO X e t/\ ∀ ρ h H e σ Q o h',dq X.K ρ h H->ee X.K ρ H e σ ->m (run pg k) e h= .ok o h'->nT X.K ρ H h' (Q o)->t σ H Q
theorem Hx:JO X pg k none eF:=⟨λA=>⟨_,HL,fun ρ h H e σ Q o h' s r q P=>by cases q;exact P ρ H (.refl _ _) s⟩⟩
theorem Fv{e:Expr}{ma:ME}(ha:JE X pg k e ma):JO X pg k (some e) (cY ma):=⟨λA=>let ⟨_,q1,s1⟩:=ha.h A;⟨_,FO q1,fun ρ h H e σ Q o h' s r q P=>by
 obtain⟨v,h1,e1,q⟩:=bind_eq.mp q;refine s1 ρ h H e σ _ v h1 s r e1 λv' ρ1 H1 g1 z1 r1=>?_;cases v with
 | int i=>cases q;rw[rel] at r1;exact⟨i,r1,P ρ1 H1 g1 z1⟩
 | _=>exact nomatch q⟩⟩
theorem av.cut{ρ :List Addr}{H:Hp}{xs:List PV}{vs:List V}(r:av K ρ H xs vs)(lo hi:Option Int):av K ρ H (fF xs lo hi) (oh vs lo hi):=by
 unfold fF oh;rw[<- r.len];exact(r.drop _).take _
theorem DA{e:Expr}{lo hi:Option Expr}{ma:ME}{ml mu:MO}{p2 pos:Pos}(ha:JE X pg k e ma)(hl:JO X pg k lo ml)(hh:JO X pg k hi mu):JE X pg k (.Subscript e (.Slice lo hi none p2) pos) (rL ma ml mu):=⟨λA =>
 let ⟨_,q1,s1⟩:=ha.h A;let ⟨_,q2,s2⟩:=hl.h A;let ⟨_,q3,s3⟩:=hh.h A;⟨_,EN Ux q1 q2 q3,fun ρ h H e σ Q v h' s r q P=>by
 obtain⟨x,h1,e1,q⟩:=bind_eq.mp q
 obtain⟨lo,h2,e2,q⟩:=bind_eq.mp q
 obtain⟨hi,h3,e3,q⟩:=bind_eq.mp q
 refine s1 ρ h H e σ _ x h1 s r e1 λx' ρ1 H1 g1 z1 r1=>?_
 refine s2 ρ1 h1 H1 e σ _ lo h2 z1 (r.gr g1) e2 fun ρ2 H2 g2 z2=>?_
 refine s3 ρ2 h2 H2 e σ _ hi h3 z2 (r.gr (g1.trans g2)) e3 fun ρ3 H3 g3 z3=>?_
 have r3:=rel.gr (K:=X.K) (g2.trans g3) _ _ r1
 have P3:=P.gr ((g1.trans g2).trans g3)
 cases x with
 | tup xs =>
  cases q
  rw[rel] at r3
  obtain⟨a,vs,rfl,d1,d2⟩:=r3
  by_cases hw:HT.cX vs.length 0 lo=0/\HT.cX vs.length vs.length hi=vs.length
  . refine .inr (.inr ⟨a,vs,rfl,.of d1,hw,P3 _ ρ3 H3 (.refl _ _) z3 ?_⟩);have:fF xs lo hi=xs:=by
     unfold fF;rw[d2.len,hw.1,hw.2,aaR,abM,<- d2.len,Z7]
    rw[this,rel];exact⟨a,vs,rfl,d1,d2⟩
  . exact .inr (.inl ⟨a,vs,rfl,.of d1,hw,λp hp=>oz z3 (d2.cut lo hi) P3 p hp⟩)
 | ref n =>
  simp only[E2] at q
  split at q
  . rename_i xs en;cases q;obtain⟨a,vs,rfl,_,d1,d2⟩:=z3.sq en r3;exact .inl ⟨a,vs,rfl,d1,λp hp=>dY z3 (d2.cut lo hi) P3 p hp⟩
  . exact nomatch q
 | _=>exact nomatch q⟩⟩
noncomputable def b6:List PV->PH->RV PV:=λxs h=>match xs with
 | [x]=>(match itemsOf h x with
  | some ys=> .ok (.int ys.length) h
  | none=>(match x with
   | .str z=>mh z.length (.ok (.int z.length) h)
   | .ref n=>(match h[n]? with
    | some (.dct kvs)=> .ok (.int kvs.length) h
    | _=> .no)
   | _=> .no))
 | _=> .no
theorem aP{ρ :List Addr}{H:Hp}{x:PV}{us:List V}(r:av K ρ H [x] us): ∃ u,us=[u]/\rel K ρ H x u:=by
 obtain⟨v,t,rfl,r1,r2⟩:=aE.mp r;rw[aO] at r2;exact⟨v,by rw[r2],r1⟩
theorem lE{ρ :List Addr}{H:Hp}{x y:PV}{us:List V}(r:av K ρ H [x,y] us): ∃ u w,us=[u,w]/\rel K ρ H x u/\rel K ρ H y w:=by
 obtain⟨v,t,rfl,r1,r2⟩:=aE.mp r;obtain⟨w,rfl,r3⟩:=aP r2;exact⟨v,w,rfl,r1,r3⟩
theorem PB:dc X pg k-> ∃ r,aT X (.builtin "len") r/\BY X.K r b6:=λA=>⟨_,Fi.or zZ,fun ρ h H xs us Q v h' s r q P=>by
 unfold b6 at q;split at q
 . rename_i x;obtain⟨u,rfl,r1⟩:=aP r;have r:=r1;split at q
   . rename_i ys e;cases q;obtain⟨a,vs,rfl,z,r2⟩:=s.items e r;exact .inl (.inl ⟨a,vs,rfl,z,by rw[<- r2.len];exact P _ ρ H (.refl _ _) s (by rw[rel])⟩)
   . split at q
     . obtain⟨hl,q⟩:=kA.mp q;cases q;rw[rel] at r;subst r;exact .inl (.inr ⟨_,rfl,hl,P _ ρ H (.refl _ _) s (by rw[rel])⟩)
     . split at q
       . rename_i e;cases q;rw[rel] at r;obtain⟨a,ea,rfl⟩:=r;obtain⟨kws,e1,e2⟩:=s.ob _ _ a e ea;exact .inr ⟨a,kws,rfl,e1,by rw[<- RK.len e2];exact P _ ρ H (.refl _ _) s (by rw[rel])⟩
       . exact nomatch q
     . exact nomatch q
 . exact nomatch q⟩
inductive Ty where
 | non | bool | int | str | tuple | list | dict
 deriving DecidableEq
noncomputable def Ty.n:Ty->String
 | .non=> "NoneType" | .bool=> "bool" | .int=> "int" | .str=> "str" | .tuple=> "tuple" | .list=> "list" | .dict=> "dict"
noncomputable def Ty.of:String->Option Ty
 | "bool" =>some .bool | "int" =>some .int | "str" =>some .str | "tuple" =>some .tuple | "list" =>some .list | "dict" =>some .dict
 | _=>none
noncomputable def Ty.Pf(a b:Ty):Bool:=decide (a=b)||(decide (a= .bool)&&decide (b= .int))
noncomputable def tyP(h:PH):PV->Option Ty
 | .non=>some .non
 | .bl _=>some .bool
 | .int _=>some .int
 | .str _=>some .str
 | .tup _=>some .tuple
 | .ref n=>(match h[n]? with
  | some (.lst _)=>some .list
  | some (.dct _)=>some .dict
  | _=>none)
 | _=>none
theorem DE{ρ :List Addr}{h:PH}{H:Hp}{x:PV}{t:Ty}{v:V}(s:dq K ρ h H)(e:tyP h x=some t)(r:rel K ρ H x v):jY K H v (.type t.n):=by
 cases x with
 | non=>cases e;rw[rel] at r;subst r;exact .non
 | bl b=>cases e;rw[rel] at r;subst r;exact .bl b
 | int i=>cases e;rw[rel] at r;subst r;exact .int i
 | str z=>cases e;rw[rel] at r;subst r;exact .str z
 | tup xs=>cases e;rw[rel] at r;obtain⟨a,vs,rfl,e1,_⟩:=r;exact .tup e1
 | ref n =>
  rw[rel] at r
  obtain⟨a,ea,rfl⟩:=r
  simp only[tyP] at e
  split at e
  . rename_i en;cases e;obtain⟨vs,e1,_⟩:=s.ob n _ a en ea;exact .lst e1
  . rename_i en;cases e;obtain⟨vs,e1,_⟩:=s.ob n _ a en ea;exact .dK e1
  . exact nomatch e
 | _=>exact nomatch e
theorem EA(a b:Ty)(hb:b≠ .non):Ze K (.type a.n) (.type b.n)=some (a.Pf b):=by
 cases b<;>first | (exact absurd rfl hb) | (cases a<;>rfl)
theorem Ty.Pa{T:String}{t:Ty}(h:Ty.of T=some t):T=t.n/\t≠ .non:=by
 unfold Ty.of at h;split at h<;>first | (cases h;exact⟨rfl,by decide⟩) | exact nomatch h
noncomputable def y8:List PV->Option (List Ty)
 | []=>some []
 | .ty T::r=>(match Ty.of T,y8 r with
  | some t,some ts=>some (t::ts)
  | _,_=>none)
 | _=>none
noncomputable def tD:List PV->PH->RV PV:=λxs h=>match xs with
 | [x,.ty T]=>(match tyP h x,Ty.of T with
  | some a,some b=> .ok (.bl (a.Pf b)) h
  | _,_=> .no)
 | [x,.tup ts]=>(match tyP h x,y8 ts with
  | some a,some bs=> .ok (.bl (bs.any a.Pf)) h
  | _,_=> .no)
 | _=> .no
theorem zt{ρ :List Addr}{H:Hp}: ∀{ts:List PV}{bs:List Ty}{vs:List V},y8 ts=some bs->av K ρ H ts vs->vs=(bs.map Ty.n).map V.ty/\ ∀ b∈bs,b≠ .non
 | [],bs,vs,e,r=>by cases e;rw[aO] at r;subst r;exact⟨rfl,λ_ m=>by cases m⟩
 | .ty T::t,bs,vs,e,r=>by
  simp only[y8] at e;split at e
  . rename_i b bs' e1 e2;cases e;obtain⟨v,w,rfl,r1,r2⟩:=aE.mp r;obtain⟨h1,h2⟩:=zt e2 r2;rw[rel] at r1;obtain⟨n1,n2⟩:=Ty.Pa e1;refine⟨by rw[r1,h1,n1];rfl,λc m=>?_⟩;rcases U1.mp m with rfl | m
    . exact n2
    . exact h2 c m
  . exact nomatch e
 | .non::_,_,_,e,_=>nomatch e
 | .bl _::_,_,_,e,_=>nomatch e
 | .int _::_,_,_,e,_=>nomatch e
 | .str _::_,_,_,e,_=>nomatch e
 | .tup _::_,_,_,e,_=>nomatch e
 | .ktup _::_,_,_,e,_=>nomatch e
 | .ref _::_,_,_,e,_=>nomatch e
theorem yU(a:Ty): ∀(bs:List Ty),(∀ b∈bs,b≠ .non)->aaU K (.type a.n) ((bs.map Ty.n).map XO)=some (bs.any a.Pf)
 | [],_=>rfl
 | b::r,h=>by
  have h1:=EA (K:=K) a b (h b U3);have h2:=yU a r λc m=>h c (U6 _ m);simp only[US,Wi,aaU,h1,h2];cases a.Pf b<;>rfl
theorem QY:dc X pg k-> ∃ r,aT X (.builtin "isinstance") r/\BY X.K r tD:=λA=>⟨_,Dy,fun ρ h H xs us Q v h' s r q P=>by
 unfold tD at q;split at q
 . rename_i x T;split at q
   . rename_i a b e1 e2;cases q;obtain⟨u,w,rfl,r1,r2⟩:=lE r;rw[rel] at r2;subst r2;obtain⟨n1,n2⟩:=Ty.Pa e2;exact .inl ⟨u,T,_,_,rfl,DE s e1 r1,by rw[n1];exact EA a b n2,P _ ρ H (.refl _ _) s (by rw[rel])⟩
   . exact nomatch q
 . rename_i x ts;split at q
   . rename_i a bs e1 e2;cases q;obtain⟨u,w,rfl,r1,r2⟩:=lE r;rw[rel] at r2;obtain⟨p,vs,rfl,e3,e4⟩:=r2;obtain⟨h1,h2⟩:=zt e2 e4;subst h1;exact .inr ⟨u,p,_,_,_,rfl,e3,DE s e1 r1,yU a bs h2,P _ ρ H (.refl _ _) s (by rw[rel])⟩
   . exact nomatch q
 . exact nomatch q⟩
noncomputable def vK:List PV->PH->RV PV:=λxs h=>match xs with
 | [.int i]=> .ok (.int i) h
 | [.bl b]=> .ok (.int (if b then 1 else 0)) h
 | _=> .no
theorem QH:dc X pg k-> ∃ r,aT X (.type "int") r/\BY X.K r vK:=λA=>⟨_,G6,fun ρ h H xs us Q v h' s r q P=>by
 unfold vK at q;split at q
 . cases q;obtain⟨u,rfl,r1⟩:=aP r;have r:=r1;rw[rel] at r;subst r;exact .inl ⟨_,rfl,P _ ρ H (.refl _ _) s (by rw[rel])⟩
 . cases q;obtain⟨u,rfl,r1⟩:=aP r;have r:=r1;rw[rel] at r;subst r;exact .inr ⟨_,rfl,P _ ρ H (.refl _ _) s (by rw[rel])⟩
 . exact nomatch q⟩
noncomputable def aC:List PV->PH->RV PV:=λxs h=>match xs with
 | [.tup ys]=> .ok (.tup ys) h
 | [.ref n]=>(match de h n with
  | some ys=> .ok (.tup ys) h
  | none=> .no)
 | _=> .no
theorem Gs:dc X pg k-> ∃ r,aT X (.type "tuple") r/\BY X.K r aC:=λA=>⟨_,GI,fun ρ h H xs us Q v h' s r q P=>by
 unfold aC at q;split at q
 . rename_i ys;cases q;obtain⟨u,rfl,r1⟩:=aP r;have r:=r1;have r':=r;rw[rel] at r;obtain⟨a,vs,rfl,e1,e2⟩:=r;exact⟨a,vs,rfl,.inr ⟨.of e1,P _ ρ H (.refl _ _) s r'⟩⟩
 . split at q
   . rename_i ys e;cases q;obtain⟨u,rfl,r1⟩:=aP r;have r:=r1;obtain⟨a,vs,rfl,_,e1,e2⟩:=s.sq e r;exact⟨a,vs,rfl,.inl ⟨e1,λp hp=>oz s e2 P p hp⟩⟩
   . exact nomatch q
 . exact nomatch q⟩
noncomputable def zP:List PV->PH->RV PV:=λxs h=>match xs with
 | [x]=>(match itemsOf h x with
  | some ys=> .ok (.ref h.length) (h++[.lst ys])
  | none=> .no)
 | _=> .no
theorem LU:dc X pg k-> ∃ r,aT X (.type "list") r/\BY X.K r zP:=λA=>⟨_,tN,fun ρ h H xs us Q v h' s r q P=>by
 unfold zP at q;split at q
 . split at q
   . rename_i ys e;cases q;obtain⟨u,rfl,r1⟩:=aP r;have r:=r1;obtain⟨a,vs,rfl,z,r2⟩:=s.items e r;exact⟨a,vs,rfl,z,λp hp=>dY s r2 P p hp⟩
   . exact nomatch q
 . exact nomatch q⟩
noncomputable def bw:PV->PH->Bool:=λx h=>match x with
 | .ref n=>(match h[n]? with
  | some (.lst _)=>true
  | _=>false)
 | _=>false
theorem pI{ρ :List Addr}{h:PH}{H:Hp}{x:PV}{v:V}(s:dq K ρ h H)(r:rel K ρ H x v)(e:bw x h=true):RJ K "list" v H:=by
 cases x with
 | ref n =>
  simp only[bw] at e
  split at e
  . rename_i en;obtain⟨a,vs,rfl,_,e1,_⟩:=s.lst en r;exact .inl ⟨rfl,vs,.of e1⟩
  . exact nomatch e
 | _=>exact nomatch e
noncomputable def aM:PV->List PV->PH->RV PV:=λx vs h=>match x,vs with
 | .ref n,[v]=>(match h[n]? with
  | some (.lst xs)=>if xs.length < sizeLine then .ok .non (h.set n (.lst (xs++[v]))) else .no
  | _=> .no)
 | _,_=> .no
theorem D5:dc X pg k-> ∃ r,Ju X "list.append" r/\RL X.K "list" r aM bw:=λA=>⟨_,AY,fun ρ h H x x' s r e=>pI s r e,fun ρ h H x x' xs us Q v h' s rx rs q P=>by
 unfold aM at q;split at q
 . rename_i n y;split at q
   . rename_i ys en;split at q
     . rename_i hl;cases q;obtain⟨a,vs,rfl,ea,e1,e2⟩:=s.lst en rx;obtain⟨u,rfl,r⟩:=aP rs;have g:Gr ρ H ρ (upd H a (.lst (vs++[u]))):=Gr.write (.inl ⟨_,e1⟩);exact⟨a,vs,u,rfl,rfl,e1,by rw[<- e2.len];exact hl,P _ ρ _ g (s.write en ea rfl rfl ⟨_,bh,av.gr g _ _ (e2.app (av.one r))⟩) (by rw[rel])⟩
     . exact nomatch q
   . exact nomatch q
 . exact nomatch q⟩
end
section
variable{K:UL}{X:Cx}{pg:Tb}{k:Nat}{tg l:Expr}
theorem tT{pins:List (Addr × Obj)}{σ :L2.St}{H:Hp}{s:UR}(I:Inv X pins σ H s): ∀ b∈[s.heap.objs.size],oq X pins H b:=λb hb=>by
 have e:b=s.heap.objs.size:=by simpa using hb
 subst e;exact I.Gm (UT _) (I.bA.fresh (UT _))
theorem EZ{pins:List (Addr × Obj)}{σ :L2.St}{H:Hp}{s:UR}{R:It->Hp->Prop}{a:Addr}{xs:List V}(I:Inv X pins σ H s)(hq:iY X.K H a xs)(q:R (S3 X.K a) H):wpAny (model X.prog X.w) X.A (abX (.ref a)) (OQ X pins σ tg R) X.xe s:=by
 obtain⟨aj,rv,p,hz⟩:=I.list hq;exact wpAny_pyIter_list p.isList ⟨s.heap.objs.size,[s.heap.objs.size],_,_,H,rfl,I.kept (t':=s.toks) (λb o e=>UQ _ e),Be a _,⟨_,U7 _ rfl,rfl,rfl⟩,tT I,q⟩
theorem Ej{pins:List (Addr × Obj)}{σ :L2.St}{H:Hp}{s:UR}{R:It->Hp->Prop}{a:Addr}{xs:List V}(I:Inv X pins σ H s)(hq:fq X.K H a xs)(q:R (CW X.K a) H):wpAny (model X.prog X.w) X.A (abX (.ref a)) (OQ X pins σ tg R) X.xe s:=by
 obtain⟨aj,rv,p,hz⟩:=I.tuple hq;exact WD (show s.heap.IsTuple a aj.toArray from p) ⟨s.heap.objs.size,[s.heap.objs.size],_,_,H,rfl,I.kept (t':=s.toks) (λb o e=>UQ _ e),xb a _,⟨_,U7 _ rfl,rfl,rfl⟩,tT I,q⟩
theorem ER{pins:List (Addr × Obj)}{σ :L2.St}{H:Hp}{s:UR}{R:It->Hp->Prop}{z:Str}{t:Tok}(I:Inv X pins σ H s)(q:R (Sg z) H):wpAny (model X.prog X.w) X.A (abX (.str z t)) (OQ X pins σ tg R) X.xe s:=by
 cases ha:z.cps.all (· < 128)
 . exact wpAny_pyIter_wide ha ⟨s.heap.objs.size,[s.heap.objs.size],_,_,H,rfl,I.kept (t':=s.toks) (λb o e=>UQ _ e),vi z t _ (by decide) (λA' hA=>Walks.strWide hA _ z t) (λ_ _ _ _ _ st h=>wpAny_pyIter_striter_wide st h),⟨_,U7 _ rfl,rfl,rfl⟩,tT I,q⟩
 . exact wpAny_pyIter_ascii ha ⟨s.heap.objs.size,[s.heap.objs.size],_,_,H,rfl,I.kept (t':=s.toks) (λb o e=>UQ _ e),vi z t _ (by decide) (λA' hA=>Walks.strAscii hA _ z t) (λ_ _ _ _ _ st h=>wpAny_pyIter_striter_ascii st h),⟨_,U7 _ rfl,rfl,rfl⟩,tT I,q⟩
noncomputable def Po(K:UL)(tl:TE):TI:=fun σ H R=>tl σ H λx H1=>(∃ a xs,x= .ref a/\iY K H1 a xs/\R (S3 K a) H1)\/(∃ a xs,x= .ref a/\fq K H1 a xs/\R (CW K a) H1)\/ ∃ z,x= .str z/\R (Sg z) H1
theorem Lq{tl:TE}(hl:PE X l tl):PI X tg l (Po X.K tl):=by
 intro pins s σ H R I h;refine cJ (hl pins s σ H _ I h) λv s1 ⟨x,H1,I1,r1,q1⟩=>?_;rcases q1 with⟨a,xs,rfl,hq,q⟩ | ⟨a,xs,rfl,hq,q⟩ | ⟨z,rfl,q⟩
 . cases r1;exact EZ I1 hq q
 . cases r1;exact Ej I1 hq q
 . obtain⟨t,rfl⟩:=r1;exact ER I1 q
noncomputable def s9(x:PV)(h:PH):RV lA:=match x with
 | .tup xs=> .ok ⟨none,xs⟩ h
 | .ktup xs=> .ok ⟨none,xs⟩ h
 | .str z=> .ok ⟨none,z.cps.toList.map λc=> .str ⟨#[c]⟩⟩ h
 | .ref n=>(match de h n with
  | some xs=> .ok ⟨some n,xs⟩ h
  | none=> .no)
 | _=> .no
noncomputable def jZ(a:ME):MI:=λc e h=>(a c e h).bind s9
end
section
variable{X:Cx}{pg:Tb}{k:Nat}{tg l:Expr}{ma:ME}{ta:TE}
theorem Oi{c:CF}{K:UL}(s1:SE c K ta ma):SI c K (Po K ta) (jZ ma):=fun ρ h H e σ R it h' s r q P=>by
 obtain⟨x,h1,e1,q⟩:=bind_eq.mp q;refine s1 ρ h H e σ _ x h1 s r e1 λx' ρ1 H1 g1 z1 r1=>?_;have tupc: ∀(xs:List PV),x.seq?=some xs->it=⟨none,xs⟩->h'=h1->(∃ a xs,x'= .ref a/\fq K H1 a xs/\R (CW K a) H1):=λxs ex ei eh=>by
  subst ei eh;obtain⟨a,vs,rfl,zz,rr⟩:=rel.seq ex r1;refine⟨a,vs,rfl,zz,P ρ1 H1 _ g1 z1 λi ρ2 h2 H2 g s _=>?_⟩;have z2:=g.E4 zz;have r2:=av.gr g _ _ rr;refine⟨λy e=>?_,λe=>⟨vs,z2,by rw[e,<- rr.len];exact UT _⟩⟩;obtain⟨v,d1,d2⟩:=r2.get e;refine⟨⟨vs,v,z2,d1⟩,?_⟩;rintro w H' ⟨rfl,hw⟩;have:=hw vs z2;rw[d1] at this;cases this;exact⟨ρ2,.refl _ _,s,d2⟩
 cases x with
 | tup xs=>cases q;exact .inr (.inl (tupc xs rfl rfl rfl))
 | ktup xs=>cases q;exact .inr (.inl (tupc xs rfl rfl rfl))
 | str z =>
  cases q
  rw[rel] at r1
  refine .inr (.inr ⟨z,r1,P ρ1 H1 _ g1 z1 λi ρ2 h2 H2 g s _=>⟨λy e=>?_,λe=>by show i=z.cps.size;simpa using e⟩⟩)
  rw[U8] at e
  cases q:z.cps.toList[i]? with
  | none=>rw[q] at e;exact nomatch e
  | some c =>
   rw[q] at e
   cases e
   have hc:z.cps[i]?=some c:=by simpa using q
   refine⟨(Array.getElem?_eq_some_iff.mp hc).1,?_⟩
   rintro v H' ⟨rfl,c',e1,rfl⟩
   rw[hc] at e1
   cases e1
   exact⟨ρ2,.refl _ _,s,by rw[rel]⟩
 | ref n =>
  simp only[s9] at q
  split at q
  . rename_i xs en;cases q;obtain⟨a,vs,rfl,ea,zz,rr⟩:=z1.sq en r1;refine .inl ⟨a,vs,rfl,zz,P ρ1 H1 _ g1 z1 λi ρ2 h2 H2 g s hf=>?_⟩;have ea2:=g.pre _ _ ea;have hl:de h2 n=some xs:=by
     have:h2[n]?=some (.lst xs)\/h2[n]?=some (.lB xs):=by simpa [lA.ko] using hf
     unfold de;rcases this with q | q<;>rw[q]
    obtain⟨a',vs2,e3,e4,z2,r2⟩:=s.sq hl (show rel K ρ2 H2 (.ref n) (.ref a) by rw[rel];exact⟨a,ea2,rfl⟩);cases e3;refine⟨λy e=>?_,λe=>⟨vs2,z2,by rw[e,<- r2.len];exact UT _⟩⟩;obtain⟨v,d1,d2⟩:=r2.get e;refine⟨⟨vs2,v,z2,d1⟩,?_⟩;rintro w H' ⟨rfl,hw⟩;have:=hw vs2 z2;rw[d1] at this;cases this;exact⟨ρ2,.refl _ _,s,d2⟩
  . exact nomatch q
 | _=>exact nomatch q
theorem M0(ha:JE X pg k l ma):JI X pg k tg l (jZ ma):=⟨λA=>let ⟨_,q1,s1⟩:=ha.h A;⟨_,⟨Lq q1.h⟩,Oi s1⟩⟩
noncomputable def az(lo:Int)(n:Nat):List PV:=(VX n).map λ(i:Nat)=>PV.int (lo+(i:Int))
noncomputable def dy(r:MA):MI:=λc e h=>(r c e h).bind λvs h1=>match vs with
 | [.int j]=>if -(2 ^ 62)<=j/\j < 2 ^ 62 then .ok ⟨none,az 0 j.toNat⟩ h1 else .no
 | _=> .no
theorem Bn{K:UL}{ρ :List Addr}{H:Hp}(lo:Int)(n:Nat):TQ K ρ H (RI lo n) ⟨none,az lo n⟩:=λi ρ1 h1 H1 g s _=>by
 refine⟨λy e=>?_,λe=>by show n<=i;rw[e];simp[az]⟩;unfold az at e;rw[U8] at e;rcases WS i n with z | z
 . rw[aa8 z] at e;cases e;exact⟨z,λv H' ⟨e1,e2⟩=>by subst e1;subst e2;exact⟨ρ1,.refl _ _,s,by rw[rel]⟩⟩
 . rw[Wf (by simpa using z)] at e;exact nomatch e
variable{a b:Expr}{p pos:Pos}{mr:MA}
theorem BP(hg:Gl X "range")(ha:JA X pg k [a] mr)(hs:VD [a] X.env=[(false,eval a X.env)]:=by rfl):JI X pg k tg (.Call (.Name "range" p) [a] [] pos) (dy mr):=⟨λA =>
 let ⟨_,q1,s1⟩:=ha.h A;⟨_,⟨AF hg (A.blt _ (by decide)) q1.h hs⟩,fun ρ h H e σ R it h' s r q P=>by
 obtain⟨vs,h1,e1,q⟩:=bind_eq.mp q
 refine s1 ρ h H e σ _ vs h1 s r e1 λus ρ1 H1 g1 z1 r1=>?_
 split at q
 . rename_i j;split at q
   . rename_i hj;cases q;obtain⟨u,rfl,r2⟩:=aP r1;rw[rel] at r2;subst r2;exact⟨j,rfl,hj.1,hj.2,P ρ1 H1 _ g1 z1 (Bn 0 _)⟩
   . exact nomatch q
 . exact nomatch q⟩⟩
abbrev MP:=CF->aq->PH->RV (List (Key × PV))
noncomputable def C9:MP:=λ_ _ h=> .ok [] h
noncomputable def fC(a b:ME)(r:MP):MP:=λc e h=>(a c e h).bind λx h1=>match iR x with
 | some key=>(b c e h1).bind λv h2=>(r c e h2).bind λkvs h3=> .ok ((key,v)::kvs) h3
 | none=> .no
noncomputable def cy(kvs more:List (Key × PV)):List (Key × PV):=more.foldl (λacc kv=>ia acc kv.1 kv.2) kvs
noncomputable def wo(r:MP):ME:=λc e h=>(r c e (h++[.dct []])).bind λkvs h1=>if h1[h.length]?=some (.dct [])/\kvs.length<=15 then .ok (.ref h.length) (h1.set h.length (.dct (cy [] kvs))) else .no
structure JP(X:Cx)(pg:Tb)(k:Nat)(pos:Pos)(ks:List (Option Expr))(vs:List Expr)(m:MP):Prop where
 h:dc X pg k-> ∃ t,QP X pos ks vs t/\ ∀ ρ h H e σ Q kvs h',dq X.K ρ h H->ee X.K ρ H e σ ->m (run pg k) e h= .ok kvs h'->(∀ kws ρ' H',Gr ρ H ρ' H'->dq X.K ρ' h' H'->RK X.K ρ' H' kvs kws->Q (kws.map λkv=>(kV kv.1,kv.2)) H')->nA t σ H Q
theorem Ou:JP X pg k pos [] [] C9:=⟨λA=>⟨_,Ht,fun ρ h H e σ Q kvs h' s r q P=>by cases q;exact P [] ρ H (.refl _ _) s .nil⟩⟩
theorem Hf{kk v:Expr}{ks:List (Option Expr)}{vs:List Expr}{mk mv:ME}{mp:MP}(hk:JE X pg k kk mk)(hv:JE X pg k v mv)(hr:JP X pg k pos ks vs mp):JP X pg k pos (some kk::ks) (v::vs) (fC mk mv mp):=⟨λA =>
 let ⟨_,q1,s1⟩:=hk.h A;let ⟨_,q2,s2⟩:=hv.h A;let ⟨_,q3,s3⟩:=hr.h A;⟨_,Ei q1 q2 q3,fun ρ h H e σ Q kvs h' s r q P=>by
 obtain⟨x,h1,e1,q⟩:=bind_eq.mp q
 refine s1 ρ h H e σ _ x h1 s r e1 λx' ρ1 H1 g1 z1 r1=>?_
 split at q
 . rename_i key ek;obtain⟨v,h2,e2,q⟩:=bind_eq.mp q;obtain⟨kvs',h3,e3,q⟩:=bind_eq.mp q;cases q;refine s2 ρ1 h1 H1 e σ _ v h2 z1 (r.gr g1) e2 λv' ρ2 H2 g2 z2 r2=>?_;refine s3 ρ2 h2 H2 e σ _ kvs' _ z2 (r.gr (g1.trans g2)) e3 λkws ρ3 H3 g3 z3 r3=>?_;have:=P ((key,v')::kws) ρ3 H3 ((g1.trans g2).trans g3) z3 (.cons ⟨rfl,rel.gr g3 _ _ r2⟩ r3);rw[gx ek r1];exact this
 . exact nomatch q⟩⟩
theorem RK.merge{K:UL}{ρ :List Addr}{H:Hp}: ∀{more:List (Key × PV)}{mw:List (Key × V)}{kvs:List (Key × PV)}{kws:List (Key × V)},RK K ρ H more mw->RK K ρ H kvs kws->RK K ρ H (cy kvs more) (c7 kws mw)
 | _,_,_,_,.nil,r=>r
 | _,_,_,_,.cons (a:=p) (b:=q) a t,r=>by
  show RK K ρ H (cy (ia _ p.1 p.2) _) (c7 (putK _ q.1 q.2) _);refine RK.merge t ?_;rw[<- a.1];exact RK.put r a.2
theorem Fe{ks:List (Option Expr)}{vs:List Expr}{mp:MP}(h:JP X pg k pos ks vs mp)(hall:ks.all (·.isSome)=true)(hl:ks.length=vs.length)(h0:ks≠[])(h15:ks.length<=15):JE X pg k (.Dict ks vs pos) (wo mp):=⟨λA =>
 let ⟨_,q1,s1⟩:=h.h A;⟨_,ID q1 hall hl h0 h15,fun ρ h H e σ Q v h' s r q P p hp=>by
 obtain⟨kvs,h1,e1,q⟩:=bind_eq.mp q
 split at q
 . rename_i hc;cases q;have g0:Gr ρ H (ρ ++[p]) (upd H p (.dK [])):=Gr.new hp [p];have s0:dq X.K (ρ ++[p]) (h++[.dct []]) (upd H p (.dK [])):=s.new hp ⟨[],bh,.nil⟩;refine s1 (ρ ++[p]) _ _ e σ _ kvs h1 s0 (r.gr g0) e1 λkws ρ1 H1 g1 z1 r1=>?_;have ep:(ρ ++[p])[h.length]?=some p:=by rw[<- s.len,Vq (UT _)];simp
   have ep1:=g1.pre _ _ ep;obtain⟨kw0,e2,e3⟩:=z1.ob h.length _ p hc.1 ep1;cases e3;refine⟨e2,kws,rfl,by rw[<- RK.len r1];exact hc.2,?_⟩;have gw:Gr ρ1 H1 ρ1 (upd H1 p (.dK (c7 [] kws))):=Gr.write (.inr ⟨_,e2⟩);refine P _ ρ1 _ ((g0.trans g1).trans gw) (z1.write hc.1 ep1 rfl rfl ⟨_,bh,RK.merge (Paired.jP gw r1) .nil⟩) ?_;rw[rel];exact⟨p,ep1,rfl⟩
 . exact nomatch q⟩⟩
noncomputable def sN:ME:=λ_ _ h=> .ok (.ref h.length) (h++[.dct []])
theorem Er:JE X pg k (.Dict [] [] pos) sN:=⟨λA=>⟨_,Ep,fun ρ h H e σ Q v h' s r q P p hp=>by
 cases q;refine P _ (ρ ++[p]) _ (Gr.new hp [p]) (s.new hp ⟨[],bh,.nil⟩) ?_;rw[rel];exact⟨p,by rw[<- s.len,Vq (UT _)];simp,rfl⟩⟩⟩
noncomputable def rJ(kvs:List (Key × PV))(a:ME):ME:=λc e h=>(a c e h).bind λx h1=>match iR x with
 | some key=>(match cw kvs key with
  | some v=> .ok v h1
  | none=> .no)
 | none=> .no
variable{x:Str}{kvs:List (Key × PV)}{i:Expr}{mi:ME}{pos':Pos}
theorem E9(hd:pg.zK x=some kvs)(hg:Gl X x)(hi:JE X pg k i mi)(hs:HF i)(hdb:(x == ("__debug__" :Str))=false:=by decide):JE X pg k (.Subscript (.Name x pos') i pos) (rJ kvs mi):=⟨λA =>
 let ⟨a,kws,e1,e2,e3⟩:=A.zK x kvs hd;let ⟨_,q1,s1⟩:=hi.h A;⟨_,F6 e2 (Iw hg e1 hdb) q1 hs,fun ρ h H e σ Q v h' s r q P=>by
 obtain⟨y,h1,d1,q⟩:=bind_eq.mp q
 refine s1 ρ h H e σ _ y h1 s r d1 λy' ρ1 H1 g1 z1 r1=>?_
 split at q
 . rename_i key ek;split at q
   . rename_i w ew;cases q;obtain⟨u,f1,f2⟩:=RK.some (e3 ρ1 H1) ew;exact⟨key,u,gx ek r1,f1,P _ ρ1 H1 g1 z1 f2⟩
   . exact nomatch q
 . exact nomatch q⟩⟩
noncomputable def yQ(d a b:ME):ME:=λc e h=>(d c e h).bind λx h1=>if gM h1 x=true then(a c e h1).bind (λy h2=>(b c e h2).bind λz h3=>match x,iR y with
 | .ref n,some key=>(match h3[n]? with
  | some (.dct kvs)=> .ok ((cw kvs key).getD z) h3
  | _=> .no)
 | _,_=> .no) else .no
theorem Gx{o e f:Expr}{md me mf:ME}{apos cpos:Pos}(ho:JE X pg k o md)(he:JE X pg k e me)(hf:JE X pg k f mf)(m:M2 X o "get" apos e f cpos):JE X pg k (.Call (.Attribute o "get" apos) [e,f] [] cpos) (yQ md me mf):=⟨λA =>
 let ⟨_,q1,s1⟩:=ho.h A;let ⟨_,q2,s2⟩:=he.h A;let ⟨_,q3,s3⟩:=hf.h A;⟨_,Ex A.hu q1 q2 q3 m,fun ρ h H e σ Q v h' s r q P=>by
 obtain⟨x,h1,e1,q⟩:=bind_eq.mp q
 refine s1 ρ h H e σ _ x h1 s r e1 λx' ρ1 H1 g1 z1 r1=>?_
 split at q
 . rename_i hd;obtain⟨y,h2,e2,q⟩:=bind_eq.mp q;obtain⟨z,h3,e3,q⟩:=bind_eq.mp q;cases x with
   | ref n =>
    rw[rel] at r1
    obtain⟨a,ea,rfl⟩:=r1
    refine⟨a,rfl,?_,?_⟩
    . simp only[gM] at hd;split at hd
      . rename_i kvs0 en;obtain⟨kws,d1,_⟩:=z1.ob n _ a en ea;exact .inl ⟨kws,.inl d1⟩
      . exact nomatch hd
    refine s2 ρ1 h1 H1 e σ _ y h2 z1 (r.gr g1) e2 λy' ρ2 H2 g2 z2 r2=>?_
    refine s3 ρ2 h2 H2 e σ _ z h3 z2 (r.gr (g1.trans g2)) e3 λz' ρ3 H3 g3 z3 r3=>?_
    cases ek:iR y with
    | none=>simp only[ek] at q;exact nomatch q
    | some key =>
     simp only[ek] at q
     split at q
     . rename_i kvs en;cases q;obtain⟨kws,d1,d2⟩:=z3.ob n _ a en (g3.pre _ _ (g2.pre _ _ ea));have:=gx ek r2;subst this;refine⟨_,jX.k (k:=key) d1,P _ ρ3 H3 ((g1.trans g2).trans g3) z3 ?_⟩;have:=RK.val key d2;cases p1:cw kvs key<;>cases p2:hZ kws key<;>rw[p1,p2] at this<;>first | exact r3 | exact this | exact Wt this
     . exact nomatch q
   | _=>exact nomatch hd
 . exact nomatch q⟩⟩
end
section
variable{K:UL}{X:Cx}{pg:Tb}{k:Nat}
noncomputable def pairP?:PV->Option (Key × PV)
 | .tup [a,v]=>(iR a).map λk=>(k,v)
 | _=>none
noncomputable def jo:List PV->Option (List (Key × PV))
 | []=>some []
 | x::r=>(match pairP? x,jo r with
  | some p,some ps=>some (p::ps)
  | _,_=>none)
section
variable{prog:Vg}{w:World}{A:Vz}{E:Value->UR->Prop}{s:UR}
theorem oX{p:Addr}{kvs:List (Key × Value)}{R:Value->UR->Prop}(hS:(p == V6)=false)(hp:s.heap.DictOf (aN prog w) p kvs)(hz:kvs.length<=sizeLine)
  (q: ∀ g:Heap,g.DictOf (aN prog w) s.heap.objs.size (merged [] kvs)->(∀ b o,s.heap.get? b=some o->g.get? b=some o)->R (.ref s.heap.objs.size) { s with heap:=g }) :
  wpAny (model prog w) A (call (.type "dict") [.ref p]) R E s:=by
 let g0:=s.heap.push { cls:= .type "dict",data:= .dict #[] }
 have up: ∀ b o,s.heap.get? b=some o->g0.get? b=some o:=λb o e=>UQ _ e;have dn:g0.DictOf (aN prog w) s.heap.objs.size []:=aav s.heap;have dp:g0.DictOf (aN prog w) p kvs:=hp.at λo e=>up p o e;have ne:s.heap.objs.size≠p:=λe=>by
  obtain⟨o,_,_,ho,_⟩:=hp;exact absurd (U2 ho) (by rw[e];exact VJ _)
 refine callType_codes (Q₁ :=λz u=>z= .ref s.heap.objs.size/\u={ s with heap:=g0 }) F.kt_called_dict (F.kt_typeCall_dict_1 _) F.entry_dict_init (kt_code_dict_new _ ⟨rfl,rfl⟩) ?_;rintro obj s1 ⟨rfl,rfl⟩;refine⟨dn.typeIs,F.args_dict_init_2 _ _,?_⟩
 with_unfolding_all refine UN (m:=ZL _ _) (UN (aaD dn.typeIs (UZ ?_)))
 show wpAny _ _ (Xq "dict.__init__" s.heap.objs.size (.ref p) [] .none) _ _ _;unfold Xq Builtin.Dict.merge Builtin.Dict.readDirectly;refine UN (XW dp.typeIs ?_);rw[if_neg (by decide)];refine UN (UN (UN (wpAny_isInstance dp.typeIs isSubtype_dict_dict ?_)));simp only[if_false,Bool.not_true,WZ];refine UN (aau dp.typeIs F.slot_dict_iter.lookup (UZ ?_));simp only[if_true,beq_self_eq_true];refine UN (UZ (wpAny_mergeDict (hsz:=by simpa using hz) ne hS dn dp λg dg _ sb=>?_));show wpAny _ _ (ZK s.heap.objs.size [] >>= _) _ _ { s with heap:=g };exact UN (UZ (UZ ⟨rfl,q g dg λb o e=>(sb.2 b (Vf (U2 e))).trans (up b o e)⟩))
end
noncomputable def Og:List V->Hp->VK->Prop:=λxs H Q=> ∃ p kvs,xs=[.ref p]/\H p=some (.dK kvs)/\kvs.length<=sizeLine/\ ∀ d,H d=none->Q (.ref d) (upd H d (.dK (c7 [] kvs)))
theorem xM:aT X (.type "dict") Og:=by
 intro pins s σ H xs us Q I r h;obtain⟨p,kvs,rfl,hp,hz,q⟩:=h;obtain⟨u,rfl,ru⟩:=vals1 r;cases(show u=Ve p from ru);obtain⟨z1,n1,vs,r1,d1⟩:=vR I.bA hp;refine oX n1 d1 (by rw[<- r1.length];exact z1) λg dd keep=>?_;have hle:(c7 [] kvs).length<=sizeLine:=by have:=eT kvs [];simp at this;omega
 obtain⟨hn,I'⟩:=I.mC (a:=s.heap.objs.size) (o:= .dK (c7 [] kvs)) (t':=s.toks) keep (WH (UT _)) (tU hle (beq_eq_false_iff_ne.mpr (Xj (Vf I.big))) (KV.wL r1) dd);exact⟨.ref _,_,I',rfl,q _ hn⟩
noncomputable def vZ:List PV->PH->RV PV:=λxs h=>match xs with
 | [.tup ys]=>(match jo ys with
  | some kvs=>if ys.length < sizeLine then .ok (.ref h.length) (h++[.dct (cy [] kvs)]) else .no
  | none=> .no)
 | [.ref n]=>(match h[n]? with
  | some (.dct kvs)=>if kvs.length<=sizeLine then .ok (.ref h.length) (h++[.dct (cy [] kvs)]) else .no
  | _=> .no)
 | _=> .no
theorem HI{ρ :List Addr}{H:Hp}{x:PV}{p:Key × PV}{v:V}(e:pairP? x=some p)(r:rel K ρ H x v): ∃ q:Key × V,rM H v q/\p.1=q.1/\rel K ρ H p.2 q.2:=by
 cases x with
 | tup xs =>
  match xs,e with
  | [a,w],e =>
   simp only[pairP?] at e
   cases q:iR a with
   | none=>rw[q] at e;exact nomatch e
   | some key =>
    rw[q] at e
    cases e
    rw[rel] at r
    obtain⟨b,vs,rfl,e1,e2⟩:=r
    obtain⟨u,u',rfl,r1,r2⟩:=lE e2
    have:=gx q r1
    subst this
    exact⟨(key,u'),⟨b,rfl,e1⟩,rfl,r2⟩
 | _=>exact nomatch e
theorem wQ{ρ :List Addr}{H:Hp}: ∀{xs:List PV}{kvs:List (Key × PV)}{vs:List V},jo xs=some kvs->av K ρ H xs vs-> ∃ kws,V2 (rM H) vs kws/\RK K ρ H kvs kws
 | [],kvs,vs,e,r=>by cases e;rw[aO] at r;subst r;exact⟨[],.nil,.nil⟩
 | x::t,kvs,vs,e,r=>by
  simp only[jo] at e;split at e
  . rename_i p ps e1 e2;cases e;obtain⟨v,w,rfl,r1,r2⟩:=aE.mp r;obtain⟨q,a,b⟩:=HI e1 r1;obtain⟨qs,c,d⟩:=wQ e2 r2;exact⟨q::qs,.cons a c,.cons b d⟩
  . exact nomatch e
theorem zg{ρ :List Addr}{h:PH}{H:Hp}{kvs:List (Key × PV)}{kws:List (Key × V)}{Q:VK}(s:dq K ρ h H)(r:RK K ρ H kvs kws)(P:eE K ρ H (.ref h.length) (h++[.dct kvs]) Q)(p:Addr)(hp:H p=none):Q (.ref p) (upd H p (.dK kws)):=by
 refine P _ (ρ ++[p]) _ (Gr.new hp [p]) (s.new hp ⟨kws,bh,Paired.jP (Gr.new hp [p]) r⟩) ?_;rw[rel];exact⟨p,by rw[<- s.len,Vq (UT _)];simp,rfl⟩
theorem Oc:dc X pg k-> ∃ r,aT X (.type "dict") r/\BY X.K r vZ:=λA=>⟨_,(Dc A.calm).or xM,fun ρ h H xs us Q v h' s r q P=>by
 unfold vZ at q;split at q
 . rename_i ys;split at q
   . rename_i kvs e;split at q
     . rename_i hl;cases q;obtain⟨u,rfl,r1⟩:=aP r;rw[rel] at r1;obtain⟨a,vs,rfl,e1,e2⟩:=r1;obtain⟨kws,c,d⟩:=wQ e e2;exact .inl ⟨a,vs,kws,rfl,e1,c,by rw[<- e2.len];exact hl,λp hp=>zg s (RK.merge d .nil) P p hp⟩
     . exact nomatch q
   . exact nomatch q
 . rename_i n;split at q
   . rename_i kvs en;split at q
     . rename_i hl;cases q;obtain⟨u,rfl,r1⟩:=aP r;rw[rel] at r1;obtain⟨a,ea,rfl⟩:=r1;obtain⟨kws,e1,e2⟩:=s.ob n _ a en ea;exact .inr ⟨a,kws,rfl,e1,by rw[<- RK.len e2];exact hl,λp hp=>zg s (RK.merge e2 .nil) P p hp⟩
     . exact nomatch q
   . exact nomatch q
 . exact nomatch q⟩
theorem iw{α :Type}{le: α -> α ->Prop}: ∀{l1 l2:List α},(∀ a∈l1,∀ b∈l1,le a b->le b a->a=b)->l1.Perm l2->l1.Pairwise le->l2.Pairwise le->l1=l2
 | [],l2,_,p,_,_=>List.Perm.nil_eq p
 | a::r,[],_,p,_,_=>absurd p.length_eq (by simp)
 | a::r,b::r',anti,p,h1,h2=>by
  rw[Zm] at h1 h2;have hb:b∈a::r:=p.mem_iff.mpr U3;have e:a=b:=by
   rcases U1.mp (p.mem_iff.mp (U3:a∈a::r)) with e | m
   . exact e
   . rcases U1.mp hb with e | m'
     . exact e.symm
     . exact anti a U3 b hb (h1.1 b m') (h2.1 a m)
  subst e;rw[iw (λx hx y hy=>anti x (U6 _ hx) y (U6 _ hy)) (List.Perm.cons_inv p) h1.2 h2.2]
noncomputable def oy(a b:Str):Bool:= !decide (iZ b a)
noncomputable def cx(ss:List Str):List Str:=ss.mergeSort oy
theorem gZ(a b c:Str)(h1:oy a b=true)(h2:oy b c=true):oy a c=true:=by
 unfold oy at h1 h2 ⊢;simp only[WK,decide_eq_false_iff_not] at h1 h2 ⊢;intro h;by_cases e:b=a
 . subst e;exact h2 h
 . rcases nc e with z | z
   . exact h1 z
   . exact h2 (jQ h z)
theorem jI(a b:Str):(oy a b||oy b a)=true:=by
 unfold oy;by_cases h:iZ b a
 . simp [h,jR h]
 . simp [h]
theorem vI {a b : Str} (h1 : oy a b = true) (h2 : oy b a = true) : a = b := by
  unfold oy at h1 h2;simp only [WK, decide_eq_false_iff_not] at h1 h2
  exact Decidable.byContradiction fun e => by rcases nc e with z | z; · exact h2 z
                                              . exact h1 z
theorem Ad: ∀ {r:List Str} {p:Str},risingS p r=true->(p::r).Pairwise λa b=>oy a b=true:=by
 intro r
 induction r with
 | nil=>intro p _;exact Z4 _ _
 | cons x r ih =>
  intro p h
  simp only[risingS,U9] at h
  have h1:oy p x=true:=by
   have:=h.1;rw[ltCps_eq] at this;exact this
  have h2:=ih h.2
  refine Zm.mpr ⟨λy hy=>?_,h2⟩
  rcases U1.mp hy with rfl | m
  . exact h1
  . exact gZ _ _ _ h1 ((Zm.mp h2).1 y m)
theorem AQ{ss:List Str}(h:ZA ss=true):ss.Pairwise λa b=>oy a b=true:=by
 cases ss with
 | nil=>exact .nil
 | cons p r=>exact Ad h
theorem pO{ss ss':List Str}(p:ss'.Perm ss)(h:ZA ss'=true):ss'=cx ss :=
 iw (le:=λa b=>oy a b=true) (λ_ _ _ _ h1 h2=>vI h1 h2) (p.trans (X3 ss oy).symm) (AQ h) (Xr gZ (λa b=>by simpa using jI a b) ss)
noncomputable def eZ:List PV->Option (List Str)
 | []=>some []
 | .str x::r=>(eZ r).map (x:: ·)
 | _=>none
theorem fh: ∀{xs:List PV}{ss:List Str},eZ xs=some ss->xs=ss.map PV.str
 | [],bs,e=>by cases e;rfl
 | .str b::r,bs,e=>by
  rw[eZ] at e;cases q:eZ r with
  | none=>rw[q] at e;exact nomatch e
  | some cs=>rw[q] at e;cases e;rw[fh q];rfl
 | .non::_,_,e=>nomatch e
 | .bl _::_,_,e=>nomatch e
 | .int _::_,_,e=>nomatch e
 | .tup _::_,_,e=>nomatch e
 | .ktup _::_,_,e=>nomatch e
 | .ref _::_,_,e=>nomatch e
 | .ty _::_,_,e=>nomatch e
theorem cG: ∀(ss:List Str),eZ (ss.map PV.str)=some ss
 | []=>rfl
 | b::r=>by rw[US,eZ,cG r];rfl
theorem bX{ρ :List Addr}{H:Hp}: ∀{ss:List Str}{vs:List V},av K ρ H (ss.map PV.str) vs↔vs=ss.map V.str
 | [],vs=>aO
 | b::t,vs=>by
  rw[US,aE];constructor
  . rintro ⟨v,w,rfl,r1,r2⟩;rw[rel] at r1;rw[r1,bX.mp r2];rfl
  . rintro rfl;exact⟨.str b,t.map V.str,rfl,by rw[rel],bX.mpr rfl⟩
noncomputable def yp:List PV->Option (List (Str × Int))
 | []=>some []
 | .tup [.str x,.int i]::r=>(yp r).map ((x,i):: ·)
 | _=>none
noncomputable def cO(q:Str × Int):PV:= .tup [.str q.1,.int q.2]
theorem uY: ∀(ps:List (Str × Int)),yp (ps.map cO)=some ps
 | []=>rfl
 | b::r=>by rw[US,cO,yp,uY r];rfl
theorem IJ: ∀{xs:List PV}{ps:List (Str × Int)},yp xs=some ps->xs=ps.map cO:=by
 intro xs
 induction xs with
 | nil=>intro ps e;cases e;rfl
 | cons x r ih =>
  intro ps e
  unfold yp at e
  split at e
  . rename_i h;cases h
  . rename_i y i r' h;cases h;cases q:yp r with
    | none=>rw[q] at e;exact nomatch e
    | some cs=>rw[q] at e;cases e;rw[ih q];rfl
  . exact nomatch e
theorem lS{ρ :List Addr}{H:Hp}: ∀{ps:List (Str × Int)}{vs:List V},av K ρ H (ps.map cO) vs↔V2 (oV H) vs ps
 | [],vs=>⟨λh=>by rw[Vh,aO] at h;subst h;exact .nil,λh=>by cases h;exact aO.mpr rfl⟩
 | b::t,vs=>by
  rw[US,aE];constructor
  . rintro ⟨v,w,rfl,r1,r2⟩;rw[cO,rel] at r1;obtain⟨a,us,rfl,e1,e2⟩:=r1;obtain⟨u,u',rfl,d1,d2⟩:=lE e2;rw[rel] at d1;rw[rel] at d2;subst d1 d2;exact .cons ⟨a,rfl,e1⟩ (lS.mp r2)
  . intro h;cases h with
    | cons h1 h2 =>
     obtain⟨a,rfl,e1⟩:=h1
     refine⟨.ref a,_,rfl,?_,lS.mpr h2⟩
     rw[cO,rel]
     exact⟨a,_,rfl,e1,aE.mpr ⟨_,_,rfl,by rw[rel],av.one (by rw[rel])⟩⟩
theorem CD: ∀{ps:List (Str × Int)},(ps.map (·.1)).Nodup-> ∀{a b:Str × Int},a∈ps->b∈ps->a.1=b.1->a=b
 | [],_,a,b,ha,_,_=>by cases ha
 | p::r,nd,a,b,ha,hb,e=>by
  rw[US] at nd;rw[Xa] at nd;rcases U1.mp ha with ha | ha<;>rcases U1.mp hb with hb | hb
  . rw[ha,hb]
  . exact absurd (by rw[<- ha,e];exact Vv.mpr ⟨b,hb,rfl⟩) nd.1
  . exact absurd (by rw[<- hb,<- e];exact Vv.mpr ⟨a,ha,rfl⟩) nd.1
  . exact CD nd.2 ha hb e
noncomputable def lI(ps:List (Str × Int)):List (Str × Int):=ps.mergeSort λa b=>oy a.1 b.1
theorem EW{ps ps':List (Str × Int)}(nd:(ps.map (·.1)).Nodup)(p:ps'.Perm ps)(h:(ps'.map (·.1)).Pairwise iZ):ps'=lI ps:=by
 have h2:ps'.Pairwise λa b=>oy a.1 b.1=true:=by
  rw[Xg] at h;exact h.imp λ{a b} z=>by unfold oy;simp[jR z]
 refine iw (le:=λa b=>oy a.1 b.1=true) (λa ha b hb z1 z2=>?_) (p.trans (X3 ps _).symm) h2 (Xr (λa b c=>gZ a.1 b.1 c.1) (λa b=>by simpa using jI a.1 b.1) ps);have e:=vI z1 z2;have ha':=p.mem_iff.mp ha;have hb':=p.mem_iff.mp hb;exact CD nd ha' hb' e
noncomputable def fM:List PV->PH->RV PV:=λxs h=>match xs with
 | [x]=>(match itemsOf h x with
  | some ys=>(match x with
   | .ref _=>(match eZ ys with
    | some ss=>if ss.length < 64 then .ok (.ref h.length) (h++[.lst ((cx ss).map PV.str)]) else .no
    | none=>(match yp ys with
     | some ps=>if ps.length < 64/\(ps.map (·.1)).Nodup then .ok (.ref h.length) (h++[.lst ((lI ps).map cO)]) else .no
     | none=> .no))
   | _=> .no)
  | none=>(match x with
   | .ref n=>(match h[n]? with
    | some (.dct kvs)=>(match eZ (kvs.map λkv=>match kv.1 with | .inl i=> .int i | .inr z=> .str z) with
     | some ss=>if ss.length < 64 then .ok (.ref h.length) (h++[.lst ((cx ss).map PV.str)]) else .no
     | none=> .no)
    | _=> .no)
   | _=> .no))
 | _=> .no
theorem RK.keys{ρ :List Addr}{H:Hp}: ∀{kvs:List (Key × PV)}{kws:List (Key × V)},RK K ρ H kvs kws->kws.map (·.1)=kvs.map (·.1)
 | _,_,.nil=>rfl
 | _,_,.cons a t=>by rw[US,US,RK.keys t,a.1]
theorem keys_str: ∀{kvs:List (Key × PV)}{ss:List Str},(kvs.map λkv=>(match kv.1 with | .inl i=>PV.int i | .inr z=>PV.str z))=ss.map PV.str->kvs.map (·.1)=ss.map WA
 | [],ss,e=>by cases ss with | nil=>rfl | cons=>exact nomatch e
 | (.inl i,v)::r,ss,e=>by cases ss with | nil=>exact nomatch e | cons=>simp at e
 | (.inr z,v)::r,ss,e=>by
  cases ss with
  | nil=>exact nomatch e
  | cons y t =>
   rw[US,US,acj] at e
   rw[US,US,keys_str e.2]
   cases e.1;rfl
theorem wG(A:dc X pg k):BY X.K (λxs H Q=>CQ X.K xs H Q\/(Eh xs H Q\/yf X.K xs H Q)) fM:=fun ρ h H xs us Q v h' s r q P=>by
 unfold fM at q;split at q
 . rename_i x;obtain⟨u,rfl,r1⟩:=aP r;split at q
   . rename_i ys e;split at q
     . rename_i n;obtain⟨a,vs,rfl,_,z,r2⟩:=s.sq e r1;split at q
       . rename_i ss es;split at q
         . rename_i hl;cases q;rw[fh es,bX] at r2;subst r2;refine .inl ⟨a,ss,rfl,z,hl,λl ss' hp pm so=>?_⟩;rw[pO pm so];exact dY s (bX.mpr rfl) P l hp
         . exact nomatch q
       . split at q
         . rename_i ps eps;split at q
           . rename_i hl;cases q;rw[IJ eps,lS] at r2;refine .inr (.inr ⟨a,vs,ps,rfl,z,r2,hl.1,hl.2,λl ys' ps' hp pm so pr=>?_⟩);have:=EW hl.2 pm so;subst this;exact dY s (lS.mpr pr) P l hp
           . exact nomatch q
         . exact nomatch q
     . exact nomatch q
   . split at q
     . rename_i n _;split at q
       . rename_i kvs en;split at q
         . rename_i ss es;split at q
           . rename_i hl;cases q;rw[rel] at r1;obtain⟨a,ea,rfl⟩:=r1;obtain⟨kws,e1,e2⟩:=s.ob n _ a en ea;refine .inr (.inl ⟨a,kws,ss,rfl,e1,by rw[RK.keys e2];exact keys_str (fh es),hl,λl ss' hp pm so=>?_⟩);rw[pO pm so];exact dY s (bX.mpr rfl) P l hp
           . exact nomatch q
         . exact nomatch q
       . exact nomatch q
     . exact nomatch q
 . exact nomatch q
theorem jO.of{P:Vg}{w:World}{K:UL}{mg:Str->Option Value}{base:Heap}{pg:Tb}{f:String}{d:Df}(b:MS)(st:Stmt)(N:List Str)(e:d.body=b)(a:At K mg (Va f) st)(S:d6 N d.ps (ax st))(hl:N.length=d.ps.length+d.nl)
  (hb: ∀(kV doc pm:Value)(an:Option Addr)(cdv ct:Value)(us:List Value),us.length=d.ps.length->Xx (V3 (Va f) (Va f) (cL st) (bj st) (ax st) .none kV doc pm an cdv ct) ⟨us,[]⟩=pure (d.ps.zip us))
  (h: ∀(fa:Addr)(cdv:Value)(A:Vz)(outer:List Env)(s:UR)(H:Hp)(E:XK)(k:Nat),ym (j7 um P w K mg base N (Va f) (ax st) fa cdv A outer s H E).pW pg k (bj st) b):jO P w K mg base pg f d :=
 ⟨st,N,a,S,hl,hb,by rw[e];exact h⟩
end
section
variable{X:Cx}{pins:List (Addr × Obj)}{σ :L2.St}{H:Hp}{s:UR}{h':Heap}
theorem Ef{turned:List Addr}{t':Nat}(I:Inv X pins σ H s)(kp: ∀ b o,b ∉ turned->s.heap.get? b=some o->h'.get? b=some o)(fp: ∀ b∈turned,oq X pins H b):Inv X pins σ H { s with heap:=h',toks:=t' }:=by
 have away: ∀ b u,H b=some u->b ∉ turned:=λb u e m=>by
  have:=(fp b m).1;rw[e] at this;exact nomatch this
 refine I.step (g':=s.gens) (d':=s.drawn) (ch:=turned) (λb m=>?_) (λb o _ _ n e _=>kp b o n e) (λb o _ _ n e _=>⟨o.slots,kp b o n e⟩) (λ_ _ _ _ e=>e) (λb o n e=>⟨o,kp b o n e⟩) (λ_ _ e=>e) (λ_ _ _ e=>e) (λb ps e=>⟨#[],by rw[e];simp⟩) (λm hm=>?_) (λb u e=>?_) I.bare
 . obtain⟨_,a2,_,a4,a5,a6⟩:=fp b m;exact⟨a4,a2,a5,a6⟩
 . obtain⟨o,es,ep,ho,r⟩:=hm;exact⟨o,es,ep,kp _ o (λm=>(fp _ m).2.1 rfl) ho,r⟩
 . refine(I.bA b u e).uH (λc v hc q=>kp c v ?_ q) (λ_ q=>q) λ_ _ q=>q;rcases hc with z | z
   . rw[z];exact away b u e
   . exact away c _ z
theorem rY{turned:List Addr}{t':Nat}{p:Addr}{vs:List V}(I:Inv X pins σ H s)(kp: ∀ b o,b ∉ turned->s.heap.get? b=some o->h'.get? b=some o)(fp: ∀ b∈turned,oq X pins H b)(hp:s.heap.objs.size<=p)
  (new:aY X.prog X.w (upd H p (.tup vs)) h' p (.tup vs)):Inv X pins σ (upd H p (.tup vs)) { s with heap:=h',toks:=t' }:=by
 have hn:H p=none:=I.bA.fresh hp;have away: ∀ b u,H b=some u->b ∉ turned:=λb u e m=>by
  have:=(fp b m).1;rw[e] at this;exact nomatch this
 have old: ∀ b o,s.heap.get? b=some o->b≠p:=λb o e z=>absurd (U0 (U2 e) (z ▸ hp)) (VJ _);refine I.step (g':=s.gens) (d':=s.drawn) (ch:=turned) (λb m=>?_) (λb o _ _ n e _=>kp b o n e) (λb o _ _ n e _=>⟨o.slots,kp b o n e⟩) (λb o _ e n=>by rw[aD (old b o e)];exact n) (λb o n e=>⟨o,kp b o n e⟩)
  (λb xs e=>by rw[aD (aF e hn)];exact e) (λb o u e=>by rw[aD (aF e hn)];exact e) (λb ps e=>⟨#[],by rw[aD (aF e hn),e];simp⟩) (λm hm=>?_) (λb u e=>?_) I.bare
 . obtain⟨_,a2,_,a4,a5,a6⟩:=fp b m;exact⟨a4,a2,a5,a6⟩
 . obtain⟨o,es,ep,ho,r⟩:=hm;exact⟨o,es,ep,kp _ o (λm=>(fp _ m).2.1 rfl) ho,r⟩
 . by_cases hb:b=p
   . subst hb;rw[bh] at e;cases e;exact new
   . rw[aD hb] at e;refine(I.bA b u e).uH (λc v hc q=>kp c v ?_ q) (λc q=>by rw[aD (aF q hn)];exact q) λc xs q=>by rw[aD (aF q hn)];exact q
     rcases hc with z | z
     . rw[z];exact away b u e
     . exact away c _ z
end
noncomputable def TM (K : UL) (a1 a2 : Addr) : It :=
  ⟨λi H => ∃ xs ys x y, fq K H a1 xs /\ fq K H a2 ys /\ xs[i]? = some x /\ ys[i]? = some y,
   λi H v H' => ∃ p x y, H p = none /\ v = .ref p /\ H' = upd H p (.tup [x, y]) /\ (∀ xs, fq K H a1 xs -> xs[i]? = some x) /\ ∀ ys, fq K H a2 ys -> ys[i]? = some y,
   λi H => ∃ xs ys, fq K H a1 xs /\ fq K H a2 ys /\ (xs.length <= i ∨ ys.length <= i)⟩
theorem Ay {h h':Heap} {z TI TO i1 i2 l1 l2:Addr} {k:Nat} (Z:vf h z TI TO i1 i2 l1 l2 k) (kp: ∀ b∈[z,TI,TO,i1,i2],∀ o,h.get? b=some o->h'.get? b=some o):vf h' z TI TO i1 i2 l1 l2 k:=by
 obtain ⟨a,b,⟨u,v,c⟩,⟨o1,d1,d2⟩,⟨o2,e1,e2⟩⟩:=Z;exact ⟨kp _ (by simp) _ a,kp _ (by simp) _ b,⟨u,v,kp _ (by simp) _ c⟩,⟨o1,kp _ (by simp) _ d1,d2⟩,⟨o2,kp _ (by simp) _ e1,e2⟩⟩
theorem B5{P:Vg}{w:World}{K:UL}{els:List Expr}{j:Nat}{pos:Pos}{z TI TO i1 i2 a1 a2:Addr}(D:abQ z TI TO i1 i2 a1 a2) :
  Turn P w K (.Tuple els j pos) (TM K a1 a2) [z,TI,TO,i1,i2] z (λi h=>vf h z TI TO i1 i2 a1 a2 i) where
 mem:=by simp
 obj:=λi h Z b hb=>by
  obtain⟨e1,e2,⟨u,v,e3⟩,⟨o4,e4,_,d4⟩,⟨o5,e5,_,d5⟩⟩:=Z;simp only[Vm,or_false,U1] at hb;rcases hb with rfl | rfl | rfl | rfl | rfl
  . exact⟨_,e1,λv q=>nomatch q⟩
  . exact⟨_,e2,λv q=>nomatch q⟩
  . exact⟨_,e3,λv q=>nomatch q⟩
  . exact⟨_,e4,λv q=>by rw[d4] at q;exact nomatch q⟩
  . exact⟨_,e5,λv q=>by rw[d5] at q;exact nomatch q⟩
 keep:=λi h h' Z kp=>Ay Z kp
 item:=by
  intro X hP hw hK hc i pins s σ H E I hf Z hg;subst hP hw hK;obtain⟨xs,ys,x,y,s1,s2,ex,ey⟩:=hg;obtain⟨us,ru,pu,_⟩:=I.tuple s1;obtain⟨ws,rw',pw,_⟩:=I.tuple s2;obtain⟨ux,eu,rx⟩:=ru.get ex;obtain⟨uy,ew,ry⟩:=rw'.get ey;refine o7 D Z pu pw (by simpa using eu) (by simpa using ew) λh1 f1 f2 f3 f4 f5 f6 f7=>⟨_,rfl,?_⟩
  refine wpAny_letOwnedTupleGo_zip (s:={ s with heap:=h1 }) f1 λh2 g1 g2=>?_;have ex1:=g2.extBut;have zlt:z < s.heap.objs.size:=U2 Z.Bu;have pz:s.heap.objs.size≠z:=WQ zlt;have new:Yt h2 s.heap.objs.size ux uy:=ex1 _ _ pz f6;have hn:H s.heap.objs.size=none:=I.bA.fresh (UT _);have I2:Inv X pins σ (upd H s.heap.objs.size (.tup [x,y])) { s with heap:=h2,toks:=s.toks }:=by
   refine rY (turned:=[z,TO,i1,i2]) I (λb o nb e=>?_) (λb hb=>hf b ?_) (UT _) ?_
   . simp only[U1,Vm,or_false,not_or] at nb;exact ex1 _ _ nb.1 (f7 b o nb.1 nb.2.1 nb.2.2.1 nb.2.2.2 e)
   . simp only[U1,Vm,or_false] at hb ⊢;rcases hb with rfl | rfl | rfl | rfl<;>simp
   . exact⟨by show 2<=sizeLine;decide,[ux,uy],.cons rx (.cons ry .nil),_,new,rfl,_,rfl,rfl⟩
  refine⟨.ref s.heap.objs.size,upd H s.heap.objs.size (.tup [x,y]),I2,rfl,⟨_,x,y,hn,rfl,rfl,λxs' q=>?_,λys' q=>?_⟩,?_,λb hb=>?_⟩
  . rw[I.jH q s1];exact ex
  . rw[I.jH q s2];exact ey
  . obtain⟨o4,e4,c4⟩:=f4;obtain⟨o5,e5,c5⟩:=f5;exact⟨g1,ex1 _ _ D.TIz f2,⟨_,_,ex1 _ _ D.TOz f3⟩,⟨o4,ex1 _ _ D.i1z e4,c4⟩,⟨o5,ex1 _ _ D.i2z e5,c5⟩⟩
  . have hb0:=(hf b hb).1;have: ∃ o,s.heap.get? b=some o:=by
     obtain⟨e1,e2,⟨u,v,e3⟩,⟨o4,e4,_⟩,⟨o5,e5,_⟩⟩:=Z;simp only[Vm,or_false,U1] at hb;rcases hb with rfl | rfl | rfl | rfl | rfl
     . exact⟨_,e1⟩
     . exact⟨_,e2⟩
     . exact⟨_,e3⟩
     . exact⟨_,e4⟩
     . exact⟨_,e5⟩
    obtain⟨o,eo⟩:=this;rw[aD (Vf (U2 eo))];exact hb0
 done:=by
  intro X hP hw hK hc i pins s σ H E I hf Z hg;subst hP hw hK;obtain⟨xs,ys,s1,s2,he⟩:=hg;obtain⟨us,ru,pu,_⟩:=I.tuple s1;obtain⟨ws,rw',pw,_⟩:=I.tuple s2;refine q9 (I.ok.hd hc) D Z pu pw ?_ λh1 kp=>⟨rfl,Ef (turned:=[z,TO,i1,i2]) (t':=s.toks) I (λb o nb e=>?_) λb hb=>hf b ?_⟩
  . have l1:=ru.length;have l2:=rw'.length;rcases he with he | he
    . exact .inl (by simp;omega)
    . exact .inr (by simp;omega)
  . simp only[U1,Vm,or_false,not_or] at nb;exact kp b o nb.1 nb.2.1 nb.2.2.1 nb.2.2.2 e
  . simp only[U1,Vm,or_false] at hb ⊢;rcases hb with rfl | rfl | rfl | rfl<;>simp
 self:=λA i s Q E Z h=>wpAny_pyIter_zip Z.Bu h
abbrev tI(a:Addr):Obj:={ cls:= .type "tuple_iterator",data:= .fields #[.ref a,.int 0 0] }
abbrev RT(h:Heap)(a b:Addr):Heap :=
 Wr (Wr (Wr (Wr (Wr h (tI a)) (tI b)) { cls:= .type "tuple",data:= .seq #[.ref h.objs.size,.ref (h.objs.size+1)] }) { cls:= .type "tuple",data:= .seq #[.none,.none] })
  { cls:= .type "zip",data:= .fields #[.none,.bool false,.bool false,.ref (h.objs.size+2),.ref (h.objs.size+3)] }
theorem uk(a b:Addr)(us ws:Array Value):Meets (Xv.«zip.__new__» ⟨[.type "zip",.ref a,.ref b],[]⟩) (λ_ R u=>u.heap.IsTuple a us/\u.heap.IsTuple b ws/\R (.ok (.ret (.ref (u.heap.objs.size+4)))) { u with heap:=RT u.heap a b }) :=
 .of_wp λprog w A R u hu=>by
  obtain⟨hp,gg,dd,tk,os⟩:=u;obtain⟨ha,hb,hr⟩:=hu;have sub:=sub_zip;have fa:abR (acf ⟨hp,gg,dd,tk,os⟩) a us:=ha;have fb:abR (acf ⟨hp.push (tI a),gg,dd,tk,os⟩) b ws:=let ⟨o,e,c⟩:=hb;⟨o,UQ _ e,c⟩
  wp_walk using WD fa,WD fb
  refine⟨_,rfl,?_⟩;simp only[VW];exact hr
section
variable{X:Cx}{pg:Tb}{k:Nat}{a b:Expr}{ma mb:ME}{p pos:Pos}{els:List Expr}{j:Nat}{tpos:Pos}
theorem Nf(h:Heap)(l1 l2:Addr):vf (RT h l1 l2) (h.objs.size+4) (h.objs.size+2) (h.objs.size+3) h.objs.size (h.objs.size+1) l1 l2 0/\(RT h l1 l2).objs.size=h.objs.size+5:=by
 have n1:(Wr h (tI l1)).objs.size=h.objs.size+1:=VW ..;have n2:(Wr (Wr h (tI l1)) (tI l2)).objs.size=h.objs.size+2:=by rw[VW,n1]
 have n3:(Wr (Wr (Wr h (tI l1)) (tI l2)) { cls:= .type "tuple",data:= .seq #[.ref h.objs.size,.ref (h.objs.size+1)] }).objs.size=h.objs.size+3:=by rw[VW,n2]
 have n4:(Wr (Wr (Wr (Wr h (tI l1)) (tI l2)) { cls:= .type "tuple",data:= .seq #[.ref h.objs.size,.ref (h.objs.size+1)] }) { cls:= .type "tuple",data:= .seq #[.none,.none] }).objs.size=h.objs.size+4:=by rw[VW,n3]
 refine⟨⟨?_,?_,⟨.none,.none,?_⟩,⟨tI l1,?_,rfl,rfl⟩,⟨tI l2,?_,rfl,rfl⟩⟩,by rw[VW,n4]⟩
 . rw[<- n4];exact U7 _ rfl
 . refine UQ _ (UQ _ ?_);rw[<- n2];exact U7 _ rfl
 . refine UQ _ ?_;rw[<- n3];exact U7 _ rfl
 . exact UQ _ (UQ _ (UQ _ (UQ _ (U7 _ rfl))))
 . refine UQ _ (UQ _ (UQ _ ?_));rw[<- n1];exact U7 _ rfl
noncomputable def Qj(K:UL)(ta:TA):TI:=fun σ H R=>ta σ H λvs H1=> ∃ a1 a2 xs ys,vs=[.ref a1,.ref a2]/\fq K H1 a1 xs/\fq K H1 a2 ys/\R (TM K a1 a2) H1
theorem Mn{ta:TA}(hg:Gl X "zip")(hm:X.mg "zip" =none)(ha:PA X [a,b] ta)(hs:VD [a,b] X.env=[(false,eval a X.env),(false,eval b X.env)])(hs2:VD [b] X.env=[(false,eval b X.env)]) :
  PI X (.Tuple els j tpos) (.Call (.Name "zip" p) [a,b] [] pos) (Qj X.K ta):=by
 intro pins s σ H R I h;refine Call_ (ju I hg hm boot_zip (V5 (cJ (ha pos pins s σ H _ I h) λus s1 ⟨vs,H1,I1,r1,a1,a2,xs,ys,e,q1,q2,q⟩=>?_) (by rw[hs,hs2]) (by rw[hs2];rfl)));subst e;cases r1 with
 | cons ra rr =>
  cases rr with
  | cons rb rr =>
   cases rr
   cases ra
   cases rb
   obtain⟨u1,_,p1,_⟩:=I1.tuple q1
   obtain⟨u2,_,p2,_⟩:=I1.tuple q2
   refine callType_new F.called_zip (by decide) (F.typeCall_zip_2 _ _) (F.newCall_zip_2 _ _) (λobj=>F.args_object_init_3 obj _ _) F.entry_zip_new (uk a1 a2 u1.toArray u2.toArray) ⟨p1,p2,?_⟩
   obtain⟨Z,zs⟩:=Nf s1.heap a1 a2
   have lt1:a1 < s1.heap.objs.size:=let ⟨_,e,_⟩:=p1;U2 e
   have lt2:a2 < s1.heap.objs.size:=let ⟨_,e,_⟩:=p2;U2 e
   refine⟨⟨_,Z.Bu,rfl⟩,wpAny_pyIter_zip Z.Bu ?_⟩
   have kp: ∀ c o,s1.heap.get? c=some o->(RT s1.heap a1 a2).get? c=some o:=λc o e=>UQ _ (UQ _ (UQ _ (UQ _ (UQ _ e))))
   refine⟨s1.heap.objs.size+4,[s1.heap.objs.size+4,s1.heap.objs.size+2,s1.heap.objs.size+3,s1.heap.objs.size,s1.heap.objs.size+1],_,_,H1,rfl,I1.kept (t':=s1.toks) kp,B5 (zipApart_new lt1 lt2),Z,λc hc=>?_,q⟩
   have hle:s1.heap.objs.size<=c:=by
    simp only[U1,Vm,or_false] at hc;rcases hc with rfl | rfl | rfl | rfl | rfl<;>omega
   exact I1.Gm hle (I1.bA.fresh hle)
noncomputable def NJ(a b:ME):MI:=λc e h=>(a c e h).bind λx h1=>(b c e h1).bind λy h2=>match x.seq?,y.seq? with
 | some xs,some ys=> .ok ⟨none,(xs.zip ys).map λp=> .tup [p.1,p.2]⟩ h2
 | _,_=> .no
theorem NY(hg:Gl X "zip")(ha:JE X pg k a ma)(hb:JE X pg k b mb)(hs1:noStar a=true:=by rfl)(hs2:noStar b=true:=by rfl):JI X pg k (.Tuple els j tpos) (.Call (.Name "zip" p) [a,b] [] pos) (NJ ma mb):=⟨λA =>
 let ⟨_,q1,s1⟩:=ha.h A;let ⟨_,q2,s2⟩:=hb.h A
 ⟨_,⟨Mn hg (A.blt _ (by decide +kernel)) (qk q1 (qk q2 yw hs2) hs1).h (by rw[bY hs1,bY hs2];rfl) (by rw[bY hs2];rfl)⟩,fun ρ h H e σ R it h' s r q P=>by
 obtain⟨x,h1,e1,q⟩:=bind_eq.mp q
 obtain⟨y,h2,e2,q⟩:=bind_eq.mp q
 refine s1 ρ h H e σ _ x h1 s r e1 λx' ρ1 H1 g1 z1 r1=>?_
 refine s2 ρ1 h1 H1 e σ _ y h2 z1 (r.gr g1) e2 λy' ρ2 H2 g2 z2 r2=>?_
 split at q
 . rename_i xs ys ex ey;cases q;obtain⟨a1,us,rfl,t1,d1⟩:=rel.seq ex (rel.gr g2 _ _ r1);obtain⟨a2,ws,rfl,t2,d2⟩:=rel.seq ey r2;refine⟨a1,a2,us,ws,rfl,t1,t2,P ρ2 H2 _ (g1.trans g2) z2 λi ρ3 h3 H3 g s3 _=>⟨λv ev=>?_,λei=>?_⟩⟩
   . rw[U8] at ev;cases ez:(xs.zip ys)[i]? with
     | none=>rw[ez] at ev;exact nomatch ev
     | some pr =>
      rw[ez] at ev
      cases ev
      obtain⟨zx,zy⟩:=List.getElem?_zip_eq_some.mp ez
      obtain⟨u,f1,f2⟩:=(av.gr g _ _ d1).get zx
      obtain⟨w,f3,f4⟩:=(av.gr g _ _ d2).get zy
      refine⟨⟨us,ws,u,w,g.E4 t1,g.E4 t2,f1,f3⟩,?_⟩
      rintro v' H' ⟨p,u',w',hp,rfl,rfl,k1,k2⟩
      have:=k1 us (g.E4 t1)
      rw[f1] at this;cases this
      have:=k2 ws (g.E4 t2)
      rw[f3] at this;cases this
      have gn:Gr ρ3 H3 ρ3 (upd H3 p (.tup [u,w])):=Gr.xl hp
      refine⟨ρ3,gn,s3.tup hp,?_⟩
      rw[rel]
      exact⟨p,_,rfl,bh,aE.mpr ⟨_,_,rfl,rel.gr gn _ _ f2,av.one (rel.gr gn _ _ f4)⟩⟩
   . refine⟨us,ws,g.E4 t1,g.E4 t2,?_⟩;have:i=min xs.length ys.length:=by simpa using ei
     rw[<- d1.len,<- d2.len];omega
 . exact nomatch q⟩⟩
end
structure aS(P:Vg)(w:World)(K:UL)(mg:Str->Option Value)(pg:Tb)(f:String)(d:Df)(st:Stmt)(N:List Str):Prop where
 at_:At K mg (Va f) st
 sc:d6 N d.ps (ax st)
 len:N.length=d.ps.length+d.nl
 bd: ∀(kV doc pm:Value)(an:Option Addr)(cdv ct:Value)(us:List Value),us.length=d.ps.length->Xx (V3 (Va f) (Va f) (cL st) (bj st) (ax st) .none kV doc pm an cdv ct) ⟨us,[]⟩=pure (d.ps.zip us)
 body: ∀(base:Heap)(fa:Addr)(cdv:Value)(A:Vz)(outer:List Env)(s:UR)(H:Hp)(E:XK)(k:Nat),ym (j7 um P w K mg base N (Va f) (ax st) fa cdv A outer s H E).pW pg k (bj st) d.body
section
variable{P:Vg}{w:World}{K:UL}{mg:Str->Option Value}{pg:Tb}
theorem aS.of{f:String}{d:Df}(b:MS){st:Stmt}{N:List Str}(e:d.body=b)(a:At K mg (Va f) st)(S:d6 N d.ps (ax st))(hl:N.length=d.ps.length+d.nl)
  (hb: ∀(kV doc pm:Value)(an:Option Addr)(cdv ct:Value)(us:List Value),us.length=d.ps.length->Xx (V3 (Va f) (Va f) (cL st) (bj st) (ax st) .none kV doc pm an cdv ct) ⟨us,[]⟩=pure (d.ps.zip us))
  (h: ∀(base:Heap)(fa:Addr)(cdv:Value)(A:Vz)(outer:List Env)(s:UR)(H:Hp)(E:XK)(k:Nat),ym (j7 um P w K mg base N (Va f) (ax st) fa cdv A outer s H E).pW pg k (bj st) b):aS P w K mg pg f d st N :=
 ⟨a,S,hl,hb,by rw[e];exact h⟩
theorem aS.good{base:Heap}{f:String}{d:Df}{st:Stmt}{N:List Str}(g:aS P w K mg pg f d st N):jO P w K mg base pg f d:=⟨st,N,g.at_,g.sc,g.len,g.bd,g.body base⟩
theorem Ey{J9:List (String × Df)}(hf:pg.fns=λf=>(J9.find? λp=>p.1 == f).map (·.2))(h: ∀ p∈J9,∃ st N,aS P w K mg pg p.1 p.2 st N)(base:Heap): ∀ f d,pg.fns f=some d->jO P w K mg base pg f d:=λf d e=>by
 rw[hf] at e;dsimp only at e;cases q:J9.find? λp=>p.1 == f with
 | none=>rw[q] at e;exact nomatch e
 | some p =>
  rw[q] at e
  cases e
  obtain⟨st,N,g⟩:=h p (X0 q)
  have:p.1=f:=by simpa using aay q
  rw [<- this]
  exact g.good
theorem LZ {k : Nat} {d : Df} {st : Stmt} {N : List Str} {fa : Addr} {x : Str} (T : Top P w K mg pg) (G : ∀ base f d, pg.fns f = some d -> jO P w K mg base pg f d) (hf : pg.fns "law" = some d) (hx : d.ps = [x]) (g : aS P w K mg pg "law" d st N) (hfa : mg "law" = some (.ref fa)) :
    ∃ fd : WB, (∀ (s : UR) (v : Value), aaa s fd ⟨[v], []⟩ [(x, v)]) /\ ∀ base : Heap, K.In base -> base.Ns Vc mg -> lP P w K mg base um (k + 1) fa fd [x] (xC K pg (k + 1) "law") := by
  obtain ⟨f, fd, F, hm⟩ := g.at_;have e := hfa.symm.trans hm;cases e;refine ⟨fd, λs v => .of_eq ?_, λbase _ _ => ?_⟩
  . have := BV.args F g.bd [v] (by rw [hx]; rfl);rw [this, hx]; rfl
  . have key : ∀ {args : List PV} {h h' : PH} {v : PV}, run pg (k + 1) "law" args h = .ok v h' -> args.length = d.ps.length ∧
        ((∃ w h2, d.body (run pg k) (args.map some ++ List.replicate d.nl none) h = .ok (.rt w) h2 /\ settle h w h2 = .ok v h') ∨
         (∃ e h2, d.body (run pg k) (args.map some ++ UY d.nl none) h = .ok (.nx e) h2 /\ settle h .non h2 = .ok v h')) := λ{args h h' v} q => by
      rw [run, hf] at q;simp only at q;split at q
      . rename_i hn;refine ⟨hn, ?_⟩;split at q
        . rename_i w h2 e; exact .inl ⟨w, h2, e, q⟩
        . rename_i e' h2 e; exact .inr ⟨e', h2, e, q⟩
        . exact nomatch q
        . exact nomatch q
        . exact nomatch q
      . exact nomatch q
    have S := g.sc;rw [hx] at S;refine BV.Th F S (λvs H Q E ⟨ρ, h, args, v, h', _, r, q, _⟩ => by rw [<- r.len, (key q).1, hx]) ?_;rintro fa cdv A outer s H vs Q E hr ⟨ρ, h, args, v, h', sm, r, q, post⟩;have amb : dc (j7 um P w K mg base N (Va "law") (ax st) fa cdv A outer s H E).pW pg k := ⟨hr, rfl, λ_ _ z => z, CA T (G base) k, T.blt, T.con, T.zK⟩
    obtain ⟨t, qt, st'⟩ := (g.body base fa cdv A outer s H E k).h amb;refine ⟨t, qt, ?_⟩;obtain ⟨hn, q⟩ := key q;have he : L2.start N vs = vs.map some ++ UY d.nl none := by
      unfold L2.start;rw [g.len, <- r.len, hn, Z6]
    rw [he];rcases q with ⟨w, h2, e, q⟩ | ⟨e', h2, e, q⟩
    . exact st' ρ h H _ _ _ _ h2 sm (iP r _) e (gL sm q post)
    . exact st' ρ h H _ _ _ _ h2 sm (iP r _) e fun σ' ρ' H' g s' _ => gL sm q post .non ρ' H' g s' (by rw [rel])
end
theorem LQ {K:UL} {pg:Tb} {k:Nat} {E:XK} (hl: ∀ ns:List Int,ns.length<=63->Ok (run pg k "law" [.ref 0] [.lB (ns.map PV.int)]) λv _=>v= .bl true) (H:Hp) (a:Addr) (ns:List Int) (hn:ns.length<=63) (o:Dp H) (q:iY K H a (ns.map V.int)) :
  xC K pg k "law" [.ref a] H (λv _=>v= .bl true) E:=by
 obtain⟨v,h',e,rfl⟩:=hl ns hn;refine⟨[a],_,[.ref 0],_,h',⟨rfl,λi j b oi oj ei ej mi mj _ _=>?_,λi ob b ei eb=>?_⟩,av.one (by rw[rel];exact⟨a,rfl,rfl⟩),e,λv' ρ' H' g s r=>by rw[rel] at r;exact r⟩
 . cases i with
   | zero=>simp at ei;subst ei;exact nomatch mi
   | succ i=>simp at ei
 . cases i with
   | zero =>
    simp at ei eb
    subst ei eb
    exact⟨_,NT o q,av.ints ns⟩
   | succ i=>simp at ei
section
variable{P:Vg}{w:World}{K:UL}{mg:Str->Option Value}{pg:Tb}
theorem FK{conT:List (Str × PV)}(hc:pg.con=λx=>(conT.find? λp=>decide (p.1=x)).map (·.2))(h: ∀ p∈conT,∃ u v',mg p.1=some u/\RelV v' u/\Bv K v'/\ ∀ ρ H,rel K ρ H p.2 v'): ∀ x v,pg.con x=some v-> ∃ u v',mg x=some u/\RelV v' u/\Bv K v'/\ ∀ ρ H,rel K ρ H v v':=λx v e=>by
 rw[hc] at e;dsimp only at e;cases q:conT.find? λp=>decide (p.1=x) with
 | none=>rw[q] at e;exact nomatch e
 | some p =>
  rw[q] at e
  cases e
  have:p.1=x:=by simpa using aay q
  rw[<- this]
  exact h p (X0 q)
theorem HS{dcT:List (Str × List (Key × PV))}(hc:pg.zK=λx=>(dcT.find? λp=>decide (p.1=x)).map (·.2))(h: ∀ p∈dcT,∃ a kws,mg p.1=some (.ref a)/\KD P w K a kws/\ ∀ ρ H,RK K ρ H p.2 kws) :
  ∀ x kvs,pg.zK x=some kvs-> ∃ a kws,mg x=some (.ref a)/\KD P w K a kws/\ ∀ ρ H,V2 (λ(p:Key × PV) (q:Key × V)=>p.1=q.1/\rel K ρ H p.2 q.2) kvs kws:=λx v e=>by
 rw[hc] at e;dsimp only at e;cases q:dcT.find? λp=>decide (p.1=x) with
 | none=>rw[q] at e;exact nomatch e
 | some p =>
  rw[q] at e
  cases e
  have:p.1=x:=by simpa using aay q
  rw[<- this]
  exact h p (X0 q)
inductive CV:PV->Value->Prop where
 | int (i:Int) (t:Tok):CV (.int i) (.int i t)
 | str (x:Str) (t:Tok):CV (.str x) (.str x t)
theorem CV.v{x:PV}{u:Value}(c:CV x u): ∃ v,RelV v u/\ ∀ ρ H,rel K ρ H x v:=by
 cases c with
 | int i t=>exact⟨.int i,⟨t,rfl⟩,λ_ _=>by rw[rel]⟩
 | str z t=>exact⟨.str z,⟨t,rfl⟩,λ_ _=>by rw[rel]⟩
theorem TZ.v: ∀{xs:List PV}{us:List Value},V2 CV xs us-> ∃ vs,Vals vs us/\ ∀ ρ H,av K ρ H xs vs
 | _,_,.nil=>⟨[],.nil,λ_ _=>aO.mpr rfl⟩
 | _,_,.cons c t=>let ⟨v,a,b⟩:=CV.v c;let ⟨vs,d,e⟩:=TZ.v t;⟨v::vs,.cons a d,fun ρ H=>aE.mpr ⟨v,vs,rfl,b ρ H,e ρ H⟩⟩
theorem vW{a:Addr}{d:Option Addr}{us:List Value}{n:Nat}{sl:Array (Option Value)}{xs:List PV}(hl:K.lookup a=some ⟨.type "tuple",d,.seq us.toArray n,sl⟩)(hz:us.length<=sizeLine)(h:V2 CV xs us)(ρ :List Addr)(H:Hp):rel K ρ H (.ktup xs) (.ref a):=by
 obtain⟨vs,r,q⟩:=TZ.v (K:=K) h;rw[rel];exact⟨a,vs,rfl,⟨_,us.toArray,n,hl,rfl,rfl,by simpa using hz,by simpa using r⟩,q ρ H⟩
theorem pG{x:Str}{v:PV}{u:Value}(hm:mg x=some u)(c:CV v u): ∃ u v',mg x=some u/\RelV v' u/\Bv K v'/\ ∀ ρ H,rel K ρ H v v':=let ⟨v',a,b⟩:=CV.v (K:=K) c;⟨u,v',hm,a,(λp e=>by subst e;cases(show u=Ve p from a);cases c),b⟩
theorem uh{x:Str}{a:Addr}{us:List Value}{n:Nat}{sl:Array (Option Value)}{xs:List PV}(hm:mg x=some (.ref a))(hl:K.lookup a=some ⟨.type "tuple",none,.seq us.toArray n,sl⟩)(hz:us.length<=sizeLine)(h:V2 CV xs us) :
  ∃ u v',mg x=some u/\RelV v' u/\Bv K v'/\ ∀ ρ H,rel K ρ H (.ktup xs) v':=⟨_,.ref a,hm,rfl,λp e=>by cases e;exact⟨_,hl,rfl,rfl⟩,vW hl hz h⟩
noncomputable def DV(K:UL)(x:PV)(u:Value):Prop:= ∃ v,RelV v u/\ ∀ ρ H,rel K ρ H x v
theorem jq{x:PV}{u:Value}(c:CV x u):DV K x u:=CV.v c
theorem fA{a:Addr}{d:Option Addr}{us:List Value}{n:Nat}{sl:Array (Option Value)}{xs:List PV}(hl:K.lookup a=some ⟨.type "tuple",d,.seq us.toArray n,sl⟩)(hz:us.length<=sizeLine)(h:V2 CV xs us):DV K (.ktup xs) (.ref a):=⟨.ref a,rfl,vW hl hz h⟩
theorem E8{ls:List (Str × Tok × Value)}{kvs:List (Key × PV)}(h:V2 (λ(p:Key × PV) (l:Str × Tok × Value)=>p.1= .inr l.1/\DV K p.2 l.2.2) kvs ls): ∃ kws,KV kws (ls.map λp=>((WA p.1:Key),p.2.2))/\ ∀ ρ H,RK K ρ H kvs kws:=by
 induction h with
 | nil=>exact⟨[],.nil,λ_ _=> .nil⟩
 | @cons p l ps qs a t ih =>
  obtain⟨kws,r,q⟩:=ih
  obtain⟨e,v,r1,r2⟩:=a
  exact⟨(.inr l.1,v)::kws,.cons ⟨rfl,r1⟩ r,fun ρ H=> .cons ⟨e,r2 ρ H⟩ (q ρ H)⟩
theorem xu{x:Str}{a:Addr}{ls:List (Str × Tok × Value)}{kvs:List (Key × PV)}{ep:Nat}(hm:mg x=some (.ref a))(hl:K.lookup a=some { cls:= .type "dict",data:= .dict (ls.map (Fp w)).toArray ep })(ha:(a == V6)=false)(hn:(ls.map λp=>(WA p.1:Key)).Nodup)
  (h:V2 (λ(p:Key × PV) (l:Str × Tok × Value)=>p.1= .inr l.1/\DV K p.2 l.2.2) kvs ls): ∃ a kws,mg x=some (.ref a)/\KD P w K a kws/\ ∀ ρ H,RK K ρ H kvs kws:=by
 obtain⟨kws,r,q⟩:=E8 h;exact⟨a,kws,hm,QN hl ha hn r,q⟩
end
abbrev Mp(aj:List Value)(n:Nat)(dd:Option Addr)(sl:Array (Option Value)):Obj:={ cls:= .type "tuple",dict:=dd,data:= .seq aj.toArray n,slots:=sl }
theorem xy{k:Int}(h1: -(2 ^ 63)<=k)(h2:k < 2 ^ 63): ¬ (decide (k < -(2 ^ 63))||decide (k ≥ 2 ^ 63))=true:=by
 simp only[XB,decide_eq_true_eq];omega
theorem yb(l:Addr)(aj:List Value)(n:Nat)(k:Int)(u:Tok)(dd:Option Addr)(sl:Array (Option Value))(h1: -(2 ^ 63)<=k)(h2:k < 2 ^ 63)(hs:(aj.toArray.isEmpty||k == 1)=true) :
  Meets (Xv.«tuple.__mul__» ⟨[.ref l,.int k u],[]⟩) (λ_ R s=>s.heap.get? l=some (Mp aj n dd sl)/\R (.ok (.ret (.ref l))) s) :=
 .of_wp λprog w A R s h=>by
  obtain⟨hp,g,d,tk,os⟩:=s;obtain⟨hl,h⟩:=h;have f1:=Z8
  wp_walk using VO hl,Xh hl
  refine Wm (λz=>absurd z (xy h1 h2)) (λ_=>?_)
  wp_walk using VO hl,Xh hl
  refine Wm (λ_=>?_) (λz=>absurd hs z)
  wp_walk using VO hl,Xh hl
  exact⟨_,rfl,h⟩
theorem yE(l:Addr)(aj:List Value)(n:Nat)(k:Int)(u:Tok)(dd:Option Addr)(sl:Array (Option Value))(h1: -(2 ^ 63)<=k)(h2:k<=0)(hs: ¬ (aj.toArray.isEmpty||k == 1)=true) :
  Meets (Xv.«tuple.__mul__» ⟨[.ref l,.int k u],[]⟩) (λ_ R s=>s.heap.get? l=some (Mp aj n dd sl)/\R (.ok (.ret (.ref s.heap.objs.size))) { s with heap:=s.heap.push { cls:= .type "tuple",data:= .seq #[] } }) :=
 .of_wp λprog w A R s h=>by
  obtain⟨hp,g,d,tk,os⟩:=s;obtain⟨hl,h⟩:=h;have f1:=Z8;have hz:(decide (k<=0)||aj.toArray.isEmpty)=true:=by simp[h2]
  wp_walk using VO hl,Xh hl
  refine Wm (λz=>absurd z (xy h1 (by omega))) (λ_=>?_)
  wp_walk using VO hl,Xh hl
  refine Wm (λz=>absurd z hs) (λ_=>?_);refine Wm (λ_=>?_) (λz=>absurd hz z);exact UN (m:=Wh _) (We (UZ ⟨_,rfl,h⟩) (by size_fits))
theorem yi(l:Addr)(aj:List Value)(n:Nat)(k:Int)(u:Tok)(dd:Option Addr)(sl:Array (Option Value))(h1:0 < k)(h2:(aj.length:Int)*k<=100000)(hk:k<=100000)(hs: ¬ (aj.toArray.isEmpty||k == 1)=true) :
  Meets (Xv.«tuple.__mul__» ⟨[.ref l,.int k u],[]⟩) (λ_ R s=>s.heap.get? l=some (Mp aj n dd sl)/\R (.ok (.ret (.ref s.heap.objs.size))) { s with heap:=s.heap.push { cls:= .type "tuple",data:= .seq (UY k.toNat aj).flatten.toArray } }) :=
 .of_wp λprog w A R s h=>by
  obtain⟨hp,g,d,tk,os⟩:=s;obtain⟨hl,h⟩:=h;have f1:=Z8;have hz: ¬ (decide (k<=0)||aj.toArray.isEmpty)=true:=by
   intro z;rw[XB,decide_eq_true_eq] at z;rcases z with z | z
   . omega
   . exact hs (by rw[z];rfl)
  have hc1: ¬ ((aj.toArray.size:Int)*k > (2 ^ 63 - 1) / 8):=by rw[U4];omega
  have hc2: ¬ (Zn ((aj.toArray.size:Int)*k)=true):=by
   unfold Zn;rw[U4,decide_eq_true_eq,show((sizeLine:Nat):Int)=16777216 from by decide];omega
  have e0:abu (λx1 x2=>x1++x2) #[] (UY k.toNat aj.toArray)=(UY k.toNat aj).flatten.toArray:=by
   have:=foldl_rep aj k.toNat [];rw[Vj] at this;exact this
  wp_walk using VO hl,Xh hl
  refine Wm (λz=>absurd z (xy (by omega) (by omega))) (λ_=>?_)
  wp_walk using VO hl,Xh hl
  refine Wm (λz=>absurd z hs) (λ_=>?_);refine Wm (λz=>absurd z hz) (λ_=>?_);refine Wm (λhab=>absurd hab hc1) (λ_=>?_);refine Wm (λhab=>absurd hab hc2) (λ_=>?_);refine UN (m:=Wh _) (We (UZ ⟨_,rfl,?_⟩) ?_)
  . rw[e0];exact h
  . rw[e0];show(UY k.toNat aj).flatten.toArray.size<=sizeLine;rw[U4,len_rep,abG];refine Vn (show aj.length*k.toNat<=100000 from ?_) (by decide);have e1:((aj.length*k.toNat:Nat):Int)=(aj.length:Int)*k:=by rw[ack,abb (by omega)]
    omega
noncomputable def LG(K:UL):R2:=λx y H Q=> ∃ a k xs,x= .ref a/\y= .int k/\fq K H a xs/\(xs.length:Int)*k<=100000/\ -100000<=k/\k<=100000/\(xs=[]\/k=1->Q (.ref a) H)/\(¬ (xs=[]\/k=1)-> ∀ p,H p=none->Q (.ref p) (upd H p (.tup (UY k.toNat xs).flatten)))
theorem D8{X:Cx}:c9 X (Wa .Mult) (LG X.K):=by
 intro pins s σ H x y v u Q I rx ry h;obtain⟨a,k,xs,rfl,rfl,ha,hl,k1,k2,q1,q2⟩:=h;cases(show v=Ve a from rx);obtain⟨t,rfl⟩:=ry;obtain⟨aj,r1,p1,_⟩:=I.tuple ha;obtain⟨⟨cls,dd,data,sl⟩,ho,hc,n,hd⟩:=id p1;simp only at hc hd;subst hc hd;have hlen:=r1.length;refine Zr (T:= "tuple") (U:= "int") (by decide) ⟨_,ho,rfl⟩ (λs'=>aaf s' k t) nz PySem.F.fills_int_mul aaE tf PySem.F.slot_int_index.lookup
  (WL aaE (aaf s k t) PySem.F.entry_int_rmul (PySem.F.args_int_rmul_2 _ _) (pD k t a aj.toArray n dd sl) ⟨ho,rfl,⟨_,ho,rfl⟩,?_⟩)
 have hx:xs=[]↔aj=[]:=(r1.oJ).symm;by_cases hs:xs=[]\/k=1
 . have hb:(aj.toArray.isEmpty||k == 1)=true:=by
    rcases hs with z | z
    . rw[hx.mp z];rfl
    . rw[z];simp
   exact WL WR ⟨_,ho,rfl⟩ Yk (Yc _ _) (yb a aj n k t dd sl (by omega) (by omega) hb) ⟨ho,⟨.ref a,H,I,rfl,q1 hs⟩⟩
 . have hb: ¬ (aj.toArray.isEmpty||k == 1)=true:=λz=>hs (by
    rw[XB] at z;rcases z with z | z
    . exact .inl (hx.mpr (by simpa using z))
    . exact .inr (by simpa using z))
   by_cases hk:0 < k
   . refine WL WR ⟨_,ho,rfl⟩ Yk (Yc _ _) (yi a aj n k t dd sl hk (by rw[<- hlen];exact hl) k2 hb) ⟨ho,?_⟩;refine⟨.ref s.heap.objs.size,_,I.laid (t':=s.toks) (o:= .tup (UY k.toNat xs).flatten) (λb ob q=>UQ _ q) (UT _) ?_,rfl,q2 hs _ (I.bA.fresh (UT _))⟩;refine⟨?_,_,r1.rep k.toNat,qW.new _ _⟩;rw[len_rep,abG];refine Vn (show xs.length*k.toNat<=100000 from ?_) (by decide);have e1:((xs.length*k.toNat:Nat):Int)=(xs.length:Int)*k:=by rw[ack,abb (by omega)]
     omega
   . refine WL WR ⟨_,ho,rfl⟩ Yk (Yc _ _) (yE a aj n k t dd sl (by omega) (by omega) hb) ⟨ho,?_⟩;refine⟨.ref s.heap.objs.size,_,I.laid (t':=s.toks) (o:= .tup (UY k.toNat xs).flatten) (λb ob q=>UQ _ q) (UT _) ?_,rfl,q2 hs _ (I.bA.fresh (UT _))⟩;have:k.toNat=0:=by omega
     rw[this];exact⟨VM _,[],.nil,qW.new _ _⟩
section
variable{X:Cx}{pg:Tb}{k:Nat}
theorem av.rep{K:UL}{ρ :List Addr}{H:Hp}{xs:List PV}{vs:List V}(r:av K ρ H xs vs): ∀(n:Nat),av K ρ H (UY n xs).flatten (UY n vs).flatten
 | 0=>aO.mpr rfl
 | n+1=>by rw[Wz,Wz,Xd,Xd];exact r.app (r.rep n)
noncomputable def dF:PV->PV->PH->RV PV:=λx y h=>match x,y with
 | .int i,.int j=>if (-(2 ^ 64) < i/\i < 2 ^ 64)\/(-(2 ^ 64) < j/\j < 2 ^ 64) then .ok (.int (i*j)) h else .no
 | .tup xs,.int k=>if (xs.length:Int)*k<=100000/\ -100000<=k/\k<=100000 then .ok (.tup (UY k.toNat xs).flatten) h else .no
 | .ref n,.int k=>(match h[n]? with
  | some (.lst xs)=>if (-(2 ^ 63)<=k/\k < 2 ^ 63)/\xs.length*k.toNat<=sizeLine then .ok (.ref h.length) (h++[.lst (UY k.toNat xs).flatten]) else .no
  | _=> .no)
 | _,_=> .no
theorem Kj:dc X pg k-> ∃ r,c9 X (Wa .Mult) r/\nQ X.K r dF:=λ_=>⟨_,Md.or (D8.or NV),fun ρ h H x y x' y' Q v h' s rx ry q P=>by
 unfold dF at q;split at q
 . split at q
   . rename_i hc;cases q;rw[rel] at rx;rw[rel] at ry;exact .inl ⟨_,_,rx,ry,hc,P _ ρ H (.refl _ _) s (by rw[rel])⟩
   . exact nomatch q
 . rename_i xs k;split at q
   . rename_i hc;cases q;have rx':=rx;rw[rel] at rx;rw[rel] at ry;obtain⟨a,us,rfl,e2,e3⟩:=rx;refine .inr (.inl ⟨a,k,us,rfl,ry,.of e2,by rw[<- e3.len];exact hc.1,hc.2.1,hc.2.2,λz=>?_,λz p hp=>oz s (e3.rep _) P p hp⟩);have:(UY k.toNat xs).flatten=xs:=by
      rcases z with z | z
      . subst z;have:xs=[]:=YQ e3.len;subst this;simp
      . rw[z];simp[UY]
     rw[this] at P;exact P _ ρ H (.refl _ _) s rx'
   . exact nomatch q
 . split at q
   . rename_i xs en;split at q
     . rename_i hc;cases q;rw[rel] at ry;obtain⟨a,us,rfl,_,e1,e2⟩:=s.lst en rx;exact .inr (.inr ⟨a,_,us,rfl,ry,e1,hc.1.1,hc.1.2,by rw[<- e2.len];exact hc.2,λp hp=>dY s (e2.rep _) P p hp⟩)
     . exact nomatch q
   . exact nomatch q
 . exact nomatch q⟩
end
section
variable{prog:Vg}{w:World}{A:Vz}{E:Value->UR->Prop}{s:UR}
theorem vL{t:Addr}{us:List Value}{R:List Value->UR->Prop}(ht:s.heap.IsTuple t us.toArray)(fits:us.length<=sizeLine)
  (q:R us { s with heap:=(s.heap.push (Xu "list" #[] 0)).update s.heap.objs.size (WY (· ++us.toArray)) }):wpAny (model prog w) A (collect (.ref t)) R E s:=by
 obtain⟨ob,e1,e2,m,e3⟩:=id ht;have e1':=UQ (Xu "list" #[] 0) e1;have own:(s.heap.push (Xu "list" #[] 0)).get? s.heap.objs.size=some (Xu "list" #[] 0):=U7 _ rfl;have sum:(#[]:Array Value)++us.toArray=us.toArray:=by simp
 unfold collect;refine UN (wpAny_runValue (YV entry_proto_collect' (show wpAny _ _ (newList [] >>= λl=>again (.builtin "list.__iadd__" ⟨[l,.ref t],[]⟩)) _ _ s from ?_)));refine UN (YI (UZ ⟨Code.quiet_builtin _ (by decide +kernel),YV entry_list_iadd' (show wpAny _ _ (YG _ (.ref t) _) _ _ { s with heap:=s.heap.push (Xu "list" #[] 0) } from ?_)⟩));unfold YG;refine UN (XW (T:= "tuple") ⟨ob,e1',e2⟩ (Ss (by simp) (UN (abO e1' e3 (UN (abO own rfl ?_))))));refine S9 (by simp) (UN (ZN own rfl (UZ ?_) (VM _) (by rw[sum,U4];omega)));refine UN (Xh (get?_update_seq own _) ?_);show wpAny _ _ (pure ((#[]:Array Value)++us.toArray).toList) R E _;rw[sum];exact UZ q
theorem nX{t:Addr}{us:List Value}{ss:List Str}{R:Value->UR->Prop}(ht:s.heap.IsTuple t us.toArray)(hS:Y5 us ss)(n64:us.length < 64)
  (q: ∀(out:Array Value)(ss':List Str),Y5 out.toList ss'->ss'.Perm ss->ZA ss'=true->R (.ref (s.heap.objs.size+1)) { s with heap:=ab4 s.heap us out }):wpAny (model prog w) A (call (.builtin "sorted") [.ref t]) R E s:=by
 refine XY acb abI abJ (abK (.ref t)) ?_;unfold Xv.«sorted»;refine UN (m:=checkCount "sorted" 1 1 [Ve t].length) (UZ (UN (vL ht (L2.mh n64) (UN (YI ?_ (L2.mh n64))))));show wpAny _ _ _ _ _ { s with heap:=lL s.heap us };rw[fI];exact UN (Ws (kY (i8 s.heap us) hS n64 λout ss' a1 a2 a3=>UZ ⟨_,rfl,q out ss' a1 a2 a3⟩))
end
section
variable{X:Cx}{pg:Tb}{k:Nat}
noncomputable def HD(K:UL):List V->Hp->VK->Prop:=λxs H Q=> ∃ p ss,xs=[.ref p]/\fq K H p (ss.map V.str)/\ss.length < 64/\ ∀ l ss',H l=none->ss'.Perm ss->ZA ss'=true->Q (.ref l) (upd H l (.lst (ss'.map V.str)))
theorem wF:aT X (.builtin "sorted") (HD X.K):=by
 intro pins s σ H xs us Q I r ⟨p,ss,e,hS,h64,q⟩;subst e;obtain⟨u,rfl,ru⟩:=vals1 r;cases(show u=Ve p from ru);obtain⟨aj,hv,hl,hz⟩:=I.tuple hS;have sa:=gj hv;refine nX hl sa (by rw[sa.length];exact h64) λout ss' a1 a2 a3=>?_;obtain⟨e,he⟩:=abL s.heap aj out;have hlen:(ss'.map V.str).length<=sizeLine:=by rw[UO,a2.length_eq];exact WO (U0 h64 (by decide))
 obtain⟨hn,I'⟩:=I.mC (a:=s.heap.objs.size+1) (o:= .lst (ss'.map V.str)) (t':=s.toks) (λb o e=>abh e) (WH (Zy _)) ⟨hlen,out.toList,e,jF a1,by simpa [Xu] using he⟩;exact⟨.ref _,_,I',rfl,q _ ss' hn a2 a3⟩
noncomputable def bJ:List PV->PH->RV PV:=λxs h=>match xs with
 | [.tup ys]=>(match eZ ys with
  | some ss=>if ss.length < 64 then .ok (.ref h.length) (h++[.lst ((cx ss).map PV.str)]) else .no
  | none=> .no)
 | _=>fM xs h
theorem Af:dc X pg k-> ∃ r,aT X (.builtin "sorted") r/\BY X.K r bJ:=λA=>⟨_,wF.or (wD A.calm),fun ρ h H xs us Q v h' s r q P=>by
 unfold bJ at q;split at q
 . rename_i ys;split at q
   . rename_i ss es;split at q
     . rename_i hl;cases q;obtain⟨u,rfl,r1⟩:=aP r;rw[rel] at r1;obtain⟨a,vs,rfl,e1,e2⟩:=r1;rw[fh es,bX] at e2;subst e2;refine .inl ⟨a,ss,rfl,.of e1,hl,λl ss' hp pm so=>?_⟩;rw[pO pm so];exact dY s (bX.mpr rfl) P l hp
     . exact nomatch q
   . exact nomatch q
 . exact .inr (wG A ρ h H _ us Q v h' s r q P)⟩
end
noncomputable def fin(h:PH)(r:RV Fl):RV PV:=match r with
 | .ok (.rt v) h'=>settle h v h'
 | .ok (.nx _) h'=>settle h .non h'
 | .ok _ _=> .no
 | .ex c us h'=> .ex c us h'
 | .no=> .no
theorem run_eq{pg:Tb}{k:Nat}{f:String}{d:Df}{vs:List PV}{h:PH}(hf:pg.fns f=some d)(hn:vs.length=d.ps.length):run pg (k+1) f vs h=fin h (d.body (run pg k) (vs.map some++UY d.nl none) h):=by
 rw[run,hf];simp only[if_pos hn];rfl
theorem dR{α β :Type}{a: α}{h:PH}{f: α ->PH->RV β}:(RV.ok a h).bind f=f a h:=(rfl)
theorem kC{h h':PH}{v:PV}:fin h (.ok (.rt v) h')=settle h v h':=(rfl)
theorem Hq{h:PH}{c:Prop}[Decidable c]{a b:RV Fl}:fin h (if c then a else b)=if c then fin h a else fin h b:=by split<;>rfl
theorem nG{h:PH}{v:PV}:settle h v h= .ok v h:=by unfold settle;split<;>simp
theorem bC{h g:PH}{v:PV}(hv:v.flat=true):settle h v (h++g)= .ok v h:=by unfold settle;rw[hv,kO];simp
theorem cj{h h':PH}{v:PV}(hv:v.flat=false):settle h v h'= .ok v h':=by unfold settle;rw[hv];rfl
theorem kn{h g:PH}{v:PV}{i:Nat}{o o':PO}(hv:v.flat=true)(e:h[i]?=some o)(m:o.dE=o'.dE)(hu:o'.gW h.length=true):settle h v (h.set i o'++g)= .ok v (h.set i o'):=by
 unfold settle;have:bW h.length h (h.set i o'++g)=true:=by
  have h1:=oM hu h (h++g) i o (kO _ h g) e m
  rwa[aaV _ _ (UP.mp e).1] at h1
 rw[hv,this];simp[List.take_append_of_le_length]
theorem nF{h:PH}{v:PV}{i:Nat}{o o':PO}:settle h v (h.set i o')= .ok v (h.set i o'):=by
 unfold settle;split
 . rw[<- Vr (as:=h) (i:=i) (a:=o'),Z7]
 . rfl
theorem cC{a b:String}:Va a=Va b↔a=b:=by
 refine⟨λe=>?_,λe=>by rw[e]⟩;rw[aap,aap] at e;have e1:a.toList.map abA=b.toList.map abA:=by
  have:=congrArg (λs:Str=>s.cps.toList) e;simpa using this
 have inj: ∀{l m:List Char},l.map abA=m.map abA->l=m:=by
  intro l
  induction l with
  | nil=>intro m h;cases m with | nil=>rfl | cons=>exact nomatch h
  | cons x r ih =>
   intro m h
   cases m with
   | nil=>exact nomatch h
   | cons y t =>
    simp only[acj,US] at h
    have:x=y:=Char.toNat_inj.mp h.1
    rw[this,ih h.2]
 exact String.toList_inj.mp (inj e1)
section
variable{c:CF}{e e1:aq}{h h1:PH}{a b d:ME}{t u:MT}{r:MA}{x y v:PV}{f g:PV->PV->PH->RV PV}{s s':MS}{i n:Nat}
noncomputable def Pp(f:PV->PV->PH->RV PV)(b:ME)(c:CF)(e:aq)(x:PV)(h1:PH):RV PV:=(b c e h1).bind λy h2=>f x y h2
theorem OM:ak f a b c e h=(a c e h).bind (Pp f b c e):=rfl
theorem Lj:Pp f b c e x h1=(b c e h1).bind (f x):=rfl
theorem Q8{f:PV->PH->RV PV}:Au f a c e h=(a c e h).bind f:=rfl
noncomputable def L1(o:Option (Option PV))(h:PH):RV PV:=match o with
 | some (some v)=> .ok v h
 | _=> .no
theorem Mq:aa i c e h=L1 (e[i]?) h:=rfl
theorem Ib:L1 (some (some v)) h= .ok v h:=rfl
theorem Sz:eC v c e h= .ok v h:=rfl
theorem Lx{p:Bool}:uN (.bl p) h= .ok p h:=rfl
noncomputable def DJ(b:ME)(c:CF)(e:aq)(x:Bool)(h1:PH):RV PV:=if x=true then b c e h1 else .ok (.bl false) h1
theorem Mi:Bp a b c e h=((a c e h).bind uN).bind (DJ b c e):=rfl
theorem Iq:DJ b c e true h=b c e h:=rfl
theorem Gj:DJ b c e false h= .ok (.bl false) h:=rfl
theorem Hs{p:Prop}[Decidable p]:DJ b c e (decide p) h=if p then b c e h else .ok (.bl false) h:=by unfold DJ;by_cases q:p<;>simp[q]
noncomputable def PZ(b:ME)(c:CF)(e:aq)(x:Bool)(h1:PH):RV PV:=if x=true then .ok (.bl true) h1 else b c e h1
theorem Pq:Qn a b c e h=((a c e h).bind uN).bind (PZ b c e):=rfl
theorem M6:PZ b c e true h= .ok (.bl true) h:=rfl
theorem LY:PZ b c e false h=b c e h:=rfl
theorem Mo{p:Prop}[Decidable p]:PZ b c e (decide p) h=if p then .ok (.bl true) h else b c e h:=by unfold PZ;by_cases q:p<;>simp[q]
noncomputable def Rv(x:Bool)(h1:PH):RV PV:= .ok (.bl (!x)) h1
theorem NU:FJ a c e h=((a c e h).bind uN).bind Rv:=rfl
theorem HX{p:Bool}:Rv p h= .ok (.bl (!p)) h:=rfl
noncomputable def Kq(a b:ME)(c:CF)(e:aq)(x:Bool)(h1:PH):RV PV:=if x=true then a c e h1 else b c e h1
theorem O5:uO t a b c e h=(t c e h).bind (Kq a b c e):=rfl
theorem Oa:Kq a b c e true h=a c e h:=rfl
theorem LF:Kq a b c e false h=b c e h:=rfl
theorem Kk{p:Prop}[Decidable p]:Kq a b c e (decide p) h=if p then a c e h else b c e h:=by unfold Kq;by_cases q:p<;>simp[q]
theorem Nr{p:Prop}[Decidable p]:Kq a b c e (!decide p) h=if p then b c e h else a c e h:=by unfold Kq;by_cases q:p<;>simp[q]
theorem Lw:aH a c e h=(a c e h).bind uN:=rfl
noncomputable def oS(u:MT)(c:CF)(e:aq)(x:Bool)(h1:PH):RV Bool:=if x=true then u c e h1 else .ok false h1
theorem F2:pV t u c e h=(t c e h).bind (oS u c e):=rfl
theorem Ed:oS u c e true h=u c e h:=rfl
theorem CB:oS u c e false h= .ok false h:=rfl
theorem Dg{p:Prop}[Decidable p]:oS u c e (decide p) h=if p then u c e h else .ok false h:=by unfold oS;by_cases q:p<;>simp[q]
theorem DM{p:Prop}[Decidable p]:oS u c e (!decide p) h=if p then .ok false h else u c e h:=by unfold oS;by_cases q:p<;>simp[q]
noncomputable def yn(u:MT)(c:CF)(e:aq)(x:Bool)(h1:PH):RV Bool:=if x=true then .ok true h1 else u c e h1
theorem K8:Lc t u c e h=(t c e h).bind (yn u c e):=rfl
theorem IK:yn u c e true h= .ok true h:=rfl
theorem IB:yn u c e false h=u c e h:=rfl
theorem Ho{p:Prop}[Decidable p]:yn u c e (decide p) h=if p then .ok true h else u c e h:=by unfold yn;by_cases q:p<;>simp[q]
theorem Gk{p:Prop}[Decidable p]:yn u c e (!decide p) h=if p then u c e h else .ok true h:=by unfold yn;by_cases q:p<;>simp[q]
noncomputable def IV(x:Bool)(h1:PH):RV Bool:= .ok (!x) h1
theorem Gq:qh t c e h=(t c e h).bind IV:=rfl
theorem Dd{p:Bool}:IV p h= .ok (!p) h:=rfl
theorem Hn:bo c e h= .ok true h:=rfl
theorem Gg:ah c e h= .ok [] h:=rfl
noncomputable def Lk(x:PV)(xs:List PV)(h2:PH):RV (List PV):= .ok (x::xs) h2
noncomputable def NC(r:MA)(c:CF)(e:aq)(x:PV)(h1:PH):RV (List PV):=(r c e h1).bind (Lk x)
theorem Dt:ab a r c e h=(a c e h).bind (NC r c e):=rfl
theorem AM:NC r c e x h=(r c e h).bind (Lk x):=rfl
theorem BB{xs:List PV}:Lk x xs h= .ok (x::xs) h:=rfl
theorem xj{α :Type}{n:Nat}{r:RV α}(hn:n<=16777216):mh n r=r:=by unfold mh;exact if_pos hn
noncomputable def Pz(xs:List PV)(h:PH):RV PV:=mh xs.length (.ok (.tup xs) h)
theorem Mh:ao r c e h=(r c e h).bind Pz:=rfl
theorem Fw{xs:List PV}:Pz xs h=mh xs.length (.ok (.tup xs) h):=(rfl)
noncomputable def QK(xs:List PV)(h:PH):RV PV:=mh xs.length (.ok (.ref h.length) (h++[.lst xs]))
theorem MZ:bH r c e h=(r c e h).bind QK:=rfl
theorem FG{xs:List PV}:QK xs h=mh xs.length (.ok (.ref h.length) (h++[.lst xs])):=(rfl)
theorem G0{f:String}:ag f r c e h=(r c e h).bind (c f):=rfl
theorem SX{f:List PV->PH->RV PV}:eB f r c e h=(r c e h).bind f:=rfl
noncomputable def Tc(f:PV->List PV->PH->RV PV)(ty:PV->PH->Bool)(r:MA)(c:CF)(e:aq)(x:PV)(h1:PH):RV PV:=if ty x h1=true then(r c e h1).bind (f x) else .no
theorem SH{f:PV->List PV->PH->RV PV}{ty:PV->PH->Bool}:eM f ty a r c e h=(a c e h).bind (Tc f ty r c e):=rfl
noncomputable def BJ(g:PV->PV->PH->RV PV)(d:ME)(c:CF)(e:aq)(y:PV)(k:Bool)(h3:PH):RV PV:=if k=true then(d c e h3).bind (g y) else .ok (.bl false) h3
noncomputable def Nx(f g:PV->PV->PH->RV PV)(d:ME)(c:CF)(e:aq)(x y:PV)(h2:PH):RV PV:=((f x y h2).bind uN).bind (BJ g d c e y)
noncomputable def Qr(f g:PV->PV->PH->RV PV)(b d:ME)(c:CF)(e:aq)(x:PV)(h1:PH):RV PV:=(b c e h1).bind (Nx f g d c e x)
theorem Qp:uw f g a b d c e h=(a c e h).bind (Qr f g b d c e):=rfl
theorem KH:Qr f g b d c e x h=(b c e h).bind (Nx f g d c e x):=rfl
theorem Ow:Nx f g d c e x y h=((f x y h).bind uN).bind (BJ g d c e y):=rfl
theorem Hd:BJ g d c e y true h=(d c e h).bind (g y):=rfl
theorem Iz:BJ g d c e y false h= .ok (.bl false) h:=rfl
theorem HN{p:Prop}[Decidable p]:BJ g d c e y (decide p) h=if p then(d c e h).bind (g y) else .ok (.bl false) h:=by unfold BJ;by_cases q:p<;>simp[q]
noncomputable def Bm(s:MS)(c:CF)(f:Fl)(h1:PH):RV Fl:=match f with
 | .nx e1=>s c e1 h1
 | f=> .ok f h1
theorem En:ae s s' c e h=(s c e h).bind (Bm s' c):=rfl
theorem yX:Bm s c (.nx e) h=s c e h:=(rfl)
theorem FZ:Bm s c (.rt v) h= .ok (.rt v) h:=rfl
theorem Fo:Bm s c (.bk e) h= .ok (.bk e) h:=rfl
theorem GN:Bm s c (.ct e) h= .ok (.ct e) h:=rfl
theorem Rc:cD c e h= .ok (.nx e) h:=rfl
noncomputable def TR(e:aq)(_:PV)(h1:PH):RV Fl:= .ok (.nx e) h1
theorem IA:cb a c e h=(a c e h).bind (TR e):=rfl
theorem Cu:TR e x h= .ok (.nx e) h:=rfl
noncomputable def P4(v:PV)(h1:PH):RV Fl:= .ok (.rt v) h1
theorem Ot:aw a c e h=(a c e h).bind P4:=rfl
theorem GS:P4 v h= .ok (.rt v) h:=rfl
noncomputable def w6(s s':MS)(c:CF)(e:aq)(x:Bool)(h1:PH):RV Fl:=if x=true then s c e h1 else s' c e h1
theorem Mr:bR t s s' c e h=(t c e h).bind (w6 s s' c e):=rfl
theorem F3:w6 s s' c e true h=s c e h:=rfl
theorem G7:w6 s s' c e false h=s' c e h:=rfl
theorem GJ{p:Prop}[Decidable p]:w6 s s' c e (decide p) h=if p then s c e h else s' c e h:=by unfold w6;by_cases q:p<;>simp[q]
theorem GV{p:Prop}[Decidable p]:w6 s s' c e (!decide p) h=if p then s' c e h else s c e h:=by unfold w6;by_cases q:p<;>simp[q]
noncomputable def Kn(e1:aq)(h2:PH):RV Fl:= .ok (.nx e1) h2
noncomputable def Km(g:MG)(e:aq)(v:PV)(h1:PH):RV Fl:=(g v e h1).bind Kn
theorem Oe{g:MG}:ai a g c e h=(a c e h).bind (Km g e):=rfl
theorem HY:Km (gN i) e v h= .ok (.nx (e.set i (some v))) h:=rfl
theorem Hu{n:Nat}{gs:List PV->aq->PH->RV aq}:Km (gT n gs) e v h=(gT n gs v e h).bind Kn:=rfl
theorem Mx:Kn e h= .ok (.nx e) h:=rfl
theorem O7:gN i v e h= .ok (e.set i (some v)) h:=rfl
theorem RG{n:Nat}{gs:List PV->aq->PH->RV aq}{xs:List PV}(hn:xs.length=n):gT n gs (.tup xs) e h=gs xs e h:=if_pos hn
theorem Ll{gs:List PV->aq->PH->RV aq}{x1 x2:PV}:gT 2 gs (.tup [x1,x2]) e h=gs [x1,x2] e h:=rfl
theorem Kr{gs:List PV->aq->PH->RV aq}{x1 x2 x3:PV}:gT 3 gs (.tup [x1,x2,x3]) e h=gs [x1,x2,x3] e h:=rfl
theorem LR{gs:List PV->aq->PH->RV aq}{x1 x2 x3 x4:PV}:gT 4 gs (.tup [x1,x2,x3,x4]) e h=gs [x1,x2,x3,x4] e h:=rfl
theorem JY{gs:List PV->aq->PH->RV aq}{x1 x2 x3 x4 x5:PV}:gT 5 gs (.tup [x1,x2,x3,x4,x5]) e h=gs [x1,x2,x3,x4,x5] e h:=rfl
theorem Nh:cv [] e h= .ok e h:=rfl
theorem MF{g:MG}{r:List PV->aq->PH->RV aq}{t:List PV}:au g r (v::t) e h=(g v e h).bind (r t):=rfl
noncomputable def DO(f:PV->PV->PV->PH->RV Unit)(e:aq)(v x y:PV)(h3:PH):RV Fl:=(f x y v h3).bind λ_ h4=> .ok (.nx e) h4
noncomputable def Ek(f:PV->PV->PV->PH->RV Unit)(i:ME)(c:CF)(e:aq)(v x:PV)(h2:PH):RV Fl:=(i c e h2).bind (DO f e v x)
noncomputable def Je(f:PV->PV->PV->PH->RV Unit)(o i:ME)(c:CF)(e:aq)(v:PV)(h1:PH):RV Fl:=(o c e h1).bind (Ek f i c e v)
theorem Oj{f:PV->PV->PV->PH->RV Unit}{o i:ME}:gF f o i a c e h=(a c e h).bind (Je f o i c e):=rfl
theorem Hz{f:PV->PV->PV->PH->RV Unit}{o i:ME}:Je f o i c e v h=(o c e h).bind (Ek f i c e v):=rfl
theorem Ip{f:PV->PV->PV->PH->RV Unit}{i:ME}:Ek f i c e v x h=(i c e h).bind (DO f e v x):=rfl
noncomputable def Uo(e:aq)(_:Unit)(h:PH):RV Fl:= .ok (.nx e) h
theorem Hg{f:PV->PV->PV->PH->RV Unit}:DO f e v x y h=(f x y v h).bind (Uo e):=rfl
theorem KG{u:Unit}:Uo e u h= .ok (.nx e) h:=rfl
noncomputable def bE(g:MG)(s:MS)(c:CF)(x:PV)(e:aq)(h:PH):RV Fl:=(g x e h).bind (s c)
noncomputable def fork(g:MG)(s:MS)(c:CF)(e:aq)(it:lA)(h1:PH):RV Fl:=bN it (bE g s c) it.items e h1
theorem tW{i:MI}{g:MG}:j5 i g s c e h=(i c e h).bind (fork g s c e):=(rfl)
theorem oF{g:MG}{it:lA}:fork g s c e it h=bN it (bE g s c) it.items e h:=(rfl)
theorem DR{g:MG}:bE g s c x e h=(g x e h).bind (s c):=(rfl)
theorem Nl:jZ a c e h=(a c e h).bind s9:=(rfl)
theorem Lb{xs:List PV}:s9 (.tup xs) h= .ok ⟨none,xs⟩ h:=(rfl)
theorem LB{xs:List PV}:s9 (.ktup xs) h= .ok ⟨none,xs⟩ h:=(rfl)
noncomputable def Su(n:Nat)(h:PH)(o:Option PO):RV lA:=match o with
 | some (.lst xs)=> .ok ⟨some n,xs⟩ h
 | some (.lB xs)=> .ok ⟨some n,xs⟩ h
 | _=> .no
theorem xX{n:Nat}:s9 (.ref n) h=Su n h (h[n]?):=by
 have e:s9 (.ref n) h=(match de h n with | some xs=> .ok ⟨some n,xs⟩ h | none=> .no):=rfl;rw[e];unfold de Su;generalize h[n]?=oo;cases oo with
 | none=>rfl
 | some o=>cases o<;>rfl
theorem yO{n:Nat}{xs:List PV}:Su n h (some (.lst xs))= .ok ⟨some n,xs⟩ h:=(rfl)
theorem Ln{n:Nat}{xs:List PV}:Su n h (some (.lB xs))= .ok ⟨some n,xs⟩ h:=(rfl)
noncomputable def So (vs:List PV) (h1:PH):RV lA:=match vs with
 | [.int j]=>if -(2 ^ 62)<=j∧j < 2 ^ 62 then .ok ⟨none,az 0 j.toNat⟩ h1 else .no
 | _=> .no
theorem t8 : dy r c e h = (r c e h).bind So := by
  unfold dy;generalize r c e h = z;cases z with
  | ok a b =>
    rw [cK, cK]
    unfold So
    split
    . rfl
    . rename_i hx
      first
      | rfl
      | (split
         . exact absurd rfl (hx _)
         . rfl)
  | ex a b d => rfl
  | no => rfl
theorem oI {j:Int} (hj: -4611686018427387904<=j∧j < 4611686018427387904):So [.int j] h= .ok ⟨none,az 0 j.toNat⟩ h:=by
 unfold So;exact if_pos (by omega)
noncomputable def RY (x y:PV) (h2:PH):RV lA:=match x.seq?,y.seq? with
 | some xs,some ys=> .ok ⟨none,(xs.zip ys).map λp=> .tup [p.1,p.2]⟩ h2
 | _,_=> .no
noncomputable def Ua(b:ME)(c:CF)(e:aq)(x:PV)(h1:PH):RV lA:=(b c e h1).bind (RY x)
theorem NN:NJ a b c e h=(a c e h).bind (Ua b c e):=(rfl)
theorem Ie:Ua b c e x h=(b c e h).bind (RY x):=(rfl)
theorem Cd{xs ys:List PV}:RY (.ktup xs) (.tup ys) h= .ok ⟨none,(xs.zip ys).map λp=> .tup [p.1,p.2]⟩ h:=(rfl)
theorem B9{xs ys:List PV}:RY (.tup xs) (.tup ys) h= .ok ⟨none,(xs.zip ys).map λp=> .tup [p.1,p.2]⟩ h:=(rfl)
noncomputable def Sq(it:lA)(step:PV->aq->PH->RV Fl)(xs:List PV)(f:Fl)(h1:PH):RV Fl:=match f with
 | .nx e1=>bN it step xs e1 h1
 | .ct e1=>bN it step xs e1 h1
 | .bk e1=> .ok (.nx e1) h1
 | .rt v=> .ok (.rt v) h1
theorem gS{xs:List PV}{step:PV->aq->PH->RV Fl}:bN ⟨none,xs⟩ step [] e h= .ok (.nx e) h:=(rfl)
theorem fw{xs ys:List PV}{step:PV->aq->PH->RV Fl}:bN ⟨none,xs⟩ step (y::ys) e h=(step y e h).bind (Sq ⟨none,xs⟩ step ys):=(rfl)
theorem tZ{it:lA}{step:PV->aq->PH->RV Fl}(hf:it.ko h=true):bN it step [] e h= .ok (.nx e) h:=by rw[bN,if_pos hf]
theorem t9{it:lA}{ys:List PV}{step:PV->aq->PH->RV Fl}(hf:it.ko h=true):bN it step (y::ys) e h=(step y e h).bind (Sq it step ys):=by rw[bN,if_pos hf];rfl
theorem cB{it:lA}{xs:List PV}{step:PV->aq->PH->RV Fl}:Sq it step xs (.nx e) h=bN it step xs e h:=(rfl)
theorem zJ{it:lA}{xs:List PV}{step:PV->aq->PH->RV Fl}:Sq it step xs (.rt v) h= .ok (.rt v) h:=(rfl)
noncomputable def M3(ys:List PV)(h2:PH):RV PV:= .ok (.ref h2.length) (h2++[.lst ys])
noncomputable def QU(k:Nat)(g:MG)(t:MT)(a:ME)(c:CF)(e:aq)(it:lA)(h1:PH):RV PV:=(iq it (aV k g t a c e) it.items [] h1).bind M3
theorem RF{k:Nat}{i:MI}{g:MG}:ji k i g t a c e h=(i c e h).bind (QU k g t a c e):=(rfl)
theorem Kb{k:Nat}{g:MG}{it:lA}:QU k g t a c e it h=(iq it (aV k g t a c e) it.items [] h).bind M3:=(rfl)
theorem Ko{ys:List PV}:M3 ys h= .ok (.ref h.length) (h++[.lst ys]):=(rfl)
noncomputable def CP(y:PV)(h4:PH):RV (Option PV):= .ok (some y) h4
noncomputable def vx(a:ME)(c:CF)(e2:aq)(b:Bool)(h3:PH):RV (Option PV):=if b=true then(a c e2 h3).bind CP else .ok none h3
noncomputable def Rx(t:MT)(a:ME)(c:CF)(e2:aq)(h2:PH):RV (Option PV):=(t c e2 h2).bind (vx a c e2)
theorem PL{k:Nat}{g:MG}:aV k g t a c e x h=(g x (e++UY k none) h).bind (Rx t a c):=(rfl)
theorem Nk:Rx t a c e h=(t c e h).bind (vx a c e):=(rfl)
theorem Gz:vx a c e true h=(a c e h).bind CP:=(rfl)
theorem HQ:vx a c e false h= .ok none h:=(rfl)
theorem Ff{p:Prop}[Decidable p]:vx a c e (decide p) h=if p then(a c e h).bind CP else .ok none h:=by unfold vx;by_cases q:p<;>simp[q]
theorem FY{p:Prop}[Decidable p]:vx a c e (!decide p) h=if p then .ok none h else(a c e h).bind CP:=by unfold vx;by_cases q:p<;>simp[q]
theorem KR:CP y h= .ok (some y) h:=(rfl)
theorem dw{α :Type}{it:lA}(hf:it.ko h=true){step:PV->PH->RV (Option PV)}{f: α ->Option PV}{g: α ->PV}: ∀(l:List α)(ys:List PV),(∀ x∈l,step (g x) h= .ok (f x) h)->l.length+ys.length<=16777216->iq it step (l.map g) ys h= .ok (ys++l.filterMap f) h
 | [],ys,_,_=>by rw[Vh,iq,if_pos hf];simp
 | x::xs,ys,hs,hl=>by
  have hl':ys.length < sizeLine:=by rw[UU] at hl;show ys.length < 16777216;omega
  rw[US,iq,if_pos ⟨hf,hl'⟩,hs x U3,cK];cases q:f x with
  | none=>exact(dw hf xs ys (λy m=>hs y (U6 _ m)) (by rw[UU] at hl;omega)).trans (by rw[WE q])
  | some y=>exact(dw hf xs (ys++[y]) (λz m=>hs z (U6 _ m)) (by rw[UU] at hl;simp;omega)).trans (by rw[WG q];simp)
end
section
variable{h:PH}{i j:Int}{a b:Str}{x y z w u v:PV}{r xs ys:List PV}{p q:Bool}{n m:Nat}
theorem GH:rH (.int i) (.int j) h= .ok (.int (i - j)) h:=(rfl)
theorem GF:aX (.int i) (.int j) h= .ok (.int (i+j)) h:=(rfl)
theorem jJ(hl:xs.length+ys.length<=16777216):aX (.tup xs) (.tup ys) h= .ok (.tup (xs++ys)) h:=xj hl
theorem oG(e1:h[n]?=some (.lst xs))(e2:h[m]?=some (.lst ys))(hl:xs.length+ys.length<=16777216):aX (.ref n) (.ref m) h= .ok (.ref h.length) (h++[.lst (xs++ys)]):=by
 unfold aX;simp only[e1,e2];exact xj (by simpa using hl)
theorem GU(hj:0 < j):mY (.int i) (.int j) h= .ok (.int (i % j)) h:=by unfold mY p2;simp[hj,E1,cK]
theorem ES(hj:0 < j/\j < 1073741824):pR (.int i) (.int j) h= .ok (.int (i / j)) h:=by unfold pR p2;simp[hj,E1,cK]
theorem sZ(hj:0<=j/\j<=1000000/\i.natAbs < 18446744073709551616):IM (.int i) (.int j) h= .ok (.int (i ^ j.toNat)) h:=by
 unfold IM p2;simp only;rw[if_pos (by exact⟨hj.1,hj.2.1,by have:=hj.2.2;omega⟩)];rfl
theorem Ft(hi: -18446744073709551616 < i/\i < 18446744073709551616):dF (.int i) (.int j) h= .ok (.int (i*j)) h:=if_pos (.inl (by omega))
theorem ud(hj: -18446744073709551616 < j/\j < 18446744073709551616):dF (.int i) (.int j) h= .ok (.int (i*j)) h:=if_pos (.inr (by omega))
theorem NA:Bd (.int i) (.int j) h= .ok (.bl (decide (i < j))) h:=(rfl)
theorem LS:Si (.int i) (.int j) h= .ok (.bl (decide (i<=j))) h:=(rfl)
theorem mJ:OC (.int i) (.int j) h= .ok (.bl (decide (j < i))) h:=(rfl)
theorem yz:Tu (.int i) (.int j) h= .ok (.bl (decide (j<=i))) h:=(rfl)
theorem HB:jW (.str a) (.str b) h= .ok (.bl (decide (a=b))) h:=by simp[jW,alike,kc]
theorem Gv:jW (.int i) (.int j) h= .ok (.bl (decide (i=j))) h:=by simp[jW,alike,kc]
theorem FF:jT (.str a) (.str b) h= .ok (.bl (!decide (a=b))) h:=by simp[jT,alike,kc,gM]
theorem FP:jT (.int i) (.int j) h= .ok (.bl (!decide (i=j))) h:=by simp[jT,alike,kc,gM]
theorem tR:aB (.tup (x::r)) (.int 0) h= .ok x h:=by
 simp only[aB,d9,pJ];rw[if_pos (by decide),if_pos (by simp only[UU];omega)];rfl
theorem j6:aB (.tup (x::y::r)) (.int 1) h= .ok y h:=by
 simp only[aB,d9,pJ];rw[if_pos (by decide),if_pos (by simp only[UU];omega)];rfl
theorem wm:aB (.tup (x::y::z::r)) (.int 2) h= .ok z h:=by
 simp only[aB,d9,pJ];rw[if_pos (by decide),if_pos (by simp only[UU];omega)];rfl
theorem Bh:aB (.tup (x::y::z::w::r)) (.int 3) h= .ok w h:=by
 simp only[aB,d9,pJ];rw[if_pos (by decide),if_pos (by simp only[UU];omega)];rfl
theorem uo:aB (.tup (x::y::z::w::u::r)) (.int 4) h= .ok u h:=by
 simp only[aB,d9,pJ];rw[if_pos (by decide),if_pos (by simp only[UU];omega)];rfl
theorem JX:aB (.tup (x::y::z::w::u::v::r)) (.int 5) h= .ok v h:=by
 simp only[aB,d9,pJ];rw[if_pos (by decide),if_pos (by simp only[UU];omega)];rfl
theorem kq(e:d9 xs i=some v):aB (.tup xs) (.int i) h= .ok v h:=by simp only[aB,e]
theorem eP{α :Type}{xs:List α}{i:Int}{n:Nat}(e:i=(n:Int)){v: α}(q:xs[n]?=some v):d9 xs i=some v:=by
 have hl:n < xs.length:=(UP.mp q).1;subst e;unfold d9 pJ;rw[if_pos (by omega),if_pos (by omega)];simpa using q
noncomputable def OD(y:PV)(h:PH)(o:Option PO):RV PV:=match o with
 | some (.dct kvs)=>(match iR y with
  | some k=>(match cw kvs k with | some v=> .ok v h | none=> .no)
  | none=> .no)
 | some (.lst xs)=>(match y with
  | .int i=>(match d9 xs i with | some v=> .ok v h | none=> .no)
  | _=> .no)
 | some (.lB xs)=>(match y with
  | .int i=>(match d9 xs i with | some v=> .ok v h | none=> .no)
  | _=> .no)
 | none=> .no
theorem xZ:aB (.ref n) y h=OD y h (h[n]?):=by
 unfold OD;simp only[aB]
 all_goals (generalize h[n]?=oo;rcases oo with _ | o<;>first | rfl | (cases o<;>rfl))
noncomputable def OX(h:PH)(o:Option PV):RV PV:=match o with
 | some v=> .ok v h
 | none=> .no
theorem Q4{kvs:List (Key × PV)}:OD (.str a) h (some (.dct kvs))=OX h (cw kvs (.inr a)):=(rfl)
theorem Eo:OD (.int i) h (some (.lst xs))=OX h (d9 xs i):=(rfl)
theorem Qk:OD (.int i) h (some (.lB xs))=OX h (d9 xs i):=(rfl)
theorem IE:OX h (some v)= .ok v h:=(rfl)
theorem sQ{k:Key}{kvs:List (Key × PV)}:cw ((k,v)::kvs) k=some v:=by simp[cw]
theorem vB{k k':Key}{kvs:List (Key × PV)}(ne:k'≠k):cw ((k',v)::kvs) k=cw kvs k:=by simp[cw,ne]
noncomputable def wX(n:Nat)(y v:PV)(h:PH)(o:Option PO):RV Unit:=match o with
 | some (.dct kvs)=>(match iR y with
  | some k=>if kvs.length < sizeLine then .ok () (h.set n (.dct (ia kvs k v))) else .no
  | none=> .no)
 | some (.lst xs)=>(match y with
  | .int i=>(match pJ xs.length i with | some j=> .ok () (h.set n (.lst (xs.set j v))) | none=> .no)
  | _=> .no)
 | _=> .no
theorem OU:fG (.ref n) y v h=wX n y v h (h[n]?):=by
 unfold wX;simp only[fG]
 all_goals (generalize h[n]?=oo;rcases oo with _ | o<;>first | rfl | (cases o<;>rfl))
theorem lU{kvs:List (Key × PV)}(hl:kvs.length < 16777216):wX n (.str a) v h (some (.dct kvs))= .ok () (h.set n (.dct (ia kvs (.inr a) v))):=if_pos hl
theorem nE{m:Nat}(e:i=(m:Int))(hm:m < xs.length):wX n (.int i) v h (some (.lst xs))= .ok () (h.set n (.lst (xs.set m v))):=by
 have:pJ xs.length i=some m:=by unfold pJ;rw[if_pos (by omega),if_pos (by omega)];congr 1;omega
 simp only[wX,this]
noncomputable def Tz(n:Nat)(v:PV)(h:PH)(o:Option PO):RV PV:=match o with
 | some (.lst xs)=>if xs.length < sizeLine then .ok .non (h.set n (.lst (xs++[v]))) else .no
 | _=> .no
theorem Ov:aM (.ref n) [v] h=Tz n v h (h[n]?):=by
 unfold Tz;simp only[aM]
 all_goals (generalize h[n]?=oo;rcases oo with _ | o<;>first | rfl | (cases o<;>rfl))
theorem kM(hl:xs.length < 16777216):Tz n v h (some (.lst xs))= .ok .non (h.set n (.lst (xs++[v]))):=if_pos hl
theorem len_T:b6 [.tup xs] h= .ok (.int xs.length) h:=(rfl)
theorem P0(e:h[n]?=some (.lB xs)):b6 [.ref n] h= .ok (.int xs.length) h:=by simp[b6,itemsOf,de,e]
theorem F8:aC [.tup xs] h= .ok (.tup xs) h:=(rfl)
theorem NI:zP [.tup xs] h= .ok (.ref h.length) (h++[.lst xs]):=(rfl)
theorem QM:vK [.bl p] h= .ok (.int (if p then 1 else 0)) h:=(rfl)
theorem QD:ip false .non h= .ok (.bl true) h:=(rfl)
theorem ON:ip false (.int i) h= .ok (.bl false) h:=by simp[ip]
theorem IZ:ip false (.tup xs) h= .ok (.bl false) h:=by simp[ip]
theorem K9:ip true .non h= .ok (.bl false) h:=(rfl)
section
variable{c:CF}{e:aq}{d k1 k2:ME}{rr:MA}{kvs:List (Key × PV)}{ff:PV->List PV->PH->RV PV}
noncomputable def SQ(a:Str)(z:PV)(h:PH)(o:Option PO):RV PV:=match o with
 | some (.dct kvs)=> .ok ((cw kvs (.inr a)).getD z) h
 | _=> .no
noncomputable def Sr(x y z:PV)(h3:PH):RV PV:=match x,iR y with
 | .ref n,some key=>(match h3[n]? with
  | some (.dct kvs)=> .ok ((cw kvs key).getD z) h3
  | _=> .no)
 | _,_=> .no
noncomputable def RN(b:ME)(c:CF)(e:aq)(x y:PV)(h2:PH):RV PV:=(b c e h2).bind (Sr x y)
noncomputable def Tg(a b:ME)(c:CF)(e:aq)(x:PV)(h1:PH):RV PV:=if gM h1 x=true then(a c e h1).bind (RN b c e x) else .no
noncomputable def S6(a b:ME)(c:CF)(e:aq)(n:Nat)(h:PH)(o:Option PO):RV PV:=match o with
 | some (.dct _)=>(a c e h).bind (RN b c e (.ref n))
 | _=> .no
theorem K6:yQ d k1 k2 c e h=(d c e h).bind (Tg k1 k2 c e):=(rfl)
theorem Gf:Tg k1 k2 c e (.ref n) h=S6 k1 k2 c e n h (h[n]?):=by
 unfold Tg S6 gM;cases q:h[n]? with
 | none=>simp[q]
 | some o=>cases o<;>simp[q]
theorem Ee:S6 k1 k2 c e n h (some (.dct kvs))=(k1 c e h).bind (RN k2 c e (.ref n)):=(rfl)
theorem Fj:RN k2 c e x y h=(k2 c e h).bind (Sr x y):=(rfl)
theorem FV:Sr (.ref n) (.str a) z h=SQ a z h (h[n]?):=by
 unfold Sr SQ iR;simp only
theorem EK:SQ a z h (some (.dct kvs))= .ok ((cw kvs (.inr a)).getD z) h:=(rfl)
noncomputable def Tn(f:PV->List PV->PH->RV PV)(r:MA)(c:CF)(e:aq)(n:Nat)(h:PH)(o:Option PO):RV PV:=match o with
 | some (.lst _)=>(r c e h).bind (f (.ref n))
 | _=> .no
theorem O0:Tc ff bw rr c e (.ref n) h=Tn ff rr c e n h (h[n]?):=by
 unfold Tc Tn bw;cases q:h[n]? with
 | none=>simp[q]
 | some o=>cases o<;>simp[q]
theorem Lu:Tn ff rr c e n h (some (.lst xs))=(rr c e h).bind (ff (.ref n)):=(rfl)
noncomputable def JZ(ys:List PV)(h:PH)(o:Option (List (Key × PV))):RV PV:=match o with
 | some kvs=>if ys.length < sizeLine then .ok (.ref h.length) (h++[.dct (cy [] kvs)]) else .no
 | none=> .no
theorem M5:vZ [.tup ys] h=JZ ys h (jo ys):=by
 unfold vZ JZ;cases q:jo ys<;>simp[q]
theorem D3(hl:ys.length < 16777216):JZ ys h (some kvs)= .ok (.ref h.length) (h++[.dct (cy [] kvs)]):=if_pos hl
theorem Cy:sN c e h= .ok (.ref h.length) (h++[.dct []]):=(rfl)
end
noncomputable def Tq(h:PH)(o:Option PO):RV PV:=match o with
 | some (.lst xs)=> .ok (.tup xs) h
 | some (.lB xs)=> .ok (.tup xs) h
 | _=> .no
theorem lT:aC [.ref n] h=Tq h (h[n]?):=by
 unfold Tq;cases q:h[n]? with
 | none=>simp[aC,de,q]
 | some o=>cases o<;>simp[aC,de,q]
theorem jv:Tq h (some (.lst xs))= .ok (.tup xs) h:=(rfl)
noncomputable def SR(h:PH)(o:Option PO):RV PV:=match o with
 | some (.lst xs)=> .ok (.int xs.length) h
 | some (.lB xs)=> .ok (.int xs.length) h
 | some (.dct kvs)=> .ok (.int kvs.length) h
 | _=> .no
theorem zv:b6 [.ref n] h=SR h (h[n]?):=by
 unfold SR;cases q:h[n]? with
 | none=>simp[b6,itemsOf,de,q]
 | some o=>cases o<;>simp[b6,itemsOf,de,q]
theorem ui:SR h (some (.lst xs))= .ok (.int xs.length) h:=(rfl)
theorem ja{a:Str}: ∀{ss:List Str},((ss.map PV.str).any λz=>OE z (.str a))=decide (a∈ss)
 | []=>by simp
 | x::t=>by
  rw[US,Wi,ja];by_cases e:x=a
  . subst e;simp[OE]
  . have e': ¬ a=x:=λz=>e z.symm;simp[OE,e,e']
theorem all_strs: ∀{ss:List Str},((ss.map PV.str).all gy)=true
 | []=>rfl
 | x::t=>by rw[US,X8,all_strs];rfl
theorem xB{ss:List Str}:jz (.str a) (.tup (ss.map PV.str)) h= .ok (.bl (decide (a∈ss))) h:=by
 have:isIn (.str a) (.tup (ss.map PV.str)) h=some (decide (a∈ss)):=by
  unfold isIn;simp only[itemsOf,all_strs,gy,Ya,if_true,ja]
 unfold jz;rw[this]
theorem zD{ss:List Str}:kI (.str a) (.tup (ss.map PV.str)) h= .ok (.bl (!decide (a∈ss))) h:=by
 have:isIn (.str a) (.tup (ss.map PV.str)) h=some (decide (a∈ss)):=by
  unfold isIn;simp only[itemsOf,all_strs,gy,Ya,if_true,ja]
 unfold kI;rw[this]
theorem in_K{ss:List Str}:jz (.str a) (.ktup (ss.map PV.str)) h= .ok (.bl (decide (a∈ss))) h:=by
 have:isIn (.str a) (.ktup (ss.map PV.str)) h=some (decide (a∈ss)):=by
  unfold isIn;simp only[itemsOf,all_strs,gy,Ya,if_true,ja]
 unfold jz;rw[this]
section
variable{c:CF}{e:aq}{d:ME}{kvs:List (Key × PV)}
noncomputable def TJ(kvs:List (Key × PV))(x:PV)(h:PH):RV PV:=match iR x with
 | some key=>(match cw kvs key with
  | some v=> .ok v h
  | none=> .no)
 | none=> .no
theorem Qy:rJ kvs d c e h=(d c e h).bind (TJ kvs):=(rfl)
theorem LD:TJ kvs (.str a) h=OX h (cw kvs (.inr a)):=(rfl)
end
section
variable{c:CF}{e:aq}{d:ME}{l uu:MO}
noncomputable def MY(uu:MO)(c:CF)(e:aq)(x:PV)(lo:Option Int)(h:PH):RV PV:=(uu c e h).bind (E2 x lo)
noncomputable def Rz(l uu:MO)(c:CF)(e:aq)(x:PV)(h:PH):RV PV:=(l c e h).bind (MY uu c e x)
theorem Qt:rL d l uu c e h=(d c e h).bind (Rz l uu c e):=(rfl)
theorem KO:Rz l uu c e x h=(l c e h).bind (MY uu c e x):=(rfl)
theorem LI{lo:Option Int}:MY uu c e x lo h=(uu c e h).bind (E2 x lo):=(rfl)
theorem PU:eF c e h= .ok none h:=(rfl)
noncomputable def Ug(v:PV)(h1:PH):RV (Option Int):=match v with
 | .int i=> .ok (some i) h1
 | _=> .no
theorem Qd:cY d c e h=(d c e h).bind Ug:=(rfl)
theorem ML:Ug (.int i) h= .ok (some i) h:=(rfl)
theorem QC{lo hi:Option Int}:E2 (.tup xs) lo hi h= .ok (.tup (fF xs lo hi)) h:=(rfl)
noncomputable def S8(lo hi:Option Int)(h:PH)(o:Option PO):RV PV:=match o with
 | some (.lst xs)=> .ok (.ref h.length) (h++[.lst (fF xs lo hi)])
 | some (.lB xs)=> .ok (.ref h.length) (h++[.lst (fF xs lo hi)])
 | _=> .no
theorem Rb{lo hi:Option Int}:E2 (.ref n) lo hi h=S8 lo hi h (h[n]?):=by
 unfold S8;cases q:h[n]? with
 | none=>simp[E2,de,q]
 | some o=>cases o<;>simp[E2,de,q]
theorem JQ{lo hi:Option Int}:S8 lo hi h (some (.lst xs))= .ok (.ref h.length) (h++[.lst (fF xs lo hi)]):=(rfl)
theorem jC{lo:Int}(h0:0<=lo):fF xs (some lo) none=xs.drop lo.toNat:=by
 have e:lo=((lo.toNat:Nat):Int):=by omega
 unfold fF;rw[e,HT.oH,HT.lM];simp only[VH];rcases aam lo.toNat xs.length with z | z
 . rw[Yf z];exact Wv (by rw[Wn];omega)
 . rw[YF z,V9 (UT _),V9 z];simp
theorem mW{hi:Int}(h0:0<=hi):fF xs none (some hi)=xs.take hi.toNat:=by
 have e:hi=((hi.toNat:Nat):Int):=by omega
 unfold fF;rw[e,HT.oH,HT.lM];simp only[VH,aaR,abM];rcases aam hi.toNat xs.length with z | z
 . rw[Yf z]
 . rw[YF z,Wv (UT _),Wv z]
end
variable{o o':PO}{g:PH}{k:Nat}
theorem cq:(h++(o::g))[h.length]?=some o:=by rw[Vq (UT _)];simp
theorem br:(h++g)[h.length+k]?=g[k]?:=by rw[Vq (by omega)];congr 1;omega
theorem ay(hn:n < h.length):(h++g)[n]?=h[n]?:=Vy hn
theorem jS:(h++g).set h.length o=h++g.set 0 o:=by rw[aaF _ _ (UT _)];simp
theorem yd:(h++g).set (h.length+k) o=h++g.set k o:=by rw[aaF _ _ (by omega)];congr 2;omega
theorem aG(e:h[n]?=some o):n < h.length:=(UP.mp e).1
end
section
variable{h:PH}{i j:Int}{a b:Str}{x y z w u v:PV}{r xs ys:List PV}{p q:Bool}{n m:Nat}
theorem Ma:tD [.int i,.ty "bool"] h= .ok (.bl false) h:=(rfl)
theorem N2:tD [.int i,.ty "int"] h= .ok (.bl true) h:=(rfl)
theorem qQ:d9 (x::r) 0=some x:=by simp only[d9,pJ];rw[if_pos (by decide),if_pos (by simp only[UU];omega)];rfl
theorem xI:d9 (x::y::r) 1=some y:=by simp only[d9,pJ];rw[if_pos (by decide),if_pos (by simp only[UU];omega)];rfl
theorem xO:d9 (x::y::z::r) 2=some z:=by simp only[d9,pJ];rw[if_pos (by decide),if_pos (by simp only[UU];omega)];rfl
theorem EJ:d9 (x::y::z::w::r) 3=some w:=by simp only[d9,pJ];rw[if_pos (by decide),if_pos (by simp only[UU];omega)];rfl
end
section
variable{c:CF}{e:aq}{h h1:PH}{a b:ME}{r:MP}{x y v:PV}{kvs:List (Key × PV)}{key:Key}{s:Str}{i:Int}{n:Nat}
noncomputable def Oy(n:Nat)(kvs:List (Key × PV))(h1:PH):RV PV:=if h1[n]?=some (.dct [])/\kvs.length<=15 then .ok (.ref n) (h1.set n (.dct (cy [] kvs))) else .no
noncomputable def Sv(key:Key)(v:PV)(kvs:List (Key × PV))(h3:PH):RV (List (Key × PV)):= .ok ((key,v)::kvs) h3
noncomputable def SM(key:Key)(r:MP)(c:CF)(e:aq)(v:PV)(h2:PH):RV (List (Key × PV)):=(r c e h2).bind (Sv key v)
noncomputable def T1(b:ME)(r:MP)(c:CF)(e:aq)(x:PV)(h1:PH):RV (List (Key × PV)):=match iR x with
 | some key=>(b c e h1).bind (SM key r c e)
 | none=> .no
theorem lC:wo r c e h=(r c e (h++[.dct []])).bind (Oy h.length):=(rfl)
theorem qi:C9 c e h= .ok [] h:=(rfl)
theorem oO:fC a b r c e h=(a c e h).bind (T1 b r c e):=(rfl)
theorem lu:T1 b r c e (.str s) h=(b c e h).bind (SM (.inr s) r c e):=(rfl)
theorem ph:SM key r c e v h=(r c e h).bind (Sv key v):=(rfl)
theorem px:Sv key v kvs h= .ok ((key,v)::kvs) h:=(rfl)
theorem Du(h1:h[n]?=some (.dct []))(h2:kvs.length<=15):Oy n kvs h= .ok (.ref n) (h.set n (.dct (cy [] kvs))):=if_pos ⟨h1,h2⟩
theorem zc(h2:kvs.length<=15):Oy h.length kvs (h++[.dct []])= .ok (.ref h.length) (h++[.dct (cy [] kvs)]):=by
 rw[Du cq h2,jS];rfl
end
section
variable{α :Type}{p:List α ->Prop}
theorem UE(h:p []): ∀ us:List α,us.length=0->p us:=λus e=>by rw[List.length_eq_zero_iff.mp e];exact h
theorem Rf{n:Nat}(h: ∀ a: α,∀ us:List α,us.length=n->p (a::us)): ∀ us:List α,us.length=n+1->p us:=λus e=>by
 cases us with
 | nil=>simp at e
 | cons a r=>exact h a r (by simpa using e)
theorem T7(h: ∀ a,p [a]): ∀ us:List α,us.length=1->p us:=Rf λa=>UE (h a)
theorem TL(h: ∀ a b,p [a,b]): ∀ us:List α,us.length=2->p us:=Rf λa=>T7 (h a)
theorem Uh(h: ∀ a b c,p [a,b,c]): ∀ us:List α,us.length=3->p us:=Rf λa=>TL (h a)
theorem Um(h: ∀ a b c d,p [a,b,c,d]): ∀ us:List α,us.length=4->p us:=Rf λa=>Uh (h a)
theorem UI(h: ∀ a b c d e,p [a,b,c,d,e]): ∀ us:List α,us.length=5->p us:=Rf λa=>Um (h a)
end
section
variable{X:Cx}{pg:Tb}{k:Nat}{e iter:Expr}{ma:ME}{mt:MT}{mI:MI}{scope:Scope}{ifs:List Expr}{pos spos py vp wp tp:Pos}{y v w:Str}{i j m n:Nat}
theorem GC.of{K:UL}(h:aa5 n i=true):GC K n (fW i) (gN i):=Il (Nat.le_of_ble_eq_true h)
theorem Mt(hi:JI X pg k (.Name v vp) iter mI)
  (hb: ∀ cl C s₀ H₀ ex pn,(dc X pg k->QG (fJ X [v] scope cl C s₀ H₀ ex pn) (.Name v vp) (fW m))/\JF (fJ X [v] scope cl C s₀ H₀ ex pn) pg k ifs mt/\JE (fJ X [v] scope cl C s₀ H₀ ex pn) pg k e ma)
  (hm:aa5 X.N.length m=true:=by rfl) (hkind:scope.kind= .function:=by rfl) (hlc:i6 scope.names X.env.scope.names X.N [v]=true:=by rfl) (hs: ∀ x,VP iter X.env x=pure x:=by intro _;rfl) :
  JE X pg k (.ListComp e [⟨.Name v vp,iter,ifs,0⟩] scope pos) (ji 1 mI (gN m) mt ma):=vt [v] hkind hlc hi hb (GC.of hm) hs
theorem Kh(hi:JI X pg k (.Tuple [.Name v vp,.Name w wp] j tp) iter mI)
  (hb: ∀ cl C s₀ H₀ ex pn,(dc X pg k->QG (fJ X [v,w] scope cl C s₀ H₀ ex pn) (.Tuple [.Name v vp,.Name w wp] j tp) (xF X.K 2 (nM (fW m) (nM (fW n) BO))))/\JF (fJ X [v,w] scope cl C s₀ H₀ ex pn) pg k ifs mt/\JE (fJ X [v,w] scope cl C s₀ H₀ ex pn) pg k e ma)
  (hm:aa5 X.N.length m=true:=by rfl) (hn:aa5 X.N.length n=true:=by rfl) (hkind:scope.kind= .function:=by rfl) (hlc:i6 scope.names X.env.scope.names X.N [v,w]=true:=by rfl) (hs: ∀ x,VP iter X.env x=pure x:=by intro _;rfl) :
  JE X pg k (.ListComp e [⟨.Tuple [.Name v vp,.Name w wp] j tp,iter,ifs,0⟩] scope pos) (ji 2 mI (gT 2 (au (gN m) (au (gN n) cv))) mt ma):=vt [v,w] hkind hlc hi hb (EM (kZ (GC.of hm) (kZ (GC.of hn) zq))) hs
theorem Ob(hN:X.N.Nodup)(hi:JI X pg k (.Name v vp) iter mI)
  (hb: ∀ cl C s₀ H₀ ex pn,(dc X pg k->QG (fJ X [v] scope cl C s₀ H₀ ex pn) (.Name v vp) (fW m))/\JF (fJ X [v] scope cl C s₀ H₀ ex pn) pg k ifs mt/\JE (fJ X [v] scope cl C s₀ H₀ ex pn) pg k e ma)
  (hm:aa5 X.N.length m=true:=by rfl) (hiy:X.N[i]?=some y:=by rfl) (hy:Loc X.env.scope y:=by first | exact ab1 rfl | exact aaQ rfl) (hkind:scope.kind= .function:=by rfl) (hlc:i6 scope.names X.env.scope.names X.N [v]=true:=by rfl)
  (hsw:XF (.ListComp e [⟨.Name v vp,iter,ifs,0⟩] scope pos) (some (.Name y py)) spos.line X.env=pure true:=by rfl) (hs: ∀ x,VP iter X.env x=pure x:=by intro _;rfl)
  (hf:X.fn y=true\/X.env.scope.names.lookup y=some .local:=by first | exact .inl rfl | exact .inr rfl | assumption) :
  JS X pg k (.Assign [.Name y py] (.ListComp e [⟨.Name v vp,iter,ifs,0⟩] scope pos) spos) (ai (ji 1 mI (gN m) mt ma) (gN i)):=vh [v] i hkind hlc hN hiy hy hi hb (GC.of hm) hsw hs hf
theorem J8(hN:X.N.Nodup)(hi:JI X pg k (.Tuple [.Name v vp,.Name w wp] j tp) iter mI)
  (hb: ∀ cl C s₀ H₀ ex pn,(dc X pg k->QG (fJ X [v,w] scope cl C s₀ H₀ ex pn) (.Tuple [.Name v vp,.Name w wp] j tp) (xF X.K 2 (nM (fW m) (nM (fW n) BO))))/\JF (fJ X [v,w] scope cl C s₀ H₀ ex pn) pg k ifs mt/\JE (fJ X [v,w] scope cl C s₀ H₀ ex pn) pg k e ma)
  (hm:aa5 X.N.length m=true:=by rfl) (hn:aa5 X.N.length n=true:=by rfl) (hiy:X.N[i]?=some y:=by rfl) (hy:Loc X.env.scope y:=by first | exact ab1 rfl | exact aaQ rfl) (hkind:scope.kind= .function:=by rfl) (hlc:i6 scope.names X.env.scope.names X.N [v,w]=true:=by rfl)
  (hsw:XF (.ListComp e [⟨.Tuple [.Name v vp,.Name w wp] j tp,iter,ifs,0⟩] scope pos) (some (.Name y py)) spos.line X.env=pure true:=by rfl) (hs: ∀ x,VP iter X.env x=pure x:=by intro _;rfl)
  (hf:X.fn y=true\/X.env.scope.names.lookup y=some .local:=by first | exact .inl rfl | exact .inr rfl | assumption) :
  JS X pg k (.Assign [.Name y py] (.ListComp e [⟨.Tuple [.Name v vp,.Name w wp] j tp,iter,ifs,0⟩] scope pos) spos) (ai (ji 2 mI (gT 2 (au (gN m) (au (gN n) cv))) mt ma) (gN i)):=vh [v,w] i hkind hlc hN hiy hy hi hb (EM (kZ (GC.of hm) (kZ (GC.of hn) zq))) hsw hs hf
end
end P3
end
section
open PySem PySem.W PyProof.Rows
namespace L2
open PySem PySem.Spec PyProof.Rows
theorem ly{a:Str}: ∀{us:List Value}{ss:List Str},Y5 us ss-> ∀(i:Nat)(hu:i < us.length)(hs:i < ss.length),Y7 a us[i]=(ss[i] == a)
 | _,_,.nil,i,hu,_=>absurd hu (YW i)
 | _,_,.cons x t h,0,_,_=>rfl
 | _,_,.cons x t h,i+1,hu,hs=>ly h i (aaq hu) (aaq hs)
theorem xK{a:Str}{ss:List Str}(h:a∈ss):ss.idxOf a < ss.length:=List.idxOf_lt_length_iff.mpr h
section
variable{X:Cx}
noncomputable def FR:V->List V->Hp->VK->Prop:=λx vs H Q=> ∃(l:Addr)(ss:List Str)(a:Str),x= .ref l/\vs=[.str a]/\H l=some (.lst (ss.map V.str))/\a∈ss/\Q .non (upd H l (.lst ((ss.map V.str).eraseIdx (ss.idxOf a))))
theorem AN:RQ X "list.remove" FR:=by
 intro pins s σ H x vs v us Q I rx rv h;obtain⟨l,ss,a,rfl,rfl,hH,ha,q⟩:=h;cases rx;obtain⟨u,rfl,t,rfl⟩:=rv.one;obtain⟨z,aj,n,r,hl,e⟩:=I.Aw hH;have sa:=gj r;have ln:aj.length=ss.length:=by rw[<- hl,UO]
 have hj:=xK ha;refine WL F.slot_list_remove ⟨_,e,rfl⟩ F.entry_list_remove (F.args_list_remove_2 _ _)
  (MeetsSeq.list_remove l aj.toArray n (.str a t) (Y7 a) (λy hy=>eq_isStrOf a t sa y (by simpa using hy)) (ss.idxOf a) (by rw[U4,ln];exact hj) ?_ ?_ (by rw[U4,<- hl];exact z)) ⟨e,?_⟩
 . show Y7 a (aj[ss.idxOf a]'(by rw[ln];exact hj))=true;rw[ly sa _ _ hj,abB hj,beq_self_eq_true]
 . intro m hm hlt;have hm':m < ss.length:=by rw[U4,ln] at hm;exact hm
   show Y7 a (aj[m]'(by rw[ln];exact hm'))=false;rw[ly sa _ _ hm'];have:=aar (p:=(· == a)) (xs:=ss) (i:=m) hlt
   simpa using this
 . refine⟨.non,_,I.RE (its':=aj.eraseIdx (ss.idxOf a)) hH e ?_ (r.eraseIdx _) ?_,rfl,q⟩
   . show aj.toArray.eraseIdxIfInBounds (ss.idxOf a)=(aj.eraseIdx (ss.idxOf a)).toArray;rw[List.eraseIdxIfInBounds_toArray]
   . have:=rX (ss.map V.str) (ss.idxOf a);omega
end
end L2
namespace P3
open PySem PySem.Spec PyProof.Rows L2
section
variable{X:Cx}{pg:Tb}{k:Nat}
theorem rU{α β :Type}(f: α -> β): ∀(l:List α)(i:Nat),(l.map f).eraseIdx i=(l.eraseIdx i).map f
 | [],i=>by simp
 | a::r,0=>rfl
 | a::r,i+1=>by simp[rU f r i]
noncomputable def qY(ss:List Str)(a:Str):List Str:=ss.eraseIdx (ss.idxOf a)
noncomputable def lg:PV->List PV->PH->RV PV:=λx vs h=>match x,vs with
 | .ref n,[.str a]=>(match h[n]? with
  | some (.lst xs)=>(match eZ xs with
   | some ss=>if a∈ss then .ok .non (h.set n (.lst ((qY ss a).map PV.str))) else .no
   | none=> .no)
  | _=> .no)
 | _,_=> .no
theorem Eb:dc X pg k-> ∃ r,Ju X "list.remove" r/\RL X.K "list" r lg bw:=λA=>⟨_,AN,fun ρ h H x x' s r e=>pI s r e,fun ρ h H x x' xs us Q v h' s rx rs q P=>by
 unfold lg at q;split at q
 . rename_i n a;split at q
   . rename_i ys en;split at q
     . rename_i ss es;split at q
       . rename_i ha;cases q;obtain⟨b,vs,rfl,ea,e1,e2⟩:=s.lst en rx;obtain⟨u,rfl,r⟩:=aP rs;rw[rel] at r;subst r;rw[fh es,bX] at e2;subst e2;have g:Gr ρ H ρ (upd H b (.lst ((ss.map V.str).eraseIdx (ss.idxOf a)))):=Gr.write (.inl ⟨_,e1⟩);refine⟨b,ss,a,rfl,rfl,e1,ha,P _ ρ _ g (s.write en ea rfl rfl ⟨_,bh,?_⟩) (by rw[rel])⟩;rw[bX,qY,rU]
       . exact nomatch q
     . exact nomatch q
   . exact nomatch q
 . exact nomatch q⟩
end
section
variable{h:PH}{n:Nat}{ss:List Str}{a:Str}{y:PV}{r:List PV}
theorem SW(e:h[n]?=some (.lst (ss.map PV.str)))(ha:a∈ss):lg (.ref n) [.str a] h= .ok .non (h.set n (.lst ((qY ss a).map PV.str))):=by
 simp only[lg,e,cG,if_pos ha]
end
section
variable{X:Cx}{pg:Tb}{k j n:Nat}{es:List Expr}{t:uP}{pos:Pos}{vars:List Str}{scope:Scope}{cl:List (Str × Addr)}{C:Addr}{s0:UR}{H0:Hp}{ex:List Addr}{pn:List (Addr × Obj)}
theorem Ii(A:dc X pg k)(h:N0 (fJ X vars scope cl C s0 H0 ex pn) es t)(hn:(V4 es (fJ X vars scope cl C s0 H0 ex pn).env).length=n:=by rfl)(hst:(V4 es (fJ X vars scope cl C s0 H0 ex pn).env).findIdx? (·.1)=none:=by rfl):QG (fJ X vars scope cl C s0 H0 ex pn) (.Tuple es j pos) (xF X.K n t):=Ez A.calm h hn hst
end
theorem DK{prog:Vg}{w:World}{A:Vz}(hh:A.handled=none){it l:Addr}(hne:l≠it)(us:Array Value) :
  Draws prog w A it [it,l] us.size (λi v=>us[i]?=some v) (λi h=>h.IsTupleIter it l i/\h.IsTuple l us) where
 live:=λ_ _ z=>by obtain⟨⟨o,e,_⟩,_⟩:=z;exact⟨o,e⟩
 frame:=λ_ _ _ z kp=>by
  obtain⟨⟨o,e,r⟩,⟨o2,e2,r2⟩⟩:=z;exact⟨⟨o,kp it (by simp) o e,r⟩,⟨o2,kp l (by simp) o2 e2,r2⟩⟩
 item:=λi s Q E hi z q=>iC z.1 z.2 (x:=us[i]) (by simp [hi]) λh' a b=>q _ h' s.toks (by simp [hi]) ⟨a,by obtain ⟨o2,e2,r2⟩:=z.2;exact ⟨o2,b.extBut _ _ hne e2,r2⟩⟩ b
 done:=λs Q E z q=>mV hh z.1 z.2 (by simp) q
noncomputable def Ub (K : UL) (a : Addr) : It :=
  ⟨λi H => ∃ xs x, fq K H a xs /\ xs[i]? = some x,
   λi H v H' => ∃ p x, H p = none /\ v = .ref p /\ H' = upd H p (.tup [.int (i : Int), x]) /\ ∀ xs, fq K H a xs -> xs[i]? = some x,
   λi H => ∃ xs, fq K H a xs /\ xs.length = i⟩
theorem Br {P:Vg} {w:World} {K:UL} {els:List Expr} {j:Nat} {pos:Pos} {e it a:Addr} (hei:e≠it) (hea:e≠a) (hai:a≠it) :
  Turn P w K (.Tuple els j pos) (Ub K a) [e,it] e (λi h=>(∃ old,IsEnum h e it i old)∧h.IsTupleIter it a i) where
 mem:=by simp
 obj:=λi h z b hb=>by
  obtain⟨⟨old,e1⟩,⟨o4,e4,_,d4⟩⟩:=z;simp only[Vm,or_false,U1] at hb;rcases hb with rfl | rfl
  . exact⟨_,e1,λv q=>nomatch q⟩
  . exact⟨_,e4,λv q=>by rw[d4] at q;exact nomatch q⟩
 keep:=λi h h' z kp=>by
  obtain⟨⟨old,e1⟩,⟨o4,e4,d4⟩⟩:=z;exact⟨⟨old,kp _ (by simp) _ e1⟩,⟨o4,kp _ (by simp) _ e4,d4⟩⟩
 item:=by
  intro X hP hw hK hc i pins s σ H E I hf z hg;subst hP hw hK;obtain⟨xs,x,s1,ex⟩:=hg;obtain⟨us,ru,pu,_⟩:=I.tuple s1;obtain⟨ux,eu,rx⟩:=ru.get ex;obtain⟨⟨old,e1⟩,hit⟩:=z;have hlt:i < us.toArray.size:=by simpa using(UP.mp eu).1
  refine wpAny_pyNext_enum_itemD (DK (A:=X.A.in1) (show X.A.in1.handled=none from I.ok.hd hc) hai us.toArray) e1 ⟨hit,pu⟩ hlt hei (by simp[hei,hea]) λy h1 tk f1 f2 f3 f4 f5 f6=>⟨_,rfl,?_⟩
  have hy:y=ux:=by
   have h2:us.toArray[i]?=some ux:=by simpa using eu
   rw[h2] at f1;cases f1;rfl
  subst hy;refine wpAny_letOwnedTupleGo_enum (s:={ s with heap:=h1,toks:=tk+1 }) f2 λh2 g1 g2=>?_;have ex1:=g2.extBut;have elt:e < s.heap.objs.size:=U2 e1;have new:h2.get? s.heap.objs.size=some { cls:= .type "tuple",data:= .seq #[.int i tk,y] }:=ex1 _ _ (WQ elt) f4;have hn:H s.heap.objs.size=none:=I.bA.fresh (UT _);have I2:Inv X pins σ (upd H s.heap.objs.size (.tup [.int (i:Int),x])) { s with heap:=h2,toks:=tk+1 }:=by
   refine rY (turned:=[e,it]) I (λb o nb q=>?_) (λb hb=>hf b hb) (UT _) ?_
   . simp only[U1,Vm,or_false,not_or] at nb;exact ex1 _ _ nb.1 (f6 b o nb.1 nb.2 q)
   . exact⟨by show 2<=sizeLine;decide,[.int i tk,y],.cons ⟨tk,rfl⟩ (.cons rx .nil),_,new,rfl,_,rfl,rfl⟩
  refine⟨.ref s.heap.objs.size,upd H s.heap.objs.size (.tup [.int (i:Int),x]),I2,rfl,⟨_,x,hn,rfl,rfl,λxs' q=>?_⟩,?_,λb hb=>?_⟩
  . rw[I.jH q s1];exact ex
  . obtain⟨⟨o4,e4,c4⟩,_⟩:=f3;exact⟨⟨_,by simpa using g1⟩,⟨o4,ex1 _ _ hei.symm e4,c4⟩⟩
  . have hb0:=(hf b hb).1;have: ∃ o,s.heap.get? b=some o:=by
     obtain⟨o4,e4,_⟩:=hit;simp only[Vm,or_false,U1] at hb;rcases hb with rfl | rfl
     . exact⟨_,e1⟩
     . exact⟨_,e4⟩
    obtain⟨o,eo⟩:=this;rw[aD (Vf (U2 eo))];exact hb0
 done:=by
  intro X hP hw hK hc i pins s σ H E I hf z hg;subst hP hw hK;obtain⟨xs,s1,he⟩:=hg;obtain⟨us,ru,pu,_⟩:=I.tuple s1;obtain⟨⟨old,e1⟩,hit⟩:=z;have ei:i=us.toArray.size:=by have:=ru.length;simp;omega
  rw[ei] at hit;refine wpAny_pyNext_enum_endD (DK (A:=X.A.in1) (show X.A.in1.handled=none from I.ok.hd hc) hai us.toArray) e1 ⟨hit,pu⟩ λh1 kp=>⟨rfl,Ef (turned:=[e,it]) (t':=s.toks) I (λb o nb q=>?_) λb hb=>hf b hb⟩
  simp only[U1,Vm,or_false,not_or] at nb;exact kp b o nb.2 q
 self:=λA i s Q E z h=>by
  obtain⟨⟨old,e1⟩,_⟩:=z;exact wpAny_pyIter_enum e1 h
abbrev Qf(h:Heap)(a:Addr):Heap:=Wr (Wr h (tI a)) { cls:= .type "enumerate",data:= .fields #[.none,.bool false,.ref h.objs.size,abo 0,.none,.none] }
theorem tV(a:Addr)(us:Array Value):Meets (Xv.«enumerate.__new__» ⟨[.type "enumerate",.ref a],[]⟩) (λ_ R u=>u.heap.IsTuple a us/\R (.ok (.ret (.ref (u.heap.objs.size+1)))) { u with heap:=Qf u.heap a }) :=
 .of_wp λprog w A R u hu=>by
  obtain⟨hp,gg,dd,tk,os⟩:=u;obtain⟨ha,hr⟩:=hu;have sub:=sub_enumerate;have fa:abR (acf ⟨hp,gg,dd,tk,os⟩) a us:=ha
  wp_walk using WD fa
  refine wpAny_stack_any λz=>?_;refine UZ ?_;have fin1: ∀ v u,v=Ve (hp.objs.size+1)->u=(⟨Qf hp a,gg,dd,tk,os⟩:UR)->R (.ok (.ret v)) u:=λv u e1 e2=>by rw[e1,e2];exact hr
  split
  . rename_i c _ _ _ _ _;cases c == XO "enumerate" <;>(wp_walk using WD fa;exact⟨_,rfl,fin1 _ _ (by simp[VW]) rfl⟩)
  . wp_walk using WD fa
    exact⟨_,rfl,fin1 _ _ (by simp[VW]) rfl⟩
section
variable{X:Cx}{pg:Tb}{k:Nat}{a:Expr}{ma:ME}{p pos:Pos}{els:List Expr}{j:Nat}{tpos:Pos}
theorem Nc(h:Heap)(l:Addr):(∃ old,IsEnum (Qf h l) (h.objs.size+1) h.objs.size ((0:Nat):Int) old)/\(Qf h l).IsTupleIter h.objs.size l 0:=by
 have n1:(Wr h (tI l)).objs.size=h.objs.size+1:=VW ..;refine⟨⟨.none,?_⟩,⟨tI l,?_,rfl,rfl⟩⟩
 . rw[<- n1];exact U7 _ rfl
 . refine UQ _ ?_;exact U7 _ rfl
noncomputable def KI(K:UL)(ta:TA):TI:=fun σ H R=>ta σ H λvs H1=> ∃ a1 xs,vs=[.ref a1]/\fq K H1 a1 xs/\R (Ub K a1) H1
theorem Im{ta:TA}(hg:Gl X "enumerate")(hm:X.mg "enumerate" =none)(ha:PA X [a] ta)(hs:VD [a] X.env=[(false,eval a X.env)]) :
  PI X (.Tuple els j tpos) (.Call (.Name "enumerate" p) [a] [] pos) (KI X.K ta):=by
 intro pins s σ H R I h;refine Call_ (ju I hg hm boot_enumerate (V5 (cJ (ha pos pins s σ H _ I h) λus s1 ⟨vs,H1,I1,r1,a1,xs,e,q1,q⟩=>?_) (by rw[hs];rfl) (by rfl)));subst e;cases r1 with
 | cons ra rr =>
  cases rr
  cases ra
  obtain⟨u1,_,p1,_⟩:=I1.tuple q1
  refine callType_new F.called_enumerate (by decide) (F.typeCall_enumerate_1 _) (F.newCall_enumerate_1 _) (λobj=>F.args_object_init_2 obj _) F.entry_enumerate_new (tV a1 u1.toArray) ⟨p1,?_⟩
  obtain⟨⟨old,Z⟩,W⟩:=Nc s1.heap a1
  have lt1:a1 < s1.heap.objs.size:=by obtain⟨_,e,_⟩:=p1;exact U2 e
  refine⟨⟨_,Z,rfl⟩,wpAny_pyIter_enum Z ?_⟩
  have kp: ∀ c o,s1.heap.get? c=some o->(Qf s1.heap a1).get? c=some o:=λc o e=>UQ _ (UQ _ e)
  refine⟨s1.heap.objs.size+1,[s1.heap.objs.size+1,s1.heap.objs.size],_,_,H1,rfl,I1.kept (t':=s1.toks) kp,Br (WQ (XU _)) (WQ (Xe lt1)) (Vf lt1),⟨⟨old,Z⟩,W⟩,λc hc=>?_,q⟩
  have hle:s1.heap.objs.size<=c:=by
   simp only[U1,Vm,or_false] at hc;rcases hc with rfl | rfl<;>omega
  exact I1.Gm hle (I1.bA.fresh hle)
noncomputable def EF(a:ME):MI:=λc e h=>(a c e h).bind λx h1=>match x.seq? with
 | some xs=> .ok ⟨none,xs.zipIdx.map λq=> .tup [.int (q.2:Int),q.1]⟩ h1
 | none=> .no
theorem Ik(hg:Gl X "enumerate")(ha:JE X pg k a ma)(hs1:noStar a=true:=by rfl):JI X pg k (.Tuple els j tpos) (.Call (.Name "enumerate" p) [a] [] pos) (EF ma):=⟨λA=>by
 obtain⟨_,q1,s1⟩:=ha.h A;refine⟨_,⟨Im hg (A.blt _ (by decide +kernel)) (qk q1 yw hs1).h (by rw[bY hs1];rfl)⟩,fun ρ h H e σ R it h' s r q P=>?_⟩;obtain⟨x,h1,e1,q⟩:=bind_eq.mp q;refine s1 ρ h H e σ _ x h1 s r e1 λx' ρ1 H1 g1 z1 r1=>?_;split at q
 . rename_i xs ex;cases q;obtain⟨a1,us,rfl,t1,d1⟩:=rel.seq ex r1;refine⟨a1,us,rfl,t1,P ρ1 H1 _ g1 z1 λi ρ3 h3 H3 g s3 _=>⟨λv ev=>?_,λei=>?_⟩⟩
   . rw[U8] at ev;cases ez:xs.zipIdx[i]? with
     | none=>rw[ez] at ev;exact nomatch ev
     | some pr =>
      rw[ez] at ev
      cases ev
      have zx:xs[i]?=some pr.1/\pr.2=i:=by
       rw[List.getElem?_zipIdx] at ez;cases ey:xs[i]? with
       | none=>rw[ey] at ez;exact nomatch ez
       | some y=>rw[ey] at ez;cases ez;exact⟨rfl,by simp⟩
      obtain⟨u,f1,f2⟩:=(av.gr g _ _ d1).get zx.1
      refine⟨⟨us,u,g.E4 t1,f1⟩,?_⟩
      rintro v' H' ⟨p,u',hp,rfl,rfl,k1⟩
      have:=k1 us (g.E4 t1)
      rw[f1] at this;cases this
      have gn:Gr ρ3 H3 ρ3 (upd H3 p (.tup [.int (i:Int),u])):=Gr.xl hp
      refine⟨ρ3,gn,s3.tup hp,?_⟩
      rw[rel]
      exact⟨p,_,rfl,bh,aE.mpr ⟨_,_,rfl,by rw[rel,zx.2],av.one (rel.gr gn _ _ f2)⟩⟩
   . refine⟨us,g.E4 t1,?_⟩;have:i=xs.length:=by simpa using ei
     rw[<- d1.len];exact this.symm
 . exact nomatch q⟩
end
section
variable{c:CF}{e:aq}{h:PH}{a:ME}{xs:List PV}
noncomputable def Up(x:PV)(h1:PH):RV lA:=match x.seq? with
 | some xs=> .ok ⟨none,xs.zipIdx.map λq=> .tup [.int (q.2:Int),q.1]⟩ h1
 | none=> .no
theorem GD:EF a c e h=(a c e h).bind Up:=(rfl)
theorem Ck:Up (.tup xs) h= .ok ⟨none,xs.zipIdx.map λq=> .tup [.int (q.2:Int),q.1]⟩ h:=(rfl)
end
section
variable{X:Cx}{pg:Tb}{k:Nat}
noncomputable def Rp(K:UL):List V->Hp->VK->Prop:=λxs H Q=> ∃ p d,xs=[.ref p]/\bU K H d (.ref p)/\d.showable=true/\d.hasDict=false/\d.depth<=64/\d.shown.length<=sizeLine/\Q (.str d.shown) H
theorem Dh(gd:X.A.guards=some [])(hu:X.A.units+66 < cLine):aT X (.builtin "repr") (Rp X.K):=by
 intro pins s σ H xs us Q I r h;obtain⟨p,d,rfl,hd,h1,h2,h3,h4,q⟩:=h;obtain⟨u,rfl,ru⟩:=vals1 r;cases(show u=Ve p from ru);obtain⟨as,ra⟩:=bU.reads I d _ _ hd ru;exact repr_of_reads' ra h1 (λz=>by rw[h2] at z;exact nomatch z) gd (by omega) (λ_ _ z=>z) (λh' u tk kp=>⟨.str d.shown,H,I.kept kp,⟨u,rfl⟩,q⟩) h4
theorem zp: ∀(n b:Nat)(vs:List Value),vs.length=n->(∀ j v,vs[j]?=some v-> ∃ t,v=XT ((b+j:Nat):Int) t)->Vals ((acg b n).map λi:Nat=>V.int (i:Int)) vs
 | 0,b,vs,hl,_=>by
  cases vs with
  | nil=>exact .nil
  | cons v r=>exact nomatch hl
 | n+1,b,vs,hl,h=>by
  cases vs with
  | nil=>exact nomatch hl
  | cons v r =>
   rw[ab5,US]
   refine .cons ?_ (zp n (b+1) r (by simpa using hl) λj v e=>?_)
   . obtain⟨t,rfl⟩:=h 0 v rfl;exact⟨t,rfl⟩
   . obtain⟨t,rfl⟩:=h (j+1) v e;exact⟨t,by congr 2;omega⟩
variable{a:Expr}{ta:TA}{mr:MA}{p p2 p3 pos:Pos}
noncomputable def Uz(ta:TA):TE:=fun σ H Q=>ta σ H λvs H1=> ∃ n:Nat,vs=[.int n]/\n<=100000/\ ∀ l,H1 l=none->Q (.ref l) (upd H1 l (.lst ((VX n).map λi:Nat=>V.int (i:Int))))
theorem Bc(hL:Gl X "list")(mL:X.mg "list" =none)(hR:Gl X "range")(mR:X.mg "range" =none)(hd:X.A.handled=none)(ha:PA X [a] ta)(hs:VD [a] X.env=[(false,eval a X.env)])(hs2:VD [.Call (.Name "range" p2) [a] [] p3] X.env=[(false,eval (.Call (.Name "range" p2) [a] [] p3) X.env)]) :
  PE X (.Call (.Name "list" p) [.Call (.Name "range" p2) [a] [] p3] [] pos) (Uz ta):=by
 intro pins s σ H Q I h;refine Call_ (ju I hL mL boot_list (V5 ?_ hs2 rfl));rw[hs2];refine Yg ?_;refine Call_ (ju I hR mR boot_range (V5 (cJ (ha p3 pins s σ H _ I h) λus s1 ⟨vs,H1,I1,r1,q1⟩=>?_) hs rfl));obtain⟨n,e,hn,q⟩:=q1;subst e;cases r1 with
 | cons r rr =>
  cases rr
  obtain⟨t,rfl⟩:=r
  refine call_range_1 (Zw ?_)
  have rs:ZU 0 (n:Int) 1=(n:Nat):=by rw[rangeSize_one];split<;>omega
  refine call_list_range hd (acE ..) (small_one (by omega) (by omega) (by omega) (by omega)) rs (by omega) λh' tk acc c' kp e it=>?_
  have I2:=I1.kept (t':=s1.toks+1+1) λb o e=>UQ { cls:=XO "range",data:=Data.fields #[XT 0 s1.toks,XT (n:Int) t,XT 1 (s1.toks+1)] } e
  refine⟨.ref _,_,I2.laid (t':=tk) kp (UT _) (show aY X.prog X.w _ h' _ (.lst ((VX n).map λi:Nat=>V.int (i:Int))) from⟨?_,acc.toList,c',?_,by rw[e]⟩),rfl,q _ (I2.bA.fresh (UT _))⟩
  . rw[UO,XM];exact Vn hn (by decide)
  . rw[List.range_eq_range'];refine zp n 0 acc.toList (by rw[Wy];exact it.1) λj v e=>?_;obtain⟨t,rfl⟩:=it.2 j v (by rw[<- e,XH]);exact⟨t,by congr 1;omega⟩
theorem zw{K:UL}{ρ :List Addr}{H:Hp}: ∀ l:List Nat,av K ρ H (l.map λi:Nat=>PV.int (0+(i:Int))) (l.map λi:Nat=>V.int (i:Int))
 | []=>by rw[Vh,Vh,av]
 | i::l=>by rw[US,US];exact aE.mpr ⟨_,_,rfl,by rw[rel,Yu],zw l⟩
noncomputable def Tj(mr:MA):ME:=λc e h=>(mr c e h).bind λvs h1=>match vs with
 | [.int j]=>if 0<=j/\j<=100000 then .ok (.ref h1.length) (h1++[.lst (az 0 j.toNat)]) else .no
 | _=> .no
theorem AK(hL:Gl X "list")(hR:Gl X "range")(ha:JA X pg k [a] mr)(hs:VD [a] X.env=[(false,eval a X.env)]:=by rfl):JE X pg k (.Call (.Name "list" p) [.Call (.Name "range" p2) [a] [] p3] [] pos) (Tj mr):=⟨λA=>by
 obtain⟨_,q1,s1⟩:=ha.h A;refine⟨_,⟨Bc hL (A.blt _ (by decide +kernel)) hR (A.blt _ (by decide +kernel)) A.room.hd q1.h hs rfl⟩,fun ρ h H e σ Q v h' s r q P=>?_⟩;obtain⟨vs,h1,e1,q⟩:=bind_eq.mp q;refine s1 ρ h H e σ _ vs h1 s r e1 λus ρ1 H1 g1 z1 r1=>?_;split at q
 . rename_i j;split at q
   . rename_i hj;cases q;obtain⟨u,rfl,r2⟩:=aP r1;rw[rel] at r2;subst r2;obtain⟨n,rfl⟩:=V0 hj.1;refine⟨n,rfl,by omega,λl hl=>?_⟩;exact dY z1 (zw (VX n)) (P.gr g1) l hl
   . exact nomatch q
 . exact nomatch q⟩
end
section
variable{c:CF}{e:aq}{h:PH}{r:MA}
noncomputable def Uq(vs:List PV)(h1:PH):RV PV:=match vs with
 | [.int j]=>if 0<=j/\j<=100000 then .ok (.ref h1.length) (h1++[.lst (az 0 j.toNat)]) else .no
 | _=> .no
theorem Jr:Tj r c e h=(r c e h).bind Uq:=(rfl)
theorem EE{j:Int}(hj:0<=j/\j<=100000):Uq [.int j] h= .ok (.ref h.length) (h++[.lst (az 0 j.toNat)]):=if_pos hj
end
end P3
end
section
open PySem PySem.W PyProof.Rows
namespace L2
open PySem PySem.Spec PyProof.Rows
open PySem.AutoSeq1 (wpAny_loadPart')
theorem FL{M:Model}{A:Vz}{E:Value->UR->Prop}{s:UR}{β :Type}(f:Nat-> β ->Sem (ForInStep β))(J:List Nat-> β ->UR->Prop)(Q: β ->UR->Prop)
  (step: ∀ i r b u,J (i::r) b u->wpAny M A (f i b) (λz u'=>match z with
   | .yield b'=>J r b' u'
   | .done b'=>Q b' u') E u) (stop: ∀ b u,J [] b u->Q b u) (rg:Std.Legacy.Range) (b: β) (h:J (acg rg.start rg.size rg.step) b s):wpAny M A (forIn rg b f) Q E s:=by
 rw[aaW];exact wpAny_forIn_list f J Q step stop _ b h
theorem BD(l:Addr)(aj:Array Value)(n:Nat)(di:Option Addr)(sl:Array (Option Value))(x:Value)(e:Value->Bool)(he: ∀ y,y∈aj->MeetsSeq.EqGives y x (e y))(j:Nat)(hj:j < aj.size)(h1:e aj[j]=true)(h0: ∀(m:Nat)(hm:m < aj.size),m < j->e aj[m]=false) :
  Meets (Xv.«tuple.index» ⟨[.ref l,x],[]⟩) (λ_ R s=>s.heap.get? l=some { cls:= .type "tuple",dict:=di,data:= .seq aj n,slots:=sl }/\R (.ok (.ret (.int (j:Int) s.toks))) { s with toks:=s.toks+1 }) :=
 .of_wp λprog w A R u hu=>by
  obtain⟨hp,gg,dd,tk,os⟩:=u;obtain⟨hl,hr⟩:=hu
  wp_walk using wpAny_loadPart' hl,FL _ (λrest b u'=>b=(none,())/\u'=(⟨hp,gg,dd,tk,os⟩:UR)/\ ∃ m,rest=acg m (aj.size - m)/\m<=j) _
  case step =>
   rintro i r b u' ⟨rfl,rfl,m,em,mj⟩
   have hm:m < aj.size:=by omega
   rw[show aj.size - m=(aj.size - (m+1))+1 by omega,ab5] at em
   obtain⟨rfl,rfl⟩:=List.cons.inj em
   have ei:aj[i]?=some aj[i]:=VR hm
   rw[ei]
   refine UN (he aj[i] (Array.getElem_mem hm) prog w _ _ _ _ ?_)
   by_cases c:i=j
   . subst c;rw[h1]
     wp_walk
     exact⟨_,rfl,hr⟩
   . rw[h0 i hm (by omega)]
     wp_walk
     exact⟨rfl,rfl,i+1,rfl,by omega⟩
  case stop =>
   rintro b u' ⟨_,_,m,em,mj⟩
   have:=congrArg aaM em
   rw[Vk,List.length_range'] at this
   omega
  case h=>exact⟨rfl,rfl,0,by simp[acD],VM _⟩
section
variable{X:Cx}
noncomputable def FH:V->List V->Hp->VK->Prop:=λx vs H Q=> ∃(l:Addr)(ss:List Str)(a:Str),x= .ref l/\vs=[.str a]/\H l=some (.lst (ss.map V.str))/\a∈ss/\Q (.int (ss.idxOf a:Nat)) H
theorem places{a:Str}{t:Tok}{aj:List Value}{ss:List Str}(sa:Y5 aj ss)(ln:aj.length=ss.length)(ha:a∈ss) :
  ∃ hj:ss.idxOf a < aj.toArray.size,Y7 a aj.toArray[ss.idxOf a]=true/\ ∀(m:Nat)(hm:m < aj.toArray.size),m < ss.idxOf a->Y7 a aj.toArray[m]=false:=by
 have hj:=xK ha;refine⟨by rw[U4,ln];exact hj,?_,λm hm hlt=>?_⟩
 . show Y7 a (aj[ss.idxOf a]'(by rw[ln];exact hj))=true;rw[ly sa _ _ hj,abB hj];exact beq_self_eq_true a
 . have hm':m < ss.length:=by rw[<- ln];simpa using hm
   show Y7 a (aj[m]'(by rw[ln];exact hm'))=false;have nf:=aar (p:=(· == a)) (xs:=ss) (i:=m) hlt
   rw[ly sa _ _ hm'];simpa using nf
theorem AX:RQ X "list.index" FH:=by
 intro pins s σ H x vs v us Q I rx rv h;obtain⟨l,ss,a,rfl,rfl,hH,ha,q⟩:=h;cases rx;obtain⟨u,rfl,t,rfl⟩:=rv.one;obtain⟨z,aj,n,r,hl,e⟩:=I.Aw hH;have sa:=gj r;have ln:aj.length=ss.length:=by rw[<- hl,UO]
 obtain⟨hj,h1,h0⟩:=places (t:=t) sa ln ha;have z2:ss.length<=sizeLine:=by rw[<- ln,<- hl];exact z
 refine WL F.slot_list_index ⟨_,e,rfl⟩ F.entry_list_index (F.args_list_index_2 _ _)
  (MeetsSeq.list_index l aj.toArray n (.str a t) (Y7 a) (λy hy=>eq_isStrOf a t sa y (by simpa using hy)) (ss.idxOf a) hj (by have:ss.idxOf a < ss.length:=xK ha;have:sizeLine=16777216:=rfl;omega) h1 h0) ⟨e,?_⟩
 exact⟨.int (ss.idxOf a:Nat),H,I.tok _,⟨_,rfl⟩,q⟩
noncomputable def HE(K:UL):V->List V->Hp->VK->Prop:=λx vs H Q=> ∃(l:Addr)(ss:List Str)(a:Str),x= .ref l/\vs=[.str a]/\fq K H l (ss.map V.str)/\a∈ss/\Q (.int (ss.idxOf a:Nat)) H
theorem sk:RQ X "tuple.index" (HE X.K):=by
 intro pins s σ H x vs v us Q I rx rv h;obtain⟨l,ss,a,rfl,rfl,hH,ha,q⟩:=h;cases rx;obtain⟨u,rfl,t,rfl⟩:=rv.one;obtain⟨aj,r,⟨o,e,ec,n,ed⟩,z⟩:=I.tuple hH;have sa:=gj r;have ln:aj.length=ss.length:=by rw[<- r.length,UO]
 obtain⟨hj,h1,h0⟩:=places (t:=t) sa ln ha;obtain⟨oc,od,oa,os⟩:=o;cases ec;cases ed;refine WL F.slot_tuple_index ⟨_,e,rfl⟩ F.entry_tuple_index (F.args_tuple_index_2 _ _)
  (BD l aj.toArray n od os (.str a t) (Y7 a) (λy hy=>eq_isStrOf a t sa y (by simpa using hy)) (ss.idxOf a) hj h1 h0) ⟨e,?_⟩
 exact⟨.int (ss.idxOf a:Nat),H,I.tok _,⟨_,rfl⟩,q⟩
noncomputable def UJ(r:V->List V->Hp->VK->Prop)(to:TE)(t:TA):TE:=fun σ H Q=>to σ H λx H1=>(∃ p xs,x= .ref p/\H1 p=some (.tup xs))/\t σ H1 λxs H2=>r x xs H2 Q
variable{o e:Expr}{to:TE}{t:TA}{name:Str}{apos cpos:Pos}{id:String}{r:V->List V->Hp->VK->Prop}
theorem QJ(pa:abt "tuple")(slot:Slot "tuple" name id)(hty:typeOf (.builtin id)=pure (.type "method_descriptor"))(hm:Ju X id r)(ho:PE X o to)(ha:PA X [e] t)
  (hbase:Xi o name X.env (eval o X.env)=eval o X.env) (hline:(apos.endLine == cpos.line)=true) (hs:VD [e] X.env=[(false,eval e X.env)]):PE X (.Call (.Attribute o name apos) [e] [] cpos) (UJ r to t):=by
 intro pins s σ H Q I h;refine aag hbase (by rw[hs];rfl) hline rfl (cJ (ho pins s σ H _ I h) λv s1 ⟨x,H1,I1,r1,⟨p,xs,ex,hp⟩,q1⟩=>?_);subst ex;cases r1;obtain⟨_,aj,_,ob,g1,g2,n,g3,g4⟩:=I1.bA p _ hp;refine⟨"tuple",id,pa,slot,hty,⟨ob,g1,g2⟩,λa e=>by cases e;exact⟨ob,g1,g4⟩,?_⟩;have hA:=ha cpos pins s1 σ H1 _ I1 q1;rw[hs] at hA ⊢;refine Yr rfl (YL ?_);exact cJ hA λus s2 ⟨vs,H2,I2,r2,q2⟩=>hm pins s2 σ H2 (.ref p) vs (.ref p) us Q I2 rfl r2 q2
end
end L2
namespace P3
open PySem PySem.Spec PyProof.Rows L2
section
variable{X:Cx}{pg:Tb}{k:Nat}{d e:Expr}{md:ME}{mr:MA}{apos cpos:Pos}
noncomputable def iQ:PV->List PV->PH->RV PV:=λx vs h=>match x,vs with
 | .ref n,[.str a]=>(match h[n]? with
  | some (.lst xs)=>(match eZ xs with
   | some ss=>if a∈ss then .ok (.int (ss.idxOf a:Nat)) h else .no
   | none=> .no)
  | _=> .no)
 | _,_=> .no
theorem B3:dc X pg k-> ∃ r,Ju X "list.index" r/\RL X.K "list" r iQ bw:=λA=>⟨_,AX,fun ρ h H x x' s r e=>pI s r e,fun ρ h H x x' xs us Q v h' s rx rs q P=>by
 unfold iQ at q;split at q
 . rename_i n a;split at q
   . rename_i ys en;split at q
     . rename_i ss es;split at q
       . rename_i ha;cases q;obtain⟨b,vs,rfl,ea,e1,e2⟩:=s.lst en rx;obtain⟨u,rfl,r⟩:=aP rs;rw[rel] at r;subst r;rw[fh es,bX] at e2;subst e2;exact⟨b,ss,a,rfl,rfl,e1,ha,P _ ρ H (.refl _ _) s (by rw[rel])⟩
       . exact nomatch q
     . exact nomatch q
   . exact nomatch q
 . exact nomatch q⟩
noncomputable def AH(x:PV)(vs:List PV)(h:PH):RV PV:=match x,vs with
 | .tup xs,[.str a]=>(match eZ xs with
  | some ss=>if a∈ss then .ok (.int (ss.idxOf a:Nat)) h else .no
  | none=> .no)
 | _,_=> .no
noncomputable def qP(x:PV)(vs:List PV)(h:PH):RV PV:=match x,vs with
 | .ktup xs,[.str a]=>(match eZ xs with
  | some ss=>if a∈ss then .ok (.int (ss.idxOf a:Nat)) h else .no
  | none=> .no)
 | _,_=> .no
noncomputable def IH(md:ME)(mr:MA):ME:=λc e h=>(md c e h).bind λx h1=>(mr c e h1).bind λvs h2=>AH x vs h2
theorem Ae(ho:JE X pg k d md)(ha:JA X pg k [e] mr)(hbase:Xi d "index" X.env (eval d X.env)=eval d X.env:=by rfl)(hline:(apos.endLine == cpos.line)=true:=by rfl)(hs:noStar e=true:=by rfl) :
  JE X pg k (.Call (.Attribute d "index" apos) [e] [] cpos) (IH md mr):=⟨λA=>by
 obtain⟨_,q0,s0⟩:=ho.h A;obtain⟨_,q1,s1⟩:=ha.h A;refine⟨_,⟨QJ ZO ZP ZQ sk q0.h q1.h hbase hline (bY hs)⟩,fun ρ h H e σ Q v h' z r q P=>?_⟩;obtain⟨x,h1,e1,q⟩:=bind_eq.mp q;obtain⟨xs,h2,e2,q⟩:=bind_eq.mp q;unfold AH at q;split at q
 . rename_i ys a _;split at q
   . rename_i ss es;split at q
     . rename_i hm;cases q;refine s0 ρ h H e σ _ _ _ z r e1 λx' ρ1 H1 g1 z1 r1=>?_;have r1':=r1;rw[rel] at r1';obtain⟨p,vs,rfl,hp,_⟩:=r1';refine⟨⟨p,vs,rfl,hp⟩,?_⟩;refine s1 ρ1 h1 H1 e σ _ _ _ z1 (r.gr g1) e2 λus ρ2 H2 g2 z2 r2=>?_;have r3:=rel.gr g2 _ _ r1;rw[rel] at r3;obtain⟨p',vs',ep,hp',rv⟩:=r3;cases ep;obtain⟨u,rfl,ru⟩:=aP r2;rw[rel] at ru;subst ru;rw[fh es,bX] at rv;subst rv;exact⟨p,ss,a,rfl,rfl,.of hp',hm,P.gr (g1.trans g2) _ ρ2 H2 (.refl _ _) z2 (by rw[rel])⟩
     . exact nomatch q
   . exact nomatch q
 . exact nomatch q⟩
noncomputable def SD(v:PV)(mr:MA):ME:=λc e h=>(mr c e h).bind λvs h2=>qP v vs h2
theorem BA{x:Str}{v:PV}{p:Pos}(hc:pg.con x=some v)(hg:Gl X x)(ha:JA X pg k [e] mr)(hd:(x == ("__debug__" :Str))=false:=by decide)(hbase:Xi (.Name x p) "index" X.env (eval (.Name x p) X.env)=eval (.Name x p) X.env:=by rfl)(hline:(apos.endLine == cpos.line)=true:=by rfl)(hs:noStar e=true:=by rfl) :
  JE X pg k (.Call (.Attribute (.Name x p) "index" apos) [e] [] cpos) (SD v mr):=⟨λA=>by
 obtain⟨u,v',e1,e2,cn,e3⟩:=A.con x v hc;obtain⟨_,q1,s1⟩:=ha.h A;refine⟨_,JH ZO ZP ZQ sk (zE hg e1 e2 hd) q1 hbase hline hs,fun ρ h H e σ Q w h' z r q P=>?_⟩;obtain⟨xs,h2,e2',q⟩:=bind_eq.mp q;unfold qP at q;split at q
 . rename_i ys a _;split at q
   . rename_i ss es;split at q
     . rename_i hm;cases q;have r0:=e3 ρ H;rw[rel] at r0;obtain⟨pa,vs,rfl,_,_⟩:=r0;obtain⟨o,o1,o2,o3⟩:=cn pa rfl;refine⟨.inr (.inl ⟨rfl,o,o1,o2,o3⟩),?_⟩;refine s1 ρ h H e σ _ _ _ z r e2' λus ρ2 H2 g2 z2 r2=>?_;obtain⟨p',vs',ep,sq,rv⟩:=rel.seq (x:= .ktup ys) rfl (e3 ρ2 H2);cases ep;obtain⟨u',rfl,ru⟩:=aP r2;rw[rel] at ru;subst ru;rw[fh es,bX] at rv;subst rv;exact⟨_,ss,a,rfl,rfl,sq,hm,P.gr g2 _ ρ2 H2 (.refl _ _) z2 (by rw[rel])⟩
     . exact nomatch q
   . exact nomatch q
 . exact nomatch q⟩
end
section
variable{c:CF}{e:aq}{h:PH}{d:ME}{r:MA}{x v:PV}{ss:List Str}{a:Str}{n:Nat}
theorem zL:SD v r c e h=(r c e h).bind (qP v):=(rfl)
theorem Lm(ha:a∈ss):qP (.ktup (ss.map PV.str)) [.str a] h= .ok (.int (ss.idxOf a:Nat)) h:=by
 unfold qP;simp only[cG,if_pos ha]
noncomputable def Qo(r:MA)(c:CF)(e:aq)(x:PV)(h1:PH):RV PV:=(r c e h1).bind (AH x)
theorem k7:IH d r c e h=(d c e h).bind (Qo r c e):=(rfl)
theorem iL:Qo r c e x h=(r c e h).bind (AH x):=(rfl)
theorem iH(ha:a∈ss):AH (.tup (ss.map PV.str)) [.str a] h= .ok (.int (ss.idxOf a:Nat)) h:=by
 unfold AH;simp only[cG,if_pos ha]
theorem uB(e1:h[n]?=some (.lst (ss.map PV.str)))(ha:a∈ss):iQ (.ref n) [.str a] h= .ok (.int (ss.idxOf a:Nat)) h:=by
 unfold iQ;simp only[e1,cG,if_pos ha]
end
section
variable{X:Cx}{pg:Tb}{k:Nat}
noncomputable def Lo:List V->Hp->VK->Prop:=λxs H Q=>(∃ b,xs=[.bl b]/\Q (.str (if b=true then Va "True" else Va "False")) H)\/(xs=[.non]/\Q (.str (Va "None")) H)
theorem Bb:aT X (.builtin "repr") Lo:=by
 intro pins s σ H xs us Q I r h;rcases h with⟨b,rfl,q⟩ | ⟨rfl,q⟩
 . obtain⟨u,rfl,ru⟩:=vals1 r;cases(show u=Zb b from ru);exact PySem.P.repr_of_bool ⟨.str _,H,I.tok _,⟨_,rfl⟩,q⟩
 . obtain⟨u,rfl,ru⟩:=vals1 r;cases(show u=WW from ru);exact PySem.P.repr_of_none ⟨.str _,H,I.tok _,⟨_,rfl⟩,q⟩
noncomputable def An(d:W4):Prop:=d.showable=true/\d.hasDict=false/\d.depth<=64/\d.shown.length<=sizeLine
instance (d:W4):Decidable (An d):=by unfold An;infer_instance
noncomputable def dZ:List PV->PH->RV PV:=λxs h=>match xs with
 | [.bl b]=> .ok (.str (if b=true then Va "True" else Va "False")) h
 | [.non]=> .ok (.str (Va "None")) h
 | [.tup ys]=>(match dat 6 h (.tup ys) with
  | some d=>if An d then .ok (.str d.shown) h else .no
  | none=> .no)
 | [.ref n]=>(match dat 6 h (.ref n) with
  | some d=>if An d then .ok (.str d.shown) h else .no
  | none=> .no)
 | _=> .no
theorem Hr:dc X pg k-> ∃ r,aT X (.builtin "repr") r/\BY X.K r dZ:=λA=>⟨_,(Dh A.room.gd (by have:=A.room.un;omega)).or Bb,fun ρ h H xs us Q v h' s r q P=>by
 unfold dZ at q;split at q
 . rename_i b;cases q;obtain⟨u,rfl,r1⟩:=aP r;rw[rel] at r1;subst r1;exact .inr (.inl ⟨b,rfl,P _ ρ H (.refl _ _) s (by rw[rel])⟩)
 . cases q;obtain⟨u,rfl,r1⟩:=aP r;rw[rel] at r1;subst r1;exact .inr (.inr ⟨rfl,P _ ρ H (.refl _ _) s (by rw[rel])⟩)
 . rename_i ys;split at q
   . rename_i d e;split at q
     . rename_i c;cases q;obtain⟨u,rfl,r1⟩:=aP r;have dv:=dat.v s 6 _ _ _ e r1;have r2:=r1;rw[rel] at r2;obtain⟨a,vs,rfl,_,_⟩:=r2;exact .inl ⟨a,d,rfl,dv,c.1,c.2.1,c.2.2.1,c.2.2.2,P _ ρ H (.refl _ _) s (by rw[rel])⟩
     . exact nomatch q
   . exact nomatch q
 . rename_i n;split at q
   . rename_i d e;split at q
     . rename_i c;cases q;obtain⟨u,rfl,r1⟩:=aP r;have dv:=dat.v s 6 _ _ _ e r1;have r2:=r1;rw[rel] at r2;obtain⟨a,_,rfl⟩:=r2;exact .inl ⟨a,d,rfl,dv,c.1,c.2.1,c.2.2.1,c.2.2.2,P _ ρ H (.refl _ _) s (by rw[rel])⟩
     . exact nomatch q
   . exact nomatch q
 . exact nomatch q⟩
end
section
variable{P:Vg}{w:World}{K:UL}{mg:Str->Option Value}{pg:Tb}
theorem aS.on{f:String}{ps:List Str}{n:Nat}{b:MS}{st:Stmt}{N:List Str}(a:At K mg (Va f) st)(S:d6 N ps (ax st))(hl:N.length=ps.length+n)
  (hb: ∀(kV doc pm:Value)(an:Option Addr)(cdv ct:Value)(us:List Value),us.length=ps.length->Xx (V3 (Va f) (Va f) (cL st) (bj st) (ax st) .none kV doc pm an cdv ct) ⟨us,[]⟩=pure (ps.zip us))
  (h:N.Nodup-> ∀(base:Heap)(fa:Addr)(cdv:Value)(A:Vz)(outer:List Env)(s:UR)(H:Hp)(E:XK)(k:Nat),ym (j7 um P w K mg base N (Va f) (ax st) fa cdv A outer s H E).pW pg k (bj st) b):aS P w K mg pg f ⟨ps,n,b⟩ st N :=
 ⟨a,S,hl,hb,h S.nd⟩
end
noncomputable def eI(i:Int):ME:=eC (.int i)
noncomputable def eS(x:Str):ME:=eC (.str x)
noncomputable def eX(i:Nat)(j:Int):ME:=ak aB (aa i) (eI j)
noncomputable def mQ(a b:ME):MT:=aH (ak jW a b)
noncomputable def a1(a:ME):MA:=ab a ah
noncomputable def a2(a b:ME):MA:=ab a (a1 b)
noncomputable def a3(a b d:ME):MA:=ab a (a2 b d)
section
variable{a b d:ME}{c:CF}{e:aq}{h:PH}{i:Nat}{j:Int}{s:Str}{x y z v:PV}
theorem Jo:eI j c e h= .ok (.int j) h:=rfl
theorem Qs:eS s c e h= .ok (.str s) h:=rfl
noncomputable def xk(o:Option (Option PV))(j:Int)(h:PH):RV PV:=(L1 o h).bind λx h1=>aB x (.int j) h1
theorem QL:eX i j c e h=xk (e[i]?) j h:=rfl
theorem RC:xk (some (some v)) j h=aB v (.int j) h:=rfl
noncomputable def RZ(x y:PV)(h:PH):RV Bool:=(jW x y h).bind uN
noncomputable def TY(b:ME)(c:CF)(e:aq)(x:PV)(h:PH):RV Bool:=(b c e h).bind (RZ x)
theorem Ra:mQ a b c e h=(a c e h).bind (TY b c e):=by
 show((a c e h).bind _).bind uN=_;cases a c e h with
 | ok x h1 =>
  show((b c e h1).bind _).bind uN=(b c e h1).bind (RZ x)
  cases b c e h1<;>rfl
 | _=>rfl
theorem MJ:TY b c e x h=(b c e h).bind (RZ x):=rfl
theorem LV:RZ x y h=(jW x y h).bind uN:=rfl
noncomputable def Ud(x:PV)(h:PH):RV (List PV):= .ok [x] h
theorem P5:a1 a c e h=(a c e h).bind Ud:=rfl
theorem J0:Ud x h= .ok [x] h:=rfl
noncomputable def RX(x y:PV)(h:PH):RV (List PV):= .ok [x,y] h
noncomputable def Uu(b:ME)(c:CF)(e:aq)(x:PV)(h:PH):RV (List PV):=(b c e h).bind (RX x)
theorem Jy:a2 a b c e h=(a c e h).bind (Uu b c e):=by
 show(a c e h).bind _=_;cases a c e h with
 | ok x h1 =>
  show((b c e h1).bind _).bind _=(b c e h1).bind (RX x)
  cases b c e h1<;>rfl
 | _=>rfl
theorem Ks:Uu b c e x h=(b c e h).bind (RX x):=rfl
theorem NP:RX x y h= .ok [x,y] h:=rfl
noncomputable def RP(x y z:PV)(h:PH):RV (List PV):= .ok [x,y,z] h
noncomputable def R8(d:ME)(c:CF)(e:aq)(x y:PV)(h:PH):RV (List PV):=(d c e h).bind (RP x y)
noncomputable def Uj(b d:ME)(c:CF)(e:aq)(x:PV)(h:PH):RV (List PV):=(b c e h).bind (R8 d c e x)
theorem Pm:a3 a b d c e h=(a c e h).bind (Uj b d c e):=by
 show(a c e h).bind (NC (a2 b d) c e)=_;cases a c e h with
 | ok x h1 =>
  show(a2 b d c e h1).bind _=(b c e h1).bind (R8 d c e x)
  rw[Jy]
  cases b c e h1 with
  | ok y h2 =>
   show((d c e h2).bind _).bind _=(d c e h2).bind (RP x y)
   cases d c e h2<;>rfl
  | _=>rfl
 | _=>rfl
theorem La:Uj b d c e x h=(b c e h).bind (R8 d c e x):=rfl
theorem Lf:R8 d c e x y h=(d c e h).bind (RP x y):=rfl
theorem NQ:RP x y z h= .ok [x,y,z] h:=rfl
end
section
variable{X:Cx}{pg:Tb}{k:Nat}{body:List Stmt}{h₀ :ExceptHandler}{hs:List ExceptHandler}{pos:Pos}{m:MS}
theorem Mc{t:TS}(nx: ∀ v s,¬ X.xe v s)(h:wW X body t):PS X (.Try body (h₀ ::hs) [] [] pos) t:=λpins s σ H D I hw =>
 wpAny_Try_except (VB (h pins s σ H D I hw) (λf s1 q=>by
  cases f with
  | next=>exact Yd q
  | _=>exact q) λv s z=>(nx v s z).elim)
theorem M7(hb:ym X pg k body m):JS X pg k (.Try body (h₀ ::hs) [] [] pos) m:=⟨λA=>let ⟨t,q,s⟩:=hb.h A;⟨t,⟨Mc A.pW q.h⟩,s⟩⟩
end
end P3
end
section
open PySem PySem.W PyProof.Rows
set_option maxHeartbeats 5000000
namespace K23
open PySem L2 P3 PyProof.Rows
noncomputable def top(i:Nat):Stmt:=PySem.Challenge.pw_leastrecord_k23_runs_walked.main.body.getD i (.Pass ⟨0,0,0,0⟩)
noncomputable def eY:List (Key × PV):=[(.inr "let",(.ktup [(.str "pocket"),(.str "sum")])),(.inr "leap",(.ktup [(.str "target"),(.str "sum")])),(.inr "get",(.ktup [(.str "pocket"),(.str "box")])),(.inr "put",(.ktup [(.str "box"),(.str "sum")])),(.inr "take",(.ktup [(.str "lock")])),(.inr "free",(.ktup [(.str "lock")])),(.inr "send",(.ktup [(.str "lane"),(.str "sum")])),(.inr "fetch",(.ktup [(.str "pocket"),(.str "lane")])),(.inr "say",(.ktup [(.str "door"),(.str "sum")])),(.inr "clock",(.ktup [(.str "pocket")])),(.inr "lot",(.ktup [(.str "pocket"),(.str "chances")])),(.inr "hear",(.ktup [(.str "pocket"),(.str "door")]))]
noncomputable def dC:List (Key × PV):=[(.inr "box",(.int 2)),(.inr "lock",(.int 3)),(.inr "lane",(.int 4)),(.inr "door",(.int 5))]
noncomputable def fT:List (Key × PV):=[(.inr "get",(.str "box")),(.inr "put",(.str "box")),(.inr "take",(.str "lock")),(.inr "free",(.str "lock")),(.inr "send",(.str "lane")),(.inr "fetch",(.str "lane")),(.inr "say",(.str "door"))]
noncomputable def oN:MS :=
  (aw (Bp (eB tD (ab (aa 0) (ab (eC (.ty "int")) ah))) (FJ (eB tD (ab (aa 0) (ab (eC (.ty "bool")) ah))))))
noncomputable def iF:Df:=⟨["thing"],0,oN⟩
noncomputable def kU:MS :=
  (aw (Bp (ag "is_whole" (a1 (aa 0))) (uw Si Si (aa 1) (aa 0) (aa 2))))
noncomputable def fN:Df:=⟨["thing", "least", "most"],0,kU⟩
noncomputable def o6:MS :=
  (aw (ag "is_between" (a3 (aa 0) (eI 0) (eI 999))))
noncomputable def iG:Df:=⟨["thing"],0,o6⟩
noncomputable def kj:MS :=
  (aw (Bp (eB tD (ab (aa 0) (ab (eC (.ty "tuple")) ah))) (ak jW (eB b6 (a1 (aa 0))) (aa 1))))
noncomputable def eV:Df:=⟨["thing", "many"],0,kj⟩
noncomputable def kW:MS :=
  (ae (ai (eX 0 0) (gN 2))
  (ae (bR (mQ (aa 2) (eS "num")) (aw (eX 0 1)) cD)
  (ae (bR (mQ (aa 2) (eS "of")) (aw (yQ (eB vZ (a1 (aa 1))) (eX 0 1) (eI 0))) cD)
  (ae (ai (ag "worth" (a2 (eX 0 1) (aa 1))) (gN 3))
  (ae (bR (mQ (aa 2) (eS "not")) (aw (uO (mQ (aa 3) (eI 0)) (eI 1) (eI 0))) cD)
  (aw (ag "joined_worth" (ab (aa 2) (ab (aa 3) (ab (ag "worth" (a2 (eX 0 2) (aa 1))) ah))))))))))
noncomputable def iD:Df:=⟨["tree", "pockets"],2,kW⟩
noncomputable def jf:MS :=
  (ae (bR (mQ (aa 0) (eS "add")) (aw (ak mY (ak aX (aa 1) (aa 2)) (eI 1000))) cD)
  (ae (bR (mQ (aa 0) (eS "sub")) (aw (ak mY (ak rH (aa 1) (aa 2)) (eI 1000))) cD)
  (ae (bR (mQ (aa 0) (eS "mul")) (aw (ak mY (ak dF (aa 1) (aa 2)) (eI 1000))) cD)
  (ae (bR (mQ (aa 0) (eS "less")) (aw (uO (aH (ak Bd (aa 1) (aa 2))) (eI 1) (eI 0))) cD)
  (aw (uO (aH (ak jW (aa 1) (aa 2))) (eI 1) (eI 0)))))))
noncomputable def dO:Df:=⟨["word", "one", "other"],0,jf⟩
noncomputable def gB:MS :=
  (ae (ai (ak aB (aa 0) (SD (.ktup [(.str "box"),(.str "lock"),(.str "lane"),(.str "door"),(.str "hand")]) (a1 (aa 1)))) (gN 2))
  (ae (bR (Lc (mQ (aa 1) (eS "box")) (mQ (aa 1) (eS "hand"))) (aw (ji 1 (jZ (aa 2)) (gN 3) bo (eX 3 0))) cD)
  (aw (eB zP (a1 (aa 2))))))
noncomputable def dB:Df:=⟨["program", "sort"],1,gB⟩
noncomputable def nP:MS :=
  (ae (ai (ag "names_of" (a2 (aa 0) (aa 1))) (gN 3))
  (aw (uO (aH (ak jz (aa 2) (aa 3))) (eM iQ bw (aa 3) (a1 (aa 2))) (eC .non))))
noncomputable def gH:Df:=⟨["program", "sort", "name"],1,nP⟩
noncomputable def sf:MS :=
  (aw (ak aB (ak aB (eX 0 4) (aa 1)) (eI 1)))
noncomputable def jM:Df:=⟨["program", "hand"],0,sf⟩
noncomputable def lK:MS :=
  (aw (ag "rested" (ab (aa 0) (ab (aa 1) (ab (ao (a3 (eI 0) (ao ah) (ao ah))) ah)))))
noncomputable def fL:Df:=⟨["program", "hand"],0,lK⟩
noncomputable def vM:MS :=
  (ae (ai (ag "rows_of" (a2 (aa 0) (aa 1))) (gN 3))
  (ae (ai (aa 2) (gN 4))
  (ae (j5 (dy (a1 (eI 200))) (gN 5) (ae (bR (aH (ag "is_rested" (a2 (aa 3) (aa 4)))) (aw (aa 4)) cD)
  (ai (ag "behind_own_row" (ab (ak aB (aa 3) (eX 4 0)) (a1 (aa 4)))) (gN 4))))
  (ae (bR (aH (ag "is_rested" (a2 (aa 3) (aa 4)))) (aw (aa 4)) cD)
  (aw (ao (ab (eB b6 (a1 (aa 3))) (a2 (eX 4 1) (eX 4 2)))))))))
noncomputable def l6:Df:=⟨["program", "hand", "seat"],3,vM⟩
noncomputable def jw:MS :=
  (aw (Qn (ak jW (eX 1 0) (eB b6 (a1 (aa 0)))) (FJ (ag "is_own_row" (ab (ak aB (aa 0) (eX 1 0)) (a1 (eX 1 2)))))))
noncomputable def eW:Df:=⟨["rows", "seat"],0,jw⟩
noncomputable def l7:MS :=
  (ae (bR (mQ (eX 0 0) (eS "take")) (aw (ak jz (eX 0 1) (aa 1))) cD)
  (ae (bR (mQ (eX 0 0) (eS "free")) (aw (ak kI (eX 0 1) (aa 1))) cD)
  (aw (Qn (ak jW (eX 0 0) (eS "let")) (ak jW (eX 0 0) (eS "leap"))))))
noncomputable def fH:Df:=⟨["row", "held"],0,l7⟩
noncomputable def cT:MS :=
  (ae (ai (ak aX (eX 1 0) (eI 1)) (gN 2))
  (ae (bR (mQ (eX 0 0) (eS "let")) (aw (ao (ab (aa 2) (ab (ag "laid" (ab (eX 1 1) (ab (eX 0 1) (ab (ag "worth" (a2 (eX 0 2) (eX 1 1))) ah)))) (a1 (eX 1 2)))))) cD)
  (ae (bR (pV (mQ (eX 0 0) (eS "leap")) (aH (ak jT (ag "worth" (a2 (eX 0 2) (eX 1 1))) (eI 0)))) (aw (ao (a3 (eX 0 1) (eX 1 1) (eX 1 2)))) cD)
  (aw (ao (a3 (aa 2) (eX 1 1) (eX 1 2)))))))
noncomputable def bP:Df:=⟨["row", "seat"],1,cT⟩
noncomputable def xw:MS :=
  (ae (ai (ji 1 (jZ (aa 0)) (gN 4) (aH (ak jT (eX 4 0) (aa 1))) (aa 4)) (gN 3))
  (ae (bR (aH (ak jT (aa 2) (eI 0))) (cb (eM aM bw (aa 3) (ab (ao (a2 (aa 1) (aa 2))) ah))) cD)
  (aw (eB aC (ab (eB bJ (a1 (aa 3))) ah)))))
noncomputable def oU:Df:=⟨["pockets", "name", "value"],1,xw⟩
noncomputable def kP:MS :=
  (ae (ai (ag "rows_of" (a2 (aa 0) (aa 1))) (gN 3))
  (ae (bR (aH (ak jW (eX 2 0) (eB b6 (a1 (aa 3))))) (aw (eC .non)) cD)
  (ae (ai (ak aB (aa 3) (eX 2 0)) (gN 4))
  (ae (ai (eS "") (gN 5))
  (ae (ai (eC .non) (gN 6))
  (ae (j5 (NJ (rJ eY (eX 4 0)) (rL (aa 4) (cY (eI 1)) eF)) (gT 2 (au (gN 7) (au (gN 8) cv))) (bR (mQ (aa 7) (eS "sum")) (ai (ag "worth" (a2 (aa 8) (eX 2 1))) (gN 6)) (bR (mQ (aa 7) (eS "chances")) (ai (aa 8) (gN 6)) (bR (aH (ak jT (aa 7) (eS "pocket"))) (ai (aa 8) (gN 5)) cD))))
  (aw (ao (a3 (eX 4 0) (aa 5) (aa 6))))))))))
noncomputable def fX:Df:=⟨["program", "hand", "seat"],6,kP⟩
noncomputable def dh:MS :=
  (ae (ai (ak aB (ag "rows_of" (a2 (aa 0) (aa 1))) (eX 2 0)) (gN 4))
  (ae (ai (eX 2 1) (gN 5))
  (ae (ai (eX 2 2) (gN 6))
  (ae (bR (aH (ak jz (eX 4 0) (eC (.ktup [(.str "get"),(.str "fetch"),(.str "clock"),(.str "lot"),(.str "hear")])))) (ai (ag "laid" (a3 (aa 5) (eX 4 1) (aa 3))) (gN 5)) (bR (mQ (eX 4 0) (eS "take")) (ai (eB aC (ab (eB bJ (ab (ak aX (aa 6) (ao (a1 (eX 4 1)))) ah)) ah)) (gN 6)) (bR (mQ (eX 4 0) (eS "free")) (ai (eB aC (ab (ji 1 (jZ (aa 6)) (gN 7) (aH (ak jT (aa 7) (eX 4 1))) (aa 7)) ah)) (gN 6)) cD)))
  (aw (ag "rested" (ab (aa 0) (ab (aa 1) (ab (ao (ab (ak aX (eX 2 0) (eI 1)) (a2 (aa 5) (aa 6)))) ah)))))))))
noncomputable def ck:Df:=⟨["program", "hand", "seat", "value"],3,dh⟩
noncomputable def kN:MS :=
  (aw (Bp (ag "is_value" (a1 (aa 1))) (Qn (ak jT (eX 0 0) (eS "lot")) (ak Bd (aa 1) (eX 0 2)))))
noncomputable def fZ:Df:=⟨["touch", "value"],0,kN⟩
noncomputable def j9:MS :=
  (ae (ai (ag "hands_of" (a1 (aa 0))) (gN 1))
  (aw (ao (ab (eB aC (ab (ji 1 (jZ (aa 1)) (gN 2) bo (eI 0)) ah)) (ab (eB aC (ab (ji 1 (jZ (aa 1)) (gN 2) bo (ag "first_seat" (a2 (aa 0) (aa 2)))) ah)) (ab (eB aC (ab (ji 1 (jZ (eX 0 0)) (gN 2) bo (ao (a2 (eX 2 1) (eC .non)))) ah)) (ab (eB aC (ab (ji 1 (jZ (eX 0 1)) (gN 2) bo (ao (a2 (eC .non) (eC .non)))) ah)) (ab (eB aC (ab (ji 1 (jZ (eX 0 2)) (gN 2) bo (ao (a3 (eI 0) (eI 0) (ao ah)))) ah)) (ab (eB aC (ab (ji 1 (jZ (eX 0 3)) (gN 2) bo (eI 0)) ah)) ah)))))))))
noncomputable def eR:Df:=⟨["program"],1,j9⟩
noncomputable def kL:MS :=
  (aw (Tj (ab (eB b6 (a1 (eX 0 4))) ah)))
noncomputable def gz:Df:=⟨["program"],0,kL⟩
noncomputable def pE:MS :=
  (aw (ak aB (ak aB (aa 1) (rJ dC (aa 2))) (ag "number_of" (a3 (aa 0) (aa 2) (aa 3)))))
noncomputable def iB:Df:=⟨["program", "stand", "sort", "name"],0,pE⟩
noncomputable def eK:MS :=
  (ae (ai (ag "touch_of" (ab (aa 0) (ab (aa 2) (ab (ak aB (eX 1 1) (aa 2)) ah)))) (gN 3))
  (ae (bR (aH (Au (ip false) (aa 3))) (aw (eS "end")) cD)
  (ae (bR (mQ (eX 3 0) (eS "take")) (ae (ai (ak aB (ag "state_of" (ab (aa 0) (a3 (aa 1) (eS "lock") (eX 3 1)))) (eI 0)) (gN 4))
  (aw (uO (aH (Au (ip false) (aa 4))) (eC .non) (ao (a3 (eS "lock") (eX 3 1) (aa 4)))))) cD)
  (ae (bR (pV (mQ (eX 3 0) (eS "fetch")) (aH (ak jW (ak aB (ag "state_of" (ab (aa 0) (a3 (aa 1) (eS "lane") (eX 3 1)))) (eI 2)) (ao ah)))) (aw (ao (a2 (eS "letter") (eX 3 1)))) cD)
  (aw (eC .non))))))
noncomputable def cW:Df:=⟨["program", "stand", "hand"],2,eK⟩
noncomputable def xS:MS :=
  (ae (ai (ag "due_touch" (ab (aa 0) (a3 (aa 1) (aa 2) (aa 3)))) (gN 4))
  (ae (ai (eX 4 0) (gN 5))
  (ae (ai (eX 4 1) (gN 6))
  (ae (bR (aH (ak jz (aa 5) (eC (.ktup [(.str "clock"),(.str "lot"),(.str "hear")])))) (aw (ao (ab (ag "with_hand_on" (ab (aa 0) (a3 (aa 1) (aa 2) (aa 3)))) (ab (ao (ab (aa 5) (a3 (aa 6) (aa 3) (eC .non)))) ah)))) cD)
  (ae (ai (rJ fT (aa 5)) (gN 7))
  (ae (ai (ag "meeting" (ab (aa 4) (ab (ao (ab (aa 2) (ab (ak aB (eX 1 0) (aa 2)) ah))) (ab (ag "state_of" (ab (aa 0) (a3 (aa 1) (aa 7) (aa 6)))) ah)))) (gN 8))
  (ae (ai (ag "with_state" (ab (aa 0) (ab (aa 1) (a3 (aa 7) (aa 6) (eX 8 2))))) (gN 9))
  (aw (ao (ab (ag "with_hand_on" (ab (aa 0) (a3 (aa 9) (aa 2) (eX 8 0)))) (ab (ao (ab (aa 5) (a3 (aa 6) (eX 8 0) (eX 8 1)))) ah)))))))))))
noncomputable def qm:Df:=⟨["program", "stand", "hand", "gift"],6,xS⟩
noncomputable def nO:MS :=
  (ae (bR (qh (aH (ag "is_between" (ab (aa 2) (ab (eI 0) (ab (ak rH (eB b6 (a1 (eX 0 4))) (eI 1)) ah)))))) jd cD)
  (ae (ai (ag "wait_of" (a3 (aa 0) (aa 1) (aa 2))) (gN 4))
  (ae (bR (mQ (aa 4) (eS "end")) jd cD)
  (ae (bR (aH (Au (ip true) (aa 4))) jd cD)
  (ae (ai (ag "touch_of" (ab (aa 0) (ab (aa 2) (ab (ak aB (eX 1 1) (aa 2)) ah)))) (gN 5))
  (ae (bR (qh (aH (ag "takes_gift" (a2 (aa 5) (aa 3))))) jd cD)
  (aw (aa 5))))))))
noncomputable def gI:Df:=⟨["program", "stand", "hand", "gift"],2,nO⟩
noncomputable def iU:MS :=
  (aw (uO (aH (ak jz (eX 0 0) (eC (.ktup [(.str "clock"),(.str "lot"),(.str "hear")])))) (ag "may_come" (a2 (aa 0) (aa 1))) (Au (ip false) (aa 1))))
noncomputable def dP:Df:=⟨["touch", "gift"],0,iU⟩
noncomputable def dH:MS :=
  (ae (ai (eX 0 0) (gN 3))
  (ae (ai (eX 0 2) (gN 4))
  (ae (bR (mQ (aa 3) (eS "get")) (aw (ao (a3 (eX 2 0) (eX 2 1) (aa 2)))) cD)
  (ae (bR (mQ (aa 3) (eS "put")) (aw (ao (ab (aa 4) (ab (eX 2 1) (ab (ao (a2 (aa 4) (aa 1))) ah))))) cD)
  (ae (bR (mQ (aa 3) (eS "take")) (aw (ao (ab (eC .non) (ab (eX 2 1) (ab (ao (a2 (eX 1 0) (eX 2 1))) ah))))) cD)
  (ae (bR (mQ (aa 3) (eS "free")) (aw (ao (ab (eC .non) (ab (eC .non) (ab (ao (a2 (eC .non) (aa 1))) ah))))) cD)
  (ae (bR (mQ (aa 3) (eS "send")) (aw (ao (ab (aa 4) (ab (eX 2 0) (ab (ao (ab (ak aX (eX 2 0) (eI 1)) (ab (eX 2 1) (ab (ak aX (eX 2 2) (ao (a1 (aa 4)))) ah)))) ah))))) cD)
  (ae (bR (mQ (aa 3) (eS "fetch")) (aw (ao (ab (ak aB (eX 2 2) (eI 0)) (ab (eX 2 1) (ab (ao (ab (eX 2 0) (ab (ak aX (eX 2 1) (eI 1)) (ab (rL (eX 2 2) (cY (eI 1)) eF) ah)))) ah))))) cD)
  (aw (ao (ab (aa 4) (ab (aa 2) (ab (ak aX (aa 2) (eI 1)) ah)))))))))))))
noncomputable def cH:Df:=⟨["touch", "event", "state"],2,dH⟩
noncomputable def jB:MS :=
  (ae (ai (ag "seat_behind" (ab (aa 0) (ab (aa 2) (ab (ak aB (eX 1 1) (aa 2)) (a1 (aa 3)))))) (gN 4))
  (ae (ai (ag "replaced" (ab (aa 1) (ab (eI 0) (ab (ag "replaced" (ab (eX 1 0) (ab (aa 2) (ab (ak aX (ak aB (eX 1 0) (aa 2)) (eI 1)) ah)))) ah)))) (gN 5))
  (aw (ag "replaced" (ab (aa 5) (ab (eI 1) (ab (ag "replaced" (a3 (eX 1 1) (aa 2) (aa 4))) ah)))))))
noncomputable def dW:Df:=⟨["program", "stand", "hand", "value"],2,jB⟩
noncomputable def lV:MS :=
  (ae (ai (rJ dC (aa 2)) (gN 5))
  (aw (ag "replaced" (ab (aa 1) (ab (aa 5) (ab (ag "replaced" (ab (ak aB (aa 1) (aa 5)) (ab (ag "number_of" (a3 (aa 0) (aa 2) (aa 3))) (a1 (aa 4))))) ah))))))
noncomputable def fQ:Df:=⟨["program", "stand", "sort", "name", "state"],1,lV⟩
noncomputable def p8:MS :=
  (aw (ak aX (ak aX (rL (aa 0) eF (cY (aa 1))) (ao (a1 (aa 2)))) (rL (aa 0) (cY (ak aX (aa 1) (eI 1))) eF)))
noncomputable def iN:Df:=⟨["parts", "place", "part"],0,p8⟩
noncomputable def u0:MS :=
  (ae (bR (Lc (qh (aH (eB tD (ab (aa 2) (ab (eC (.ty "tuple")) ah))))) (aH (ak OC (eB b6 (a1 (aa 2))) (eI 60)))) jd cD)
  (ae (ai (aa 1) (gN 3))
  (ae (ai (bH ah) (gN 4))
  (ae (j5 (EF (aa 2)) (gT 2 (au (gN 5) (au (gN 6) cv))) (ae (bR (qh (aH (ag "is_tuple_of" (a2 (aa 6) (eI 2))))) jd cD)
  (ae (ai (ag "stepped" (ab (aa 0) (a3 (aa 3) (aa 5) (aa 6)))) (gN 7))
  (ae (ai (eX 7 0) (gN 3))
  (cb (eM aM bw (aa 4) (ab (ao (a2 (eX 6 0) (eX 7 1))) ah)))))))
  (aw (ao (ab (aa 3) (ab (eB aC (a1 (aa 4))) ah))))))))
noncomputable def kX:Df:=⟨["program", "stand", "run"],5,u0⟩
noncomputable def sj:MS :=
  (aw (ag "gone" (ab (aa 0) (a3 (aa 1) (eX 3 0) (eX 3 1)))))
noncomputable def jN:Df:=⟨["program", "stand", "place", "step"],1,sj⟩
noncomputable def nR:MS :=
  (ae (ai (ak aB (ag "walked" (a3 (aa 0) (aa 1) (aa 2))) (eI 1)) (gN 3))
  (aw (eB aC (ab (ji 1 (jZ (ag "hands_of" (a1 (aa 0)))) (gN 4) bo (ag "looks_of" (a2 (aa 3) (aa 4)))) ah))))
noncomputable def gK:Df:=⟨["program", "stand", "run"],1,nR⟩
noncomputable def pF:MS :=
  (aw (eB aC (ab (ji 2 (jZ (aa 0)) (gT 2 (au (gN 2) (au (gN 3) cv))) (aH (ak jW (aa 2) (aa 1))) (aa 3)) ah)))
noncomputable def iy:Df:=⟨["touches", "hand"],0,pF⟩
noncomputable def kr:MS :=
  (ae (ai (ak dF (eI 7919) (aa 1)) (gN 2))
  (ae (bR (aH (ak OC (eB b6 (a1 (aa 0))) (eI 0))) (ai (ak aX (ak aB (aa 0) (ak mY (aa 1) (eB b6 (a1 (aa 0))))) (ak dF (eI 1009) (ak pR (aa 1) (eB b6 (a1 (aa 0)))))) (gN 2)) cD)
  (aw (bH (ab (ak dF (aa 2) (eB vK (ab (ak Tu (aa 2) (ak IM (eI 10) (eI 18))) ah))) (a2 (aa 2) (eI 0)))))))
noncomputable def gb:Df:=⟨["_law_script", "_law_k"],1,kr⟩
noncomputable def jA:MS :=
  (ae (gF fG (aa 0) (eI 2) (ak aX (eX 0 2) (eI 1)))
  (ae (bR (aH (ak OC (eX 0 0) (eI 0))) (ae (ai (ak mY (eX 0 0) (aa 1)) (gN 2))
  (ae (gF fG (aa 0) (eI 0) (ak pR (eX 0 0) (aa 1)))
  (aw (aa 2)))) cD)
  (ae (ai (ak mY (ak dF (ak aX (ak mY (eX 0 1) (eI 2147483647)) (ak dF (eI 31) (eX 0 2))) (eI 48271)) (eI 2147483629)) (gN 3))
  (ae (ai (ak mY (ak dF (ak aX (ak pR (aa 3) (eI 11)) (ak dF (eI 17) (eX 0 2))) (eI 69621)) (eI 2147483587)) (gN 3))
  (aw (ak mY (ak pR (aa 3) (eI 7)) (aa 1)))))))
noncomputable def fj:Df:=⟨["_law_box_here", "_law_many"],2,jA⟩
noncomputable def eO:MS :=
  (ae (ai (ag "_law_take" (a2 (aa 0) (eI 8))) (gN 3))
  (ae (bR (Lc (mQ (aa 2) (eI 0)) (aH (ak Bd (aa 3) (eI 2)))) (aw (ao (ab (eS "num") (ab (ak aB (bH (ab (eI 0) (ab (eI 1) (ab (eI 2) (ab (eI 3) (a3 (eI 7) (eI 500) (eI 999))))))) (ag "_law_take" (a2 (aa 0) (eI 7)))) ah)))) cD)
  (ae (bR (aH (ak Bd (aa 3) (eI 5))) (aw (ao (ab (eS "of") (ab (ak aB (aa 1) (ag "_law_take" (ab (aa 0) (ab (eB b6 (a1 (aa 1))) ah)))) ah)))) cD)
  (ae (bR (mQ (aa 3) (eI 5)) (aw (ao (ab (eS "not") (ab (ag "_law_sum" (ab (aa 0) (ab (aa 1) (ab (ak rH (aa 2) (eI 1)) ah)))) ah)))) cD)
  (ae (ai (ak aB (bH (ab (eS "add") (ab (eS "sub") (a3 (eS "mul") (eS "less") (eS "same"))))) (ag "_law_take" (a2 (aa 0) (eI 5)))) (gN 4))
  (aw (ao (ab (aa 4) (ab (ag "_law_sum" (ab (aa 0) (ab (aa 1) (ab (ak rH (aa 2) (eI 1)) ah)))) (ab (ag "_law_sum" (ab (aa 0) (ab (aa 1) (ab (ak rH (aa 2) (eI 1)) ah)))) ah))))))))))
noncomputable def cQ:Df:=⟨["_law_box_here", "_law_pockets", "_law_deep"],2,eO⟩
noncomputable def bO:MS :=
  (ae (ai (ak aB (aa 3) (ag "_law_take" (ab (aa 0) (ab (eB b6 (a1 (aa 3))) ah)))) (gN 4))
  (ae (ai (ak aB (aa 2) (ag "_law_take" (ab (aa 0) (ab (eB b6 (a1 (aa 2))) ah)))) (gN 5))
  (ae (bR (aH (ak jz (aa 4) (ao (a2 (eS "clock") (eS "lot"))))) (aw (uO (mQ (aa 4) (eS "clock")) (ao (a2 (eS "clock") (aa 5))) (ao (ab (eS "lot") (ab (aa 5) (ab (ak aB (bH (ab (eI 2) (a3 (eI 3) (eI 7) (eI 1000)))) (ag "_law_take" (a2 (aa 0) (eI 4)))) ah)))))) cD)
  (ae (ai (ak aB (wo (fC (eS "get") (eI 0) (fC (eS "put") (eI 0) (fC (eS "take") (eI 1) (fC (eS "free") (eI 1) (fC (eS "send") (eI 2) (fC (eS "fetch") (eI 2) (fC (eS "say") (eI 3) (fC (eS "hear") (eI 3) C9))))))))) (aa 4)) (gN 6))
  (ae (ai (ak aB (ak aB (aa 1) (aa 6)) (ag "_law_take" (ab (aa 0) (ab (eB b6 (ab (ak aB (aa 1) (aa 6)) ah)) ah)))) (gN 7))
  (ae (bR (aH (ak jz (aa 4) (ao (a3 (eS "get") (eS "fetch") (eS "hear"))))) (aw (ao (a3 (aa 4) (aa 5) (aa 7)))) cD)
  (aw (uO (aH (ak jz (aa 4) (ao (a2 (eS "take") (eS "free"))))) (ao (a2 (aa 4) (aa 7))) (ao (ab (aa 4) (ab (aa 7) (ab (ag "_law_sum" (a3 (aa 0) (aa 2) (eI 2))) ah))))))))))))
noncomputable def aZ:Df:=⟨["_law_box_here", "_law_names", "_law_pockets", "_law_kinds"],4,bO⟩
noncomputable def nH:MS :=
  (ae (ai (bH (a2 (eS "clock") (eS "lot"))) (gN 3))
  (ae (j5 (jZ (bH (ab (ao (ab (eI 0) (ab (bH (a2 (eS "get") (eS "put"))) ah))) (ab (ao (ab (eI 1) (ab (bH (a2 (eS "take") (eS "free"))) ah))) (ab (ao (ab (eI 2) (ab (bH (a2 (eS "send") (eS "fetch"))) ah))) (ab (ao (ab (eI 3) (ab (bH (a2 (eS "say") (eS "hear"))) ah))) ah)))))) (gT 2 (au (gN 4) (au (gN 5) cv))) (bR (aH (ak jT (ak aB (aa 1) (aa 4)) (bH ah))) (ai (ak aX (ak aX (aa 3) (aa 5)) (aa 5)) (gN 3)) cD))
  (ae (ai (ak aB (bH (ab (ag "_law_take" (a2 (aa 0) (eI 4))) (ab (ak aX (eI 3) (ag "_law_take" (a2 (aa 0) (eI 8)))) ah))) (eB vK (ab (ak OC (ag "_law_take" (a2 (aa 0) (eI 6))) (eI 0)) ah))) (gN 6))
  (ae (ai (bH ah) (gN 7))
  (ae (j5 (dy (a1 (aa 6))) (gN 8) (ae (ai (ag "_law_take" (a2 (aa 0) (eI 8))) (gN 9))
  (bR (mQ (aa 9) (eI 0)) (cb (eM aM bw (aa 7) (ab (ao (ab (eS "let") (ab (ak aB (aa 2) (ag "_law_take" (ab (aa 0) (ab (eB b6 (a1 (aa 2))) ah)))) (ab (ag "_law_sum" (a3 (aa 0) (aa 2) (eI 2))) ah)))) ah))) (bR (mQ (aa 9) (eI 1)) (cb (eM aM bw (aa 7) (ab (ao (ab (eS "leap") (ab (ag "_law_take" (ab (aa 0) (ab (ak aX (aa 6) (eI 1)) ah))) (ab (ag "_law_sum" (a3 (aa 0) (aa 2) (eI 2))) ah)))) ah))) (cb (eM aM bw (aa 7) (ab (ag "_law_touch_row" (ab (aa 0) (a3 (aa 1) (aa 2) (aa 3)))) ah)))))))
  (aw (eB aC (a1 (aa 7)))))))))
noncomputable def gJ:Df:=⟨["_law_box_here", "_law_names", "_law_pockets"],7,nH⟩
noncomputable def gD:MS :=
  (ae (ai (bH (ab (eS "a") (ab (eS "ab") (ab (eS "putter") (ab (eS "b") (ab (eS "getx") (ab (eS "abc") (ab (eS "locked") (ab (eS "sayer") (ab (eS "c") (a3 (eS "hands") (eS "fetched") (eS "abcdefgh")))))))))))) (gN 1))
  (ae (ai (ag "_law_take" (a2 (aa 0) (eI 12))) (gN 2))
  (ae (ai (ak aX (rL (aa 1) (cY (aa 2)) eF) (rL (aa 1) eF (cY (aa 2)))) (gN 1))
  (ae (ai (bH ah) (gN 3))
  (ae (j5 (dy (a1 (eI 4))) (gN 4) (ae (ai (ak aB (bH (ab (eI 1) (ab (eI 2) (a3 (eI 1) (eI 0) (eI 2))))) (ag "_law_take" (a2 (aa 0) (eI 5)))) (gN 5))
  (cb (eM aM bw (aa 3) (ab (rL (aa 1) (cY (ak dF (eI 2) (aa 4))) (cY (ak aX (ak dF (eI 2) (aa 4)) (aa 5)))) ah)))))
  (ae (ai (eB aC (ab (ji 1 (jZ (eX 3 0)) (gN 10) bo (ao (ab (aa 10) (ab (ak aB (bH (ab (eI 0) (a3 (eI 5) (eI 999) (eI 1)))) (ag "_law_take" (a2 (aa 0) (eI 4)))) ah)))) ah)) (gN 6))
  (ae (ai (bH ah) (gN 7))
  (ae (j5 (dy (ab (ak aB (bH (ab (eI 2) (ab (eI 2) (ab (eI 3) (a3 (eI 4) (eI 1) (eI 2)))))) (ag "_law_take" (a2 (aa 0) (eI 6)))) ah)) (gN 8) (ae (ai (rL (bH (ab (eS "p") (ab (uO (aH (ak jT (eX 3 0) (bH ah))) (ak aB (eX 3 0) (eI 0)) (eS "q")) (ab (eS "pp") (ab (ak aB (aa 1) (ak aX (eI 8) (aa 8))) ah))))) eF (cY (ak aX (eI 1) (ag "_law_take" (a2 (aa 0) (eI 4)))))) (gN 9))
  (cb (eM aM bw (aa 7) (ab (ao (ab (ak aB (aa 1) (ak aX (eI 8) (aa 8))) (ab (ag "_law_rows" (a3 (aa 0) (aa 3) (aa 9))) ah))) ah)))))
  (aw (ao (ab (aa 6) (ab (eB aC (a1 (eX 3 1))) (ab (eB aC (a1 (eX 3 2))) (ab (eB aC (a1 (eX 3 3))) (ab (eB aC (a1 (aa 7))) ah)))))))))))))))
noncomputable def gp:Df:=⟨["_law_box_here"],9,gD⟩
noncomputable def bD:MS :=
  (ae (bR (mQ (eX 0 0) (eS "num")) (aw (eX 0 1)) cD)
  (ae (bR (mQ (eX 0 0) (eS "of")) (aw (yQ (aa 1) (eX 0 1) (eI 0))) cD)
  (ae (ai (ag "_law_worth" (a2 (eX 0 1) (aa 1))) (gN 2))
  (ae (bR (mQ (eX 0 0) (eS "not")) (aw (eB vK (ab (ak jW (aa 2) (eI 0)) ah))) cD)
  (ae (ai (ag "_law_worth" (a2 (eX 0 2) (aa 1))) (gN 3))
  (ae (bR (aH (ak jz (eX 0 0) (ao (a2 (eS "less") (eS "same"))))) (aw (uO (mQ (eX 0 0) (eS "less")) (eB vK (ab (ak Bd (aa 2) (aa 3)) ah)) (eB vK (ab (ak jW (aa 2) (aa 3)) ah)))) cD)
  (aw (ak mY (ak aB (wo (fC (eS "add") (ak aX (aa 2) (aa 3)) (fC (eS "sub") (ak rH (aa 2) (aa 3)) (fC (eS "mul") (ak dF (aa 2) (aa 3)) C9)))) (eX 0 0)) (eI 1000)))))))))
noncomputable def aU:Df:=⟨["_law_e", "_law_pockets"],2,bD⟩
noncomputable def eQ:MS :=
  (ae (bR (Lc (mQ (eX 0 0) (eS "take")) (mQ (eX 0 0) (eS "free"))) (aw (ak jW (ak jz (eX 0 1) (aa 1)) (ak jW (eX 0 0) (eS "take")))) cD)
  (aw (ak jz (eX 0 0) (ao (a2 (eS "let") (eS "leap"))))))
noncomputable def cF:Df:=⟨["_law_row_here", "_law_held"],0,eQ⟩
noncomputable def jh:MS :=
  (ae (ai (eI 0) (gN 4))
  (ae (uE (pV (aH (ak Bd (aa 1) (eB b6 (a1 (aa 0))))) (aH (ag "_law_is_own" (ab (ak aB (aa 0) (aa 1)) (a1 (aa 3)))))) (ae (bR (mQ (aa 4) (eI 200)) (aw (eB b6 (a1 (aa 0)))) cD)
  (ae (ai (ak aB (aa 0) (aa 1)) (gN 5))
  (ae (ai (ak aX (aa 4) (eI 1)) (gN 4))
  (ae (ai (ak aX (aa 1) (eI 1)) (gN 1))
  (ae (bR (mQ (eX 5 0) (eS "let")) (gF fG (aa 2) (eX 5 1) (ag "_law_worth" (a2 (eX 5 2) (aa 2)))) cD)
  (bR (pV (mQ (eX 5 0) (eS "leap")) (aH (ak jT (ag "_law_worth" (a2 (eX 5 2) (aa 2))) (eI 0)))) (ai (eX 5 1) (gN 1)) cD)))))))
  (aw (aa 1))))
noncomputable def fc:Df:=⟨["_law_rows_here", "_law_at", "_law_pockets", "_law_held"],2,jh⟩
noncomputable def iS:MS :=
  (ae (ai (wo (fC (eS "counts") (bH ah) (fC (eS "seats") (bH ah) (fC (eS "doors") (ji 1 (jZ (eX 0 3)) (gN 5) bo (eI 0)) C9)))) (gN 1))
  (ae (gF fG (aa 1) (eS "boxes") (ji 1 (jZ (eX 0 0)) (gN 5) bo (ao (a2 (eX 5 1) (eC .non)))))
  (ae (gF fG (aa 1) (eS "locks") (ji 1 (jZ (eX 0 1)) (gN 5) bo (ao (a2 (eC .non) (eC .non)))))
  (ae (gF fG (aa 1) (eS "lanes") (ji 1 (jZ (eX 0 2)) (gN 5) bo (ao (a3 (eI 0) (eI 0) (ao ah)))))
  (ae (j5 (jZ (eX 0 4)) (gN 2) (ae (ai sN (gN 3))
  (ae (ai (ag "_law_rest" (ab (eX 2 1) (a3 (eI 0) (aa 3) (bH ah)))) (gN 4))
  (ae (cb (eM aM bw (ak aB (aa 1) (eS "counts")) (a1 (eI 0))))
  (cb (eM aM bw (ak aB (aa 1) (eS "seats")) (ab (ao (a3 (aa 4) (aa 3) (bH ah))) ah)))))))
  (aw (aa 1)))))))
noncomputable def iV:Df:=⟨["_law_program_here"],4,iS⟩
noncomputable def lq:MS :=
  (ae (ai (bH ah) (gN 1))
  (ae (j5 (jZ (ak aB (aa 0) (eS "seats"))) (gT 3 (au (gN 2) (au (gN 3) (au (gN 4) cv)))) (ae (ai (eB aC (ab (ji 1 (jZ (eB bJ (a1 (aa 3)))) (gN 7) (aH (ak jT (ak aB (aa 3) (aa 7)) (eI 0))) (ao (ab (aa 7) (ab (ak aB (aa 3) (aa 7)) ah)))) ah)) (gN 5))
  (cb (eM aM bw (aa 1) (ab (ao (ab (aa 2) (ab (aa 5) (ab (eB aC (ab (eB bJ (a1 (aa 4))) ah)) ah)))) ah)))))
  (ae (ai (ao (ab (eB aC (ab (ak aB (aa 0) (eS "counts")) ah)) (ab (eB aC (a1 (aa 1))) (ab (eB aC (ab (ak aB (aa 0) (eS "boxes")) ah)) (ab (eB aC (ab (ak aB (aa 0) (eS "locks")) ah)) ah))))) (gN 6))
  (aw (ak aX (aa 6) (ao (ab (eB aC (ab (ak aB (aa 0) (eS "lanes")) ah)) (ab (eB aC (ab (ak aB (aa 0) (eS "doors")) ah)) ah))))))))
noncomputable def fK:Df:=⟨["_law_state"],6,lq⟩
noncomputable def kS:MS :=
  (ae (ai (ak aB (ak aB (eX 0 4) (aa 2)) (eI 1)) (gN 3))
  (ae (ai (ak aB (ak aB (ak aB (aa 1) (eS "seats")) (aa 2)) (eI 0)) (gN 4))
  (aw (uO (aH (ak Bd (aa 4) (eB b6 (a1 (aa 3))))) (ak aB (aa 3) (aa 4)) (eC .non)))))
noncomputable def gv:Df:=⟨["_law_program_here", "_law_state", "_law_hand"],2,kS⟩
noncomputable def cR:MS :=
  (ae (ai (ag "_law_row" (a3 (aa 0) (aa 1) (aa 2))) (gN 3))
  (ae (bR (aH (Au (ip false) (aa 3))) (aw (eS "end")) cD)
  (ae (bR (mQ (eX 3 0) (eS "take")) (ae (ai (ak aB (ak aB (ak aB (aa 1) (eS "locks")) (IH (eX 0 1) (a1 (eX 3 1)))) (eI 0)) (gN 4))
  (aw (uO (aH (Au (ip false) (aa 4))) (eC .non) (ao (a3 (eS "lock") (eX 3 1) (aa 4)))))) cD)
  (ae (bR (pV (mQ (eX 3 0) (eS "fetch")) (aH (ak jW (ak aB (ak aB (ak aB (aa 1) (eS "lanes")) (IH (eX 0 2) (a1 (eX 3 2)))) (eI 2)) (ao ah)))) (aw (ao (a2 (eS "letter") (eX 3 2)))) cD)
  (aw (eC .non))))))
noncomputable def bZ:Df:=⟨["_law_program_here", "_law_state", "_law_hand"],2,cR⟩
noncomputable def iW:MS :=
  (ae (bR (mQ (eX 2 0) (eS "get")) (ae (ai (ak aB (ak aB (aa 1) (eS "boxes")) (eM iQ bw (ji 1 (jZ (eX 0 0)) (gN 8) bo (eX 8 0)) (a1 (eX 2 2)))) (gT 2 (au (gN 5) (au (gN 6) cv))))
  (ae (gF fG (aa 4) (eX 2 1) (aa 5))
  (aw (ao (ab (eS "get") (a3 (eX 2 2) (aa 5) (aa 6))))))) cD)
  (ae (ai (eM iQ bw (ji 1 (jZ (eX 0 0)) (gN 8) bo (eX 8 0)) (a1 (eX 2 1))) (gN 7))
  (ae (ai (ak aB (ak aB (ak aB (aa 1) (eS "boxes")) (aa 7)) (eI 1)) (gN 6))
  (ae (gF fG (ak aB (aa 1) (eS "boxes")) (aa 7) (ao (ab (ag "_law_worth" (a2 (eX 2 2) (aa 4))) (a1 (aa 3)))))
  (aw (ao (ab (eS "put") (ab (eX 2 1) (ab (ak aB (ak aB (ak aB (aa 1) (eS "boxes")) (aa 7)) (eI 0)) (a1 (aa 6)))))))))))
noncomputable def dQ:Df:=⟨["_law_program_here", "_law_state", "_law_row_here", "_law_event", "_law_pockets"],3,iW⟩
noncomputable def gP:MS :=
  (ae (ai (IH (eX 0 1) (a1 (eX 2 1))) (gN 5))
  (ae (ai (ak aB (ak aB (ak aB (aa 1) (eS "locks")) (aa 5)) (eI 1)) (gN 6))
  (ae (bR (mQ (eX 2 0) (eS "take")) (ae (gF fG (ak aB (aa 1) (eS "locks")) (aa 5) (ao (a2 (eX 3 0) (aa 6))))
  (ae (cb (eM aM bw (aa 4) (a1 (eX 2 1))))
  (aw (ao (ab (eS "take") (a3 (eX 2 1) (eC .non) (aa 6))))))) cD)
  (ae (gF fG (ak aB (aa 1) (eS "locks")) (aa 5) (ao (a2 (eC .non) (aa 3))))
  (ae (cb (eM lg bw (aa 4) (a1 (eX 2 1))))
  (aw (ao (ab (eS "free") (a3 (eX 2 1) (eC .non) (eC .non))))))))))
noncomputable def dj:Df:=⟨["_law_program_here", "_law_state", "_law_row_here", "_law_event", "_law_held"],2,gP⟩
noncomputable def iM:MS :=
  (ae (bR (mQ (eX 2 0) (eS "send")) (ae (ai (IH (eX 0 2) (a1 (eX 2 1))) (gN 4))
  (ae (ai (ak aB (ak aB (aa 1) (eS "lanes")) (aa 4)) (gT 3 (au (gN 5) (au (gN 6) (au (gN 7) cv)))))
  (ae (ai (ag "_law_worth" (a2 (eX 2 2) (aa 3))) (gN 8))
  (ae (gF fG (ak aB (aa 1) (eS "lanes")) (aa 4) (ao (ab (ak aX (aa 5) (eI 1)) (ab (aa 6) (ab (ak aX (aa 7) (ao (a1 (aa 8)))) ah)))))
  (aw (ao (ab (eS "send") (a3 (eX 2 1) (aa 8) (aa 5))))))))) cD)
  (ae (ai (IH (eX 0 2) (a1 (eX 2 2))) (gN 4))
  (ae (ai (ak aB (ak aB (aa 1) (eS "lanes")) (aa 4)) (gT 3 (au (gN 5) (au (gN 6) (au (gN 7) cv)))))
  (ae (gF fG (ak aB (aa 1) (eS "lanes")) (aa 4) (ao (ab (aa 5) (ab (ak aX (aa 6) (eI 1)) (ab (rL (aa 7) (cY (eI 1)) eF) ah)))))
  (ae (gF fG (aa 3) (eX 2 1) (eX 7 0))
  (aw (ao (ab (eS "fetch") (a3 (eX 2 2) (eX 7 0) (aa 6))))))))))
noncomputable def d8:Df:=⟨["_law_program_here", "_law_state", "_law_row_here", "_law_pockets"],5,iM⟩
noncomputable def mH:MS :=
  (ae (ai (ak aB (ak aB (aa 1) (eS "seats")) (aa 2)) (gT 3 (au (gN 4) (au (gN 5) (au (gN 6) cv)))))
  (ae (ai (ag "_law_row" (a3 (aa 0) (aa 1) (aa 2))) (gN 7))
  (ae (ai (ao (ab (aa 2) (ab (ak aB (ak aB (aa 1) (eS "counts")) (aa 2)) ah))) (gN 8))
  (ae (bR (aH (ak jz (eX 7 0) (ao (a2 (eS "get") (eS "put"))))) (ai (ag "_law_boxed" (ab (aa 0) (ab (aa 1) (a3 (aa 7) (aa 8) (aa 5))))) (gN 9)) (bR (aH (ak jz (eX 7 0) (ao (a2 (eS "take") (eS "free"))))) (ai (ag "_law_locked" (ab (aa 0) (ab (aa 1) (a3 (aa 7) (aa 8) (aa 6))))) (gN 9)) (bR (aH (ak jz (eX 7 0) (ao (a2 (eS "send") (eS "fetch"))))) (ai (ag "_law_laned" (ab (aa 0) (a3 (aa 1) (aa 7) (aa 5)))) (gN 9)) (bR (mQ (eX 7 0) (eS "say")) (ae (ai (IH (eX 0 3) (a1 (eX 7 1))) (gN 10))
  (ae (ai (ao (ab (eS "say") (ab (eX 7 1) (ab (ag "_law_worth" (a2 (eX 7 2) (aa 5))) (ab (ak aB (ak aB (aa 1) (eS "doors")) (aa 10)) ah))))) (gN 9))
  (gF fG (ak aB (aa 1) (eS "doors")) (aa 10) (ak aX (ak aB (ak aB (aa 1) (eS "doors")) (aa 10)) (eI 1))))) (ae (gF fG (aa 5) (eX 7 1) (aa 3))
  (ai (ao (ab (eX 7 0) (ab (uO (mQ (eX 7 0) (eS "hear")) (eX 7 2) (eS "")) (a2 (aa 3) (eC .non))))) (gN 9)))))))
  (ae (gF fG (ak aB (aa 1) (eS "counts")) (aa 2) (ak aX (eX 8 1) (eI 1)))
  (ae (gF fG (ak aB (aa 1) (eS "seats")) (aa 2) (ao (ab (ag "_law_rest" (ab (ak aB (ak aB (eX 0 4) (aa 2)) (eI 1)) (ab (ak aX (aa 4) (eI 1)) (a2 (aa 5) (aa 6))))) (a2 (aa 5) (aa 6)))))
  (aw (aa 9))))))))
noncomputable def mM:Df:=⟨["_law_program_here", "_law_state", "_law_hand", "_law_gift_here"],7,mH⟩
noncomputable def pT:MS :=
  (aw (ji 1 (dy (ab (eB b6 (a1 (eX 0 4))) ah)) (gN 2) (aH (Au (ip false) (ag "_law_wait" (a3 (aa 0) (aa 1) (aa 2))))) (aa 2)))
noncomputable def iA:Df:=⟨["_law_program_here", "_law_state"],0,pT⟩
noncomputable def gO:MS :=
  (ae (bR (aH (ak kI (eX 1 0) (ao (a3 (eS "clock") (eS "lot") (eS "hear"))))) (aw (eC .non)) cD)
  (ae (ai (uO (mQ (eX 1 0) (eS "lot")) (eX 1 2) (eI 1000)) (gN 2))
  (aw (ak aB (bH (ab (eI 0) (ab (ak rH (aa 2) (eI 1)) (ab (ag "_law_take" (a2 (aa 0) (aa 2))) (ab (ag "_law_take" (a2 (aa 0) (eI 2))) ah))))) (ag "_law_take" (a2 (aa 0) (eI 4)))))))
noncomputable def dG:Df:=⟨["_law_box_here", "_law_row_here"],1,gO⟩
noncomputable def iJ:MS :=
  (ae (ai (bH ah) (gN 4))
  (ae (ai (bH ah) (gN 5))
  (ae (ai (ag "_law_can" (a2 (aa 0) (aa 2))) (gN 6))
  (ae (uE (pV (aH (ak jT (aa 6) (bH ah))) (aH (ak Bd (eB b6 (a1 (aa 4))) (aa 3)))) (ae (ai (ak aB (aa 6) (ag "_law_take" (ab (aa 1) (ab (eB b6 (a1 (aa 6))) ah)))) (gN 7))
  (ae (ai (ag "_law_gift" (ab (aa 1) (ab (ag "_law_row" (a3 (aa 0) (aa 2) (aa 7))) ah))) (gN 8))
  (ae (cb (eM aM bw (aa 4) (ab (ao (a2 (aa 7) (aa 8))) ah)))
  (ae (cb (eM aM bw (aa 5) (ab (ao (ab (aa 7) (ab (ag "_law_go" (ab (aa 0) (a3 (aa 2) (aa 7) (aa 8)))) ah))) ah)))
  (ai (ag "_law_can" (a2 (aa 0) (aa 2))) (gN 6)))))))
  (aw (ao (ab (eB aC (a1 (aa 4))) (ab (eB aC (a1 (aa 5))) ah))))))))
noncomputable def iK:Df:=⟨["_law_program_here", "_law_box_here", "_law_state", "_law_most"],5,iJ⟩
noncomputable def kh:MS :=
  (aw (eB aC (ab (ji 1 (dy (ab (eB b6 (a1 (eX 0 4))) ah)) (gN 2) bo (eB aC (ab (ji 2 (jZ (aa 1)) (gT 2 (au (gN 3) (au (gN 4) cv))) (aH (ak jW (aa 3) (aa 2))) (aa 4)) ah))) ah)))
noncomputable def eU:Df:=⟨["_law_program_here", "_law_looks"],0,kh⟩
noncomputable def ic:MS :=
  (ae (ai (eB dZ (ab (ao (a2 (aa 1) (aa 2))) ah)) (gN 5))
  (ae (ai (eB dZ (ab (ao (ab (ag "_law_stand" (a1 (aa 3))) (ab (eB aC (a1 (aa 4))) ah))) ah)) (gN 6))
  (ae (j5 (dy (a1 (eI 2))) (gN 7) (ae (bR (aH (ak jT (eB dZ (ab (ag "walked" (a3 (aa 0) (aa 1) (aa 2))) ah)) (aa 6))) (aw (eC (.bl false))) cD)
  (bR (aH (ak jT (eB dZ (ab (ag "tables_of" (a3 (aa 0) (aa 1) (aa 2))) ah)) (eB dZ (ab (ag "_law_tables" (a2 (aa 0) (aa 4))) ah)))) (aw (eC (.bl false))) cD)))
  (aw (ak jW (eB dZ (ab (ao (a2 (aa 1) (aa 2))) ah)) (aa 5))))))
noncomputable def cU:Df:=⟨["_law_program_here", "_law_stand_here", "_law_run", "_law_state", "_law_looks"],3,ic⟩
noncomputable def Cb:MS :=
  (ae (ai (ag "_law_box" (a2 (aa 0) (eI 0))) (gN 1))
  (ae (ai (bH ah) (gN 2))
  (ae (j5 (dy (a1 (eI 2))) (gN 3) (ae (ai (ag "_law_program" (a1 (aa 1))) (gN 4))
  (ae (ai (ag "_law_first" (a1 (aa 4))) (gN 5))
  (ae (ai (ag "_law_drawn" (ab (aa 4) (ab (aa 1) (ab (aa 5) (ab (ag "_law_take" (a2 (aa 1) (eI 25))) ah))))) (gT 2 (au (gN 6) (au (gN 7) cv))))
  (ae (ai (ag "_law_take" (ab (aa 1) (ab (ak aX (eB b6 (a1 (aa 6))) (eI 1)) ah))) (gN 8))
  (cb (eM aM bw (aa 2) (ab (ao (ab (aa 4) (ab (aa 6) (a3 (aa 5) (aa 7) (aa 8))))) ah))))))))
  (ae (j5 (jZ (ak aX (aa 2) (rL (aa 2) eF (cY (eI 1))))) (gT 5 (au (gN 4) (au (gN 6) (au (gN 5) (au (gN 7) (au (gN 8) cv)))))) (ae (ai (ag "first_stand" (a1 (aa 4))) (gN 9))
  (ae (bR (qh (aH (ag "_law_is_walked" (ab (aa 4) (ab (aa 9) (a3 (aa 6) (aa 5) (aa 7))))))) (aw (eC (.bl false))) cD)
  (ae (ai (ak aB (ag "walked" (ab (aa 4) (ab (aa 9) (ab (rL (aa 6) eF (cY (aa 8))) ah)))) (eI 0)) (gN 10))
  (bR (qh (aH (ag "_law_is_walked" (ab (aa 4) (ab (aa 10) (ab (rL (aa 6) (cY (aa 8)) eF) (ab (aa 5) (ab (rL (aa 7) (cY (aa 8)) eF) ah)))))))) (aw (eC (.bl false))) cD)))))
  (aw (eC (.bl true)))))))
noncomputable def El:Df:=⟨["_law_script"],10,Cb⟩
structure bS(pg:Tb):Prop where
 xp:pg.fns "is_whole" =some iF
 sT:pg.fns "is_between" =some fN
 xv:pg.fns "is_value" =some iG
 qE:pg.fns "is_tuple_of" =some eV
 oC:pg.fns "worth" =some iD
 ql:pg.fns "joined_worth" =some dO
 yC:pg.fns "names_of" =some dB
 vw:pg.fns "number_of" =some gH
 BL:pg.fns "rows_of" =some jM
 tJ:pg.fns "first_seat" =some fL
 DD:pg.fns "rested" =some l6
 uT:pg.fns "is_rested" =some eW
 tq:pg.fns "is_own_row" =some fH
 mU:pg.fns "behind_own_row" =some bP
 Ke:pg.fns "laid" =some oU
 x6:pg.fns "touch_of" =some fX
 qJ:pg.fns "seat_behind" =some ck
 xY:pg.fns "may_come" =some fZ
 qM:pg.fns "first_stand" =some eR
 pN:pg.fns "hands_of" =some gz
 yc:pg.fns "state_of" =some iB
 AD:pg.fns "wait_of" =some cW
 Cn:pg.fns "gone" =some qm
 wt:pg.fns "due_touch" =some gI
 t6:pg.fns "takes_gift" =some dP
 eG:pg.fns "meeting" =some cH
 oQ:pg.fns "with_hand_on" =some dW
 uj:pg.fns "with_state" =some fQ
 yv:pg.fns "replaced" =some iN
 C8:pg.fns "walked" =some kX
 Al:pg.fns "stepped" =some jN
 wB:pg.fns "tables_of" =some gK
 yK:pg.fns "looks_of" =some iy
 qr:pg.fns "_law_box" =some gb
 nJ:pg.fns "_law_take" =some fj
 fU:pg.fns "_law_sum" =some cQ
 cz:pg.fns "_law_touch_row" =some aZ
 vd:pg.fns "_law_rows" =some gJ
 pq:pg.fns "_law_program" =some gp
 fE:pg.fns "_law_worth" =some aU
 qL:pg.fns "_law_is_own" =some cF
 wN:pg.fns "_law_rest" =some fc
 tO:pg.fns "_law_first" =some iV
 tL:pg.fns "_law_stand" =some fK
 xJ:pg.fns "_law_row" =some gv
 wK:pg.fns "_law_wait" =some bZ
 lN:pg.fns "_law_boxed" =some dQ
 kf:pg.fns "_law_locked" =some dj
 k8:pg.fns "_law_laned" =some d8
 Ag:pg.fns "_law_go" =some mM
 yj:pg.fns "_law_can" =some iA
 jy:pg.fns "_law_gift" =some dG
 tM:pg.fns "_law_drawn" =some iK
 qZ:pg.fns "_law_tables" =some eU
 mZ:pg.fns "_law_is_walked" =some cU
 Jz:pg.fns "law" =some El
 Sn:pg.con "SORTS" =some (.ktup [(.str "box"),(.str "lock"),(.str "lane"),(.str "door"),(.str "hand")])
 Rt:pg.con "WORTHS" =some (.int 1000)
 BZ:pg.con "MOST_OWN_ROWS" =some (.int 200)
 JR:pg.con "POCKETING" =some (.ktup [(.str "get"),(.str "fetch"),(.str "clock"),(.str "lot"),(.str "hear")])
 Rg:pg.con "COUNTS" =some (.int 0)
 Sj:pg.con "SEATS" =some (.int 1)
 Q2:pg.con "GIFTED" =some (.ktup [(.str "clock"),(.str "lot"),(.str "hear")])
 GB:pg.con "MOST_STEPS" =some (.int 60)
 eY:pg.zK "ROW_PARTS" =some eY
 dC:pg.zK "PLACE_OF" =some dC
 fT:pg.zK "MET_SORT" =some fT
noncomputable def J9:List (String × Df):=[("is_whole",iF),("is_between",fN),("is_value",iG),("is_tuple_of",eV),("worth",iD),("joined_worth",dO),("names_of",dB),("number_of",gH),("rows_of",jM),("first_seat",fL),("rested",l6),("is_rested",eW),("is_own_row",fH),("behind_own_row",bP),("laid",oU),("touch_of",fX),("seat_behind",ck),("may_come",fZ),("first_stand",eR),("hands_of",gz),("state_of",iB),("wait_of",cW),("gone",qm),("due_touch",gI),("takes_gift",dP),("meeting",cH),("with_hand_on",dW),("with_state",fQ),("replaced",iN),("walked",kX),("stepped",jN),("tables_of",gK),("looks_of",iy),("_law_box",gb),("_law_take",fj),("_law_sum",cQ),("_law_touch_row",aZ),("_law_rows",gJ),("_law_program",gp),("_law_worth",aU),("_law_is_own",cF),("_law_rest",fc),("_law_first",iV),("_law_stand",fK),("_law_row",gv),("_law_wait",bZ),("_law_boxed",dQ),("_law_locked",dj),("_law_laned",d8),("_law_go",mM),("_law_can",iA),("_law_gift",dG),("_law_drawn",iK),("_law_tables",eU),("_law_is_walked",cU),("law",El)]
noncomputable def conT:List (Str × PV):=[("SORTS",(.ktup [(.str "box"),(.str "lock"),(.str "lane"),(.str "door"),(.str "hand")])),("WORTHS",(.int 1000)),("MOST_OWN_ROWS",(.int 200)),("POCKETING",(.ktup [(.str "get"),(.str "fetch"),(.str "clock"),(.str "lot"),(.str "hear")])),("COUNTS",(.int 0)),("SEATS",(.int 1)),("GIFTED",(.ktup [(.str "clock"),(.str "lot"),(.str "hear")])),("MOST_STEPS",(.int 60))]
noncomputable def dcT:List (Str × List (Key × PV)):=[("ROW_PARTS",eY),("PLACE_OF",dC),("MET_SORT",fT)]
noncomputable def tb:Tb:=⟨λf=>(J9.find? λp=>p.1 == f).map (·.2),λx=>(conT.find? λp=>decide (p.1=x)).map (·.2),λx=>(dcT.find? λp=>decide (p.1=x)).map (·.2)⟩
theorem aL{l:List (String × Df)}(nd:(l.map (·.1)).Nodup)(i:Nat){f:String}{d:Df}(e:l[i]?=some (f,d)):(l.find? λp=>p.1 == f).map (·.2)=some d:=by
 induction l generalizing i d with
 | nil=>exact nomatch e
 | cons x l ih =>
  rw[US,Xa] at nd
  cases i with
  | zero =>
   rw[ZZ] at e
   cases e
   rw[List.find?_cons_of_pos (by simp)];rfl
  | succ i =>
   rw[Vi] at e
   have m:(f,d)∈l:=UX e
   have ne: ¬ (x.1 == f)=true:=λz=>nd.1 (by rw[beq_iff_eq.mp z];exact Vv.mpr ⟨_,m,rfl⟩)
   rw[List.find?_cons_of_neg (p:=λp:String × Df=>p.1 == f) ne]
   exact ih nd.2 i e
theorem aJ:(J9.map (·.1)).Nodup:=by decide +kernel
theorem has:bS tb:=⟨aL aJ 0 rfl,aL aJ 1 rfl,aL aJ 2 rfl,aL aJ 3 rfl,aL aJ 4 rfl,aL aJ 5 rfl,aL aJ 6 rfl,aL aJ 7 rfl,aL aJ 8 rfl,aL aJ 9 rfl,aL aJ 10 rfl,aL aJ 11 rfl,aL aJ 12 rfl,aL aJ 13 rfl,aL aJ 14 rfl,aL aJ 15 rfl,aL aJ 16 rfl,aL aJ 17 rfl,aL aJ 18 rfl,aL aJ 19 rfl,aL aJ 20 rfl,aL aJ 21 rfl,aL aJ 22 rfl,aL aJ 23 rfl,aL aJ 24 rfl,aL aJ 25 rfl,aL aJ 26 rfl,aL aJ 27 rfl,aL aJ 28 rfl,aL aJ 29 rfl,aL aJ 30 rfl,aL aJ 31 rfl,aL aJ 32 rfl,aL aJ 33 rfl,aL aJ 34 rfl,aL aJ 35 rfl,aL aJ 36 rfl,aL aJ 37 rfl,aL aJ 38 rfl,aL aJ 39 rfl,aL aJ 40 rfl,aL aJ 41 rfl,aL aJ 42 rfl,aL aJ 43 rfl,aL aJ 44 rfl,aL aJ 45 rfl,aL aJ 46 rfl,aL aJ 47 rfl,aL aJ 48 rfl,aL aJ 49 rfl,aL aJ 50 rfl,aL aJ 51 rfl,aL aJ 52 rfl,aL aJ 53 rfl,aL aJ 54 rfl,aL aJ 55 rfl,rfl,rfl,rfl,rfl,rfl,rfl,rfl,rfl,rfl,rfl,rfl⟩
local macro_rules
 | `(tactic| array_get_dec)=> do
  let tm (x:String):Lean.MacroM Lean.Term:=match x with
   | "?"=>`(?_)
   | "_"=>`(_)
   | "A"=>`(by assumption)
   | "R"=>`(rfl)
   | "F"=>`(λ_ _=>rfl)
   | "K"=>`(by decide +kernel)
   | "D"=>`(by decide)
   | "Q"=>`(⟨rfl,rfl,rfl,rfl⟩)
   | "L"=>`(λ_ _ _ _ _ _=>⟨λ_=>?_,?_,?_⟩)
   | "O"=>`(by first | exact ab1 rfl | exact aaQ rfl)
   | "Z"=>`(by intro z;cases z)
   | "w"=>`(EC _)
   | x=>pure (Lean.mkIdent x.toName)
  let al (a:String):Lean.MacroM (Lean.TSyntax `tactic):=do
   match a.splitOn " " with
   | ["p",q,n]=>`(tactic| refine $(Lean.mkIdent q.toName) ($(Lean.mkIdent n.toName) ?_ ?_))
   | [n]=>`(tactic| refine $(Lean.mkIdent n.toName))
   | n::r=>do
     let ts ← r.toArray.mapM tm
     `(tactic| refine $(Lean.mkIdent n.toName) $ts*)
   | []=>Lean.Macro.throwUnsupported
  let fs (x:List (Lean.TSyntax `tactic)):Lean.MacroM (Lean.TSyntax `tactic):=do
   let e ← `(tactic| fail)
   x.foldrM (λa b=>`(tactic| first | $a:tactic | $b:tactic)) e
  let gr (g:String):Lean.MacroM (Lean.TSyntax `tactic):=do
   match g.splitOn ":" with
   | [h,b]=>do
     let y ← fs (← (b.splitOn "|").mapM al)
     match h.splitOn " " with
     | [n,k]=>do
       let hs ← (Array.range k.toNat!).mapM λ_=>`(_)
       `(tactic| (show $(Lean.mkIdent n.toName) $hs*;$y:tactic))
     | _=>Lean.Macro.throwUnsupported
   | _=>Lean.Macro.throwUnsupported
  let a ← ("JE 5:Kw _|KZ|MW|Nd|O8|Pe SY ? ? F|HM A R ?|OT ? ? ?|AK R R ?|BA A R ?|Ae ? ?|Kt ?|Kv ?|DB ? ? ? w|DB ? ? ? R|Mu ?|CG ? ? ? ? ?|Nm ?|L5 ? ?|Q9 ? ?|L6 ?|D4 ? ? ?|E9 A R ? F|DA ? ? ?|Er|Fe ? R R Z D|Gx ? ? ? Q|Mt ? L|Kh ? L|N1 A R|He PB R K PySem.boot_len ?|He QY R K boot_isinstance ?|He Af R K boot_sorted ?|F0 QH R K boot_int ?|F0 Gs R K boot_tuple ?|F0 LU R K boot_list ?|F0 Oc R K boot_dict ?|He Hr R K boot_repr ?|vU R K boot_int|vU R K boot_bool|vU R K boot_list|vU R K boot_tuple|vU R K boot_dict|KQ PySem.F.plainAttrs_list PySem.F.slot_list_append PySem.F.type_list_append D5 ? ?|KQ PySem.F.plainAttrs_list PySem.F.slot_list_remove PySem.F.type_list_remove Eb ? ?|KQ PySem.F.plainAttrs_list PySem.F.slot_list_index PySem.F.type_list_index B3 ? ?#JA 5:NM|Iu ? ?#ym 5:Ic|IQ ?|B6 ? ?#JS 5:Ob A ? L|J8 A ? L|L8 A R O ?|OZ ? ? ?|KN ?|GZ ?|LJ RA ? ? ?|KW ? ?|Mj ? ? ? PassesOwn.never|DU ? ? PassesOwn.never|M7 ?|Cm#JT 5:EX ? ? ? w|EX ? ? ? R|LN ?|Gn ?|p JW.pt B7|p JW.pt JD|MU ?|Ku ?#JW 5:B7 ? ?|JD ? ?|Hl ?|Ls ?#JO 5:Hx|Fv ?#JP 7:Ou|Hf ? ? ?#JG 5:Hy A R O|KP ?#Rq 5:Fx|DN ? ?#JI 6:BP R ?|NY R ? ?|Ik R ?|M0 ?#JF 5:L7|Mg ?#QG 3:zU A R O|Ii A ?#N0 3:zG|v8 ? ?".splitOn "#").mapM gr
  let b ← ("Qi|Ld|Pu|Kj|Qe|Pn|Tw|Td|SK|TC|Ti|Tv|SJ|IF".splitOn "|").mapM al
  let t ← fs (a++b)
  `(tactic| repeat' first | $t:tactic | fail)
local macro_rules
 | `(tactic| clean_wf)=> `(tactic| (refine aS.on (by assumption) ⟨rfl,rfl,rfl,by decide +kernel,rfl,by decide +kernel,by decide +kernel⟩ rfl (λ_ _ _ _ _ _=>by first | exact T7 λ_=>rfl | exact TL λ_ _=>rfl | exact Uh λ_ _ _=>rfl | exact Um λ_ _ _ _=>rfl | exact UI λ_ _ _ _ _=>rfl) λ_ _ _ _ _ _ _ _ _ _=>?_;obtain⟨⟩:= ‹bS _›; array_get_dec))
section
variable {P:Vg} {w:World} {K:UL} {mg:Str->Option Value} {pg:Tb}
theorem xR (T:bS pg) (a:At K mg "is_whole" (top 5)):aS P w K mg pg "is_whole" iF (top 5) ["thing"]:=by clean_wf
theorem uz (T:bS pg) (a:At K mg "is_between" (top 6)):aS P w K mg pg "is_between" fN (top 6) ["thing", "least", "most"]:=by clean_wf
theorem yk (T:bS pg) (a:At K mg "is_value" (top 7)):aS P w K mg pg "is_value" iG (top 7) ["thing"]:=by clean_wf
theorem qK (T:bS pg) (a:At K mg "is_tuple_of" (top 8)):aS P w K mg pg "is_tuple_of" eV (top 8) ["thing", "many"]:=by clean_wf
theorem Hm (T:bS pg) (a:At K mg "worth" (top 13)):aS P w K mg pg "worth" iD (top 13) ["tree", "pockets", "word", "one"]:=by clean_wf
theorem oW (T:bS pg) (a:At K mg "joined_worth" (top 14)):aS P w K mg pg "joined_worth" dO (top 14) ["word", "one", "other"]:=by clean_wf
theorem xH (T:bS pg) (a:At K mg "names_of" (top 16)):aS P w K mg pg "names_of" dB (top 16) ["program", "sort", "ones"]:=by
 have z0:(om ["program", "sort", "ones"] ["one"]).Nodup:=by decide +kernel
 clean_wf
theorem vg (T:bS pg) (a:At K mg "number_of" (top 17)):aS P w K mg pg "number_of" gH (top 17) ["program", "sort", "name", "names"]:=by clean_wf
theorem Ab (T:bS pg) (a:At K mg "rows_of" (top 18)):aS P w K mg pg "rows_of" jM (top 18) ["program", "hand"]:=by clean_wf
theorem uJ (T:bS pg) (a:At K mg "first_seat" (top 22)):aS P w K mg pg "first_seat" fL (top 22) ["program", "hand"]:=by clean_wf
theorem CO (T:bS pg) (a:At K mg "rested" (top 23)):aS P w K mg pg "rested" l6 (top 23) ["program", "hand", "seat", "rows", "here", "turn"]:=by clean_wf
theorem uZ (T:bS pg) (a:At K mg "is_rested" (top 24)):aS P w K mg pg "is_rested" eW (top 24) ["rows", "seat"]:=by clean_wf
theorem sP (T:bS pg) (a:At K mg "is_own_row" (top 25)):aS P w K mg pg "is_own_row" fH (top 25) ["row", "held"]:=by clean_wf
theorem mG (T:bS pg) (a:At K mg "behind_own_row" (top 26)):aS P w K mg pg "behind_own_row" bP (top 26) ["row", "seat", "onward"]:=by clean_wf
theorem N6 (T:bS pg) (a:At K mg "laid" (top 27)):aS P w K mg pg "laid" oU (top 27) ["pockets", "name", "value", "others"]:=by
 have z0:(om ["pockets", "name", "value", "others"] ["pocket"]).Nodup:=by decide +kernel
 clean_wf
theorem xn (T:bS pg) (a:At K mg "touch_of" (top 28)):aS P w K mg pg "touch_of" fX (top 28) ["program", "hand", "seat", "rows", "row", "thing", "value", "part", "entry"]:=by clean_wf
theorem rE (T:bS pg) (a:At K mg "seat_behind" (top 29)):aS P w K mg pg "seat_behind" ck (top 29) ["program", "hand", "seat", "value", "row", "pockets", "held"]:=by
 have z0:(om ["program", "hand", "seat", "value", "row", "pockets", "held"] ["lock"]).Nodup:=by decide +kernel
 clean_wf
theorem xT (T:bS pg) (a:At K mg "may_come" (top 30)):aS P w K mg pg "may_come" fZ (top 30) ["touch", "value"]:=by clean_wf
theorem qV (T:bS pg) (a:At K mg "first_stand" (top 35)):aS P w K mg pg "first_stand" eR (top 35) ["program", "hands"]:=by
 have z0:(om ["program", "hands"] ["hand"]).Nodup:=by decide +kernel
 have z1:(om ["program", "hands"] ["box"]).Nodup:=by decide +kernel
 have z2:(om ["program", "hands"] ["lock"]).Nodup:=by decide +kernel
 have z3:(om ["program", "hands"] ["lane"]).Nodup:=by decide +kernel
 have z4:(om ["program", "hands"] ["door"]).Nodup:=by decide +kernel
 clean_wf
theorem xh (T:bS pg) (a:At K mg "hands_of" (top 36)):aS P w K mg pg "hands_of" gz (top 36) ["program"]:=by clean_wf
theorem xf (T:bS pg) (a:At K mg "state_of" (top 37)):aS P w K mg pg "state_of" iB (top 37) ["program", "stand", "sort", "name"]:=by clean_wf
theorem BQ (T:bS pg) (a:At K mg "wait_of" (top 38)):aS P w K mg pg "wait_of" cW (top 38) ["program", "stand", "hand", "touch", "holder"]:=by clean_wf
theorem Lp (T:bS pg) (a:At K mg "gone" (top 42)):aS P w K mg pg "gone" qm (top 42) ["program", "stand", "hand", "gift", "touch", "kind", "thing", "sort", "met", "behind"]:=by clean_wf
theorem v9 (T:bS pg) (a:At K mg "due_touch" (top 43)):aS P w K mg pg "due_touch" gI (top 43) ["program", "stand", "hand", "gift", "wait", "touch"]:=by clean_wf
theorem tE (T:bS pg) (a:At K mg "takes_gift" (top 44)):aS P w K mg pg "takes_gift" dP (top 44) ["touch", "gift"]:=by clean_wf
theorem Bx (T:bS pg) (a:At K mg "meeting" (top 45)):aS P w K mg pg "meeting" cH (top 45) ["touch", "event", "state", "kind", "value"]:=by clean_wf
theorem qa (T:bS pg) (a:At K mg "with_hand_on" (top 46)):aS P w K mg pg "with_hand_on" dW (top 46) ["program", "stand", "hand", "value", "seat", "counted"]:=by clean_wf
theorem tj (T:bS pg) (a:At K mg "with_state" (top 47)):aS P w K mg pg "with_state" fQ (top 47) ["program", "stand", "sort", "name", "state", "place"]:=by clean_wf
theorem yH (T:bS pg) (a:At K mg "replaced" (top 48)):aS P w K mg pg "replaced" iN (top 48) ["parts", "place", "part"]:=by clean_wf
theorem CS (T:bS pg) (a:At K mg "walked" (top 51)):aS P w K mg pg "walked" kX (top 51) ["program", "stand", "run", "here", "touches", "place", "step", "told"]:=by clean_wf
theorem BG (T:bS pg) (a:At K mg "stepped" (top 52)):aS P w K mg pg "stepped" jN (top 52) ["program", "stand", "place", "step", "refusal"]:=by clean_wf
theorem wI (T:bS pg) (a:At K mg "tables_of" (top 53)):aS P w K mg pg "tables_of" gK (top 53) ["program", "stand", "run", "touches"]:=by
 have z0:(om ["program", "stand", "run", "touches"] ["hand"]).Nodup:=by decide +kernel
 clean_wf
theorem wZ (T:bS pg) (a:At K mg "looks_of" (top 54)):aS P w K mg pg "looks_of" iy (top 54) ["touches", "hand"]:=by
 have z0:(om ["touches", "hand"] ["maker", "look"]).Nodup:=by decide +kernel
 clean_wf
theorem yr (T:bS pg) (a:At K mg "_law_box" (top 56)):aS P w K mg pg "_law_box" gb (top 56) ["_law_script", "_law_k", "_law_cell"]:=by clean_wf
theorem vj (T:bS pg) (a:At K mg "_law_take" (top 57)):aS P w K mg pg "_law_take" fj (top 57) ["_law_box_here", "_law_many", "_law_found", "_law_mixed"]:=by clean_wf
theorem xr (T:bS pg) (a:At K mg "_law_sum" (top 58)):aS P w K mg pg "_law_sum" cQ (top 58) ["_law_box_here", "_law_pockets", "_law_deep", "_law_way", "_law_word"]:=by clean_wf
theorem mO (T:bS pg) (a:At K mg "_law_touch_row" (top 59)):aS P w K mg pg "_law_touch_row" aZ (top 59) ["_law_box_here", "_law_names", "_law_pockets", "_law_kinds", "_law_kind", "_law_pocket", "_law_sort", "_law_thing"]:=by clean_wf
theorem vG (T:bS pg) (a:At K mg "_law_rows" (top 60)):aS P w K mg pg "_law_rows" gJ (top 60) ["_law_box_here", "_law_names", "_law_pockets", "_law_kinds", "_law_sort", "_law_more", "_law_many", "_law_rows_here", "_law_k", "_law_way"]:=by clean_wf
theorem qw (T:bS pg) (a:At K mg "_law_program" (top 61)):aS P w K mg pg "_law_program" gp (top 61) ["_law_box_here", "_law_pool", "_law_turn", "_law_names", "_law_sort", "_law_many", "_law_boxes", "_law_hands", "_law_k", "_law_pockets"]:=by
 have z0:(om ["_law_box_here", "_law_pool", "_law_turn", "_law_names", "_law_sort", "_law_many", "_law_boxes", "_law_hands", "_law_k", "_law_pockets"] ["_law_name"]).Nodup:=by decide +kernel
 clean_wf
theorem t5 (T:bS pg) (a:At K mg "_law_worth" (top 62)):aS P w K mg pg "_law_worth" aU (top 62) ["_law_e", "_law_pockets", "_law_one", "_law_other"]:=by clean_wf
theorem qD (T:bS pg) (a:At K mg "_law_is_own" (top 63)):aS P w K mg pg "_law_is_own" cF (top 63) ["_law_row_here", "_law_held"]:=by clean_wf
theorem vQ (T:bS pg) (a:At K mg "_law_rest" (top 64)):aS P w K mg pg "_law_rest" fc (top 64) ["_law_rows_here", "_law_at", "_law_pockets", "_law_held", "_law_gone_over", "_law_row_here"]:=by clean_wf
theorem tK (T:bS pg) (a:At K mg "_law_first" (top 65)):aS P w K mg pg "_law_first" iV (top 65) ["_law_program_here", "_law_state", "_law_hand", "_law_pockets", "_law_at"]:=by
 have z0:(om ["_law_program_here", "_law_state", "_law_hand", "_law_pockets", "_law_at"] ["_law_name"]).Nodup:=by decide +kernel
 have z1:(om ["_law_program_here", "_law_state", "_law_hand", "_law_pockets", "_law_at"] ["_law_one"]).Nodup:=by decide +kernel
 clean_wf
theorem uI (T:bS pg) (a:At K mg "_law_stand" (top 66)):aS P w K mg pg "_law_stand" fK (top 66) ["_law_state", "_law_seats", "_law_at", "_law_pockets", "_law_held", "_law_some", "_law_found"]:=by
 have z0:(om ["_law_state", "_law_seats", "_law_at", "_law_pockets", "_law_held", "_law_some", "_law_found"] ["_law_name"]).Nodup:=by decide +kernel
 clean_wf
theorem xc (T:bS pg) (a:At K mg "_law_row" (top 67)):aS P w K mg pg "_law_row" gv (top 67) ["_law_program_here", "_law_state", "_law_hand", "_law_rows_here", "_law_at"]:=by clean_wf
theorem vE (T:bS pg) (a:At K mg "_law_wait" (top 68)):aS P w K mg pg "_law_wait" bZ (top 68) ["_law_program_here", "_law_state", "_law_hand", "_law_row_here", "_law_holder"]:=by clean_wf
theorem ue (T:bS pg) (a:At K mg "_law_boxed" (top 69)):aS P w K mg pg "_law_boxed" dQ (top 69) ["_law_program_here", "_law_state", "_law_row_here", "_law_event", "_law_pockets", "_law_value", "_law_mark", "_law_place"]:=by
 have z0:(om ["_law_program_here", "_law_state", "_law_row_here", "_law_event", "_law_pockets", "_law_value", "_law_mark", "_law_place"] ["_law_one"]).Nodup:=by decide +kernel
 clean_wf
theorem qH (T:bS pg) (a:At K mg "_law_locked" (top 70)):aS P w K mg pg "_law_locked" dj (top 70) ["_law_program_here", "_law_state", "_law_row_here", "_law_event", "_law_held", "_law_place", "_law_mark"]:=by clean_wf
theorem tY (T:bS pg) (a:At K mg "_law_laned" (top 71)):aS P w K mg pg "_law_laned" d8 (top 71) ["_law_program_here", "_law_state", "_law_row_here", "_law_pockets", "_law_place", "_law_sent", "_law_fetched", "_law_letters", "_law_value"]:=by clean_wf
theorem Ap (T:bS pg) (a:At K mg "_law_go" (top 72)):aS P w K mg pg "_law_go" mM (top 72) ["_law_program_here", "_law_state", "_law_hand", "_law_gift_here", "_law_at", "_law_pockets", "_law_held", "_law_row_here", "_law_event", "_law_look", "_law_place"]:=by clean_wf
theorem yo (T:bS pg) (a:At K mg "_law_can" (top 73)):aS P w K mg pg "_law_can" iA (top 73) ["_law_program_here", "_law_state"]:=by
 have z0:(om ["_law_program_here", "_law_state"] ["_law_hand"]).Nodup:=by decide +kernel
 clean_wf
theorem u6 (T:bS pg) (a:At K mg "_law_gift" (top 74)):aS P w K mg pg "_law_gift" dG (top 74) ["_law_box_here", "_law_row_here", "_law_most"]:=by clean_wf
theorem uK (T:bS pg) (a:At K mg "_law_drawn" (top 75)):aS P w K mg pg "_law_drawn" iK (top 75) ["_law_program_here", "_law_box_here", "_law_state", "_law_most", "_law_run", "_law_looks", "_law_can_here", "_law_hand", "_law_gift_here"]:=by clean_wf
theorem rh (T:bS pg) (a:At K mg "_law_tables" (top 76)):aS P w K mg pg "_law_tables" eU (top 76) ["_law_program_here", "_law_looks"]:=by
 have z0:(om ["_law_program_here", "_law_looks"] ["_law_hand"]).Nodup:=by decide +kernel
 have z1:(om (om ["_law_program_here", "_law_looks"] ["_law_hand"]) ["_law_one", "_law_look"]).Nodup:=by decide +kernel
 clean_wf
theorem mT (T:bS pg) (a:At K mg "_law_is_walked" (top 77)):aS P w K mg pg "_law_is_walked" cU (top 77) ["_law_program_here", "_law_stand_here", "_law_run", "_law_state", "_law_looks", "_law_kept", "_law_due", "_law_k"]:=by clean_wf
theorem IU (T:bS pg) (a:At K mg "law" (top 78)):aS P w K mg pg "law" El (top 78) ["_law_script", "_law_box_here", "_law_cases", "_law_k", "_law_program_here", "_law_state", "_law_run", "_law_looks", "_law_place", "_law_first_here", "_law_amid"]:=by clean_wf
end
end K23
end
section
open PySem L2 P3
local macro_rules
 | `(tactic| simp? [$ls,*])=> `(tactic| simp? (disch:=omega) only [$ls,*])
 | `(tactic| simp? (disch:= $t) only [$ls,*])=> do
  let xs ← ("↓Jo ↓Qs ↓QL RC ↓Ra MJ LV ↓P5 J0 ↓Jy Ks NP ↓Pm La Lf NQ ↓OM Lj ↓Q8 ↓Mq Ib ↓Sz Lx ↓Mi Iq Gj Hs ↓Pq M6 LY Mo ↓NU HX ↓O5 Oa LF Kk Nr ↓Lw ↓F2 Ed CB Dg DM ↓K8 IK IB Ho Gk ↓Gq Dd ↓Hn ↓Gg ↓Dt AM BB ↓Mh Fw ↓MZ FG xj ↓G0 ↓SX ↓SH ↓Qp KH Ow Hd Iz HN ↓En yX FZ Fo GN ↓Rc ↓IA Cu ↓Ot GS ↓Mr F3 G7 GJ GV ↓Oe HY Hu Mx O7 Ll Kr LR JY RG Nh MF ↓Oj Hz Ip Hg KG ↓tW oF DR ↓Nl Lb LB xX yO Ln ↓t8 oI ↓NN Ie Cd B9 ↓RF Kb Ko PL Nk Gz HQ Ff FY KR dR CY kC Hq nG List.getElem?_cons_zero List.getElem?_cons_succ List.set_cons_zero List.set_cons_succ List.map_cons List.map_nil List.cons_append List.nil_append List.replicate_succ List.replicate_zero List.length_cons List.length_nil GH GF jJ GU ES sZ Ft NA LS mJ yz HB Gv FF FP tR j6 wm Bh uo JX xZ Q4 Eo Qk IE sQ OU Ov len_T F8 NI QM ↓K6 Gf Ee Fj FV EK O0 Lu kM M5 D3 ↓Cy cq br jS yd lT jv zv ui ↓Qt KO LI ↓PU ↓Qd ML QC Rb JQ List.append_assoc List.length_append xB zD in_K ↓Qy LD QD ON IZ K9 cC decide_true decide_false Bool.not_true Bool.not_false if_true if_false reduceIte ite_self Bool.false_eq_true String.reduceEq String.reduceNe reduceCtorEq Int.reduceEq Int.reduceNe Int.reduceLT Int.reduceLE Int.reduceSub Int.reduceAdd Int.reduceMul Int.reduceToNat Int.reduceNeg".splitOn " ").toArray.mapM λw=>if w.startsWith "↓" then `(Lean.Parser.Tactic.simpLemma| ↓$(Lean.mkIdent (w.drop 1).toName):term) else `(Lean.Parser.Tactic.simpLemma| $(Lean.mkIdent w.toName):term)
  let ys : Lean.TSyntaxArray [`Lean.Parser.Tactic.simpStar,`Lean.Parser.Tactic.simpErase,`Lean.Parser.Tactic.simpLemma] := ls.getElems ++ xs.map (λx=>⟨x.raw⟩)
  `(tactic| simp (disch:= $t) only [$ys,*])
section
set_option maxHeartbeats 1000000
namespace K23
inductive Bo where | add | sub | mul | less | same
 deriving DecidableEq
noncomputable def Bo.w:Bo->Str
 | .add=> "add" | .sub=> "sub" | .mul=> "mul" | .less=> "less" | .same=> "same"
noncomputable def Bo.f:Bo->Int->Int->Int
 | .add,a,b=>(a+b) % 1000
 | .sub,a,b=>(a - b) % 1000
 | .mul,a,b=>a*b % 1000
 | .less,a,b=>if a < b then 1 else 0
 | .same,a,b=>if a=b then 1 else 0
inductive Sm where
 | num (n:Int) | of (x:Str) | un (a:Sm) | bin (o:Bo) (a b:Sm)
noncomputable def ig:Sm->PV
 | .num n=> .tup [.str "num",.int n]
 | .of x=> .tup [.str "of",.str x]
 | .un a=> .tup [.str "not",ig a]
 | .bin o a b=> .tup [.str o.w,ig a,ig b]
noncomputable def Sm.dp:Sm->Nat
 | .num _=>1 | .of _=>1 | .un a=>a.dp+1 | .bin _ a b=>max a.dp b.dp+1
noncomputable def Sm.ok:Sm->Prop
 | .num n=>0<=n/\n<=999 | .of _=>True | .un a=>a.ok | .bin _ a b=>a.ok/\b.ok
noncomputable def Sm.val(f:Str->Int):Sm->Int
 | .num n=>n
 | .of x=>f x
 | .un a=>if a.val f=0 then 1 else 0
 | .bin o a b=>o.f (a.val f) (b.val f)
theorem Sm.nh {f : Str -> Int} (hf : ∀ x, 0 <= f x /\ f x <= 999) : ∀ e : Sm, e.ok -> 0 <= e.val f /\ e.val f <= 999
  | .num n, h => h
  | .of x, _ => hf x
  | .un a, _ => by unfold Sm.val; split <;> omega
  | .bin o a b, _ => by
    unfold Sm.val Bo.f;cases o <;> simp only <;> first
      | (split <;> omega)
      | exact ⟨XE _ (by decide), by have := W5 (Sm.val f a + Sm.val f b) (show (0 : Int) < 1000 by decide); omega⟩
      | exact ⟨XE _ (by decide), by have := W5 (Sm.val f a - Sm.val f b) (show (0 : Int) < 1000 by decide); omega⟩
      | exact ⟨XE _ (by decide), by have := W5 (Sm.val f a * Sm.val f b) (show (0 : Int) < 1000 by decide); omega⟩
theorem fe: ∀ e:Sm,(ig e).flat=true
 | .num n=>rfl
 | .of x=>rfl
 | .un a=>by simp[ig,PV.flat,PV.aQ,fe a]
 | .bin o a b=>by simp[ig,PV.flat,PV.aQ,fe a,fe b]
abbrev Pk:=List (Str × Int)
noncomputable def uQ(ps:Pk):PV:= .tup (ps.map cO)
noncomputable def fP:Pk->Str->Int
 | [],_=>0
 | q::r,x=>if q.1=x then q.2 else fP r x
structure UD(ps:Pk):Prop where
 Sa:(ps.map (·.1)).Pairwise iZ
 mem: ∀ q∈ps,1<=q.2/\q.2<=999
 len:ps.length<=20
theorem wu: ∀{ps:Pk},(∀ q∈ps,1<=q.2/\q.2<=999)-> ∀ x,0<=fP ps x/\fP ps x<=999
 | [],_,x=>by simp[fP]
 | q::r,h,x=>by
  unfold fP;split
  . have:=h q U3;omega
  . exact wu (λz hz=>h z (U6 _ hz)) x
theorem jg: ∀(ps:Pk),PV.aQ (ps.map cO)=true
 | []=>rfl
 | q::r=>by simp[PV.aQ,cO,PV.flat,jg r]
noncomputable def dM(ps:Pk):List (Key × PV):=ps.map λq=>(.inr q.1,.int q.2)
theorem wO: ∀(ps:Pk),jo (ps.map cO)=some (dM ps)
 | []=>rfl
 | q::r=>by simp[jo,cO,pairP?,iR,wO r,dM]
theorem xQ: ∀(ps:Pk)(x:Str),(cw (dM ps) (.inr x)).getD (.int 0)= .int (fP ps x)
 | [],x=>rfl
 | q::r,x=>by
  unfold fP dM;rw[US];by_cases e:q.1=x
  . rw[if_pos e,e,sQ];rfl
  . rw[if_neg e,vB (by simpa using e)];exact xQ r x
theorem Hh: ∀{kvs:List (Key × PV)}{k:Key}{v:PV},k ∉ kvs.map (λkv:Key × PV=>kv.1)->ia kvs k v=kvs++[(k,v)]:=by
 intro kvs k v h;unfold ia;rw[if_neg];simp only[ab6,decide_eq_true_eq,not_exists,not_and];exact λx hx e=>h (Vv.mpr ⟨x,hx,e⟩)
theorem uU: ∀(more acc:List (Key × PV)),((acc++more).map (λkv:Key × PV=>kv.1)).Nodup->cy acc more=acc++more
 | [],acc,_=>by simp[cy]
 | p::r,acc,h=>by
  have h2:p.1 ∉ acc.map (λkv:Key × PV=>kv.1):=by
   rw[VG,XN] at h;intro m;exact h.2.2 p.1 m p.1 (by simp) rfl
  show cy (ia acc p.1 p.2) r=_;rw [Hh h2,uU r _ (by simpa using h)];simp
theorem D6 {ps : Pk} (nd : (ps.map (·.1)).Nodup) : cy [] (dM ps) = dM ps := by
  rw [uU _ _ ?_]; · rfl
  have e : ([] ++ dM ps).map (λkv : Key × PV => kv.1) = (ps.map (·.1)).map (WA (α := Int)) := by unfold dM; rw [Vj, VN, VN]; rfl
  rw [e];exact List.Pairwise.map _ (λa b z e => z (aaJ e)) nd
section
variable {pg:Tb} (T:bS pg)
include T
theorem PY(k:Nat)(o:Bo)(a b:Int)(h:PH)(ha:0<=a/\a<=999):run pg (k+1) "joined_worth" [.str o.w,.int a,.int b] h= .ok (.int (o.f a b)) h:=by
 rw[run_eq T.ql rfl];cases o<;>simp? [dO,jf,Bo.w,Bo.f]
 all_goals split<;>rfl
theorem jD(h:PH){ps:Pk}(nd:(ps.map (·.1)).Nodup)(hm: ∀ q∈ps,1<=q.2/\q.2<=999)(hl:ps.length<=1000): ∀(e:Sm)(k:Nat),e.ok->e.dp<=k->run pg (k+1) "worth" [ig e,uQ ps] h= .ok (.int (e.val (fP ps))) h
 | .num n,k,ho,hk=>by
  rw[run_eq T.oC rfl];simp? [iD,kW,ig,Sm.val]
 | .of x,k,ho,hk=>by
  rw[run_eq T.oC rfl];have hz:(ps.map cO).length < 16777216:=by rw[UO];omega
  simp? [iD,kW,ig,uQ,Sm.val,wO,D6 nd,xQ,D3 hz];exact bC rfl
 | .un a,k,ho,hk=>by
  obtain⟨k,rfl⟩: ∃ j,k=j+1:=⟨k - 1,by unfold Sm.dp at hk;omega⟩
  have ih:=jD h nd hm hl a k ho (by unfold Sm.dp at hk;omega);rw[run_eq T.oC rfl];simp? [iD,kW,ig,Sm.val,ih];split<;>rfl
 | .bin o a b,k,ho,hk=>by
  obtain⟨k,rfl⟩: ∃ j,k=j+1:=⟨k - 1,by unfold Sm.dp at hk;omega⟩
  have ih1:=jD h nd hm hl a k ho.1 (by unfold Sm.dp at hk;omega);have ih2:=jD h nd hm hl b k ho.2 (by unfold Sm.dp at hk;omega);have ij:=PY T k o (a.val (fP ps)) (b.val (fP ps)) h (Sm.nh (wu hm) a ho.1);rw[run_eq T.oC rfl];cases o<;>(simp only[Bo.w] at ij;simp? [iD,kW,ig,Sm.val,ih1,ih2,ij,Bo.w])
end
theorem pA{h:PH}{n:Nat}{os:Pk}(e:h[n]?=some (.lst (os.map cO)))(hl:os.length < 64)(nd:(os.map (·.1)).Nodup):bJ [.ref n] h= .ok (.ref h.length) (h++[.lst ((lI os).map cO)]):=by
 have hi:itemsOf h (.ref n)=some (os.map cO):=by simp[itemsOf,de,e]
 show fM [.ref n] h=_;unfold fM;simp only[hi];cases os with
 | nil=>simp[eZ,cx,lI]
 | cons q r =>
  have e1:eZ ((q::r).map cO)=none:=rfl
  rw[e1]
  simp only[uY]
  rw[if_pos ⟨hl,nd⟩]
noncomputable def lay(ps:Pk)(x:Str)(v:Int):Pk:=lI (ps.filter (λq=> !decide (q.1=x))++if v=0 then[] else[(x,v)])
theorem iO(ps:Pk):(lI ps).Perm ps:=X3 ps _
theorem AA{ps:Pk}(nd:(ps.map (·.1)).Nodup):((lI ps).map (·.1)).Pairwise iZ:=by
 have h1:(lI ps).Pairwise λa b=>oy a.1 b.1=true:=Xr (λa b c=>gZ a.1 b.1 c.1) (λa b=>by simpa using jI a.1 b.1) ps;have h2:((lI ps).map (·.1)).Nodup:=((iO ps).map _).nodup_iff.mpr nd
 rw[Xg];rw[List.nodup_iff_pairwise_ne,Xg] at h2;refine h1.imp₂ (λa b z1 z2=>?_) h2;rcases nc z2 with z | z
 . exact z
 . unfold oy at z1;simp[z] at z1
theorem m4{ps:Pk}(nd:(ps.map (·.1)).Nodup): ∀ q∈ps,fP ps q.1=q.2:=by
 induction ps with
 | nil=>intro q m;cases m
 | cons p r ih =>
  intro q m
  rw[US] at nd;rw[Xa] at nd
  unfold fP
  rcases U1.mp m with e | m
  . rw[if_pos (by rw[e]),e]
  . rw[if_neg (λz=>nd.1 (by rw[z];exact Vv.mpr ⟨q,m,rfl⟩))];exact ih nd.2 q m
theorem kQ{ps:Pk}{x:Str}(h:x ∉ ps.map (·.1)):fP ps x=0:=by
 induction ps with
 | nil=>rfl
 | cons p r ih =>
  rw[US,U1,not_or] at h
  unfold fP
  rw[if_neg (λz=>h.1 z.symm)]
  exact ih h.2
theorem HW{ps qs:Pk}(p:ps.Perm qs)(nd:(qs.map (·.1)).Nodup)(x:Str):fP ps x=fP qs x:=by
 by_cases hx:x∈qs.map (·.1)
 . obtain⟨q,m,rfl⟩:=Vv.mp hx;rw[m4 nd q m,m4 ((p.map (·.1)).nodup_iff.mpr nd) q (p.mem_iff.mpr m)]
 . rw[kQ hx,kQ λz=>hx ((p.map (·.1)).mem_iff.mp z)]
theorem yM{ps:Pk}(nd:(ps.map (·.1)).Nodup)(x:Str)(v:Int):((ps.filter (λq=> !decide (q.1=x))++if v=0 then[] else[(x,v)]).map (·.1)).Nodup:=by
 rw[VG];refine XN.mpr ⟨(List.Sublist.map _ X4).nodup nd,?_,λa ha b hb e=>?_⟩
 . split<;>simp
 . split at hb
   . cases hb
   . obtain⟨q,m,rfl⟩:=Vv.mp ha;have hb':b=x:=by simpa using hb
     have:=(Wl.mp m).2;simp only[WK,decide_eq_false_iff_not] at this;exact this (e.trans hb')
theorem sO{ps:Pk}(nd:(ps.map (·.1)).Nodup)(x:Str)(v:Int)(y:Str):fP (lay ps x v) y=if y=x then v else fP ps y:=by
 rw[lay,HW (iO _) (yM nd x v)];have app: ∀(l m:Pk)(y:Str),fP (l++m) y=if y∈l.map (·.1) then fP l y else fP m y:=by
  intro l m y
  induction l with
  | nil=>rfl
  | cons q r ih =>
   rw[VZ,fP,fP,ih]
   by_cases e:q.1=y
   . rw[if_pos e,if_pos e,if_pos (by rw[US,e];exact U3)]
   . have e': ¬ y=q.1:=λz=>e z.symm;rw[if_neg e,if_neg e];simp only[US,U1,e',false_or]
 have fil: ∀ l:Pk,¬ y=x->fP (l.filter λq=> !decide (q.1=x)) y=fP l y:=by
  intro l ne
  induction l with
  | nil=>rfl
  | cons q r ih =>
   by_cases e:q.1=x
   . rw[VI (by simp[e]),fP,if_neg (λz=>ne (z.symm.trans e)),ih]
   . rw[Vw (by simp[e]),fP,fP,ih]
 rw[app];by_cases e:y=x
 . rw[if_pos e,if_neg]
   . split
     . rename_i z;rw[z];rfl
     . rw[fP,if_pos e.symm]
   . intro z;obtain⟨q,m,rfl⟩:=Vv.mp z;have:=(Wl.mp m).2;simp[e] at this
 . rw[if_neg e,fil ps e];split
   . rfl
   . rename_i z;have h0:fP ps y=0:=by
      rw[<- fil ps e];exact kQ z
     rw[h0];split
     . rfl
     . rw[fP,if_neg (λz=>e z.symm)];rfl
structure ky(L:List Str)(ps:Pk):Prop where
 Sa:(ps.map (·.1)).Pairwise iZ
 mem: ∀ q∈ps,q.1∈L/\1<=q.2/\q.2<=999
theorem ky.nd{L:List Str}{ps:Pk}(h:ky L ps):(ps.map (·.1)).Nodup:=h.Sa.imp λ{a b} z e=>by subst e;exact kH _ z
theorem ky.len{L:List Str}{ps:Pk}(h:ky L ps):ps.length<=L.length:=by
 have:=Xs h.nd (l₂ :=L) (λx hx=>by obtain⟨q,hq,rfl⟩:=Vv.mp hx;exact(h.mem q hq).1);simpa using this
theorem ky.nil{L:List Str}:ky L []:=⟨.nil,λq m=>by cases m⟩
theorem wY{L:List Str}{ps:Pk}{x:Str}{v:Int}(h:ky L ps)(hx:x∈L)(h0:0<=v)(h9:v<=999):ky L (lay ps x v):=by
 refine⟨AA (yM h.nd x v),λq m=>?_⟩;rcases VT.mp ((iO _).mem_iff.mp m) with m | m
 . exact h.mem q (Wl.mp m).1
 . split at m
   . cases m
   . rw[VL.mp m];exact⟨hx,show 1<=v by omega,h9⟩
theorem KS{L:List Str}{ps qs:Pk}(h1:ky L ps)(h2:ky L qs)(e: ∀ x,fP ps x=fP qs x):ps=qs:=by
 have key: ∀{ps qs:Pk},ky L ps->ky L qs->(∀ x,fP ps x=fP qs x)-> ∀ q∈ps,q∈qs:=λ{ps qs} h1 h2 e q m=>by
  have h:=m4 h1.nd q m;have hx:q.1∈qs.map (·.1):=Zt λz=>by
   have:=(h1.mem q m).2.1;rw[e,kQ z] at h;omega
  obtain⟨q',m',e'⟩:=Vv.mp hx;have h':=m4 h2.nd q' m';rw[e',<- e,h] at h';have:q'=q:=Prod.ext e' h'.symm;rw[<- this];exact m'
 refine iw (le:=λa b=>iZ a.1 b.1) (λa _ b _ z1 z2=>absurd z2 (jR z1)) ?_ (by simpa [Xg] using h1.Sa) (by simpa [Xg] using h2.Sa);have n1:ps.Nodup:=aaX (R:=(· ≠ ·)) (·.1) (λa b z e=>z (by rw[e])) h1.nd
 have n2:qs.Nodup:=aaX (R:=(· ≠ ·)) (·.1) (λa b z e=>z (by rw[e])) h2.nd
 exact(XR n1 n2).mpr λq=>⟨key h1 h2 e q,key h2 h1 (λx=>(e x).symm) q⟩
theorem mE(x:Str): ∀ ps:Pk,(ps.filterMap λq=>if q.1=x then none else some (cO q))=(ps.filter (λq=> !decide (q.1=x))).map cO
 | []=>rfl
 | q::r=>by
  by_cases z:q.1=x
  . rw[WE (by simp[z]),VI (by simp[z]),mE x r]
  . rw[WG (by rw[if_neg z]),Vw (by simp[z]),US,mE x r]
section
variable{pg:Tb}(T:bS pg)
include T
theorem yW(k:Nat)(h:PH){ps:Pk}(nd:(ps.map (·.1)).Nodup)(x:Str)(v:Int)(hl:(lay ps x v).length<=20)(hp:ps.length<=1000):run pg (k+1) "laid" [uQ ps,.str x,.int v] h= .ok (uQ (lay ps x v)) h:=by
 rw[run_eq T.Ke rfl];have e1:iq ⟨none,ps.map cO⟩ (aV 1 (gN 4) (aH (ak jT (eX 4 0) (aa 1))) (aa 4) (run pg k) [some (.tup (ps.map cO)),some (.str x),some (.int v),none]) (ps.map cO) [] h= .ok ([]++ps.filterMap λq=>if q.1=x then none else some (cO q)) h:=by
  refine dw rfl ps [] (λq m=>?_) (by simp;omega);simp? [cO];by_cases z:q.1=x<;>simp[z]
 rw[mE,Vj] at e1;have hl':(ps.filter (λq=> !decide (q.1=x))++if v=0 then[] else[(x,v)]).length<=20:=by rw[<- (iO _).length_eq];exact hl
 have nd':=yM nd x v;have hz:((ps.filter (λq=> !decide (q.1=x))).map cO).length < 16777216:=by
  rw[UO];have:=Yz (λq:Str × Int=> !decide (q.1=x)) ps;omega
 by_cases hv:v=0
 . subst hv;rw[if_pos rfl,VF] at hl' nd';have s1:=pA (h:=h++[.lst ((ps.filter (λq=> !decide (q.1=x))).map cO)]) (n:=h.length) cq (Zj hl' (by decide)) nd';simp? [oU,xw,uQ,e1,s1];rw[bC (v:= .tup _) (jg _),lay,if_pos rfl,VF]
 . rw[if_neg hv] at hl' nd';have s1:=pA (h:=h++[.lst ((ps.filter (λq=> !decide (q.1=x))++[(x,v)]).map cO)]) (n:=h.length) cq (Zj hl' (by decide)) nd';rw[VG] at s1;simp? [oU,xw,uQ,e1,hv,kM hz];rw[show acu cO [(x,v)]=[PV.tup [PV.str x,PV.int v]] from rfl] at s1;simp? [s1,US,Vh];rw[bC (v:= .tup _) (jg _),lay,if_neg hv]
end
inductive Rw where
 | let_ (x:Str) (e:Sm) | leap (k:Int) (e:Sm) | take (l:Str) | free (l:Str) | get (x b:Str) | put (b:Str) (e:Sm)
 | send (l:Str) (e:Sm) | fetch (x l:Str) | say (d:Str) (e:Sm) | clock (x:Str) | lot (x:Str) (n:Int) | hear (x d:Str)
noncomputable def Rw.w:Rw->Str
 | .let_ _ _=> "let" | .leap _ _=> "leap" | .take _=> "take" | .free _=> "free" | .get _ _=> "get" | .put _ _=> "put"
 | .send _ _=> "send" | .fetch _ _=> "fetch" | .say _ _=> "say" | .clock _=> "clock" | .lot _ _=> "lot" | .hear _ _=> "hear"
noncomputable def Rw.ps:Rw->List PV
 | .let_ x e=>[.str x,ig e] | .leap k e=>[.int k,ig e] | .take l=>[.str l] | .free l=>[.str l] | .get x b=>[.str x,.str b] | .put b e=>[.str b,ig e]
 | .send l e=>[.str l,ig e] | .fetch x l=>[.str x,.str l] | .say d e=>[.str d,ig e] | .clock x=>[.str x] | .lot x n=>[.str x,.int n] | .hear x d=>[.str x,.str d]
noncomputable def bq(r:Rw):PV:= .tup (.str r.w::r.ps)
noncomputable def bG(rs:List Rw):PV:= .tup (rs.map bq)
structure aI where
 row:Nat
 ps:Pk
 held:List Str
noncomputable def kg(hs:List Str):PV:= .tup (hs.map PV.str)
noncomputable def aA(s:aI):PV:= .tup [.int s.row,uQ s.ps,kg s.held]
noncomputable def own(held:List Str):Rw->Bool
 | .take l=>decide (l∈held)
 | .free l=> !decide (l∈held)
 | .let_ _ _=>true
 | .leap _ _=>true
 | _=>false
noncomputable def jb(e:Sm):Prop:=e.ok/\e.dp<=7
noncomputable def fk(L:List Str)(n:Nat):Rw->Prop
 | .let_ x e=>x∈L/\jb e
 | .leap k e=>0<=k/\k<=n/\jb e
 | .put _ e=>jb e
 | .send _ e=>jb e
 | .say _ e=>jb e
 | .get x _=>x∈L
 | .fetch x _=>x∈L
 | .clock x=>x∈L
 | .lot x m=>x∈L/\2<=m/\m<=1000
 | .hear x _=>x∈L
 | _=>True
noncomputable def behind(s:aI):Rw->aI
 | .let_ x e=>⟨s.row+1,lay s.ps x (e.val (fP s.ps)),s.held⟩
 | .leap k e=>if e.val (fP s.ps)=0 then⟨s.row+1,s.ps,s.held⟩ else⟨k.toNat,s.ps,s.held⟩
 | _=>⟨s.row+1,s.ps,s.held⟩
structure c8(L:List Str)(rs:List Rw)(s:aI):Prop where
 pk:ky L s.ps
 le:s.row<=rs.length
theorem rW: ∀ hs:List Str,PV.aQ (hs.map PV.str)=true
 | []=>rfl
 | x::r=>by rw[US,PV.aQ,rW r];rfl
theorem kR(s:aI):(aA s).flat=true:=by
 simp[aA,PV.flat,PV.aQ,uQ,jg,kg,rW]
theorem CJ(r:Rw):(bq r).flat=true:=by
 cases r<;>simp[bq,Rw.ps,PV.flat,PV.aQ,fe]
theorem mF: ∀ rs:List Rw,PV.aQ (rs.map bq)=true
 | []=>rfl
 | x::r=>by rw[US,PV.aQ,mF r,CJ];rfl
noncomputable def bu(rs:List Rw)(s:aI):Bool:=match rs[s.row]? with
 | none=>true
 | some r=> !own s.held r
noncomputable def bf(rs:List Rw):Nat->aI->aI
 | 0,s=>if bu rs s then s else⟨rs.length,s.ps,s.held⟩
 | n+1,s=>if bu rs s then s else match rs[s.row]? with
  | none=>s
  | some r=>bf rs n (behind s r)
theorem jV{L:List Str}{rs:List Rw}{s:aI}{r:Rw}(h:c8 L rs s)(hr:fk L rs.length r)(e:rs[s.row]?=some r):c8 L rs (behind s r):=by
 have hlt:s.row < rs.length:=(UP.mp e).1;cases r with
 | let_ x e0 =>
  have hv:=Sm.nh (wu λq m=>(h.pk.mem q m).2) e0 hr.2.1
  exact⟨wY h.pk hr.1 hv.1 hv.2,hlt⟩
 | leap j e0 =>
  show c8 L rs (if e0.val (fP s.ps)=0 then⟨s.row+1,s.ps,s.held⟩ else⟨j.toNat,s.ps,s.held⟩)
  split
  . exact ⟨h.pk,hlt⟩
  . exact ⟨h.pk,by have:=hr.2.1;have:=hr.1;show Za _<=rs.length;omega⟩
 | _=>exact ⟨h.pk,hlt⟩
theorem pH {L : List Str} {rs : List Rw} (hr : ∀ r ∈ rs, fk L rs.length r) : ∀ (n : Nat) (s : aI), c8 L rs s -> c8 L rs (bf rs n s)
  | 0, s, h => by unfold bf; split; · exact h
                  . exact ⟨h.pk, Nat.le_refl _⟩
  | n + 1, s, h => by
    unfold bf; split
    . exact h
    . split
      . exact h
      . rename_i r e; exact pH hr n _ (jV h (hr r (UX e)) e)
theorem ir{rs:List Rw}{s:aI}{r:Rw}(e:rs[s.row]?=some r):d9 (rs.map bq) (s.row:Int)=some (bq r):=P3.eP rfl (by rw[U8,e];rfl)
section
variable{pg:Tb}(T:bS pg)
include T
theorem Na(k:Nat)(h:PH)(r:Rw)(held:List Str):run pg (k+1) "is_own_row" [bq r,kg held] h= .ok (.bl (own held r)) h:=by
 rw[run_eq T.tq rfl];cases r<;>simp? [fH,l7,bq,Rw.w,Rw.ps,kg,own]
theorem Bg(k:Nat)(h:PH){L:List Str}(hL:L.length<=20){rs:List Rw}{s:aI}{r:Rw}(hs:c8 L rs s)(hr:fk L rs.length r)(hrow:rs[s.row]?=some r):run pg (k+9) "behind_own_row" [bq r,aA s] h= .ok (aA (behind s r)) h:=by
 have nd:=hs.pk.nd;have hm: ∀ q∈s.ps,1<=q.2/\q.2<=999:=λq m=>(hs.pk.mem q m).2;have hl:=hs.pk.len;have w: ∀ e:Sm,jb e->run pg (k+8) "worth" [ig e,uQ s.ps] h= .ok (.int (e.val (fP s.ps))) h:=λe he=>jD T h nd hm (by omega) e (k+7) he.1 (by have:=he.2;omega);rw[run_eq T.mU rfl];cases r with
 | let_ x e =>
  have hb:=(jV hs hr hrow).pk.len
  have l1:=yW T (k+7) h nd x (e.val (fP s.ps)) (Vn hb hL) (by omega)
  simp? [bP,cT,bq,Rw.w,Rw.ps,aA,behind,w e hr.2,l1]
  rfl
 | leap j e =>
  simp? [bP,cT,bq,Rw.w,Rw.ps,aA,behind,w e hr.2.2]
  by_cases z:e.val (fP s.ps)=0
  . simp only[z,if_true];rfl
  . have:((j.toNat:Nat):Int)=j:=by have:=hr.1;omega
    simp only[z,if_false,this]
 | _ =>
  simp? [bP,cT,bq,Rw.w,Rw.ps,aA,behind]
  rfl
theorem lD(k:Nat)(h:PH){rs:List Rw}{s:aI}(hs:s.row<=rs.length):run pg (k+2) "is_rested" [bG rs,aA s] h= .ok (.bl (bu rs s)) h:=by
 rw[run_eq T.uT rfl];cases e:rs[s.row]? with
 | none =>
  have:s.row=rs.length:=by have:=Wb.mp e;omega
  have r1:bu rs s=true:=by unfold bu;rw[e]
  simp? [eW,jw,bG,aA,r1,this,UO]
 | some r =>
  have hlt:s.row < rs.length:=(UP.mp e).1
  have ne: ¬ (s.row:Int)=(rs.length:Int):=by omega
  have ix:=kq (h:=h) (ir e)
  have o1:=Na T k h r s.held
  simp? [eW,jw,bG,aA,bu,e,ne,ix,o1,UO]
noncomputable def m8(p:PV)(j:Int)(rs:List Rw):Prop:= ∃ a b c d hs nm,p= .tup [a,b,c,d,.tup hs]/\d9 hs j=some (.tup [nm,bG rs])
theorem kE(k:Nat)(h:PH){p:PV}{j:Int}{rs:List Rw}(hp:m8 p j rs):run pg (k+1) "rows_of" [p,.int j] h= .ok (bG rs) h:=by
 obtain⟨a,b,c,d,hs,nm,rfl,e⟩:=hp;rw[run_eq T.BL rfl];simp? [jM,sf,kq e]
theorem iu(k:Nat)(h:PH){L:List Str}(hL:L.length<=20){p:PV}{j:Int}{rs:List Rw}(hp:m8 p j rs)(hr: ∀ r∈rs,fk L rs.length r){s:aI}(hs:c8 L rs s):run pg (k+10) "rested" [p,.int j,aA s] h= .ok (aA (bf rs 200 s)) h:=by
 have rest: ∀(xs xs0:List PV)(s0 s:aI)(tv:Option PV),c8 L rs s ->
   ((bN ⟨none,xs0⟩ (bE (gN 5) (ae (bR (aH (ag "is_rested" (a2 (aa 3) (aa 4)))) (aw (aa 4)) cD) (ai (ag "behind_own_row" (ab (ak aB (aa 3) (eX 4 0)) (a1 (aa 4)))) (gN 4))) (run pg (k+9))) xs
    [some p,some (.int j),some (aA s0),some (bG rs),some (aA s),tv] h).bind
    (Bm (ae (bR (aH (ag "is_rested" (a2 (aa 3) (aa 4)))) (aw (aa 4)) cD) (aw (ao (ab (eB b6 (a1 (aa 3))) (a2 (eX 4 1) (eX 4 2)))))) (run pg (k+9))))= .ok (.rt (aA (bf rs xs.length s))) h:=by
  intro xs xs0 s0
  induction xs with
  | nil =>
   intro s tv hs
   have q:=lD T (k+7) h hs.le
   simp? [gS,bf,Vk,q]
   cases bu rs s<;>simp? [aA,bG,UO,bf]
  | cons x xs ih =>
   intro s tv hs
   have q:=lD T (k+7) h hs.le
   rw[fw]
   simp? [bf,UU,q]
   cases e:rs[s.row]? with
   | none =>
    have r1:bu rs s=true:=by unfold bu;rw[e]
    simp? [r1,zJ]
   | some r =>
    cases r1:bu rs s with
    | true=>simp? [r1,zJ]
    | false =>
     have hm:=hr r (UX e)
     have ix:=kq (h:=h) (ir e)
     have be:=Bg T k h hL hs hm e
     have i0:aB (aA s) (.int 0) h= .ok (.int s.row) h:=rfl
     have ix':aB (bG rs) (.int s.row) h= .ok (bq r) h:=ix
     simp? [r1,i0,ix',be,cB,ih _ _ (jV hs hm e)]
 rw[run_eq T.DD rfl];have ro:=kE T (k+8) h hp;simp? [l6,vM,ro];have hh:=rest (az 0 200) (az 0 200) s s none hs;have len:(az 0 200).length=200:=rfl;rw[len] at hh;exact(congrArg (fin h) hh).trans (by rw[kC,nG])
end
section
variable{pg:Tb}(T:bS pg)
include T
theorem qR(k:Nat)(h:PH){L:List Str}(hL:L.length<=20){p:PV}{j:Int}{rs:List Rw}(hp:m8 p j rs)(hr: ∀ r∈rs,fk L rs.length r):run pg (k+11) "first_seat" [p,.int j] h= .ok (aA (bf rs 200 ⟨0,[],[]⟩)) h:=by
 have:=iu T k h hL hp hr (s:=⟨0,[],[]⟩) ⟨.nil,VM _⟩;rw[run_eq T.tJ rfl];have e:PV.tup [.int 0,.tup [],.tup []]=aA ⟨0,[],[]⟩:=rfl;simp? [fL,lK,e,this]
end
noncomputable def Rw.gh:Rw->Option Str
 | .get x _=>some x | .fetch x _=>some x | .clock x=>some x | .lot x _=>some x | .hear x _=>some x
 | _=>none
noncomputable def Rw.sum:Rw->Option Sm
 | .let_ _ e=>some e | .leap _ e=>some e | .put _ e=>some e | .send _ e=>some e | .say _ e=>some e
 | _=>none
theorem fk.sum{L:List Str}{n:Nat}{r:Rw}(h:fk L n r){e:Sm}(q:r.sum=some e):jb e:=by
 cases r<;>cases q
 . exact h.2
 . exact h.2.2
 . exact h
 . exact h
 . exact h
noncomputable def PV.num:PV->Int
 | .int i=>i
 | _=>0
noncomputable def after(s:aI)(v:PV):Rw->aI
 | .get x _=>⟨s.row+1,lay s.ps x (PV.num v),s.held⟩
 | .fetch x _=>⟨s.row+1,lay s.ps x (PV.num v),s.held⟩
 | .clock x=>⟨s.row+1,lay s.ps x (PV.num v),s.held⟩
 | .lot x _=>⟨s.row+1,lay s.ps x (PV.num v),s.held⟩
 | .hear x _=>⟨s.row+1,lay s.ps x (PV.num v),s.held⟩
 | .take l=>⟨s.row+1,s.ps,cx (s.held++[l])⟩
 | .free l=>⟨s.row+1,s.ps,s.held.filter λz=> !decide (z=l)⟩
 | _=>⟨s.row+1,s.ps,s.held⟩
noncomputable def bQ(s:aI):Rw->PV
 | .let_ _ e=> .tup [.str "let",.str "",.int (e.val (fP s.ps))]
 | .leap k e=> .tup [.str "leap",.int k,.int (e.val (fP s.ps))]
 | .take l=> .tup [.str "take",.str l,.non]
 | .free l=> .tup [.str "free",.str l,.non]
 | .get _ b=> .tup [.str "get",.str b,.non]
 | .put b e=> .tup [.str "put",.str b,.int (e.val (fP s.ps))]
 | .send l e=> .tup [.str "send",.str l,.int (e.val (fP s.ps))]
 | .fetch _ l=> .tup [.str "fetch",.str l,.non]
 | .say d e=> .tup [.str "say",.str d,.int (e.val (fP s.ps))]
 | .clock _=> .tup [.str "clock",.str "",.non]
 | .lot _ n=> .tup [.str "lot",.str "",.int n]
 | .hear _ d=> .tup [.str "hear",.str d,.non]
noncomputable def pj(rs:List Rw)(s:aI):PV:=match rs[s.row]? with
 | none=> .non
 | some r=>bQ s r
theorem cG: ∀ ss:List Str,eZ (ss.map PV.str)=some ss
 | []=>rfl
 | x::r=>by rw[US,eZ,cG r];rfl
theorem yN{h:PH}{ss:List Str}(hl:ss.length < 64):bJ [.tup (ss.map PV.str)] h= .ok (.ref h.length) (h++[.lst ((cx ss).map PV.str)]):=by
 simp only[bJ,cG,if_pos hl]
theorem pZ{xs:List PV}{x:PV}:fF (x::xs) (some 1) none=xs:=by rw[P3.jC (by decide)];rfl
noncomputable def Rw.parts:Rw->List PV
 | .let_ _ _=>[.str "pocket",.str "sum"] | .leap _ _=>[.str "target",.str "sum"] | .get _ _=>[.str "pocket",.str "box"] | .put _ _=>[.str "box",.str "sum"]
 | .take _=>[.str "lock"] | .free _=>[.str "lock"] | .send _ _=>[.str "lane",.str "sum"] | .fetch _ _=>[.str "pocket",.str "lane"] | .say _ _=>[.str "door",.str "sum"]
 | .clock _=>[.str "pocket"] | .lot _ _=>[.str "pocket",.str "chances"] | .hear _ _=>[.str "pocket",.str "door"]
theorem Gb(r:Rw):cw eY (.inr r.w)=some (.ktup r.parts):=by cases r<;>(simp only[Rw.w,Rw.parts];decide +kernel)
theorem jk(l:Str): ∀ ss:List Str,(ss.filterMap λz=>if z=l then none else some (PV.str z))=(ss.filter (λz=> !decide (z=l))).map PV.str
 | []=>rfl
 | q::r=>by
  by_cases z:q=l
  . rw[WE (by simp[z]),VI (by simp[z]),jk l r]
  . rw[WG (by rw[if_neg z]),Vw (by simp[z]),US,jk l r]
noncomputable def toG:MG:=(gT 2 (au (gN 7) (au (gN 8) cv)))
noncomputable def yG:MS:=(bR (mQ (aa 7) (eS "sum")) (ai (ag "worth" (a2 (aa 8) (eX 2 1))) (gN 6)) (bR (mQ (aa 7) (eS "chances")) (ai (aa 8) (gN 6)) (bR (aH (ak jT (aa 7) (eS "pocket"))) (ai (aa 8) (gN 5)) cD)))
section
variable{c:CF}{h:PH}{a0 a1 b0 b1 a3 a4 a5 a6 a7 a8 x:Option PV}{y s1 w:PV}
theorem qj(q: ∀ g,aB s1 (.int 1) g= .ok b g)(z:c "worth" [y,b] h= .ok w h):bE toG yG c (.tup [.str "sum",y]) [a0,a1,some s1,a3,a4,a5,a6,a7,a8] h= .ok (.nx [a0,a1,some s1,a3,a4,a5,some w,some (.str "sum"),some y]) h:=by
 simp? [toG,yG,q,z]
theorem Pj:bE toG yG c (.tup [.str "chances",y]) [a0,a1,b0,a3,a4,a5,a6,a7,a8] h= .ok (.nx [a0,a1,b0,a3,a4,a5,some y,some (.str "chances"),some y]) h:=by
 simp? [toG,yG]
theorem yY:bE toG yG c (.tup [.str "pocket",y]) [a0,a1,b0,a3,a4,a5,a6,a7,a8] h= .ok (.nx [a0,a1,b0,a3,a4,a5,a6,some (.str "pocket"),some y]) h:=by
 simp? [toG,yG]
theorem pM{p:Str}(q: ¬ p= "sum" /\ ¬ p= "chances" /\ ¬ p= "pocket"):bE toG yG c (.tup [.str p,y]) [a0,a1,b0,a3,a4,a5,a6,a7,a8] h= .ok (.nx [a0,a1,b0,a3,a4,some y,a6,some (.str p),some y]) h:=by
 simp? [toG,yG,q.1,q.2.1,q.2.2]
end
theorem Fq{c:CF}{h:PH}(s:aI)(r:Rw)(w: ∀ e:Sm,r.sum=some e->c "worth" [ig e,uQ s.ps] h= .ok (.int (e.val (fP s.ps))) h)(xs:List PV)(a0 a1 a3 a4:Option PV) :
  ∃(t v:PV)(u7 u8:Option PV),bQ s r= .tup [.str r.w,t,v]/\bN ⟨none,xs⟩ (bE toG yG c) ((r.parts.zip r.ps).map λp=> .tup [p.1,p.2]) [a0,a1,some (aA s),a3,a4,some (.str ""),some .non,none,none] h= .ok (.nx [a0,a1,some (aA s),a3,a4,some t,some v,u7,u8]) h:=by
 have i1: ∀ g,aB (aA s) (.int 1) g= .ok (uQ s.ps) g:=λg=>rfl;have lp1: ∀{x:PV}{e e1:aq},bE toG yG c x e h= .ok (.nx e1) h->bN ⟨none,xs⟩ (bE toG yG c) [x] e h= .ok (.nx e1) h:=λq=>by rw[fw,q,dR,cB,gS]
 have lp2: ∀{x y:PV}{e e1 e2:aq},bE toG yG c x e h= .ok (.nx e1) h->bE toG yG c y e1 h= .ok (.nx e2) h->bN ⟨none,xs⟩ (bE toG yG c) [x,y] e h= .ok (.nx e2) h:=λq q2=>by rw[fw,q,dR,cB,fw,q2,dR,cB,gS]
 cases r with
 | let_ x e=>exact⟨_,_,_,_,rfl,lp2 yY (qj i1 (w e rfl))⟩
 | leap x e=>exact⟨_,_,_,_,rfl,lp2 (pM (by decide +kernel)) (qj i1 (w e rfl))⟩
 | put x e=>exact⟨_,_,_,_,rfl,lp2 (pM (by decide +kernel)) (qj i1 (w e rfl))⟩
 | send x e=>exact⟨_,_,_,_,rfl,lp2 (pM (by decide +kernel)) (qj i1 (w e rfl))⟩
 | say x e=>exact⟨_,_,_,_,rfl,lp2 (pM (by decide +kernel)) (qj i1 (w e rfl))⟩
 | take x=>exact⟨_,_,_,_,rfl,lp1 (pM (by decide +kernel))⟩
 | free x=>exact⟨_,_,_,_,rfl,lp1 (pM (by decide +kernel))⟩
 | clock x=>exact⟨_,_,_,_,rfl,lp1 yY⟩
 | lot x n=>exact⟨_,_,_,_,rfl,lp2 yY Pj⟩
 | _=>exact⟨_,_,_,_,rfl,lp2 yY (pM (by decide +kernel))⟩
theorem rw_0(r:Rw)(g:PH):aB (bq r) (.int 0) g= .ok (.str r.w) g:=tR
theorem rw_pk{r:Rw}{x:Str}(h:r.gh=some x)(g:PH):aB (bq r) (.int 1) g= .ok (.str x) g:=by cases r<;>cases h<;>exact j6
theorem fk.pk {L:List Str} {n:Nat} {r:Rw} (h:fk L n r) {x:Str} (q:r.gh=some x):x∈L:=by
 cases r<;>cases q<;>first | exact h | exact h.1
theorem js {s:aI} {v:PV} {r:Rw} {x:Str} (h:r.gh=some x):after s v r=⟨s.row+1,lay s.ps x (PV.num v),s.held⟩:=by cases r<;>cases h<;>rfl
theorem PJ {r:Rw} {x:Str} (h:r.gh=some x):r.w∈(["get", "fetch", "clock", "lot", "hear"]:List Str)∧ ¬ r.w= "take" /\ ¬ r.w= "free" :=by cases r<;>cases h<;>(simp only [Rw.w];decide +kernel)
theorem rw_cls (r:Rw):(∃ x,r.gh=some x)∨(∃ l,r= .take l)∨(∃ l,r= .free l)∨((¬ r.w∈(["get", "fetch", "clock", "lot", "hear"]:List Str)∧ ¬ r.w= "take" /\ ¬ r.w= "free")∧ ∀ s v,after s v r=⟨s.row+1,s.ps,s.held⟩):=by
 cases r with
 | take l=>exact .inr (.inl ⟨l,rfl⟩)
 | free l=>exact .inr (.inr (.inl ⟨l,rfl⟩))
 | get x _=>exact .inl ⟨x,rfl⟩
 | fetch x _=>exact .inl ⟨x,rfl⟩
 | clock x=>exact .inl ⟨x,rfl⟩
 | lot x _=>exact .inl ⟨x,rfl⟩
 | hear x _=>exact .inl ⟨x,rfl⟩
 | _=>exact .inr (.inr (.inr ⟨by simp only[Rw.w];decide +kernel,λ_ _=>rfl⟩))
section
variable{pg:Tb}(T:bS pg)
include T
theorem nU(k:Nat)(h:PH){L:List Str}(hL:L.length<=20){p:PV}{j:Int}{rs:List Rw}(hp:m8 p j rs)(hr: ∀ r∈rs,fk L rs.length r){s:aI}(hs:c8 L rs s):run pg (k+10) "touch_of" [p,.int j,aA s] h= .ok (pj rs s) h:=by
 have nd:=hs.pk.nd;have hm: ∀ q∈s.ps,1<=q.2/\q.2<=999:=λq m=>(hs.pk.mem q m).2;have hl:=hs.pk.len;have w: ∀ e:Sm,jb e->run pg (k+9) "worth" [ig e,uQ s.ps] h= .ok (.int (e.val (fP s.ps))) h:=λe he=>jD T h nd hm (by omega) e (k+8) he.1 (by have:=he.2;omega);have ro:=kE T (k+8) h hp;have ro':run pg (k+9) "rows_of" [p,.int j] h= .ok (.tup (rs.map bq)) h:=ro;rw[run_eq T.x6 rfl];cases e:rs[s.row]? with
 | none =>
  have:s.row=rs.length:=by have:=Wb.mp e;have:=hs.le;omega
  have t1:pj rs s= .non:=by unfold pj;rw[e]
  simp? [fX,kP,aA,t1,this,ro',UO]
 | some r =>
  have hlt:s.row < rs.length:=(UP.mp e).1
  have ne: ¬ (s.row:Int)=(rs.length:Int):=by omega
  have ix:=kq (h:=h) (ir e)
  have hrr:=hr r (UX e)
  have t1:pj rs s=bQ s r:=by unfold pj;rw[e]
  rw[t1]
  have w': ∀ e:Sm,r.sum=some e->run pg (k+9) "worth" [ig e,uQ s.ps] h= .ok (.int (e.val (fP s.ps))) h:=λe q=>w e (hrr.sum q)
  obtain⟨t,v,u7,u8,et,lp⟩:=Fq (h:=h) s r w' ((r.parts.zip r.ps).map λp=> .tup [p.1,p.2]) (some p) (some (.int j)) (some (.tup (rs.map bq))) (some (bq r))
  have r_0:=λg=>rw_0 r g
  have i0: ∀ g,aB (aA s) (.int 0) g= .ok (.int s.row) g:=λg=>rfl
  have sl: ∀ g,E2 (bq r) (some 1) none g= .ok (.tup r.ps) g:=λg=>by unfold bq;rw[QC,pZ]
  have at_r:aB (.tup (rs.map bq)) (.int s.row) h= .ok (bq r) h:=ix
  rw[et]
  unfold toG yG at lp
  simp? [fX,kP,i0,ro',ne,at_r,r_0,sl,Gb,lp,UO]
theorem qq(k:Nat)(h:PH){L:List Str}(hL:L.length<=20){p:PV}{j:Int}{rs:List Rw}(hp:m8 p j rs)(hr: ∀ r∈rs,fk L rs.length r){s:aI}(hs:c8 L rs s)(hh:s.held.length<=60){r:Rw}(e:rs[s.row]?=some r){v:PV}(hv: ∀ x,r.gh=some x-> ∃ i:Int,v= .int i/\0<=i/\i<=999):run pg (k+11) "seat_behind" [p,.int j,aA s,v] h= .ok (aA (bf rs 200 (after s v r))) h:=by
 have ro:=kE T (k+9) h hp;have ro':run pg (k+10) "rows_of" [p,.int j] h= .ok (.tup (rs.map bq)) h:=ro;have hlt:s.row < rs.length:=(UP.mp e).1;have ix:=kq (h:=h) (ir e);have hrr:=hr r (UX e);have ink: ∀ a:Str,jz (.str a) (.ktup [(.str "get"),(.str "fetch"),(.str "clock"),(.str "lot"),(.str "hear")]) h= .ok (.bl (decide (a∈(["get", "fetch", "clock", "lot", "hear"]:List Str)))) h:=λa=>in_K (ss:=["get", "fetch", "clock", "lot", "hear"]);rw [run_eq T.qJ rfl];have r0:run pg (k+10) "rested" [p,.int j,.tup [.int ((s.row:Int)+1),uQ s.ps,kg s.held]] h= .ok (aA (bf rs 200 ⟨s.row+1,s.ps,s.held⟩)) h:=iu T k h hL hp hr (s:=⟨s.row+1,s.ps,s.held⟩) ⟨hs.pk,hlt⟩;have r_0:=λg=>rw_0 r g;have at_r:aB (.tup (rs.map bq)) (.int s.row) h= .ok (bq r) h:=ix;rcases rw_cls r with⟨x,hx⟩ | ⟨l,rfl⟩ | ⟨l,rfl⟩ | ⟨⟨n5,nt,nf⟩,af⟩
 . obtain⟨i,rfl,h0,h9⟩:=hv x hx;have li:=wY hs.pk (hrr.pk hx) h0 h9;have l1:=yW T (k+9) h hs.pk.nd x i (Vn li.len hL) (by have:=hs.pk.len;omega);have r1:run pg (k+10) "rested" [p,.int j,.tup [.int ((s.row:Int)+1),uQ (lay s.ps x i),kg s.held]] h=_:=iu T k h hL hp hr (s:=⟨s.row+1,lay s.ps x i,s.held⟩) ⟨li,hlt⟩;have n5:=(PJ hx).1;have x1:=λg=>rw_pk hx g;rw[js hx];simp? [ck,dh,aA,ro',at_r,r_0,x1,ink,n5,l1,r1,PV.num]
 . have r1:=iu T k (h++[.lst ((cx (s.held++[l])).map PV.str)]) hL hp hr (s:=⟨s.row+1,s.ps,cx (s.held++[l])⟩) ⟨hs.pk,hlt⟩;have r1':run pg (k+10) "rested" [p,.int j,.tup [.int ((s.row:Int)+1),uQ s.ps,.tup ((cx (s.held++[l])).map PV.str)]] (h++[.lst ((cx (s.held++[l])).map PV.str)])=_:=r1;have s1:=yN (h:=h) (ss:=s.held++[l]) (by simp;omega);rw[VG] at s1;have hl2:(s.held.map PV.str).length+1<=16777216:=by simp;omega
   have s1':bJ [.tup (s.held.map PV.str++[.str l])] h= .ok (.ref h.length) (h++[.lst ((cx (s.held++[l])).map PV.str)]):=s1;simp? [ck,dh,aA,kg,ro',ix,bq,Rw.w,Rw.ps,ink,U1,Vm,or_false,or_true,true_or,false_or,after,UO,s1',r1'];exact bC (kR _)
 . have e1: ∀ e:aq,e=[some p,some (.int j),some (aA s),some v,some (bq (.free l)),some (uQ s.ps),some (kg s.held)]->iq ⟨none,s.held.map PV.str⟩ (aV 1 (gN 7) (aH (ak jT (aa 7) (eX 4 1))) (aa 7) (run pg (k+10)) e) (s.held.map PV.str) [] h= .ok ((s.held.filter (λz=> !decide (z=l))).map PV.str) h:=by
    rintro _ rfl;rw[<- jk];refine(dw rfl s.held [] (λq m=>?_) (by simp;omega)).trans (by rw[Vj]);simp? [bq,Rw.w,Rw.ps];by_cases z:q=l<;>simp[z]
   have e1':=e1 _ rfl;have r1:=iu T k (h++[.lst ((s.held.filter (λz=> !decide (z=l))).map PV.str)]) hL hp hr (s:=⟨s.row+1,s.ps,s.held.filter (λz=> !decide (z=l))⟩) ⟨hs.pk,hlt⟩;have r1':run pg (k+10) "rested" [p,.int j,.tup [.int ((s.row:Int)+1),uQ s.ps,.tup ((s.held.filter (λz=> !decide (z=l))).map PV.str)]] (h++[.lst ((s.held.filter (λz=> !decide (z=l))).map PV.str)])=_:=r1;simp only[bq,aA,kg,Rw.w,Rw.ps] at e1';simp? [ck,dh,aA,kg,ro',ix,bq,Rw.w,Rw.ps,ink,U1,Vm,or_false,or_true,true_or,false_or,after,UO,e1',r1'];exact bC (kR _)
 . rw[af];simp? [ck,dh,aA,ro',at_r,r_0,ink,n5,nt,nf,r0]
end
structure qA(L:List Str)(D:Pk):Prop where
 nd:(D.map (·.1)).Nodup
 mem: ∀ q∈D,q.1∈L/\0<=q.2/\q.2<=999
noncomputable def putD(D:Pk)(x:Str)(v:Int):Pk:=if x∈D.map (·.1) then D.map (λq=>if q.1=x then(q.1,v) else q) else D++[(x,v)]
theorem yg(D:Pk)(x:Str)(v:Int):(D.map (λq=>if q.1=x then(q.1,v) else q)).map (·.1)=D.map (·.1):=by
 rw[VN];refine Xl λq _=>?_;show(if q.1=x then(q.1,v) else q).1=q.1;split<;>rfl
theorem jU(D:Pk)(x:Str)(v:Int):ia (dM D) (.inr x) (.int v)=dM (putD D x v):=by
 unfold ia putD;have e:((dM D).any λkv=>decide (kv.1= .inr x))=decide (x∈D.map (·.1)):=by
  rw[Ye];simp only[ab6,decide_eq_true_eq,dM,Vv];constructor
  . rintro ⟨kv,⟨q,m,rfl⟩,e⟩;exact⟨q,m,aaJ e⟩
  . rintro ⟨q,m,rfl⟩;exact⟨_,⟨q,m,rfl⟩,rfl⟩
 rw[e];by_cases h:x∈D.map (·.1)
 . rw[if_pos (by simpa only[decide_eq_true_eq] using h),if_pos h];unfold dM;rw[VN];rw[VN];refine Xl λq _=>?_;show(if (WA q.1:Key)=WA x then((WA q.1:Key),PV.int v) else(WA q.1,PV.int q.2))=_;by_cases z:q.1=x
   . rw[if_pos (by rw[z])];simp[z]
   . rw[if_neg (λe=>z (aaJ e))];simp[z]
 . rw[if_neg (by simpa only[decide_eq_true_eq] using h),if_neg h];unfold dM;rw[VG];rfl
theorem yq(x:Str)(v:Int)(y:Str): ∀ D:Pk,x∈D.map (·.1)->fP (D.map (λq=>if q.1=x then(q.1,v) else q)) y=if y=x then v else fP D y
 | q::r,h=>by
  rw[US,fP,fP];by_cases z:q.1=x
  . rw[if_pos z];by_cases w:y=x
    . subst w;rw[if_pos z,if_pos rfl]
    . rw[if_neg (λe=>w (e.symm.trans z)),if_neg w,if_neg (λe=>w (e.symm.trans z))];by_cases hr:x∈r.map (·.1)
      . rw[yq x v y r hr,if_neg w]
      . congr 1;refine(Xl λp m=>?_).trans (ach _);show(if p.1=x then(p.1,v) else p)=p;rw[if_neg (λe=>hr (Vv.mpr ⟨p,m,e⟩))]
  . rw[if_neg z];have hr:x∈r.map (·.1):=by
     rcases U1.mp h with e | m
     . exact absurd e.symm z
     . exact m
    rw[yq x v y r hr];by_cases w:q.1=y
    . rw[if_pos w,if_pos w,if_neg (λe=>z (w.trans e))]
    . rw[if_neg w,if_neg w]
theorem ED(x:Str)(v:Int)(y:Str): ∀ D:Pk,x ∉ D.map (·.1)->fP (D++[(x,v)]) y=if y=x then v else fP D y
 | [],_=>by
  rw[Vj,fP,fP];by_cases w:y=x
  . rw[if_pos w,if_pos w.symm]
  . rw[if_neg w,if_neg (λe=>w e.symm)];rfl
 | q::r,h=>by
  rw[US,U1,not_or] at h;rw[VZ,fP,fP,ED x v y r h.2];by_cases w:q.1=y
  . rw[if_pos w,if_pos w,if_neg (λe=>h.1 (e.symm.trans w.symm))]
  . rw[if_neg w,if_neg w]
theorem oB(D:Pk)(x:Str)(v:Int)(y:Str):fP (putD D x v) y=if y=x then v else fP D y:=by
 unfold putD;split
 . rename_i h;exact yq x v y D h
 . rename_i h;exact ED x v y D h
theorem oD{L:List Str}{D:Pk}{x:Str}{v:Int}(h:qA L D)(hx:x∈L)(h0:0<=v)(h9:v<=999):qA L (putD D x v):=by
 unfold putD;split
 . refine⟨by rw[yg];exact h.nd,λq m=>?_⟩;obtain⟨p,mp,rfl⟩:=Vv.mp m;by_cases z:p.1=x
   . rw[if_pos z];exact⟨(h.mem p mp).1,h0,h9⟩
   . rw[if_neg z];exact h.mem p mp
 . rename_i hn;refine⟨?_,λq m=>?_⟩
   . rw[VG];refine XN.mpr ⟨h.nd,by simp,λa ha b hb e=>?_⟩;have hb':b=x:=by simpa using hb
     exact hn (by rw[<- hb',<- e];exact ha)
   . rcases VT.mp m with m | m
     . exact h.mem q m
     . rw[VL.mp m];exact⟨hx,h0,h9⟩
theorem qA.rS{L:List Str}{D:Pk}(h:qA L D): ∀ x,0<=fP D x/\fP D x<=999:=λx=>by
 by_cases hx:x∈D.map (·.1)
 . obtain⟨q,m,rfl⟩:=Vv.mp hx;rw[m4 h.nd q m];exact(h.mem q m).2
 . rw[kQ hx];decide
theorem GR{t:aq->PH->RV Bool}{b:aq->PH->RV Fl}{f:Nat}{e:aq}{h h1:PH}(ht:t e h= .ok false h1):cI t b (f+1) e h= .ok (.nx e) h1:=by
 rw[cI,ht,cK];rfl
theorem Jb{t:aq->PH->RV Bool}{b:aq->PH->RV Fl}{f:Nat}{e e1:aq}{h h1 h2:PH}(ht:t e h= .ok true h1)(hb:b e h1= .ok (.nx e1) h2):cI t b (f+1) e h=cI t b f e1 h2:=by
 rw[cI,ht,cK,if_pos rfl,hb,cK]
theorem qA.len{L:List Str}{D:Pk}(h:qA L D):D.length<=L.length:=by
 have:=Xs h.nd (l₂ :=L) (λx hx=>by obtain⟨q,hq,rfl⟩:=Vv.mp hx;exact(h.mem q hq).1);simpa using this
theorem nI(s:aI)(r:Rw):(behind s r).held=s.held:=by
 cases r with
 | leap j e0=>show(if e0.val (fP s.ps)=0 then(⟨s.row+1,s.ps,s.held⟩:aI) else⟨j.toNat,s.ps,s.held⟩).held=s.held;split<;>rfl
 | _=>rfl
theorem pS{rs:List Rw}{s:aI}(h:bu rs s=false): ∃ r,rs[s.row]?=some r/\own s.held r=true:=by
 unfold bu at h;cases e:rs[s.row]? with
 | none=>rw[e] at h;exact nomatch h
 | some r=>rw[e] at h;exact⟨r,rfl,by simpa using h⟩
theorem bV{a b:MS}{c:CF}{e e1:aq}{h h1:PH}(q:a c e h= .ok (.nx e1) h1):ae a b c e h=b c e1 h1:=by rw[En,q,dR,yX]
theorem Jw{t:MT}{b:MS}{c:CF}{e:aq}{h:PH}:uE t b c e h=cI (t c) (b c) 100000 e h:=(rfl)
theorem cg(ss:List Str):(cx ss).Perm ss:=X3 ss _
theorem nB{ss:List Str}(nd:ss.Nodup):(cx ss).Pairwise iZ:=by
 have h1:(cx ss).Pairwise λa b=>oy a b=true:=Xr gZ (λa b=>by simpa using jI a b) ss;have h2:(cx ss).Pairwise (· ≠ ·):=(cg ss).nodup_iff.mpr nd
 refine h1.imp₂ (λa b z1 z2=>?_) h2;rcases nc z2 with z | z
 . exact z
 . unfold oy at z1;simp[z] at z1
theorem B2{D:Pk}{f:Key × PV->PV}(hf: ∀ q:Str × Int,f (.inr q.1,.int q.2)= .str q.1):(dM D).map f=(D.map (·.1)).map PV.str:=by
 unfold dM;rw[VN,VN];exact Xl λq _=>hf q
theorem HR{h:PH}{n:Nat}{D:Pk}(e:h[n]?=some (.dct (dM D)))(hl:D.length < 64):bJ [.ref n] h= .ok (.ref h.length) (h++[.lst ((cx (D.map (·.1))).map PV.str)]):=by
 have i0:itemsOf h (.ref n)=none:=by simp[itemsOf,de,e]
 show fM [.ref n] h=_;unfold fM;simp only[i0,e];rw[B2,P3.cG]
 . simp only[UO,if_pos hl]
 . exact λq=>rfl
theorem JK{D:Pk}{x:Str}: ∀{D:Pk},x∈D.map (·.1)->cw (dM D) (.inr x)=some (.int (fP D x))
 | q::r,m=>by
  unfold fP dM;rw[US];by_cases e:q.1=x
  . rw[if_pos e,e,sQ]
  . rw[if_neg e,vB (by simpa using e)];rcases U1.mp m with m | m
    . exact absurd m.symm e
    . exact JK (D:=D) m
theorem cP{rs:List Rw}: ∀(n:Nat)(s:aI),(bf rs n s).held=s.held
 | 0,s=>by unfold bf;split<;>rfl
 | n+1,s=>by
  unfold bf;split
  . rfl
  . split
    . rfl
    . rw[cP n,nI]
noncomputable def tell(D:Pk)(ns:List Str):Pk:=(ns.filter λx=>decide (0 < fP D x)).map λx=>(x,fP D x)
theorem tX(D:Pk): ∀ ns:List Str,(ns.filterMap λx=>if 0 < fP D x then some (cO (x,fP D x)) else none)=(tell D ns).map cO
 | []=>rfl
 | x::r=>by
  unfold tell;by_cases z:0 < fP D x
  . rw[WG (by rw[if_pos z]),Vw (by simpa using z),US,US,tX D r];rfl
  . rw[WE (by rw[if_neg z]),VI (by simpa using z),tX D r];rfl
theorem qb(D:Pk)(ns:List Str):(tell D ns).map (·.1)=ns.filter λx=>decide (0 < fP D x):=by
 unfold tell;rw[VN];exact ach _
theorem FX{L:List Str}{D ps:Pk}(h:qA L D)(hp:ky L ps)(e: ∀ x,fP D x=fP ps x):tell D (cx (D.map (·.1)))=ps:=by
 have hin:ky L (tell D (cx (D.map (·.1)))):=by
  refine⟨?_,λq m=>?_⟩
  . rw[qb];exact(nB h.nd).sublist X4
  . unfold tell at m;obtain⟨x,mx,rfl⟩:=Vv.mp m;obtain⟨m1,m2⟩:=Wl.mp mx;obtain⟨q,mq,rfl⟩:=Vv.mp ((cg _).mem_iff.mp m1);have:=h.rS q.1;have m3:0 < fP D q.1:=by simpa using m2
    exact⟨(h.mem q mq).1,by show 1<=fP D q.1;omega,by show fP D q.1<=999;omega⟩
 refine KS hin hp λx=>?_;rw[<- e];by_cases hx:x∈(tell D (cx (D.map (·.1)))).map (·.1)
 . obtain⟨q,m,rfl⟩:=Vv.mp hx;rw[m4 hin.nd q m];unfold tell at m;obtain⟨y,_,rfl⟩:=Vv.mp m;rfl
 . rw[kQ hx];rw[qb] at hx;have:=h.rS x;by_cases hy:x∈D.map (·.1)
   . have: ¬ 0 < fP D x:=λz=>hx (Wl.mpr ⟨(cg _).mem_iff.mpr hy,by simpa using z⟩);omega
   . rw[kQ hy]
noncomputable def zH(ns:List Int):PO:= .lB (ns.map PV.int)
noncomputable def bp(q:Int × Int × Int):PO:= .lst [.int q.1,.int q.2.1,.int q.2.2]
theorem Nv{q:Int × Int × Int}{n:Nat}:(bp q).gW n=true:=rfl
section
variable{h:PH}{n:Nat}{x y z v:PV}{fr:PO}{q q':Int × Int × Int}{g g':PH}
theorem OP:wX n (.int 0) v h (some (.lst [x,y,z]))= .ok () (h.set n (.lst [v,y,z])):=rfl
theorem Jj:wX n (.int 2) v h (some (.lst [x,y,z]))= .ok () (h.set n (.lst [x,y,v])):=rfl
theorem dX(hv:v.flat=true):P3.settle (fr::bp q::g) v (fr::bp q'::(g++g'))= .ok v (fr::bp q'::g) :=
 kn (h:=fr::bp q::g) (g:=g') (i:=1) (o:=bp q) (o':=bp q') hv rfl rfl Nv
theorem lH:P3.settle (fr::bp q::g) v (fr::bp q'::g)= .ok v (fr::bp q'::g):=nF (h:=fr::bp q::g) (i:=1) (o:=bp q) (o':=bp q')
end
theorem MR{xs:List PV}{c:Int}(c0:0<=c)(c1:c < xs.length): ∃ x∈xs,d9 xs c=some x:=by
 obtain⟨n,rfl⟩:=V0 c0;exact⟨xs[n]'(by omega),Wq _,P3.eP rfl (UW (by omega))⟩
theorem mS{ss:List Str}{v:Int}(h0:0<=v)(h1:v < ss.length): ∃ x∈ss,d9 (ss.map PV.str) v=some (.str x):=by
 obtain⟨n,en⟩:=V0 h0;subst en;have hn:n < ss.length:=by omega
 exact⟨ss[n],Wq hn,P3.eP rfl (by rw[U8,UW hn];rfl)⟩
section
variable{pg:Tb}(T:bS pg)
include T
theorem cA(j:Nat)(fr:PO)(q:Int × Int × Int)(m:Int)(m0:0 < m)(m9:m<=1000000): ∃(v:Int)(q':Int × Int × Int),0<=v/\v < m/\ ∀ g,run pg (j+1) "_law_take" [.ref 1,.int m] (fr::bp q::g)= .ok (.int v) (fr::bp q'::g):=by
 obtain⟨a,b,c⟩:=q;have b0: ∀{q q':Int × Int × Int}{g:PH}{v:PV},P3.settle (fr::bp q::g) v (fr::bp q'::g)= .ok v (fr::bp q'::g):=lH;simp only[bp] at b0 ⊢;by_cases z:0 < a
 . refine⟨a % m,(a / m,b,c+1),XE _ (by omega),W5 _ m0,λg=>?_⟩;rw[run_eq T.nJ rfl];have mm:0 < m/\m < 1073741824:=by omega
   simp? (disch:=first | omega | exact mm) only[fj,jA,OP,Jj,qQ,xO,z,mJ];exact b0 (q:=(a,b,c)) (q':=(a / m,b,c+1))
 . let x:Int:=(b % 2147483647+31*(c+1))*48271 % 2147483629
   let y:Int:=(x / 11+17*(c+1))*69621 % 2147483587
   refine⟨y / 7 % m,(a,b,c+1),XE _ (by omega),W5 _ m0,λg=>?_⟩;rw[run_eq T.nJ rfl];have m1: ∀(i:Int) h,dF (.int i) (.int 48271) h= .ok (.int (i*48271)) h:=λi h=>ud (by omega);have m2: ∀(i:Int) h,dF (.int i) (.int 69621) h= .ok (.int (i*69621)) h:=λi h=>ud (by omega);simp? [fj,jA,Jj,qQ,xI,xO,z,m1,m2,mJ];exact b0 (q:=(a,b,c)) (q':=(a,b,c+1))
theorem J4(j:Nat)(ns:List Int)(hn:ns.length<=63): ∃ q,run pg (j+1) "_law_box" [.ref 0,.int 0] [zH ns]= .ok (.ref 1) [zH ns,bp q]:=by
 have ln:b6 [.ref 0] [zH ns]= .ok (.int ns.length) [zH ns]:=by rw[P0 (xs:=ns.map PV.int) rfl,UO]
 have t18:(10:Int) ^ Za 18=1000000000000000000:=by decide +kernel
 have mB: ∀(i:Int)(p:Bool) h,dF (.int i) (.int (if p=true then 1 else 0)) h= .ok (.int (i*if p=true then 1 else 0)) h:=λi p h=>ud (by split<;>omega);by_cases z:0 < (ns.length:Int)
 . obtain⟨x,xm,ex⟩:=MR (xs:=ns.map PV.int) (c:=0 % (ns.length:Int)) (XE _ (by omega)) (by rw[UO];exact W5 _ z);obtain⟨i,_,rfl⟩:=Vv.mp xm;have ix:aB (.ref 0) (.int (0 % (ns.length:Int))) [zH ns]= .ok (.int i) [zH ns]:=by rw[xZ];show OD _ _ (some (.lB _))=_;rw[Qk,ex];rfl
   refine⟨((i+1009*(0 / (ns.length:Int)))*(if decide (1000000000000000000<=i+1009*(0 / (ns.length:Int)))=true then 1 else 0),i+1009*(0 / (ns.length:Int)),0),?_⟩;rw[run_eq T.qr rfl];simp? [gb,kr,ln,z,ix,mJ,yz,sZ,mB,t18];exact cj rfl
 . refine⟨(0,0,0),?_⟩;rw[run_eq T.qr rfl];simp? [gb,kr,ln,z,mJ,yz,sZ,mB,t18];exact cj rfl
end
theorem FU{v:Int}(h0:0<=v)(h1:v < 5): ∃ o:Bo,d9 [PV.str "add",.str "sub",.str "mul",.str "less",.str "same"] v=some (.str o.w):=by
 have:v=0\/v=1\/v=2\/v=3\/v=4:=by omega
 rcases this with rfl | rfl | rfl | rfl | rfl
 . exact⟨.add,rfl⟩
 . exact⟨.sub,rfl⟩
 . exact⟨.mul,rfl⟩
 . exact⟨.less,rfl⟩
 . exact⟨.same,rfl⟩
theorem HA{v:Int}(h0:0<=v)(h1:v < 7): ∃ n:Int,0<=n/\n<=999/\d9 [PV.int 0,.int 1,.int 2,.int 3,.int 7,.int 500,.int 999] v=some (.int n):=by
 have:v=0\/v=1\/v=2\/v=3\/v=4\/v=5\/v=6:=by omega
 rcases this with rfl | rfl | rfl | rfl | rfl | rfl | rfl<;>exact⟨_,by decide,by decide,rfl⟩
noncomputable def Sm.Ry(P:Str->Prop):Sm->Prop
 | .num _=>True
 | .of x=>P x
 | .un e=>e.Ry P
 | .bin _ a b=>a.Ry P/\b.Ry P
section
variable{pg:Tb}(T:bS pg)
include T
theorem xi(j:Nat)(fr:PO){np:Nat}{ps:List Str}(p0:0 < ps.length)(p9:ps.length<=1000): ∀(d:Nat)(q:Int × Int × Int)(g:PH),g[np]?=some (.lst (ps.map PV.str)) ->
  ∃(e:Sm)(q':Int × Int × Int),e.ok/\e.dp<=d+1/\e.Ry (· ∈ps)/\run pg (j+d+2) "_law_sum" [.ref 1,.ref (np+1+1),.int d] (fr::bp q::g)= .ok (ig e) (fr::bp q'::g):=by
 have num: ∀(k:Nat)(d:Int)(q:Int × Int × Int)(g:PH)(w:Int),d=0\/w < 2-> ∃(e:Sm)(q':Int × Int × Int)(G:PH),e.ok/\e.dp=1/\e.Ry (· ∈ps)/\ ∀ rest:MS,∀ u:Option PV,
   ae (bR (Lc (mQ (aa 2) (eI 0)) (aH (ak Bd (aa 3) (eI 2)))) (aw (ao (ab (eS "num") (ab (ak aB (bH (ab (eI 0) (ab (eI 1) (ab (eI 2) (ab (eI 3) (a3 (eI 7) (eI 500) (eI 999))))))) (ag "_law_take" (a2 (aa 0) (eI 7)))) ah)))) cD) rest (run pg (k+1)) [some (.ref 1),some (.ref (np+1+1)),some (.int d),some (.int w),u] (fr::bp q::g)= .ok (.rt (ig e)) (fr::bp q'::(g++G)):=λk d q g w hw=>by
  obtain⟨a,q',a0,a1,ea⟩:=cA T k fr q 7 (by decide) (by decide);obtain⟨n,n0,n1,en⟩:=HA a0 a1;refine⟨.num n,q',[.lst [.int 0,.int 1,.int 2,.int 3,.int 7,.int 500,.int 999]],⟨n0,n1⟩,rfl,trivial,λrest u=>?_⟩;by_cases z:d=0
  . simp? [z,ea,en,ig]
  . have z2:w < 2:=hw.resolve_left z;simp? [z,z2,ea,en,ig]
 intro d
 induction d with
 | zero =>
  intro q g hp
  obtain⟨w,q1,w0,w1,ew⟩:=cA T j fr q 8 (by decide) (by decide)
  obtain⟨e,q',G,h1,h2,h3,h4⟩:=num j (((0:Nat):Int)) q1 g w (.inl rfl)
  refine⟨e,q',h1,by omega,h3,?_⟩
  rw[abS,run_eq T.fU rfl]
  simp? [cQ,eO,ew,↓h4,dX (fe e)]
 | succ d ih =>
  intro q g hp
  have dd:((d+1:Nat):Int) - 1=(d:Int):=by omega
  have dn: ¬ ((d+1:Nat):Int)=0:=by omega
  have hlt:=aG hp
  obtain⟨w,q1,w0,w1,ew⟩:=cA T (j+d+1) fr q 8 (by decide) (by decide)
  rw[show j+(d+1)+2=(j+d+2)+1 by omega]
  by_cases c1:w < 2
  . obtain⟨e,q',G,h1,h2,h3,h4⟩:=num (j+d+1) ((d+1:Nat):Int) q1 g w (.inr c1);refine⟨e,q',h1,by omega,h3,?_⟩;rw[run_eq T.fU rfl];simp? [cQ,eO,ew,↓h4,dX (fe e)]
  . by_cases c2:w < 5
    . obtain⟨a,q2,a0,a1,ea⟩:=cA T (j+d+1) fr q1 ps.length (by omega) (by omega);obtain⟨x,hx,ex⟩:=mS a0 a1;refine⟨.of x,q2,trivial,by simp[Sm.dp],hx,?_⟩;rw[run_eq T.fU rfl];simp? [cQ,eO,ew,dn,c1,c2,hp,ea,ex,ig,UO];exact lH (v:=ig (.of x))
    . by_cases c3:w=5
      . obtain⟨e,q2,h1,h2,h3,h4⟩:=ih q1 g hp;refine⟨.un e,q2,h1,by unfold Sm.dp;omega,h3,?_⟩;subst c3;rw[run_eq T.fU rfl];simp? [cQ,eO,ew,dn,dd,h4];exact lH (v:=ig (.un e))
      . let W:PH:=[.lst [.str "add",.str "sub",.str "mul",.str "less",.str "same"]]
        obtain⟨a,q2,a0,a1,ea⟩:=cA T (j+d+1) fr q1 5 (by decide) (by decide);obtain⟨o,eo⟩:=FU a0 a1;have hp':(g++W)[np]?=some (.lst (ps.map PV.str)):=by rw[ay hlt];exact hp
        obtain⟨e,q3,h1,h2,h3,h4⟩:=ih q2 (g++W) hp';obtain⟨f,q4,i1,i2,i3,i4⟩:=ih q3 (g++W) hp';refine⟨.bin o e f,q4,⟨h1,i1⟩,by unfold Sm.dp;omega,⟨h3,i3⟩,?_⟩;rw[run_eq T.fU rfl];simp only[W] at h4 i4;simp? [cQ,eO,ew,dn,dd,c1,c2,c3,ea,eo,h4,i4];exact dX (v:=ig (.bin o e f)) (fe _)
end
noncomputable def tw(x:Str):Bool:=decide (x.cps.size<=20)&&x.cps.toList.all λc=>decide (c < 16 ^ 8)
mutual
def wV:PV->Bool
 | .non=>true
 | .int i=>decide (0<=i/\i<=1000000)
 | .str x=>tw x
 | .tup xs=>lx xs
 | _=>false
def lx:List PV->Bool
 | []=>true
 | x::r=>wV x&&lx r
end
mutual
def HU:PV->Nat
 | .str x=>x.cps.size
 | .tup xs=>JB xs
 | _=>0
def JB:List PV->Nat
 | []=>0
 | x::r=>HU x+1+JB r
end
mutual
def F5:PV->Nat
 | .tup xs=>uR xs+1
 | _=>0
def uR:List PV->Nat
 | []=>0
 | x::r=>max (F5 x) (uR r)
end
theorem vb{i:Int}(h0:0<=i)(h9:i<=1000000):(Zo i).shown.length<=13:=PyData.shown_int_le (by omega)
theorem Ax{i:Int}(h0:0<=i)(h9:i<=1000000):i.natAbs.log2 < 1920:=by
 by_cases z:i.natAbs=0
 . rw[z];decide
 . rw[Nat.log2_lt z];exact U0 (show i.natAbs < 2 ^ 20 by omega) (Nat.pow_le_pow_right (by decide) (by decide))
mutual
theorem wV.d: ∀(v:PV),wV v=true-> ∃ d:W4,(∀ sub,jm sub v=some d)/\d.showable=true/\d.hasDict=false/\d.depth=F5 v/\d.bulk=HU v/\W6 13 d=true
 | .non,_=>⟨.none,λ_=>rfl,rfl,rfl,rfl,rfl,rfl⟩
 | .int i,h=>by
  rw[wV,decide_eq_true_eq] at h;exact⟨.int i,λ_=>rfl,by rw[YX,decide_eq_true_eq];exact Ax h.1 h.2,rfl,rfl,rfl,by rw[W6,decide_eq_true_eq];exact vb h.1 h.2⟩
 | .str x,h=>by
  rw[wV,tw,U9] at h;exact⟨.str x,λ_=>rfl,rfl,rfl,rfl,rfl,by rw[W6];exact h.2⟩
 | .tup xs,h=>by
  rw[wV] at h;obtain⟨ds,e,h1,h2,h3,h4,h5⟩:=lx.d xs h;exact⟨.tuple ds,λsub=>by rw[jm,e];rfl,by rw[YX];exact h1,by rw[aaY];exact h2,by rw[abT,h3,F5],by rw[aci,h4,HU],by rw[W6];exact h5⟩
theorem lx.d: ∀(xs:List PV),lx xs=true-> ∃ ds:List W4,(∀ sub,bT sub xs=some ds)/\Zp ds=true/\ZD ds=false/\XD ds=uR xs/\aaZ ds=JB xs/\YB 13 ds=true
 | [],_=>⟨[],λ_=>rfl,rfl,rfl,rfl,rfl,rfl⟩
 | x::r,h=>by
  rw[lx,U9] at h;obtain⟨d,e,h1,h2,h3,h4,h5⟩:=wV.d x h.1;obtain⟨ds,e',i1,i2,i3,i4,i5⟩:=lx.d r h.2;exact ⟨d::ds,λsub=>by rw [bT,e,e'],by rw [Zp,h1,i1];rfl,by rw [ZD,h2,i2];rfl,by rw [XD,h3,i3,uR],by rw [aaZ,h4,i4,JB],by rw [YB,h5,i5];rfl⟩
end
theorem Hc {ys : List PV} {ds : List W4} (h1 : Zp ds = true) (h2 : ZD ds = false) (h3 : XD ds <= 60) (h4 : aaZ ds <= 1000000) (h5 : YB 13 ds = true) : An (.tuple ds) /\ An (.list ds) :=
  ⟨⟨by rw [YX]; exact h1, by rw [aaY]; exact h2, by rw [abT]; omega, aas (B := 13) (by decide) (by decide) (by rw [W6]; exact h5) (by rw [aci]; omega)⟩,
   ⟨by rw [YX]; exact h1, by rw [aaY]; exact h2, by rw [abT]; omega, aas (B := 13) (by decide) (by decide) (by rw [W6]; exact h5) (by rw [aci]; omega)⟩⟩
theorem IP {ys:List PV} (h:lx ys=true) (hd:uR ys<=60) (hb:JB ys<=1000000): ∃ x:Str,∀ g,dZ [.tup ys] g= .ok (.str x) g:=by
 obtain ⟨ds,e,h1,h2,h3,h4,h5⟩:=lx.d ys h;refine ⟨(Y8 ds).shown,λg=>?_⟩;have e2:dat 6 g (.tup ys)=some (.tuple ds):=by unfold dat;rw[jm,e];rfl
 unfold dZ;simp only[e2];exact if_pos (Hc (ys:=ys) h1 h2 (by omega) (by omega) h5).1
theorem KJ{x:Str}(h:tw x=true):x.cps.size<=20:=by rw[tw,U9,decide_eq_true_eq] at h;exact h.1
theorem pX{f:Nat->Option W4}: ∀ ss:List Str,bT f (ss.map PV.str)=some (ss.map YH)
 | []=>rfl
 | x::r=>by rw[US,bT,pX r];rfl
theorem vz{h:PH}{n k:Nat}{ss:List Str}(e:h[n]?=some (.lst (ss.map PV.str))):dat (k+1) h (.ref n)=some (.list (ss.map YH)):=by
 unfold dat;simp only[jm,e,pX,Xc]
theorem ne_nil{h:PH}{n m:Nat}{ss:List Str}(e1:h[n]?=some (.lst (ss.map PV.str)))(e2:h[m]?=some (.lst []))(ok: ∀ x∈ss,Yv x=true):jT (.ref n) (.ref m) h= .ok (.bl (!decide (ss=[]))) h:=by
 have d1:=vz (k:=5) e1;have d2:=vz (k:=5) (ss:=[]) (n:=m) e2;have sc:kc (.ref n) (.ref m)=false:=rfl;have dp: ∀ xs:List Str,Zq (.list (xs.map YH))=xs.all Yv:=λxs=>by
  rw[Zq,PyProof.Rows.canLayAll_strs']
 have al:alike (.ref n) (.ref m) h=some (decide (ss=[])):=by
  unfold alike;rw[sc,d1,d2];have c1:(XS (ss.map YH)).canLay0=true:=by rw[dp];exact YE.mpr ok
  have c2:(XS (([]:List Str).map YH)).canLay0=true:=by rw[dp];rfl
  have c3:min (XS (ss.map YH)).depth (XS (([]:List Str).map YH)).depth<=64:=Vn (YD _ _) (by decide);simp only[WZ,if_false,c1,c2,c3,and_self,if_true];cases ss with
  | nil=>rfl
  | cons x r=>rfl
 have nd:gM h (.ref n)=false:=by simp only[gM,e1]
 unfold jT;rw[al,nd];rfl
theorem fO{n:Nat}{xs:List PV}{h:PH}(e:h[n]?=some (.lst xs)):lA.ko ⟨some n,xs⟩ h=true:=by
 unfold lA.ko;simp only[e,true_or,decide_true]
noncomputable def AB(s:List Str):Prop:=s.length<=20/\ ∀ x∈s,tw x=true/\Yv x=true
noncomputable def ur(s0 s1 s2 s3:List Str)(x:Str):Prop:=x= "clock" \/x= "lot" \/(s0≠[]/\(x= "get" \/x= "put"))\/(s1≠[]/\(x= "take" \/x= "free"))\/(s2≠[]/\(x= "send" \/x= "fetch"))\/(s3≠[]/\(x= "say" \/x= "hear"))
structure AU(J:PH)(nn:Nat)(s0 s1 s2 s3:List Str):Prop where
 at_: ∃ b0 b1 b2 b3:Nat,J[nn]?=some (.lst [.ref (b0+1+1),.ref (b1+1+1),.ref (b2+1+1),.ref (b3+1+1)])/\J[b0]?=some (.lst (s0.map PV.str))/\J[b1]?=some (.lst (s1.map PV.str))/\J[b2]?=some (.lst (s2.map PV.str))/\J[b3]?=some (.lst (s3.map PV.str))
 ok:AB s0/\AB s1/\AB s2/\AB s3
theorem AU.app{J g:PH}{nn:Nat}{s0 s1 s2 s3:List Str}(h:AU J nn s0 s1 s2 s3):AU (J++g) nn s0 s1 s2 s3:=by
 obtain⟨b0,b1,b2,b3,e,e0,e1,e2,e3⟩:=h.at_;exact⟨⟨b0,b1,b2,b3,(ay (aG e)).trans e,(ay (aG e0)).trans e0,(ay (aG e1)).trans e1,(ay (aG e2)).trans e2,(ay (aG e3)).trans e3⟩,h.ok⟩
noncomputable def Rw.th:Rw->Option (Nat × Str)
 | .get _ b=>some (0,b) | .put b _=>some (0,b) | .take l=>some (1,l) | .free l=>some (1,l)
 | .send l _=>some (2,l) | .fetch _ l=>some (2,l) | .say d _=>some (3,d)
 | _=>none
noncomputable def Rw.nm:Rw->Option (Nat × Str)
 | .hear _ d=>some (3,d)
 | r=>r.th
theorem OO{r:Rw}{z:Nat × Str}(h:r.th=some z):r.nm=some z:=by cases r<;>first | exact h | exact nomatch h
noncomputable def ND(s0 s1 s2 s3:List Str):Nat->List Str
 | 0=>s0 | 1=>s1 | 2=>s2 | _=>s3
noncomputable def BK (s0 s1 s2 s3:List Str) (r:Rw):Prop:= ∀ k t,r.nm=some (k,t)->t∈ND s0 s1 s2 s3 k
noncomputable def Ct:List (Key × PV):=[(.inr "get",.int 0),(.inr "put",.int 0),(.inr "take",.int 1),(.inr "free",.int 1),(.inr "send",.int 2),(.inr "fetch",.int 2),(.inr "say",.int 3),(.inr "hear",.int 3)]
theorem Em:cy [] Ct=Ct:=by decide +kernel
theorem uS (a:Str) (h:PH):jz (.str a) (.tup [.str "clock",.str "lot"]) h= .ok (.bl (decide (a∈(["clock", "lot"]:List Str)))) h:=xB (ss:=["clock", "lot"])
theorem D2 (a:Str) (h:PH):jz (.str a) (.tup [.str "get",.str "fetch",.str "hear"]) h= .ok (.bl (decide (a∈(["get", "fetch", "hear"]:List Str)))) h:=xB (ss:=["get", "fetch", "hear"])
theorem JL (a:Str) (h:PH):jz (.str a) (.tup [.str "take",.str "free"]) h= .ok (.bl (decide (a∈(["take", "free"]:List Str)))) h:=xB (ss:=["take", "free"])
noncomputable def Co (r:Rw) (i:Nat) (t:Str):Prop:= ∀ k u,r.nm=some (k,u)->k=i∧u=t
noncomputable def RowC (x:Str) (i:Nat):Prop:=(x∈(["get", "fetch", "hear"]:List Str)∧ ∀ y t:Str,∃ r:Rw,r.w=x∧r.ps=[.str y,.str t]∧(∀ L n,y∈L->fk L n r)∧Co r i t) ∨
 (¬ x∈(["get", "fetch", "hear"]:List Str)∧x∈(["take", "free"]:List Str)∧ ∀ t:Str,∃ r:Rw,r.w=x∧r.ps=[.str t]∧(∀ L n,fk L n r)∧Co r i t) ∨
 (¬ x∈(["get", "fetch", "hear"]:List Str)∧ ¬ x∈(["take", "free"]:List Str)∧ ∀ (t:Str) (e:Sm),∃ r:Rw,r.w=x∧r.ps=[.str t,ig e]∧(∀ L n,jb e->fk L n r)∧Co r i t)
theorem nK {r:Rw} {i:Nat} {t:Str} (e:r.nm=some (i,t)):Co r i t:=λk u h=>by rw [e] at h;cases h;exact ⟨rfl,rfl⟩
theorem Gi:RowC "get" 0:= .inl ⟨by decide +kernel,λy t=>⟨.get y t,rfl,rfl,λ_ _ h=>h,nK rfl⟩⟩
theorem Fb:RowC "put" 0:= .inr (.inr ⟨by decide +kernel,by decide +kernel,λt e=>⟨.put t e,rfl,rfl,λ_ _ h=>h,nK rfl⟩⟩)
theorem Cc:RowC "take" 1:= .inr (.inl ⟨by decide +kernel,by decide +kernel,λt=>⟨.take t,rfl,rfl,λ_ _=>trivial,nK rfl⟩⟩)
theorem CC:RowC "free" 1:= .inr (.inl ⟨by decide +kernel,by decide +kernel,λt=>⟨.free t,rfl,rfl,λ_ _=>trivial,nK rfl⟩⟩)
theorem C4:RowC "send" 2:= .inr (.inr ⟨by decide +kernel,by decide +kernel,λt e=>⟨.send t e,rfl,rfl,λ_ _ h=>h,nK rfl⟩⟩)
theorem Az:RowC "fetch" 2:= .inl ⟨by decide +kernel,λy t=>⟨.fetch y t,rfl,rfl,λ_ _ h=>h,nK rfl⟩⟩
theorem HH:RowC "say" 3:= .inr (.inr ⟨by decide +kernel,by decide +kernel,λt e=>⟨.say t e,rfl,rfl,λ_ _ h=>h,nK rfl⟩⟩)
theorem Ec:RowC "hear" 3:= .inl ⟨by decide +kernel,λy t=>⟨.hear y t,rfl,rfl,λ_ _ h=>h,nK rfl⟩⟩
theorem Hw {J:PH} {nn:Nat} {s0 s1 s2 s3:List Str} (N:AU J nn s0 s1 s2 s3) {x:Str} (h:ur s0 s1 s2 s3 x):x= "clock" ∨x= "lot" ∨
  ∃ (i:Nat) (b:Nat) (s:List Str) (rf:List PV),cw Ct (.inr x)=some (.int i)∧ ¬ x∈(["clock", "lot"]:List Str)∧J[nn]?=some (.lst rf)∧d9 rf i=some (.ref (b+1+1))∧J[b]?=some (.lst (s.map PV.str))∧s≠[]∧AB s∧RowC x i∧s=ND s0 s1 s2 s3 i:=by
 obtain ⟨b0,b1,b2,b3,e,e0,e1,e2,e3⟩:=N.at_;obtain ⟨o0,o1,o2,o3⟩:=N.ok;rcases h with h | h | ⟨z,h⟩ | ⟨z,h⟩ | ⟨z,h⟩ | ⟨z,h⟩
 . exact .inl h
 . exact .inr (.inl h)
 . rcases h with rfl | rfl
   . exact .inr (.inr ⟨0,b0,s0,_,by decide +kernel,by decide +kernel,e,qQ,e0,z,o0,Gi,rfl⟩)
   . exact .inr (.inr ⟨0,b0,s0,_,by decide +kernel,by decide +kernel,e,qQ,e0,z,o0,Fb,rfl⟩)
 . rcases h with rfl | rfl
   . exact .inr (.inr ⟨1,b1,s1,_,by decide +kernel,by decide +kernel,e,xI,e1,z,o1,Cc,rfl⟩)
   . exact .inr (.inr ⟨1,b1,s1,_,by decide +kernel,by decide +kernel,e,xI,e1,z,o1,CC,rfl⟩)
 . rcases h with rfl | rfl
   . exact .inr (.inr ⟨2,b2,s2,_,by decide +kernel,by decide +kernel,e,xO,e2,z,o2,C4,rfl⟩)
   . exact .inr (.inr ⟨2,b2,s2,_,by decide +kernel,by decide +kernel,e,xO,e2,z,o2,Az,rfl⟩)
 . rcases h with rfl | rfl
   . exact .inr (.inr ⟨3,b3,s3,_,by decide +kernel,by decide +kernel,e,EJ,e3,z,o3,HH,rfl⟩)
   . exact .inr (.inr ⟨3,b3,s3,_,by decide +kernel,by decide +kernel,e,EJ,e3,z,o3,Ec,rfl⟩)
theorem GA{c:Int}(c0:0<=c)(c1:c < 4): ∃ n:Int,2<=n/\n<=1000/\d9 [PV.int 2,.int 3,.int 7,.int 1000] c=some (.int n):=by
 rcases(show c=0\/c=1\/c=2\/c=3 by omega) with rfl | rfl | rfl | rfl<;>exact⟨_,by decide,by decide,rfl⟩
section
variable{pg:Tb}(T:bS pg)
include T
theorem HK(j:Nat)(fr:PO){nn np nk:Nat}{ps ks s0 s1 s2 s3 L:List Str}(p0:0 < ps.length)(p9:ps.length<=1000)(hL: ∀ x∈ps,x∈L)(k0:0 < ks.length)(k9:ks.length<=1000)(hK: ∀ x∈ks,ur s0 s1 s2 s3 x)(q:Int × Int × Int){J:PH}(N:AU J nn s0 s1 s2 s3)(ep:J[np]?=some (.lst (ps.map PV.str)))(ek:J[nk]?=some (.lst (ks.map PV.str))) :
  ∃(r:Rw)(q':Int × Int × Int),(∀ n,fk L n r)/\BK s0 s1 s2 s3 r/\run pg (j+5) "_law_touch_row" [.ref 1,.ref (nn+1+1),.ref (np+1+1),.ref (nk+1+1)] (fr::bp q::J)= .ok (bq r) (fr::bp q'::J):=by
 obtain⟨a,q1,a0,a1,ea⟩:=cA T (j+3) fr q ks.length (by omega) (by omega);obtain⟨x,hx,ex⟩:=mS a0 a1;obtain⟨b,q2,b0,b1,eb⟩:=cA T (j+3) fr q1 ps.length (by omega) (by omega);obtain⟨y,hy,ey⟩:=mS b0 b1;have yL:=hL y hy;rcases Hw N (hK x hx) with rfl | rfl | ⟨i,bb,s,rf,v1,v2,v3,v4,v5,v6,v7,cl,sv⟩
 . refine ⟨.clock y,q2,λ_=>yL,(λ_ _ h=>nomatch h),?_⟩;have m1:(Va "clock")∈(["clock", "lot"]:List Str):=by decide +kernel
   rw [run_eq T.cz rfl];simp? [aZ,bO,ek,ep,UO,ea,ex,eb,ey,uS,m1,bq,Rw.w,Rw.ps];exact lH
 . obtain ⟨c,q3,c0,c1,ec⟩:=cA T (j+3) fr q2 4 (by decide) (by decide);obtain ⟨n,n0,n9,en⟩:=GA c0 c1;refine ⟨.lot y n,q3,λ_=>⟨yL,n0,n9⟩,(λ_ _ h=>nomatch h),?_⟩;have m1:(Va "lot")∈(["clock", "lot"]:List Str):=by decide +kernel
   rw [run_eq T.cz rfl];simp? [aZ,bO,ek,ep,UO,ea,ex,eb,ey,uS,m1,ec,en,bq,Rw.w,Rw.ps];exact dX rfl
 . have sp:0 < s.length:=abc.mpr v6;have sl:=v7.1;obtain⟨c,q3,c0,c1,ec⟩:=cA T (j+3) fr q2 s.length (by omega) (by omega);obtain⟨t,ht,et⟩:=mS c0 c1;have rin: ∀{r:Rw},Co r i t->BK s0 s1 s2 s3 r:=λh k u e=>by obtain⟨rfl,rfl⟩:=h k u e;rw[<- sv];exact ht
   have old: ∀{n:Nat}{o:PO}(g:PH),J[n]?=some o->(J++g)[n]?=some o:=λg e=>(ay (aG e)).trans e;have dk:Oy (J.length+1+1) [((.inr "get" :Key),PV.int 0),(.inr "put",.int 0),(.inr "take",.int 1),(.inr "free",.int 1),(.inr "send",.int 2),(.inr "fetch",.int 2),(.inr "say",.int 3),(.inr "hear",.int 3)] (fr::bp q2::(J++[.dct []]))= .ok (.ref (J.length+1+1)) (fr::bp q2::(J++[.dct Ct])):=by
    have:=zc (h:=fr::bp q2::J) (kvs:=Ct) (by simp[Ct]);rw[Em] at this;exact this
   have w3:=old [.dct Ct] v3;have w5:=old [.dct Ct] v5;rcases cl with⟨g1,g2⟩ | ⟨g1,g2,g3⟩ | ⟨g1,g2,g3⟩
   . obtain⟨r,r1,r2,r3,r4⟩:=g2 y t;have rv:bq r= .tup [.str x,.str y,.str t]:=by unfold bq;rw[r1,r2]
     refine⟨r,q3,λn=>r3 L n yL,rin r4,?_⟩;rw[rv,run_eq T.cz rfl];simp? [aZ,bO,ek,ep,UO,ea,ex,eb,ey,uS,v2,lC,oO,lu,ph,px,qi,dk,v1,w3,v4,w5,ec,et,D2,g1];exact dX rfl
   . obtain⟨r,r1,r2,r3,r4⟩:=g3 t;have rv:bq r= .tup [.str x,.str t]:=by unfold bq;rw[r1,r2]
     refine⟨r,q3,λn=>r3 L n,rin r4,?_⟩;rw[rv,run_eq T.cz rfl];simp? [aZ,bO,ek,ep,UO,ea,ex,eb,ey,uS,v2,lC,oO,lu,ph,px,qi,dk,v1,w3,v4,w5,ec,et,D2,g1,JL,g2];exact dX rfl
   . obtain⟨e,q4,h1,h2,h3,h4⟩:=xi T j fr p0 p9 2 q3 (J++[.dct Ct]) (old [.dct Ct] ep);have hs:jb e:=⟨h1,by omega⟩
     obtain⟨r,r1,r2,r3,r4⟩:=g3 t e;have rv:bq r= .tup [.str x,.str t,ig e]:=by unfold bq;rw[r1,r2]
     refine⟨r,q4,λn=>r3 L n hs,rin r4,?_⟩;have h4':run pg (j+4) "_law_sum" [.ref 1,.ref (np+1+1),.int 2] (fr::bp q3::(J++[.dct Ct]))=_:=h4;rw[rv,run_eq T.cz rfl];simp? [aZ,bO,ek,ep,UO,ea,ex,eb,ey,uS,v2,lC,oO,lu,ph,px,qi,dk,v1,w3,v4,w5,ec,et,D2,g1,JL,g2,h4'];exact dX (v:= .tup [.str x,.str t,ig e]) (by simp[PV.flat,PV.aQ,fe])
end
structure KE(H:PH)(nd:Nat)(e:PV × List Str × List Str):Prop where
 at_: ∃(i:Int)(q b:Nat)(rf:List PV),e.1= .tup [.int i,.ref q]/\H[nd]?=some (.lst rf)/\d9 rf i=some (.ref b)/\H[b]?=some (.lst (e.2.2.map PV.str))/\H[q]?=some (.lst (e.2.1.map PV.str))
 ok: ∀ x∈e.2.2,Yv x=true
 le:e.2.1.length<=4
theorem KE.app{H g:PH}{nd:Nat}{e:PV × List Str × List Str}(h:KE H nd e):KE (H++g) nd e:=by
 obtain⟨i,q,b,rf,h1,h2,h3,h4,h5⟩:=h.at_;exact⟨⟨i,q,b,rf,h1,(ay (aG h2)).trans h2,h3,(ay (aG h4)).trans h4,(ay (aG h5)).trans h5⟩,h.ok,h.le⟩
noncomputable def kG:MG:=(gT 2 (au (gN 4) (au (gN 5) cv)))
noncomputable def kB:MS:=(bR (aH (ak jT (ak aB (aa 1) (aa 4)) (bH ah))) (ai (ak aX (ak aX (aa 3) (aa 5)) (aa 5)) (gN 3)) cD)
theorem OR(c:CF){H:PH}{nd cc:Nat}{ks:List Str}{e:PV × List Str × List Str}(E:KE H nd e)(e4:H[cc]?=some (.lst (ks.map PV.str)))(hl:ks.length<=900)(a0 a2 u4 u5 n6 n7 n8 n9:Option PV) :
  ∃(g':PH)(c':Nat)(ks':List Str)(v4 v5:Option PV),(H++g')[c']?=some (.lst (ks'.map PV.str))/\cc<=c'/\ks.length<=ks'.length/\ks'.length<=ks.length+10/\(∀ x∈ks',x∈ks\/(e.2.2≠[]/\x∈e.2.1)) /\
   bE kG kB c e.1 [a0,some (.ref nd),a2,some (.ref cc),u4,u5,n6,n7,n8,n9] H= .ok (.nx [a0,some (.ref nd),a2,some (.ref c'),v4,v5,n6,n7,n8,n9]) (H++g'):=by
 obtain⟨i,q,b,rf,h1,e1,e2,e3,e5⟩:=E.at_;obtain⟨it,qs,ss⟩:=e;simp only at h1 e3 e5 ⊢;subst h1;have hq:qs.length<=4:=E.le;have l3:=aG e3;have l4:=aG e4;have l5:=aG e5;have ne:=ne_nil (h:=H++[.lst []]) (n:=b) (m:=H.length) (ss:=ss) (by rw[ay l3];exact e3) cq E.ok;by_cases z:ss=[]
 . refine⟨[.lst []],cc,ks,some (.int i),some (.ref q),by rw[ay l4];exact e4,UT _,UT _,by omega,λx m=> .inl m,?_⟩;simp? [kG,kB,e1,e2,ne,z]
 . have ad1:=oG (h:=H++[.lst []]) (n:=cc) (m:=q) (by rw[ay l4];exact e4) (by rw[ay l5];exact e5) (by rw[UO,UO];omega);have ad2:aX (.ref (H.length+(0+1))) (.ref q) (H++[.lst [],.lst (ks.map PV.str++qs.map PV.str)])= .ok (.ref (H.length+(0+1+1))) (H++[.lst [],.lst (ks.map PV.str++qs.map PV.str),.lst (ks.map PV.str++qs.map PV.str++qs.map PV.str)]):=by
    have:=oG (h:=H++[.lst [],.lst (ks.map PV.str++qs.map PV.str)]) (n:=H.length+(0+1)) (m:=q) (xs:=ks.map PV.str++qs.map PV.str) (ys:=qs.map PV.str) (by rw[br];rfl) (by rw[ay l5];exact e5) (by rw[U5,UO,UO];omega);simpa using this
   refine⟨[.lst [],.lst (ks.map PV.str++qs.map PV.str),.lst (ks.map PV.str++qs.map PV.str++qs.map PV.str)],H.length+(0+1+1),ks++qs++qs,some (.int i),some (.ref q),by rw[br,VG,VG];rfl,by omega,by simp only[U5];omega,by simp only[U5];omega,λx m=>?_,?_⟩
   . rcases VT.mp m with m | m
     . rcases VT.mp m with m | m
       . exact .inl m
       . exact .inr ⟨z,m⟩
     . exact .inr ⟨z,m⟩
   . simp? [kG,kB,e1,e2,ne,z,ad1,ad2]
theorem OV(c:CF){nd n0:Nat}(xs0:List PV)(a0 a2 n6 n7 n8 n9:Option PV): ∀(es:List (PV × List Str × List Str))(H:PH)(cc:Nat)(ks:List Str)(u4 u5:Option PV),(∀ e∈es,KE H nd e)->H[cc]?=some (.lst (ks.map PV.str))->H[n0]?=some (.lst xs0)->ks.length+10*es.length<=900 ->
  ∃(g':PH)(c':Nat)(ks':List Str)(v4 v5:Option PV),(H++g')[c']?=some (.lst (ks'.map PV.str))/\cc<=c'/\ks.length<=ks'.length/\ks'.length<=ks.length+10*es.length/\(∀ x∈ks',x∈ks\/ ∃ e∈es,e.2.2≠[]/\x∈e.2.1) /\
   bN ⟨some n0,xs0⟩ (bE kG kB c) (es.map (·.1)) [a0,some (.ref nd),a2,some (.ref cc),u4,u5,n6,n7,n8,n9] H= .ok (.nx [a0,some (.ref nd),a2,some (.ref c'),v4,v5,n6,n7,n8,n9]) (H++g'):=by
 intro es
 induction es with
 | nil=>intro H cc ks u4 u5 _ e4 e0 _;exact⟨[],cc,ks,u4,u5,by rw[VF];exact e4,UT _,UT _,by simp,λx m=> .inl m,by rw[VF];exact tZ (fO e0)⟩
 | cons e es ih =>
  intro H cc ks u4 u5 hE e4 e0 hl
  rw[UU] at hl
  obtain⟨g1,c1,k1,v4,v5,f1,f0,f2,f3,f4,f5⟩:=OR c (hE e U3) e4 (by omega) a0 a2 u4 u5 n6 n7 n8 n9
  obtain⟨g2,c2,k2,w4,w5,i1,i0,i2,i3,i4,i5⟩:=ih (H++g1) c1 k1 v4 v5 (λx m=>(hE x (U6 _ m)).app) f1 ((ay (aG e0)).trans e0) (by omega)
  refine⟨g1++g2,c2,k2,w4,w5,by rw[<- Vs];exact i1,by omega,by omega,by rw[UU];omega,λx m=>?_,?_⟩
  . rcases i4 x m with m | ⟨e',m',z⟩
    . rcases f4 x m with m | z
      . exact .inl m
      . exact .inr ⟨e,U3,z⟩
    . exact .inr ⟨e',U6 _ m',z⟩
  . rw[US,t9 (fO e0),f5,dR,cB,i5,Vs]
theorem Ir{a b c:Int}(a0:0<=a)(a1:a < 4)(b0:0<=b)(b1:b < 8)(c0:c=0\/c=1): ∃ m:Int,0<=m/\m<=10/\d9 [PV.int a,.int (3+b)] c=some (.int m):=by
 rcases c0 with rfl | rfl
 . exact⟨a,a0,by omega,qQ⟩
 . exact⟨3+b,by omega,by omega,xI⟩
noncomputable def Oz:MS:=(ae (ai (ag "_law_take" (a2 (aa 0) (eI 8))) (gN 9)) (bR (mQ (aa 9) (eI 0)) (cb (eM aM bw (aa 7) (ab (ao (ab (eS "let") (ab (ak aB (aa 2) (ag "_law_take" (ab (aa 0) (ab (eB b6 (a1 (aa 2))) ah)))) (ab (ag "_law_sum" (a3 (aa 0) (aa 2) (eI 2))) ah)))) ah))) (bR (mQ (aa 9) (eI 1)) (cb (eM aM bw (aa 7) (ab (ao (ab (eS "leap") (ab (ag "_law_take" (ab (aa 0) (ab (ak aX (aa 6) (eI 1)) ah))) (ab (ag "_law_sum" (a3 (aa 0) (aa 2) (eI 2))) ah)))) ah))) (cb (eM aM bw (aa 7) (ab (ag "_law_touch_row" (ab (aa 0) (a3 (aa 1) (aa 2) (aa 3)))) ah))))))
section
variable{pg:Tb}(T:bS pg)
include T
theorem Ai(j:Nat)(fr:PO){nn np nk:Nat}{ps ks s0 s1 s2 s3 L:List Str}(p0:0 < ps.length)(p9:ps.length<=1000)(hL: ∀ x∈ps,x∈L)(k0:0 < ks.length)(k9:ks.length<=1000)(hK: ∀ x∈ks,ur s0 s1 s2 s3 x){J:PH}(N:AU J nn s0 s1 s2 s3)(ep:J[np]?=some (.lst (ps.map PV.str)))(ek:J[nk]?=some (.lst (ks.map PV.str))){m:Nat}(m9:m<=10)(xs0:List PV)(a4 a5:Option PV) :
  ∀(aj:List PV)(rs:List Rw)(q:Int × Int × Int)(a8 a9:Option PV),rs.length+aj.length<=1000 ->
  ∃(rs':List Rw)(q':Int × Int × Int)(b8 b9:Option PV),rs'.length=aj.length/\(∀ r∈rs',fk L m r/\BK s0 s1 s2 s3 r) /\
   bN ⟨none,xs0⟩ (bE (gN 8) Oz (run pg (j+5))) aj [some (.ref 1),some (.ref (nn+1+1)),some (.ref (np+1+1)),some (.ref (nk+1+1)),a4,a5,some (.int m),some (.ref (J.length+1+1)),a8,a9] (fr::bp q::(J++[.lst (rs.map bq)])) =
   .ok (.nx [some (.ref 1),some (.ref (nn+1+1)),some (.ref (np+1+1)),some (.ref (nk+1+1)),a4,a5,some (.int m),some (.ref (J.length+1+1)),b8,b9]) (fr::bp q'::(J++[.lst ((rs++rs').map bq)])):=by
 intro aj
 induction aj with
 | nil=>intro rs q a8 a9 _;exact⟨[],q,a8,a9,rfl,(λr m=>nomatch m),by rw[VF];exact gS⟩
 | cons x aj ih =>
  intro rs q a8 a9 hl
  rw[UU] at hl
  obtain⟨w,q1,w0,w1,ew⟩:=cA T (j+4) fr q 8 (by decide) (by decide)
  have hz:(rs.map bq).length < 16777216:=by rw[UO];omega
  have ep':(J++[PO.lst (rs.map bq)])[np]?=some (.lst (ps.map PV.str)):=by rw[ay (aG ep)];exact ep
  have ek':(J++[PO.lst (rs.map bq)])[nk]?=some (.lst (ks.map PV.str)):=by rw[ay (aG ek)];exact ek
  suffices st: ∃(r:Rw)(q2:Int × Int × Int)(u9:Option PV),(fk L m r/\BK s0 s1 s2 s3 r)/\bE (gN 8) Oz (run pg (j+5)) x [some (.ref 1),some (.ref (nn+1+1)),some (.ref (np+1+1)),some (.ref (nk+1+1)),a4,a5,some (.int m),some (.ref (J.length+1+1)),a8,a9] (fr::bp q::(J++[.lst (rs.map bq)]))= .ok (.nx [some (.ref 1),some (.ref (nn+1+1)),some (.ref (np+1+1)),some (.ref (nk+1+1)),a4,a5,some (.int m),some (.ref (J.length+1+1)),some x,u9]) (fr::bp q2::(J++[.lst (rs.map bq++[bq r])])) by
   obtain⟨r,q2,u9,hr,st⟩:=st;obtain⟨rs',q',b8,b9,i1,i2,i3⟩:=ih (rs++[r]) q2 (some x) u9 (by simp only[U5,UU,Vk];omega);refine⟨r::rs',q',b8,b9,by rw[UU,UU,i1],λz m=>?_,?_⟩
   . rcases U1.mp m with rfl | m
     . exact hr
     . exact i2 z m
   . rw[VG,US,Vh] at i3;rw[fw,st,dR,cB,i3,Vs];rfl
  by_cases z0:w=0
  . subst z0;obtain⟨b,q2,b0,b1,eb⟩:=cA T (j+4) fr q1 ps.length (by omega) (by omega);obtain⟨y,hy,ey⟩:=mS b0 b1;obtain⟨e,q3,h1,h2,h3,h4⟩:=xi T (j+1) fr p0 p9 2 q2 (J++[.lst (rs.map bq)]) ep';have h4':run pg (j+5) "_law_sum" [.ref 1,.ref (np+1+1),.int 2] (fr::bp q2::(J++[.lst (rs.map bq)]))=_:=h4;have hs:jb e:=⟨h1,by omega⟩
    refine⟨.let_ y e,q3,some (.int 0),⟨⟨hL y hy,hs⟩,(λ_ _ h=>nomatch h)⟩,?_⟩;simp? [Oz,ew,ep',UO,eb,ey,h4',kM hz,bq,Rw.w,Rw.ps]
  by_cases z1:w=1
  . subst z1;obtain⟨b,q2,b0,b1,eb⟩:=cA T (j+4) fr q1 ((m:Int)+1) (by omega) (by omega);obtain⟨e,q3,h1,h2,h3,h4⟩:=xi T (j+1) fr p0 p9 2 q2 (J++[.lst (rs.map bq)]) ep';have h4':run pg (j+5) "_law_sum" [.ref 1,.ref (np+1+1),.int 2] (fr::bp q2::(J++[.lst (rs.map bq)]))=_:=h4;have hs:jb e:=⟨h1,by omega⟩
    refine⟨.leap b e,q3,some (.int 1),⟨⟨b0,by omega,hs⟩,(λ_ _ h=>nomatch h)⟩,?_⟩;simp? [Oz,ew,eb,h4',kM hz,bq,Rw.w,Rw.ps]
  . obtain⟨r,q2,h1,h2,h3⟩:=HK T j fr p0 p9 hL k0 k9 hK q1 N.app ep' ek';refine⟨r,q2,some (.int w),⟨h1 m,h2⟩,?_⟩;simp? [Oz,ew,z0,z1,h3,kM hz]
end
noncomputable def kF:MS:=(j5 (jZ (bH (ab (ao (ab (eI 0) (ab (bH (a2 (eS "get") (eS "put"))) ah))) (ab (ao (ab (eI 1) (ab (bH (a2 (eS "take") (eS "free"))) ah))) (ab (ao (ab (eI 2) (ab (bH (a2 (eS "send") (eS "fetch"))) ah))) (ab (ao (ab (eI 3) (ab (bH (a2 (eS "say") (eS "hear"))) ah))) ah)))))) kG kB)
theorem Rk(c:CF)(fr:PO)(q:Int × Int × Int){nn:Nat}{s0 s1 s2 s3:List Str}{J:PH}(N:AU J nn s0 s1 s2 s3)(a0 a2:Option PV) :
  ∃(g':PH)(nk:Nat)(ks:List Str)(v4 v5:Option PV),(J++g')[nk]?=some (.lst (ks.map PV.str))/\0 < ks.length/\ks.length<=1000/\(∀ x∈ks,ur s0 s1 s2 s3 x) /\
   kF c [a0,some (.ref (nn+1+1)),a2,some (.ref (J.length+1+1)),none,none,none,none,none,none] (fr::bp q::(J++[.lst [.str "clock",.str "lot"]]))= .ok (.nx [a0,some (.ref (nn+1+1)),a2,some (.ref (nk+1+1)),v4,v5,none,none,none,none]) (fr::bp q::(J++g')):=by
 obtain ⟨b0,b1,b2,b3,e,e0,e1,e2,e3⟩:=N.at_;obtain ⟨o0,o1,o2,o3⟩:=N.ok
 let m:=J.length
 let es:List (PV × List Str × List Str):=[(.tup [.int 0,.ref (m+(0+1)+1+1)],["get", "put"],s0),(.tup [.int 1,.ref (m+(0+1+1)+1+1)],["take", "free"],s1),(.tup [.int 2,.ref (m+(0+1+1+1)+1+1)],["send", "fetch"],s2),(.tup [.int 3,.ref (m+(0+1+1+1+1)+1+1)],["say", "hear"],s3)]
 let Y:PH:=[.lst [.str "clock",.str "lot"],.lst [.str "get",.str "put"],.lst [.str "take",.str "free"],.lst [.str "send",.str "fetch"],.lst [.str "say",.str "hear"],.lst (es.map (·.1))]
 have old: ∀ {n:Nat} {o:PO},J[n]?=some o->(fr::bp q::(J++Y))[n+1+1]?=some o:=λe=>by
  rw [Vi,Vi];exact (ay (aG e)).trans e
 have new: ∀(i:Nat),(fr::bp q::(J++Y))[m+i+1+1]?=Y[i]?:=λi=>by
  rw[Vi,Vi];exact br
 have hE: ∀ x∈es,KE (fr::bp q::(J++Y)) (nn+1+1) x:=λx mx=>by
  simp only[es,U1,Vm,or_false] at mx;rcases mx with rfl | rfl | rfl | rfl
  . exact⟨⟨0,_,b0+1+1,_,rfl,old e,qQ,old e0,by rw[new];rfl⟩,λx m=>(o0.2 x m).2,by simp⟩
  . exact ⟨⟨1,_,b1+1+1,_,rfl,old e,xI,old e1,by rw [new];rfl⟩,λx m=>(o1.2 x m).2,by simp⟩
  . exact ⟨⟨2,_,b2+1+1,_,rfl,old e,xO,old e2,by rw [new];rfl⟩,λx m=>(o2.2 x m).2,by simp⟩
  . exact ⟨⟨3,_,b3+1+1,_,rfl,old e,EJ,old e3,by rw [new];rfl⟩,λx m=>(o3.2 x m).2,by simp⟩
 obtain ⟨g1,c1,ks,v4,v5,f1,f0,f2,f3,f4,f5⟩:=OV c (nd:=nn+1+1) (n0:=m+(0+1+1+1+1+1)+1+1) (es.map (·.1)) a0 a2 none none none none es (fr::bp q::(J++Y)) (m+1+1) ["clock", "lot"] none none hE (new 0) (by rw [new];rfl) (by simp [es])
 obtain ⟨nk,rfl⟩: ∃ nk,c1=nk+1+1:=⟨c1 - 2,by omega⟩
 refine ⟨Y++g1,nk,ks,v4,v5,?_,U0 (by simp) f2,Vn f3 (by simp [es]),λx mx=>?_,?_⟩
 . rw [VZ,VZ,Vi,Vi,Vs] at f1;exact f1
 . rcases f4 x mx with mx | ⟨e',m',z,mx⟩
   . simp only[U1,Vm,or_false] at mx;rcases mx with h | h
     . exact .inl h
     . exact .inr (.inl h)
   . simp only[es,U1,Vm,or_false] at m';rcases m' with rfl | rfl | rfl | rfl<;>simp only[U1,Vm,or_false] at mx z
     . exact .inr (.inr (.inl ⟨z,mx⟩))
     . exact .inr (.inr (.inr (.inl ⟨z,mx⟩)))
     . exact .inr (.inr (.inr (.inr (.inl ⟨z,mx⟩))))
     . exact .inr (.inr (.inr (.inr (.inr ⟨z,mx⟩))))
 . simp only[es,US,Vh,Y,m,VZ,Vs] at f5;simp? [kF,f5];rfl
section
variable{pg:Tb}(T:bS pg)
include T
theorem Fg(j:Nat)(fr:PO){nn np:Nat}{ps s0 s1 s2 s3 L:List Str}(p0:0 < ps.length)(p9:ps.length<=1000)(hL: ∀ x∈ps,x∈L)(q:Int × Int × Int){J:PH}(N:AU J nn s0 s1 s2 s3)(ep:J[np]?=some (.lst (ps.map PV.str))) :
  ∃(rs:List Rw)(q':Int × Int × Int),rs.length<=10/\(∀ r∈rs,fk L rs.length r/\BK s0 s1 s2 s3 r)/\run pg (j+6) "_law_rows" [.ref 1,.ref (nn+1+1),.ref (np+1+1)] (fr::bp q::J)= .ok (bG rs) (fr::bp q'::J):=by
 obtain⟨g1,nk,ks,v4,v5,f1,f2,f3,f4,f5⟩:=Rk (run pg (j+5)) fr q N (some (.ref 1)) (some (.ref (np+1+1)));obtain⟨a,q1,a0,a1,ea⟩:=cA T (j+4) fr q 4 (by decide) (by decide);obtain⟨b,q2,b0,b1,eb⟩:=cA T (j+4) fr q1 8 (by decide) (by decide);obtain⟨d,q3,d0,d1,ed⟩:=cA T (j+4) fr q2 6 (by decide) (by decide);obtain⟨mi,m0,m9,em⟩:=Ir a0 a1 b0 b1 (c:=if decide (0 < d)=true then 1 else 0) (by split<;>simp);obtain⟨m,rfl⟩:=V0 m0;have N':AU (J++(g1++[.lst [.int a,.int (3+b)]])) nn s0 s1 s2 s3:=N.app;obtain⟨rs,q4,b8,b9,h1,h2,h3⟩:=Ai T j fr p0 p9 hL f2 f3 f4 N' (by rw[ay (aG ep)];exact ep) (by rw[<- Vs,ay (aG f1)];exact f1) (m:=m) (by omega) (az 0 m) v4 v5 (az 0 m) [] q3 none none (by simp[az];omega);have lr:(az 0 m).length=m:=by unfold az;simp
 rw[lr] at h1;refine⟨rs,q4,by omega,by rw[h1];exact h2,?_⟩;rw[Vh,Vj] at h3;have tn:Za (m:Int)=m:=VH m;unfold kF kG kB at f5;unfold Oz at h3;simp only[U5,UU,Vk,Vs,VZ,Vj] at h3;rw[run_eq T.vd rfl];simp? [gJ,nH,↓f5,ea,eb,ed,em,mJ,tn,h3];exact dX (v:=bG rs) (mF rs)
end
noncomputable def bF (h:Str × List Rw):PV:= .tup [.str h.1,bG h.2]
noncomputable def nW:List Str:=["a", "ab", "putter", "b", "getx", "abc", "locked", "sayer", "c", "hands", "fetched", "abcdefgh"]
theorem DH: ∀ x∈nW,tw x=true∧Yv x=true:=by decide +kernel
noncomputable def B8 (pl:List Str):Prop:=pl.length=12∧ ∀ x∈pl,tw x=true∧Yv x=true
theorem AE {pl:List Str} (h:B8 pl) (lo hi:Option Int): ∃ ss:List Str,fF (pl.map PV.str) lo hi=ss.map PV.str∧AB ss:=by
 unfold fF;refine⟨(pl.drop (HT.cX (pl.map PV.str).length 0 lo)).take (HT.cX (pl.map PV.str).length (pl.map PV.str).length hi - HT.cX (pl.map PV.str).length 0 lo),by rw[ZR,abi],?_,λx m=>h.2 x (aa0 (YR m))⟩;have:=h.1;simp only[VC,Wn];omega
theorem xU{xs:List Int}{v:Int}(h0:0<=v)(h1:v < xs.length): ∃ x∈xs,d9 (xs.map PV.int) v=some (.int x):=by
 obtain⟨n,en⟩:=V0 h0;subst en;have hn:n < xs.length:=by omega
 exact⟨xs[n],Wq hn,P3.eP rfl (by rw[U8,UW hn];rfl)⟩
noncomputable def De(b:Nat)(X:PH)(r:PV):Prop:= ∃(i:Nat)(ss:List Str),r= .ref (b+i+1+1)/\X[i]?=some (.lst (ss.map PV.str))/\AB ss
theorem De.more{b:Nat}{X:PH}{r:PV}(h:De b X r)(Y:PH):De b (X++Y) r:=by
 obtain⟨i,ss,h1,h2,h3⟩:=h;exact⟨i,ss,h1,(ay (aG h2)).trans h2,h3⟩
noncomputable def Sl:MS:=(ae (ai (ak aB (bH (ab (eI 1) (ab (eI 2) (a3 (eI 1) (eI 0) (eI 2))))) (ag "_law_take" (a2 (aa 0) (eI 5)))) (gN 5)) (cb (eM aM bw (aa 3) (ab (rL (aa 1) (cY (ak dF (eI 2) (aa 4))) (cY (ak aX (ak dF (eI 2) (aa 4)) (aa 5)))) ah))))
noncomputable def Sf:ME:=(ao (ab (aa 10) (ab (ak aB (bH (ab (eI 0) (a3 (eI 5) (eI 999) (eI 1)))) (ag "_law_take" (a2 (aa 0) (eI 4)))) ah)))
section
variable{pg:Tb}(T:bS pg)
include T
theorem yA(j:Nat)(fr:PO){np:Nat}{pl:List Str}(hp:B8 pl){J:PH}(ep:J[np]?=some (.lst (pl.map PV.str)))(xs0:List PV)(e2 e6 e7 e8 e9:Option PV) :
  ∀(aj:List Int)(refs:List PV)(X:PH)(q:Int × Int × Int)(e4 e5:Option PV),refs.length+aj.length<=1000->(∀ r∈refs,De (J.length+1) X r) ->
  ∃(refs':List PV)(X':PH)(q':Int × Int × Int)(f4 f5:Option PV),refs'.length=refs.length+aj.length/\(∀ r∈refs',De (J.length+1) X' r) /\
   bN ⟨none,xs0⟩ (bE (gN 4) Sl (run pg (j+1))) (aj.map PV.int) [some (.ref 1),some (.ref (np+1+1)),e2,some (.ref (J.length+1+1)),e4,e5,e6,e7,e8,e9] (fr::bp q::(J++ .lst refs::X))= .ok (.nx [some (.ref 1),some (.ref (np+1+1)),e2,some (.ref (J.length+1+1)),f4,f5,e6,e7,e8,e9]) (fr::bp q'::(J++ .lst refs'::X')):=by
 intro aj
 induction aj with
 | nil=>intro refs X q e4 e5 _ h;exact⟨refs,X,q,e4,e5,rfl,h,gS⟩
 | cons i aj ih =>
  intro refs X q e4 e5 hl h
  rw[UU] at hl
  let W:List PV:=[.int 1,.int 2,.int 1,.int 0,.int 2]
  obtain⟨a,q1,a0,a1,ea⟩:=cA T j fr q 5 (by decide) (by decide)
  obtain⟨m,mm,em⟩:=xU (xs:=[1,2,1,0,2]) a0 (by simpa using a1)
  have em':d9 [PV.int 1,.int 2,.int 1,.int 0,.int 2] a=some (.int m):=em
  obtain⟨ss,ec,hs⟩:=AE hp (some (2*i)) (some (2*i+m))
  have old: ∀ Y:PH,(J++Y)[np]?=some (.lst (pl.map PV.str)):=λY=>(ay (aG ep)).trans ep
  have hz:refs.length < 16777216:=by omega
  obtain⟨refs',X',q',f4,f5,h1,h2,h3⟩:=ih (refs++[.ref (J.length+1+(X.length+1)+1+1)]) (X++[.lst W,.lst (ss.map PV.str)]) q1 (some (.int i)) (some (.int m)) (by simp only[U5,UU,Vk];omega) (λr mr=>by
   rcases VT.mp mr with mr | mr
   . exact(h r mr).more _
   . rw[VL.mp mr];exact⟨X.length+1,ss,rfl,by rw[br];rfl,hs⟩)
  refine⟨refs',X',q',f4,f5,by rw[h1];simp only[U5,UU,Vk];omega,h2,?_⟩
  have st:bE (gN 4) Sl (run pg (j+1)) (.int i) [some (.ref 1),some (.ref (np+1+1)),e2,some (.ref (J.length+1+1)),e4,e5,e6,e7,e8,e9] (fr::bp q::(J++ .lst refs::X))= .ok (.nx [some (.ref 1),some (.ref (np+1+1)),e2,some (.ref (J.length+1+1)),some (.int i),some (.int m),e6,e7,e8,e9]) (fr::bp q1::(J++ .lst (refs++[.ref (J.length+1+(X.length+1)+1+1)])::(X++[.lst W,.lst (ss.map PV.str)]))):=by
   have ar:J.length+(X.length+(0+1)+1)=J.length+1+(X.length+1):=by omega
   simp? [Sl,W,ea,em',old,ec,kM hz,ar]
  rw[US,fw,st,dR,cB]
  exact h3
theorem Cq(j:Nat)(fr:PO){b:Nat}{s0:List Str}(e1 e2 e3 e4 e5 e6 e7 e8 e9:Option PV) :
  ∀(xs:List Str)(ys:List PV)(J:PH)(q:Int × Int × Int),J[b]?=some (.lst (s0.map PV.str))->ys.length+xs.length<=1000-> ∃(bs:List (Str × Int))(X:PH)(q':Int × Int × Int),bs.map (·.1)=xs/\(∀ z∈bs,0<=z.2/\z.2<=999) /\
   P3.iq ⟨some (b+1+1),s0.map PV.str⟩ (aV 1 (gN 10) bo Sf (run pg (j+1)) [some (.ref 1),e1,e2,e3,e4,e5,e6,e7,e8,e9]) (xs.map PV.str) ys (fr::bp q::J)= .ok (ys++bs.map cO) (fr::bp q'::(J++X)):=by
 have fi: ∀{J:PH}(q:Int × Int × Int),J[b]?=some (.lst (s0.map PV.str))->lA.ko ⟨some (b+1+1),s0.map PV.str⟩ (fr::bp q::J)=true:=λ{J} q h=>fO (show J[b]?=_ from h);intro xs
 induction xs with
 | nil=>intro ys J q h1 _;exact⟨[],[],q,rfl,λz m=>(nomatch m),by rw[Vh,P3.iq,if_pos (fi q h1)];simp⟩
 | cons x xs ih =>
  intro ys J q h1 hl
  rw[UU] at hl
  obtain⟨a,q1,a0,a1,ea⟩:=cA T j fr q 4 (by decide) (by decide)
  obtain⟨m,mm,em⟩:=xU (xs:=[0,5,999,1]) a0 (by simpa using a1)
  have em':d9 [PV.int 0,.int 5,.int 999,.int 1] a=some (.int m):=em
  have hm:0<=m/\m<=999:=by
   simp only[U1,Vm,or_false] at mm;omega
  obtain⟨bs,X,q',i1,i2,i3⟩:=ih (ys++[cO (x,m)]) (J++[.lst [.int 0,.int 5,.int 999,.int 1]]) q1 ((ay (aG h1)).trans h1) (by simp only[U5,UU,Vk];omega)
  refine⟨(x,m)::bs,.lst [.int 0,.int 5,.int 999,.int 1]::X,q',by rw[US,i1],λz mz=>?_,?_⟩
  . rcases U1.mp mz with rfl | mz
    . exact hm
    . exact i2 z mz
  have hz:ys.length < sizeLine:=U0 (show ys.length < 1001 by omega) (by decide)
  have st:aV 1 (gN 10) bo Sf (run pg (j+1)) [some (.ref 1),e1,e2,e3,e4,e5,e6,e7,e8,e9] (.str x) (fr::bp q::J)= .ok (some (cO (x,m))) (fr::bp q1::(J++[.lst [.int 0,.int 5,.int 999,.int 1]])):=by
   simp? [Sf,ea,em',cO]
  rw[US,P3.iq,if_pos ⟨fi q h1,hz⟩,st,cK]
  simpa using i3
end
noncomputable def km(s0 s1 s2 s3:List Str)(h:Str × List Rw):Prop:=h.2.length<=10/\ ∃ L:List Str,L.length<=6/\(∀ x∈L,tw x=true)/\ ∀ r∈h.2,fk L h.2.length r/\BK s0 s1 s2 s3 r
noncomputable def Sk:ME:=(uO (aH (ak jT (eX 3 0) (bH ah))) (ak aB (eX 3 0) (eI 0)) (eS "q"))
noncomputable def R9:MS:=(ae (ai (rL (bH (ab (eS "p") (ab Sk (ab (eS "pp") (ab (ak aB (aa 1) (ak aX (eI 8) (aa 8))) ah))))) eF (cY (ak aX (eI 1) (ag "_law_take" (a2 (aa 0) (eI 4)))))) (gN 9)) (cb (eM aM bw (aa 7) (ab (ao (ab (ak aB (aa 1) (ak aX (eI 8) (aa 8))) (ab (ag "_law_rows" (a3 (aa 0) (aa 3) (aa 9))) ah))) ah))))
theorem zX(h:Str × List Rw):(bF h).flat=true:=by simp[bF,PV.flat,PV.aQ,bG,mF]
section
variable{pg:Tb}(T:bS pg)
include T
omit T in
theorem xo{nn:Nat}{s0 s1 s2 s3:List Str}{W:PH}(N:AU W nn s0 s1 s2 s3)(c:CF)(A B:PO)(a0 a1 a2 a4 a5 a6 a7 a8 a9:Option PV): ∃ x:Str,tw x=true/\Sk c [a0,a1,a2,some (.ref (nn+1+1)),a4,a5,a6,a7,a8,a9] (A::B::W)= .ok (.str x) (A::B::(W++[.lst []])):=by
 obtain⟨b0,b1,b2,b3,e,e0,_⟩:=N.at_;have o0:=N.ok.1;have i0: ∀ X:PH,aB (.ref (nn+1+1)) (.int 0) (A::B::(W++X))= .ok (.ref (b0+1+1)) (A::B::(W++X)):=λX=>by
  have z:(A::B::(W++X))[nn+1+1]?=some (.lst [.ref (b0+1+1),.ref (b1+1+1),.ref (b2+1+1),.ref (b3+1+1)]):=(ay (aG e)).trans e;rw[xZ,z,Eo,qQ];rfl
 have i0':=i0 [];rw[VF] at i0';have z0:(A::B::(W++[.lst []]))[b0+1+1]?=some (.lst (s0.map PV.str)):=(ay (aG e0)).trans e0;have zn:(A::B::(W++[PO.lst []]))[W.length+1+1]?=some (.lst []):=by rw[Vi,Vi];exact cq
 have ne:=ne_nil (h:=A::B::(W++[.lst []])) (n:=b0+1+1) (m:=W.length+1+1) (ss:=s0) z0 zn (λx m=>(o0.2 x m).2);cases s0 with
 | nil =>
  refine⟨"q",by decide +kernel,?_⟩
  simp? [Sk,i0',ne]
 | cons x r =>
  refine⟨x,(o0.2 x U3).1,?_⟩
  have i1:aB (.ref (b0+1+1)) (.int 0) (A::B::(W++[.lst []]))= .ok (.str x) (A::B::(W++[.lst []])):=by
   rw[xZ,z0,Eo,US,qQ];rfl
  have i2:=i0 [.lst []]
  simp? [Sk,i0',ne,i2,i1]
theorem yP(j:Nat)(fr:PO){np nn:Nat}{pl s0 s1 s2 s3:List Str}(hp:B8 pl){J:PH}(ep:J[np]?=some (.lst (pl.map PV.str)))(N:AU J nn s0 s1 s2 s3)(xs0:List PV)(e2 e4 e5 e6:Option PV) :
  ∀(aj:List Nat)(hs:List (Str × List Rw))(X:PH)(q:Int × Int × Int)(e8 e9:Option PV),(∀ i∈aj,i < 4)->hs.length+aj.length<=1000->(∀ h∈hs,km s0 s1 s2 s3 h) ->
  ∃(hs':List (Str × List Rw))(X':PH)(q':Int × Int × Int)(f8 f9:Option PV),hs'.length=hs.length+aj.length/\(∀ h∈hs',km s0 s1 s2 s3 h) /\
   bN ⟨none,xs0⟩ (bE (gN 8) R9 (run pg (j+6))) (aj.map λi:Nat=>PV.int (0+(i:Int))) [some (.ref 1),some (.ref (np+1+1)),e2,some (.ref (nn+1+1)),e4,e5,e6,some (.ref (J.length+1+1)),e8,e9] (fr::bp q::(J++ .lst (hs.map bF)::X))= .ok (.nx [some (.ref 1),some (.ref (np+1+1)),e2,some (.ref (nn+1+1)),e4,e5,e6,some (.ref (J.length+1+1)),f8,f9]) (fr::bp q'::(J++ .lst (hs'.map bF)::X')):=by
 intro aj
 induction aj with
 | nil=>intro hs X q e8 e9 _ _ h;exact⟨hs,X,q,e8,e9,rfl,h,gS⟩
 | cons i aj ih =>
  intro hs X q e8 e9 hi hl h
  rw[UU] at hl
  have i4:=hi i U3
  have iz:(0:Int)+(i:Int)=(i:Int):=Yu _
  have pl12:=hp.1
  obtain ⟨y,hy,ey⟩:=mS (ss:=pl) (v:=8+(i:Int)) (by omega) (by omega)
  obtain ⟨x,hx,ex⟩:=xo (N.app (g:= .lst (hs.map bF)::X)) (run pg (j+6)) fr (bp q) (some (.ref 1)) (some (.ref (np+1+1))) e2 e4 e5 e6 (some (.ref (J.length+1+1))) (some (.int i)) e9
  obtain ⟨w,q1,w0,w1,ew⟩:=cA T (j+5) fr q 4 (by decide) (by decide)
  let F:List Str:=["p",x, "pp",y]
  let ps:List Str:=F.take (1+w).toNat
  have hF: ∀ z∈F,tw z=true:=λz m=>by
   simp only [F,U1,Vm,or_false] at m;rcases m with rfl | rfl | rfl | rfl
   . decide +kernel
   . exact hx
   . decide +kernel
   . exact(hp.2 _ hy).1
  have cu:fF [PV.str "p",.str x,.str "pp",.str y] none (some (1+w))=ps.map PV.str:=by
   rw[P3.mW (by omega)];show _=acu PV.str (List.take _ F);rw[ZR];rfl
  have pl0:0 < ps.length:=by simp only[ps,F,VC,UU,Vk];omega
  have pl9:ps.length<=4:=by simp only[ps,F,VC,UU,Vk];omega
  let Y:PH:=[.lst [],.lst [.str "p",.str x,.str "pp",.str y],.lst (ps.map PV.str)]
  let W:PH:=J++ .lst (hs.map bF)::(X++Y)
  have oldJ: ∀ Z:PH,(J++Z)[np]?=some (.lst (pl.map PV.str)):=λZ=>(ay (aG ep)).trans ep
  have epW:W[J.length+(X.length+(0+1+1)+1)]?=some (.lst (ps.map PV.str)):=by
   show(J++_)[_]?=_;rw[br,Vi,br];rfl
  obtain⟨rs,q2,r1,r2,r3⟩:=Fg T j fr (L:=ps) (ps:=ps) pl0 (by omega) (λz m=>m) q1 (J:=W) (N.app (g:= .lst (hs.map bF)::(X++Y))) epW
  have ho:km s0 s1 s2 s3 (y,rs):=⟨r1,ps,by omega,λz m=>hF z (YR m),r2⟩
  obtain⟨hs',X',q',f8,f9,h1,h2,h3⟩:=ih (hs++[(y,rs)]) (X++Y) q2 (some (.int i)) (some (.ref (J.length+(X.length+(0+1+1)+1)+1+1))) (λz m=>hi z (U6 _ m)) (by simp only[U5,UU,Vk];omega) (λz m=>by
   rcases VT.mp m with m | m
   . exact h z m
   . rw[VL.mp m];exact ho)
  refine⟨hs',X',q',f8,f9,by rw[h1];simp only[U5,UU,Vk];omega,h2,?_⟩
  have hz:(hs.map bF).length < 16777216:=by rw[UO];omega
  have st:bE (gN 8) R9 (run pg (j+6)) (.int i) [some (.ref 1),some (.ref (np+1+1)),e2,some (.ref (nn+1+1)),e4,e5,e6,some (.ref (J.length+1+1)),e8,e9] (fr::bp q::(J++ .lst (hs.map bF)::X))= .ok (.nx [some (.ref 1),some (.ref (np+1+1)),e2,some (.ref (nn+1+1)),e4,e5,e6,some (.ref (J.length+1+1)),some (.int i),some (.ref (J.length+(X.length+(0+1+1)+1)+1+1))]) (fr::bp q2::(J++ .lst (hs.map bF++[bF (y,rs)])::(X++Y))):=by
   simp only[W,Y] at r3;simp only[VZ,Vs] at ex;simp? [R9,Y,ex,oldJ,ey,ew,cu,r3,kM hz,bF]
  rw[US,fw,iz,st,dR,cB]
  rw[VG,US,Vh] at h3
  exact h3
end
structure Sb(bs:List (Str × Int))(s1 s2 s3:List Str)(hs:List (Str × List Rw))(p:PV):Prop where
 at_:p= .tup [.tup (bs.map cO),.tup (s1.map PV.str),.tup (s2.map PV.str),.tup (s3.map PV.str),.tup (hs.map bF)]
 bx:bs.length<=20/\ ∀ z∈bs,tw z.1=true/\0<=z.2/\z.2<=999
 nm:AB s1/\AB s2/\AB s3
 many:1<=hs.length/\hs.length<=4
 hd: ∀ h∈hs,km (bs.map (·.1)) s1 s2 s3 h
theorem rK: ∀ ss:List Str,PV.aQ (ss.map PV.str)=true
 | []=>rfl
 | _::r=>by rw[US,PV.aQ,rK r];rfl
theorem pQ: ∀ hs:List (Str × List Rw),PV.aQ (hs.map bF)=true
 | []=>rfl
 | h::r=>by rw[US,PV.aQ,zX,pQ r];rfl
noncomputable def xG:MS:=(ae (ai (eB aC (ab (ji 1 (jZ (eX 3 0)) (gN 10) bo Sf) ah)) (gN 6)) (ae (ai (bH ah) (gN 7)) (ae (j5 (dy (ab (ak aB (bH (ab (eI 2) (ab (eI 2) (ab (eI 3) (a3 (eI 4) (eI 1) (eI 2)))))) (ag "_law_take" (a2 (aa 0) (eI 6)))) ah)) (gN 8) R9) (aw (ao (ab (aa 6) (ab (eB aC (a1 (eX 3 1))) (ab (eB aC (a1 (eX 3 2))) (ab (eB aC (a1 (eX 3 3))) (ab (eB aC (a1 (aa 7))) ah))))))))))
section
variable{pg:Tb}(T:bS pg)
include T
theorem HV(j:Nat)(fr:PO){np nn:Nat}{pl s0 s1 s2 s3:List Str}(hp:B8 pl){J:PH}(ep:J[np]?=some (.lst (pl.map PV.str)))(N:AU J nn s0 s1 s2 s3)(q:Int × Int × Int)(e2 e4 e5:Option PV) :
  ∃(bs:List (Str × Int))(hs:List (Str × List Rw))(p:PV)(q':Int × Int × Int)(X:PH),Sb bs s1 s2 s3 hs p/\xG (run pg (j+6)) [some (.ref 1),some (.ref (np+1+1)),e2,some (.ref (nn+1+1)),e4,e5,none,none,none,none] (fr::bp q::J)= .ok (.rt p) (fr::bp q'::(J++X)):=by
 obtain⟨b0,b1,b2,b3,e,x0,x1,x2,x3⟩:=N.at_;obtain⟨o0,o1,o2,o3⟩:=N.ok;obtain⟨bs,X1,q1,h1,h2,h3⟩:=Cq T (j+5) fr (b:=b0) (s0:=s0) (some (.ref (np+1+1))) e2 (some (.ref (nn+1+1))) e4 e5 none none none none s0 [] J q x0 (by have:=o0.1;simp;omega);rw[Vj] at h3
 let J2:PH:=J++(X1++[.lst (bs.map cO)])
 obtain⟨a,q2,a0,a1,ea⟩:=cA T (j+5) fr q1 6 (by decide) (by decide);obtain⟨m,mm,em⟩:=xU (xs:=[2,2,3,4,1,2]) a0 (by simpa using a1);have em':d9 [PV.int 2,.int 2,.int 3,.int 4,.int 1,.int 2] a=some (.int m):=em;have hm:1<=m/\m<=4:=by
  simp only[U1,Vm,or_false] at mm;omega
 have old: ∀{n:Nat}{o:PO}(Y:PH),J[n]?=some o->(J++Y)[n]?=some o:=λY e=>(ay (aG e)).trans e;obtain⟨hs,X2,q3,f8,f9,i1,i2,i3⟩:=yP T j fr hp (J:=J2) (old _ ep) N.app (az 0 m.toNat) e2 e4 e5 (some (.tup (bs.map cO))) (VX m.toNat) [] [.lst [.int 2,.int 2,.int 3,.int 4,.int 1,.int 2]] q2 none none (λi z=>by have:=Xm.mp z;omega) (by simp;omega) (λh z=>nomatch z);rw[show(VX m.toNat).map (λi:Nat=>PV.int (0+(i:Int)))=az 0 m.toNat from rfl] at i3;rw[XM,Vk,aan] at i1;refine⟨bs,hs,_,q3,X1++ .lst (bs.map cO):: .lst (hs.map bF)::X2,⟨rfl,⟨?_,?_⟩,⟨o1,o2,o3⟩,by omega,by rw[h1];exact i2⟩,?_⟩
 . have:=congrArg aaM h1;rw[UO] at this;rw[this];exact o0.1
 . intro z mz;have:=h2 z mz;exact⟨(o0.2 z.1 (by rw[<- h1];exact Vv.mpr ⟨z,mz,rfl⟩)).1,this⟩
 . have w: ∀(Y:PH)(i:Int)(b:Nat),d9 [PV.ref (b0+1+1),.ref (b1+1+1),.ref (b2+1+1),.ref (b3+1+1)] i=some (.ref (b+1+1))-> ∀ A B:PO,aB (.ref (nn+1+1)) (.int i) (A::B::(J++Y))= .ok (.ref (b+1+1)) (A::B::(J++Y)):=λY i b z A B=>by
    have z2:(A::B::(J++Y))[nn+1+1]?=_:=old Y e;rw[xZ,z2,Eo,z];rfl
   have tu: ∀(Y:PH)(b:Nat)(ss:List Str),J[b]?=some (.lst (ss.map PV.str))-> ∀ A B:PO,aC [.ref (b+1+1)] (A::B::(J++Y))= .ok (.tup (ss.map PV.str)) (A::B::(J++Y)):=λY b ss z A B=>by
    have z2:(A::B::(J++Y))[b+1+1]?=_:=old Y z;rw[lT,z2,jv]
   have w0:=w [] 0 b0 qQ;rw[VF] at w0;have l0: ∀ A B:PO,(A::B::J)[b0+1+1]?=some (.lst (s0.map PV.str)):=λA B=>x0;simp only[J2,Vh,Vs,VZ,Vj,U5,UU,Vk] at i3;simp? [xG,w0,l0,x0,h3,ea,em',i3,w _ 1 b1 xI,w _ 2 b2 xO,w _ 3 b3 EJ,tu _ b1 s1 x1,tu _ b2 s2 x2,tu _ b3 s3 x3]
end
section
variable{pg:Tb}(T:bS pg)
include T
theorem yI(j:Nat)(fr:PO)(q:Int × Int × Int)(g:PH) :
  ∃(bs:List (Str × Int))(s1 s2 s3:List Str)(hs:List (Str × List Rw))(p:PV)(q':Int × Int × Int),Sb bs s1 s2 s3 hs p/\run pg (j+7) "_law_program" [.ref 1] (fr::bp q::g)= .ok p (fr::bp q'::g):=by
 obtain⟨t,q1,t0,t1,et⟩:=cA T (j+5) fr q 12 (by decide) (by decide);have c1:fF (nW.map PV.str) (some t) none=(nW.drop t.toNat).map PV.str:=by rw[P3.jC t0,abi]
 have c2:fF (nW.map PV.str) none (some t)=(nW.take t.toNat).map PV.str:=by rw[P3.mW t0,ZR]
 let pl:List Str:=nW.drop t.toNat++nW.take t.toNat
 have hp:B8 pl:=by
  refine⟨?_,λx m=>?_⟩
  . have:nW.length=12:=rfl;simp only[pl,U5,Wn,VC,this];omega
  . rcases VT.mp m with m | m
    . exact DH x (aa0 m)
    . exact DH x (YR m)
 let J1:PH:=g++[.lst (nW.map PV.str),.lst ((nW.drop t.toNat).map PV.str),.lst ((nW.take t.toNat).map PV.str),.lst (pl.map PV.str)]
 have ep:J1[g.length+(0+1+1+1)]?=some (.lst (pl.map PV.str)):=by show(g++_)[_]?=_;rw[br];rfl
 have lJ:J1.length=g.length+(0+1+1+1+1):=by simp[J1]
 obtain⟨refs,X,q2,f4,f5,h1,h2,h3⟩:=yA T (j+5) fr hp ep (az 0 4) (some (.int t)) none none none none [0,1,2,3] [] [] q1 none none (by decide) (λr m=>nomatch m);obtain⟨r0,r1,r2,r3,rfl⟩: ∃ r0 r1 r2 r3,refs=[r0,r1,r2,r3]:=by
  match refs,h1 with
  | [a,b,c,d],_=>exact⟨a,b,c,d,rfl⟩
 have at_: ∀(Y:PO)(i:Nat),(J1++Y::X)[J1.length+1+i]?=X[i]?:=λY i=>by rw[abj,br,aah 1 i,Vi]
 obtain⟨i0,s0,rfl,z0,n0⟩:=h2 r0 (.head _);obtain⟨i1,s1,rfl,z1,n1⟩:=h2 r1 (.tail _ (.head _));obtain⟨i2,s2,rfl,z2,n2⟩:=h2 r2 (.tail _ (.tail _ (.head _)));obtain⟨i3,s3,rfl,z3,n3⟩:=h2 r3 (.tail _ (.tail _ (.tail _ (.head _))));have N:AU (J1++ .lst [.ref (J1.length+1+i0+1+1),.ref (J1.length+1+i1+1+1),.ref (J1.length+1+i2+1+1),.ref (J1.length+1+i3+1+1)]::X) J1.length s0 s1 s2 s3 :=
  ⟨⟨_,_,_,_,cq,(at_ _ i0).trans z0,(at_ _ i1).trans z1,(at_ _ i2).trans z2,(at_ _ i3).trans z3⟩,n0,n1,n2,n3⟩
 obtain⟨bs,hs,p,q3,Z,pk,tl⟩:=HV T j fr hp ((ay (aG ep)).trans ep) N q2 (some (.int t)) f4 f5;refine⟨bs,s1,s2,s3,hs,p,q3,pk,?_⟩;have pf:p.flat=true:=by
  rw[pk.at_];simp only[PV.flat,PV.aQ,jg,rK,pQ,Ya]
 have ad:aX (.ref (g.length+(0+1)+1+1)) (.ref (g.length+(0+1+1)+1+1)) (fr::bp q1::(g++[.lst (nW.map PV.str),.lst ((nW.drop t.toNat).map PV.str),.lst ((nW.take t.toNat).map PV.str)]))= .ok (.ref (g.length+(0+1+1+1)+1+1)) (fr::bp q1::J1):=by
  have e1:(fr::bp q1::(g++[PO.lst (nW.map PV.str),.lst ((nW.drop t.toNat).map PV.str),.lst ((nW.take t.toNat).map PV.str)]))[g.length+(0+1)+1+1]?=some (.lst ((nW.drop t.toNat).map PV.str)):=by rw[Vi,Vi,br];rfl
  have e2:(fr::bp q1::(g++[PO.lst (nW.map PV.str),.lst ((nW.drop t.toNat).map PV.str),.lst ((nW.take t.toNat).map PV.str)]))[g.length+(0+1+1)+1+1]?=some (.lst ((nW.take t.toNat).map PV.str)):=by rw[Vi,Vi,br];rfl
  refine(oG e1 e2 (by simp only[UO,Wn,VC];have:nW.length=12:=rfl;omega)).trans ?_;simp[J1,pl]
 have A:gD (run pg (j+6)) [some (.ref 1),none,none,none,none,none,none,none,none,none] (fr::bp q::g)= .ok (.rt p) (fr::bp q3::(J1++ .lst [.ref (J1.length+1+i0+1+1),.ref (J1.length+1+i1+1+1),.ref (J1.length+1+i2+1+1),.ref (J1.length+1+i3+1+1)]::X++Z)):=by
  show ae _ (ae _ (ae _ (ae _ (ae _ xG)))) _ _ _=_;refine(bV (e1:=[some (.ref 1),some (.ref (g.length+1+1)),none,none,none,none,none,none,none,none]) (h1:=fr::bp q::(g++[.lst (nW.map PV.str)])) ?_).trans ?_
  . simp? [Vh];rfl
  refine(bV (e1:=[some (.ref 1),some (.ref (g.length+1+1)),some (.int t),none,none,none,none,none,none,none]) (h1:=fr::bp q1::(g++[.lst (nW.map PV.str)])) ?_).trans ?_
  . simp? [et]
  refine(bV (e1:=[some (.ref 1),some (.ref (g.length+(0+1+1+1)+1+1)),some (.int t),none,none,none,none,none,none,none]) (h1:=fr::bp q1::J1) ?_).trans ?_
  . simp? [c1,c2,ad]
  refine(bV (e1:=[some (.ref 1),some (.ref (g.length+(0+1+1+1)+1+1)),some (.int t),some (.ref (J1.length+1+1)),none,none,none,none,none,none]) (h1:=fr::bp q1::(J1++[.lst []])) ?_).trans ?_
  . simp? [Vh]
  refine(bV (h1:=fr::bp q2::(J1++ .lst [.ref (J1.length+1+i0+1+1),.ref (J1.length+1+i1+1+1),.ref (J1.length+1+i2+1+1),.ref (J1.length+1+i3+1+1)]::X)) ?_).trans tl;have r4:az 0 (4:Int).toNat=az 0 4:=rfl;unfold Sl at h3;simp? [↓tW,↓t8,oI,dR,oF,r4];exact h3
 rw[run_eq T.pq rfl];show fin _ (gD (run pg (j+6)) [some (.ref 1),none,none,none,none,none,none,none,none,none] (fr::bp q::g))=_;rw[A,kC];show P3.settle _ _ (fr::bp q3::(g++_++_++_))=_;rw[Vs,Vs];exact dX pf
end
noncomputable def qC (a b:Int):List (Key × PV):=[(.inr "add",.int (a+b)),(.inr "sub",.int (a - b)),(.inr "mul",.int (a*b))]
theorem BF (a b:Int):cy [] (qC a b)=qC a b:=by simp [qC,cy,ia,cC]
theorem vH (a:Str) (h:PH):jz (.str a) (.tup [.str "less",.str "same"]) h= .ok (.bl (decide (a∈(["less", "same"]:List Str)))) h:=xB (ss:=["less", "same"])
theorem LA (o:Bo) (a b:Int):(o= .less∨o= .same)∨(¬ o.w∈(["less", "same"]:List Str)∧ ∃ n:Int,cw (qC a b) (.inr o.w)=some (.int n)∧n % 1000=o.f a b):=by
 cases o with
 | less=>exact .inl (.inl rfl)
 | same=>exact .inl (.inr rfl)
 | add=>exact .inr ⟨by simp only[Bo.w];decide +kernel,_,by simp[qC,cw,Bo.w,cC],rfl⟩
 | sub=>exact .inr ⟨by simp only[Bo.w];decide +kernel,_,by simp[qC,cw,Bo.w,cC],rfl⟩
 | mul=>exact .inr ⟨by simp only[Bo.w];decide +kernel,_,by simp[qC,cw,Bo.w,cC],rfl⟩
section
variable{pg:Tb}(T:bS pg)
include T
theorem qp{D:Pk}{n:Nat}(hf: ∀ x,0<=fP D x/\fP D x<=999): ∀(e:Sm)(k:Nat)(h:PH),h[n]?=some (.dct (dM D))->e.ok->e.dp<=k->run pg (k+1) "_law_worth" [ig e,.ref n] h= .ok (.int (e.val (fP D))) h
 | .num i,k,h,hn,_,_=>by
  rw[run_eq T.fE rfl];simp? [aU,bD,ig,Sm.val]
 | .of x,k,h,hn,_,_=>by
  have g:=xQ D x;rw[run_eq T.fE rfl];simp? [aU,bD,ig,Sm.val,hn,g]
 | .un a,0,h,hn,_,hd=>by unfold Sm.dp at hd;omega
 | .un a,k+1,h,hn,ok,hd=>by
  have i1:=qp hf a k h hn ok (by unfold Sm.dp at hd;omega);have sm:ig (.un a)= .tup [.str "not",ig a]:=rfl;rw[run_eq T.fE rfl,sm,Sm.val];by_cases z:a.val (fP D)=0
  . simp? [aU,bD,i1,z]
  . simp? [aU,bD,i1,z]
 | .bin o a b,0,h,hn,_,hd=>by unfold Sm.dp at hd;omega
 | .bin o a b,k+1,h,hn,ok,hd=>by
  have i1:=qp hf a k h hn ok.1 (by unfold Sm.dp at hd;omega);have i2:=qp hf b k h hn ok.2 (by unfold Sm.dp at hd;omega);have sm:ig (.bin o a b)= .tup [.str o.w,ig a,ig b]:=rfl;have n1: ¬ o.w= "num" /\ ¬ o.w= "of" /\ ¬ o.w= "not" :=by cases o<;>(simp only[Bo.w];decide +kernel)
  have va:=Sm.nh hf a ok.1;rw[run_eq T.fE rfl,sm,Sm.val];generalize a.val (fP D)=x at i1 va;generalize b.val (fP D)=y at i2;rcases LA o x y with (rfl | rfl) | ⟨z,n,z1,z2⟩
  . have m1:(Va "less")∈(["less", "same"]:List Str):=by decide +kernel
    by_cases c:x < y
    . simp? [aU,bD,Bo.w,Bo.f,i1,i2,vH,m1,c]
    . simp? [aU,bD,Bo.w,Bo.f,i1,i2,vH,m1,c]
  . have m1:(Va "same")∈(["less", "same"]:List Str):=by decide +kernel
    by_cases c:x=y
    . simp? [aU,bD,Bo.w,Bo.f,i1,i2,vH,m1,c]
    . simp? [aU,bD,Bo.w,Bo.f,i1,i2,vH,m1,c]
  . have dk:Oy h.length [((.inr "add" :Key),PV.int (x+y)),(.inr "sub",.int (x - y)),(.inr "mul",.int (x*y))] (h++[.dct []])= .ok (.ref h.length) (h++[.dct (qC x y)]):=by
     have:=zc (h:=h) (kvs:=qC x y) (by simp[qC]);rw[BF] at this;exact this
    rw[<- z2];simp? [aU,bD,n1.1,n1.2.1,n1.2.2,i1,i2,vH,z,lC,oO,lu,ph,px,qi,dk,z1];exact bC rfl
omit T in
theorem O2{h:PH}{n:Nat}{ss:List Str}(e:h[n]?=some (.lst (ss.map PV.str)))(a:Str):jz (.str a) (.ref n) h= .ok (.bl (decide (a∈ss))) h:=by
 have:isIn (.str a) (.ref n) h=some (decide (a∈ss)):=by
  unfold isIn;simp only[itemsOf,de,e,all_strs,gy,Ya,if_true,ja]
 unfold jz;rw [this]
theorem Jd (k:Nat) (h:PH) (r:Rw) {n:Nat} {hl held:List Str} (e:h[n]?=some (.lst (hl.map PV.str))) (hm: ∀ y,y∈hl↔y∈held):run pg (k+1) "_law_is_own" [bq r,.ref n] h= .ok (.bl (own held r)) h:=by
 have r0:=λg=>rw_0 r g;have il: ∀ a:Str,jz (.str a) (.tup [.str "let",.str "leap"]) h= .ok (.bl (decide (a∈(["let", "leap"]:List Str)))) h:=λa=>xB (ss:=["let", "leap"]);have ie:=O2 e;have eb: ∀ b c:Bool,jW (.bl b) (.bl c) h= .ok (.bl (b == c)) h:=λb c=>by cases b<;>cases c<;>rfl
 rw [run_eq T.qL rfl];cases r with
 | take l=>simp? [cF,eQ,bq,Rw.w,Rw.ps,ie,eb,own,hm];simp
 | free l=>simp? [cF,eQ,bq,Rw.w,Rw.ps,ie,eb,own,hm];simp
 | _=>simp? [cF,eQ,r0,bq,Rw.w,Rw.ps,il,own,U1,Vm,or_false,or_true,true_or,false_or]
end
theorem set_same{h:PH}{n:Nat}{o:PO}(e:h[n]?=some o):h.set n o=h:=by
 obtain⟨l,e⟩:=UP.mp e;rw[<- e];exact aaG l
theorem kJ{h:PH}{n:Nat}{o:PO}(l:n < h.length):(h.set n o)[n]?=some o:=by rw[Vx l]
theorem aR{h:PH}{n m:Nat}{o:PO}(ne:n≠m):(h.set n o)[m]?=h[m]?:=VU ne
noncomputable def rT:MT:=(pV (aH (ak Bd (aa 1) (eB b6 (a1 (aa 0))))) (aH (ag "_law_is_own" (ab (ak aB (aa 0) (aa 1)) (a1 (aa 3))))))
noncomputable def rA:MS:=(ae (bR (mQ (eX 5 0) (eS "let")) (gF fG (aa 2) (eX 5 1) (ag "_law_worth" (a2 (eX 5 2) (aa 2)))) cD) (bR (pV (mQ (eX 5 0) (eS "leap")) (aH (ak jT (ag "_law_worth" (a2 (eX 5 2) (aa 2))) (eI 0)))) (ai (eX 5 1) (gN 1)) cD))
noncomputable def rB:MS:=(ae (bR (mQ (aa 4) (eI 200)) (aw (eB b6 (a1 (aa 0)))) cD) (ae (ai (ak aB (aa 0) (aa 1)) (gN 5)) (ae (ai (ak aX (aa 4) (eI 1)) (gN 4)) (ae (ai (ak aX (aa 1) (eI 1)) (gN 1)) rA))))
theorem oA{L:List Str}{D:Pk}(hL:L.length<=20)(h:qA L D):(dM D).length < 16777216:=by unfold dM;rw[UO];have:=h.len;omega
section
variable{pg:Tb}(T:bS pg)
include T
theorem PR(k:Nat){h:PH}{d:Nat}{L:List Str}(hL:L.length<=20){rs:List Rw}{t:aI}{r:Rw}{D:Pk}(ed:h[d]?=some (.dct (dM D)))(e:rs[t.row]?=some r)(ho:own t.held r=true)(hr:fk L rs.length r)(hD:qA L D)(hf: ∀ x,fP D x=fP t.ps x)(nd:(t.ps.map (·.1)).Nodup)(u3 u4:Option PV) :
  ∃ D':Pk,qA L D'/\(∀ x,fP D' x=fP (behind t r).ps x)/\rA (run pg (k+9)) [some (bG rs),some (.int ((t.row:Int)+1)),some (.ref d),u3,u4,some (bq r)] h= .ok (.nx [some (bG rs),some (.int (behind t r).row),some (.ref d),u3,u4,some (bq r)]) (h.set d (.dct (dM D'))):=by
 have ff:fP D=fP t.ps:=funext hf;have w: ∀ e0:Sm,jb e0->run pg (k+9) "_law_worth" [ig e0,.ref d] h= .ok (.int (e0.val (fP t.ps))) h:=λe0 he=>by
  rw[<- ff];exact qp T hD.rS e0 (k+8) _ ed he.1 (by have:=he.2;omega)
 have hl9:=oA hL hD;have up:(t.row:Int)+1=((t.row+1:Nat):Int):=by omega
 cases r with
 | let_ x e0 =>
  have hv:=Sm.nh (f:=fP t.ps) (by rw[<- ff];exact hD.rS) e0 hr.2.1
  refine⟨putD D x (e0.val (fP t.ps)),oD hD hr.1 hv.1 hv.2,λy=>by rw[oB,behind,sO nd,hf],?_⟩
  simp? [rA,bq,Rw.w,Rw.ps,w e0 hr.2,ed,lU hl9,jU,behind,up]
 | leap j e0 =>
  refine⟨D,hD,λy=>?_,?_⟩
  . rw[hf];show _=fP (if e0.val (fP t.ps)=0 then(⟨t.row+1,t.ps,t.held⟩:aI) else⟨j.toNat,t.ps,t.held⟩).ps y;split<;>rfl
  . rw[set_same ed];by_cases z:e0.val (fP t.ps)=0
    . simp? [rA,bq,Rw.w,Rw.ps,w e0 hr.2.2,behind,z,up]
    . have jj:((j.toNat:Nat):Int)=j:=by have:=hr.1;omega
      simp? [rA,bq,Rw.w,Rw.ps,w e0 hr.2.2,behind,z,jj]
 | take l=>exact⟨D,hD,hf,by rw[set_same ed];simp? [rA,bq,Rw.w,Rw.ps,behind,up]⟩
 | free l=>exact⟨D,hD,hf,by rw[set_same ed];simp? [rA,bq,Rw.w,Rw.ps,behind,up]⟩
 | _=>exact nomatch ho
theorem AS(k:Nat){d l:Nat}(dl:d≠l){hl:List Str}{L:List Str}(hL:L.length<=20){rs:List Rw}(hr: ∀ r∈rs,fk L rs.length r): ∀(m i:Nat)(t:aI)(D:Pk)(h:PH)(u5:Option PV)(f:Nat),i+m=200->m+2<=f->h[d]?=some (.dct (dM D))->h[l]?=some (.lst (hl.map PV.str))->(∀ y,y∈hl↔y∈t.held)->c8 L rs t->qA L D->(∀ x,fP D x=fP t.ps x) ->
  ∃(D':Pk)(fl:Fl),qA L D'/\(∀ x,fP D' x=fP (bf rs m t).ps x)/\(fl= .rt (.int (bf rs m t).row)\/ ∃ u2 u3 u4 u5,fl= .nx [some (bG rs),some (.int (bf rs m t).row),u2,u3,u4,u5]) /\
  cI (rT (run pg (k+9))) (rB (run pg (k+9))) f [some (bG rs),some (.int t.row),some (.ref d),some (.ref l),some (.int i),u5] h= .ok fl (h.set d (.dct (dM D'))):=by
 have ln: ∀ h,b6 [bG rs] h= .ok (.int rs.length) h:=λh=>by unfold bG;rw[len_T,UO]
 have ix: ∀{t:aI}{r:Rw}(h:PH),rs[t.row]?=some r->aB (bG rs) (.int t.row) h= .ok (bq r) h:=λh e=>kq (ir e);have stop: ∀(i:Nat)(t:aI)(h:PH)(u5:Option PV)(f:Nat),h[l]?=some (.lst (hl.map PV.str))->(∀ y,y∈hl↔y∈t.held)->bu rs t=true->cI (rT (run pg (k+9))) (rB (run pg (k+9))) (f+1) [some (bG rs),some (.int t.row),some (.ref d),some (.ref l),some (.int i),u5] h= .ok (.nx [some (bG rs),some (.int t.row),some (.ref d),some (.ref l),some (.int i),u5]) h:=λi t h u5 f el hm r1=>by
  refine GR ?_;cases e:rs[t.row]? with
  | none =>
   have z: ¬ (t.row:Int) < (rs.length:Int):=by have:=Wb.mp e;omega
   simp? [rT,ln,z]
  | some r =>
   have lt:=(UP.mp e).1
   have z:(t.row:Int) < (rs.length:Int):=by omega
   have ow:=Jd T (k+8) h r el hm
   have on:own t.held r=false:=by unfold bu at r1;rw[e] at r1;simpa using r1
   rw[on] at ow
   simp? [rT,ln,z,ix h e,ow]
 have go: ∀(i:Nat)(t:aI)(h:PH)(u5:Option PV)(r:Rw),h[l]?=some (.lst (hl.map PV.str))->(∀ y,y∈hl↔y∈t.held)->rs[t.row]?=some r->own t.held r=true->rT (run pg (k+9)) [some (bG rs),some (.int t.row),some (.ref d),some (.ref l),some (.int i),u5] h= .ok true h:=λi t h u5 r el hm e ho=>by
  have lt:=(UP.mp e).1;have z:(t.row:Int) < (rs.length:Int):=by omega
  have ow:=Jd T (k+8) h r el hm;rw[ho] at ow;simp? [rT,ln,z,ix h e,ow]
 intro m
 induction m with
 | zero =>
  intro i t D h u5 f hi hf ed el hm hs hD hp
  obtain⟨f,rfl⟩: ∃ j,f=j+1:=⟨f - 1,by omega⟩
  cases r1:bu rs t with
  | true =>
   have fr:bf rs 0 t=t:=by unfold bf;rw[if_pos r1]
   exact⟨D,_,hD,by rw[fr];exact hp,.inr ⟨_,_,_,_,by rw[fr]⟩,by rw[set_same ed];exact stop i t h u5 f el hm r1⟩
  | false =>
   obtain⟨r,e,ho⟩:=pS r1
   have fr:bf rs 0 t=⟨rs.length,t.ps,t.held⟩:=by unfold bf;rw[if_neg (by simp[r1])]
   have i200:(i:Int)=200:=by omega
   refine⟨D,.rt (.int rs.length),hD,by rw[fr];exact hp,.inl (by rw[fr]),?_⟩
   rw[set_same ed,cI,go i t h u5 r el hm e ho,cK,if_pos rfl]
   have st:rB (run pg (k+9)) [some (bG rs),some (.int t.row),some (.ref d),some (.ref l),some (.int i),u5] h= .ok (.rt (.int rs.length)) h:=by
    simp? [rB,i200,ln]
   rw[st,cK]
 | succ m ih =>
  intro i t D h u5 f hi hf ed el hm hs hD hp
  obtain⟨f,rfl⟩: ∃ j,f=j+1:=⟨f - 1,by omega⟩
  cases r1:bu rs t with
  | true =>
   have fr:bf rs (m+1) t=t:=by unfold bf;rw[if_pos r1]
   exact⟨D,_,hD,by rw[fr];exact hp,.inr ⟨_,_,_,_,by rw[fr]⟩,by rw[set_same ed];exact stop i t h u5 f el hm r1⟩
  | false =>
   obtain⟨r,e,ho⟩:=pS r1
   have hrr:=hr r (UX e)
   have fr:bf rs (m+1) t=bf rs m (behind t r):=by
    rw[bf,if_neg (by simp[r1]),e]
   obtain⟨D1,a1,a2,a3⟩:=PR T k hL ed e ho hrr hD hp hs.pk.nd (some (.ref l)) (some (.int ((i+1:Nat):Int)))
   obtain⟨D',fl,b1,b2,b3,b4⟩:=ih (i+1) (behind t r) D1 (h.set d (.dct (dM D1))) (some (bq r)) f (by omega) (by omega) (kJ (aG ed)) ((aR dl).trans el) (by rw[nI];exact hm) (jV hs hrr e) a1 a2
   refine⟨D',fl,b1,by rw[fr];exact b2,by rw[fr];exact b3,?_⟩
   have i200: ¬ (i:Int)=200:=by omega
   have up:(i:Int)+1=((i+1:Nat):Int):=by omega
   rw[Jb (go i t h u5 r el hm e ho) (e1:=[some (bG rs),some (.int (behind t r).row),some (.ref d),some (.ref l),some (.int ((i+1:Nat):Int)),some (bq r)]) (h2:=h.set d (.dct (dM D1))) ?_]
   . rw[b4,List.set_set]
   . simp? [rB,i200,ix h e,up,a3]
theorem yT(k:Nat)(h:PH){d l:Nat}(dl:d≠l){hl L:List Str}(hL:L.length<=20){rs:List Rw}(hr: ∀ r∈rs,fk L rs.length r){t:aI}{D:Pk}(ed:h[d]?=some (.dct (dM D)))(el:h[l]?=some (.lst (hl.map PV.str)))(hm: ∀ y,y∈hl↔y∈t.held)(hs:c8 L rs t)(hD:qA L D)(hp: ∀ x,fP D x=fP t.ps x): ∃ D':Pk,qA L D'/\(∀ x,fP D' x=fP (bf rs 200 t).ps x) /\
  run pg (k+10) "_law_rest" [bG rs,.int t.row,.ref d,.ref l] h= .ok (.int (bf rs 200 t).row) (h.set d (.dct (dM D'))):=by
 obtain⟨D',fl,a1,a2,a3,a4⟩:=AS T k dl hL hr 200 0 t D h none 100000 (by decide) (by decide) ed el hm hs hD hp;refine⟨D',a1,a2,?_⟩;rw[run_eq T.wN rfl];have a4':cI (rT (run pg (k+9))) (rB (run pg (k+9))) 100000 [some (bG rs),some (.int t.row),some (.ref d),some (.ref l),some (.int 0),none] h= .ok fl (h.set d (.dct (dM D'))):=a4;unfold rT rB rA at a4';have se: ∀ v:PV,P3.settle h v (h.set d (.dct (dM D')))= .ok v (h.set d (.dct (dM D'))):=λv=>nF (o:= .dct (dM D));rcases a3 with rfl | ⟨u2,u3,u4,u5,rfl⟩
 . simp? [fc,jh,Jw,a4',se]
 . simp? [fc,jh,Jw,a4',se]
end
structure Pg where
 bs:List (Str × Int)
 s1:List Str
 s2:List Str
 s3:List Str
 hs:List (Str × List Rw)
noncomputable def Pg.v(P:Pg):PV:= .tup [.tup (P.bs.map cO),.tup (P.s1.map PV.str),.tup (P.s2.map PV.str),.tup (P.s3.map PV.str),.tup (P.hs.map bF)]
noncomputable def Pg.nm(P:Pg):Nat->List Str:=ND (P.bs.map (·.1)) P.s1 P.s2 P.s3
structure Pg.Ok(P:Pg):Prop where
 bx:P.bs.length<=20/\ ∀ z∈P.bs,tw z.1=true/\0<=z.2/\z.2<=999
 nm:AB P.s1/\AB P.s2/\AB P.s3
 many:1<=P.hs.length/\P.hs.length<=4
 hd: ∀ h∈P.hs,km (P.bs.map (·.1)) P.s1 P.s2 P.s3 h
theorem Sb.pg{bs:List (Str × Int)}{s1 s2 s3:List Str}{hs:List (Str × List Rw)}{p:PV}(h:Sb bs s1 s2 s3 hs p):p=Pg.v ⟨bs,s1,s2,s3,hs⟩/\Pg.Ok ⟨bs,s1,s2,s3,hs⟩:=⟨h.at_,h.bx,h.nm,h.many,h.hd⟩
theorem Pg.hand(P:Pg){i:Nat}{x:Str × List Rw}(e:P.hs[i]?=some x):m8 P.v (i:Int) x.2:=⟨_,_,_,_,_,_,rfl,P3.eP rfl (by rw[U8,e];rfl)⟩
noncomputable def EV(x:Str × List Rw)(L:List Str):Prop:=L.length<=6/\(∀ y∈L,tw y=true)/\ ∀ r∈x.2,fk L x.2.length r
noncomputable def JJ(x:Str × List Rw):List Str:=Classical.epsilon (EV x)
theorem eJ{s0 s1 s2 s3:List Str}{x:Str × List Rw}(h:km s0 s1 s2 s3 x):EV x (JJ x):=by
 obtain⟨_,L,l1,l2,l3⟩:=h;exact Classical.epsilon_spec (p:=EV x) ⟨L,l1,l2,λr m=>(l3 r m).1⟩
structure Wd where
 cE:List Int
 bg:List aI
 iI:List (Int × PV)
 eA:List (Option Int × PV)
 cV:List (Int × Int × List Int)
 ki:List Int
noncomputable def gR(b:Int × PV):PV:= .tup [.int b.1,b.2]
noncomputable def Jn:Option Int->PV
 | none=> .non
 | some i=> .int i
noncomputable def fz(l:Option Int × PV):PV:= .tup [Jn l.1,l.2]
noncomputable def fu(n:Int × Int × List Int):PV:= .tup [.int n.1,.int n.2.1,.tup (n.2.2.map PV.int)]
noncomputable def bz(S:Wd):PV:= .tup [.tup (S.cE.map PV.int),.tup (S.bg.map aA),.tup (S.iI.map gR),.tup (S.eA.map fz),.tup (S.cV.map fu),.tup (S.ki.map PV.int)]
noncomputable def uv(N:Nat)(v:PV):Prop:=v= .non\/ ∃ a b:Int,v= .tup [.int a,.int b]/\0<=a/\a < 4/\0<=b/\b<=N
theorem uv.flat{N:Nat}{v:PV}(h:uv N v):v.flat=true:=by
 rcases h with rfl | ⟨a,b,rfl,_⟩<;>rfl
structure Qz(P:Pg)(N:Nat)(x:Str × List Rw)(s:aI):Prop where
 so:c8 (JJ x) x.2 s
 nd:s.held.Nodup
 le:s.held.length<=N
 re:bu x.2 s=true
 nm: ∀ l∈s.held,l∈P.s1
 sr:s.held.Pairwise iZ
structure fR(P:Pg)(N:Nat)(S:Wd):Prop where
 lc:S.cE.length=P.hs.length
 ls:S.bg.length=P.hs.length
 l0:S.iI.length=P.bs.length
 l1:S.eA.length=P.s1.length
 l2:S.cV.length=P.s2.length
 l3:S.ki.length=P.s3.length
 ct: ∀ c∈S.cE,0<=c/\c<=N
 bx: ∀ b∈S.iI,(0<=b.1/\b.1<=999)/\uv N b.2
 lk: ∀ l∈S.eA,(∀ i,l.1=some i->0<=i/\i < 4)/\uv N l.2
 ln: ∀ n∈S.cV,(0<=n.1/\n.1<=N)/\(0<=n.2.1/\n.2.1<=N)/\n.2.2.length<=N/\ ∀ v∈n.2.2,0<=v/\v<=999
 dr: ∀ d∈S.ki,0<=d/\d<=N
 se: ∀(j:Nat)(x:Str × List Rw)(s:aI),P.hs[j]?=some x->S.bg[j]?=some s->Qz P N x s
noncomputable def ke(P:Pg)(S:Wd):Option Rw->PV
 | none=> .str "end"
 | some (.take l)=>match S.eA[(P.nm 1).idxOf l]? with
  | some (some i,_)=> .tup [.str "lock",.str l,.int i]
  | _=> .non
 | some (.fetch _ l)=>match S.cV[(P.nm 2).idxOf l]? with
  | some (_,_,[])=> .tup [.str "letter",.str l]
  | _=> .non
 | some _=> .non
noncomputable def rowAt(P:Pg)(S:Wd)(j:Nat):Option Rw:=match P.hs[j]?,S.bg[j]? with
 | some x,some s=>x.2[s.row]?
 | _,_=>none
noncomputable def cZ(P:Pg)(S:Wd)(j:Nat):PV:=ke P S (rowAt P S j)
theorem fg{P:Pg}{S:Wd}{j:Nat}{x:Str × List Rw}{s:aI}(e1:P.hs[j]?=some x)(e2:S.bg[j]?=some s):rowAt P S j=x.2[s.row]?:=by unfold rowAt;rw[e1,e2]
theorem bK{P:Pg}(ok:P.Ok){j:Nat}{x:Str × List Rw}(e:P.hs[j]?=some x){r:Rw}(m:r∈x.2){k:Nat}{t:Str}(q:r.th=some (k,t)):t∈P.nm k:=by
 obtain⟨_,L,_,_,l3⟩:=ok.hd x (UX e);exact(l3 r m).2 k t (OO q)
theorem Pw{P:Pg}(ok:P.Ok){j:Nat}{x:Str × List Rw}(e:P.hs[j]?=some x){r:Rw}(m:r∈x.2){k:Nat}{t:Str}(q:r.nm=some (k,t)):t∈P.nm k:=by
 obtain⟨_,L,_,_,l3⟩:=ok.hd x (UX e);exact(l3 r m).2 k t q
theorem ba{α :Type}{l:List α}{ns:List Str}{t:Str}(hl:l.length=ns.length)(m:t∈ns): ∃ z,l[ns.idxOf t]?=some z/\z∈l:=by
 have h:ns.idxOf t < l.length:=by rw[hl];exact Y9 m
 exact⟨l[ns.idxOf t],UW h,Wq h⟩
theorem bL{α :Type}{f: α ->PV}{l:List α}{n:Nat}{z: α}(e:l[n]?=some z):d9 (l.map f) (n:Int)=some (f z):=P3.eP rfl (by rw[U8,e];rfl)
theorem lF{P:Pg}{S:Wd}{N:Nat}(W:fR P N S){j:Nat}(h:j < P.hs.length): ∃ x s c,P.hs[j]?=some x/\S.bg[j]?=some s/\S.cE[j]?=some c/\Qz P N x s:=by
 have h1:j < S.bg.length:=by rw[W.ls];exact h
 have h2:j < S.cE.length:=by rw[W.lc];exact h
 exact⟨P.hs[j],S.bg[j],S.cE[j],UW h,UW h1,UW h2,W.se j _ _ (UW h) (UW h1)⟩
theorem iT{rs:List Rw}: ∀(n:Nat)(s:aI),bu rs (bf rs n s)=true
 | 0,s=>by
  unfold bf;split
  . assumption
  . unfold bu;rw[Wf (UT _)]
 | n+1,s=>by
  unfold bf;split
  . assumption
  . split
    . rename_i e;unfold bu;rw[e]
    . exact iT n _
theorem LC{α :Type}{l:List α}{g f: α ->PV}{st:PV->PH->RV (Option PV)}{H:PH}(hl:l.length<=1000)(he: ∀ x∈l,st (g x) H= .ok (some (f x)) H):iq ⟨none,l.map g⟩ st (l.map g) [] H= .ok (l.map f) H :=
 (dw rfl l [] (f:=λx=>some (f x)) (g:=g) he (by simp;omega)).trans (by rw[Vj,Xw])
noncomputable def hU:Nat->Str
 | 0=> "box" | 1=> "lock" | 2=> "lane" | _=> "door"
noncomputable def BW(S:Wd):Nat->List PV
 | 0=>S.iI.map gR | 1=>S.eA.map fz | 2=>S.cV.map fu | _=>S.ki.map PV.int
section
variable{pg:Tb}(T:bS pg)
include T
theorem DG (k:Nat) (h:PH) (P:Pg) (ok:P.Ok) (i:Nat):run pg (k+1) "names_of" [P.v,.str (hU i)] h= .ok (.ref h.length) (h++[.lst ((P.nm i).map PV.str)]):=by
 have b20:=ok.bx.1;rw [run_eq T.yC rfl];have ik: ∀ (a:Str) (n:Nat),a∈(["box", "lock", "lane", "door", "hand"]:List Str)->(["box", "lock", "lane", "door", "hand"]:List Str).idxOf a=n->qP (.ktup [(.str "box"),(.str "lock"),(.str "lane"),(.str "door"),(.str "hand")]) [.str a] h= .ok (.int (n:Nat)) h:=λa n m e=>by rw [<- e];exact Lm (ss:=["box", "lock", "lane", "door", "hand"]) m
 match i with
 | 0 =>
  have q:qP (.ktup [(.str "box"),(.str "lock"),(.str "lane"),(.str "door"),(.str "hand")]) [.str "box"] h= .ok (.int 0) h:=ik "box" 0 (by decide +kernel) (by decide +kernel)
  have lc: ∀ E:aq,E=[some P.v,some (.str "box"),some (.tup (P.bs.map cO))]->iq ⟨none,P.bs.map cO⟩ (aV 1 (gN 3) bo (eX 3 0) (run pg k) E) (P.bs.map cO) [] h= .ok ((P.bs.map (·.1)).map PV.str) h:=by
   rintro _ rfl;rw[VN];refine LC (l:=P.bs) (f:=PV.str ∘ λz:Str × Int=>z.1) (by omega) λx _=>?_;simp? [cO];rfl
  have lc':=lc _ rfl
  unfold Pg.v at lc'
  simp? [dB,gB,Pg.v,hU,Pg.nm,ND,zL,q,lc']
  exact cj rfl
 | 1 =>
  have q:=ik "lock" 1 (by decide +kernel) (by decide +kernel)
  have q':qP (.ktup [(.str "box"),(.str "lock"),(.str "lane"),(.str "door"),(.str "hand")]) [.str "lock"] h= .ok (.int 1) h:=q
  simp? [dB,gB,Pg.v,hU,Pg.nm,ND,zL,q']
  exact cj rfl
 | 2 =>
  have q:=ik "lane" 2 (by decide +kernel) (by decide +kernel)
  have q':qP (.ktup [(.str "box"),(.str "lock"),(.str "lane"),(.str "door"),(.str "hand")]) [.str "lane"] h= .ok (.int 2) h:=q
  simp? [dB,gB,Pg.v,hU,Pg.nm,ND,zL,q']
  exact cj rfl
 | (n+3) =>
  have q:=ik "door" 3 (by decide +kernel) (by decide +kernel)
  have q':qP (.ktup [(.str "box"),(.str "lock"),(.str "lane"),(.str "door"),(.str "hand")]) [.str "door"] h= .ok (.int 3) h:=q
  simp? [dB,gB,Pg.v,hU,Pg.nm,ND,zL,q']
  exact cj rfl
theorem si(k:Nat)(h:PH){P:Pg}(ok:P.Ok){i:Nat}{t:Str}(m:t∈P.nm i):run pg (k+2) "number_of" [P.v,.str (hU i),.str t] h= .ok (.int ((P.nm i).idxOf t:Nat)) h:=by
 have n1:=DG T k h P ok i;have e:(h++[PO.lst ((P.nm i).map PV.str)])[h.length]?=some (.lst ((P.nm i).map PV.str)):=cq;have i1:=O2 e t;have i2:=uB e m;rw[run_eq T.vw rfl];simp? [gH,nP,n1,i1,m,i2];exact bC rfl
theorem oZ(k:Nat)(h:PH){P:Pg}(ok:P.Ok)(S:Wd){i:Nat}(i4:i < 4){t:Str}(m:t∈P.nm i){z:PV}(e:(BW S i)[(P.nm i).idxOf t]?=some z):run pg (k+3) "state_of" [P.v,bz S,.str (hU i),.str t] h= .ok z h:=by
 have n1:=si T k h ok m;have a1:d9 (BW S i) (((P.nm i).idxOf t:Nat):Int)=some z:=P3.eP rfl e;have ix: ∀ g,aB (.tup (BW S i)) (.int (((P.nm i).idxOf t:Nat):Int)) g= .ok z g:=λg=>kq a1;have pl:cw dC (.inr (hU i))=some (.int ((2+i:Nat):Int)):=by
  match i,i4 with
  | 0,_=>simp only[hU];decide +kernel
  | 1,_=>simp only[hU];decide +kernel
  | 2,_=>simp only[hU];decide +kernel
  | 3,_=>simp only[hU];decide +kernel
 have st: ∀ g,aB (bz S) (.int ((2+i:Nat):Int)) g= .ok (.tup (BW S i)) g:=λg=>by
  match i,i4 with
  | 0,_=>exact wm
  | 1,_=>exact Bh
  | 2,_=>exact uo
  | 3,_=>exact JX
 rw[run_eq T.yc rfl];simp? [iB,pE,pl,st,n1,ix]
end
theorem lay_ints: ∀ ls:List Int,Wx (ls.map Zo)=true
 | []=>rfl
 | i::r=>by rw[US,Wx,lay_ints r];rfl
theorem kD{f:Nat->Option W4}: ∀ ls:List Int,bT f (ls.map PV.int)=some (ls.map Zo)
 | []=>rfl
 | x::r=>by rw[US,bT,kD r];rfl
theorem oE{ls:List Int}{h:PH}:jW (.tup (ls.map PV.int)) (.tup []) h= .ok (.bl (decide (ls=[]))) h:=by
 have d1:dat 6 h (.tup (ls.map PV.int))=some (.tuple (ls.map Zo)):=by unfold dat;rw[jm,kD];rfl
 have d2:dat 6 h (.tup [])=some (.tuple []):=rfl;have sc:kc (.tup (ls.map PV.int)) (.tup [])=false:=rfl;have c1:(Y8 (ls.map Zo)).canLay0=true:=by rw[Zq,lay_ints]
 have c2:(Y8 []).canLay0=true:=rfl;have c3:min (Y8 (ls.map Zo)).depth (Y8 []).depth<=64:=Vn (YD _ _) (by decide);have al:alike (.tup (ls.map PV.int)) (.tup []) h=some (decide (ls=[])):=by
  unfold alike;rw[sc,d1,d2];simp only[WZ,if_false,c1,c2,c3,and_self,if_true];cases ls<;>rfl
 unfold jW;rw[al]
theorem Cr(s:aI)(r:Rw): ∃ t v,bQ s r= .tup [.str r.w,t,v]:=by cases r<;>exact⟨_,_,rfl⟩
theorem wH(r:Rw):(∃ l,r= .take l)\/(∃ x l,r= .fetch x l)\/(¬ r.w= "take" /\ ¬ r.w= "fetch" /\ ∀ P S,ke P S (some r)= .non):=by
 cases r with
 | take l=>exact .inl ⟨l,rfl⟩
 | fetch x l=>exact .inr (.inl ⟨x,l,rfl⟩)
 | _=>exact .inr (.inr ⟨by simp only[Rw.w];decide +kernel,by simp only[Rw.w];decide +kernel,λ_ _=>rfl⟩)
section
variable{pg:Tb}(T:bS pg)
include T
theorem xE(k:Nat)(h:PH){P:Pg}(ok:P.Ok){N:Nat}{S:Wd}(W:fR P N S){j:Nat}(hj:j < P.hs.length):run pg (k+11) "wait_of" [P.v,bz S,.int j] h= .ok (cZ P S j) h:=by
 obtain⟨x,s,c,ex,es,ec,so⟩:=lF W hj;obtain⟨l1,l2,l3⟩:=eJ (ok.hd x (UX ex));have to:=nU T k h (by omega) (P.hand ex) l3 so.so;have i1: ∀ g,aB (bz S) (.int 1) g= .ok (.tup (S.bg.map aA)) g:=λg=>j6;have i2: ∀ g,aB (.tup (S.bg.map aA)) (.int j) g= .ok (aA s) g:=λg=>kq (bL es);rw[run_eq T.AD rfl];unfold cZ;rw[fg ex es];unfold pj at to;cases e:x.2[s.row]? with
 | none =>
  rw[e] at to
  simp? [cW,eK,i1,i2,to,ke]
 | some r =>
  rw[e] at to
  have mr:=UX e
  rcases wH r with⟨l,rfl⟩ | ⟨y,l,rfl⟩ | ⟨n1,n2,n3⟩
  . have m:=bK ok ex mr (k:=1) (t:=l) rfl;obtain⟨z,ez,mz⟩:=ba (l:=S.eA) (ns:=P.nm 1) W.l1 m;have so:=oZ T (k+7) h ok S (i:=1) (by decide) m (z:=fz z) (by show(S.eA.map fz)[_]?=_;rw[U8,ez];rfl);have so':run pg (k+10) "state_of" [P.v,bz S,.str "lock",.str l] h= .ok (fz z) h:=so;obtain⟨zh,zm⟩:=z;simp only[ke,ez];cases zh with
    | none=>simp? [cW,eK,i1,i2,to,bQ,so',fz,Jn]
    | some i=>simp? [cW,eK,i1,i2,to,bQ,so',fz,Jn]
  . have m:=bK ok ex mr (k:=2) (t:=l) rfl;obtain⟨z,ez,mz⟩:=ba (l:=S.cV) (ns:=P.nm 2) W.l2 m;have so:=oZ T (k+7) h ok S (i:=2) (by decide) m (z:=fu z) (by show(S.cV.map fu)[_]?=_;rw[U8,ez];rfl);have so':run pg (k+10) "state_of" [P.v,bz S,.str "lane",.str l] h= .ok (fu z) h:=so;obtain⟨a,b,ls⟩:=z;simp only[ke,ez];cases ls with
    | nil =>
     have q:=oE (ls:=[]) (h:=h)
     rw[Vh] at q
     simp? [cW,eK,i1,i2,to,bQ,so',fu,q]
    | cons i r =>
     have q:=oE (ls:=i::r) (h:=h)
     have ne:decide (i::r=[])=false:=rfl
     rw[ne,US] at q
     simp? [cW,eK,i1,i2,to,bQ,so',fu,q]
  . obtain⟨t,v,et⟩:=Cr s r;have to':run pg (k+10) "touch_of" [P.v,.int j,aA s] h= .ok (bQ s r) h:=to;rw[et] at to';rw[n3];simp? [cW,eK,i1,i2,to',n1,n2]
end
noncomputable def d7(P:Pg)(S:Wd):List Nat:=(VX P.hs.length).filter λj=>decide (cZ P S j= .non)
theorem ny{α β :Type}(p: α ->Bool)(f: α -> β): ∀ l:List α,(l.filterMap λj=>if p j=true then some (f j) else none)=(l.filter p).map f
 | []=>rfl
 | x::r=>by
  by_cases z:p x=true
  . rw[WG (by rw[if_pos z]),Vw z,US,ny p f r]
  . rw[WE (by rw[if_neg z]),VI z,ny p f r]
noncomputable def gq(j:Nat):PV:= .int (j:Int)
theorem IY{x:PV}{h:PH}:ip false x h= .ok (.bl (decide (x= .non))) h:=rfl
section
variable{pg:Tb}(T:bS pg)
include T
theorem wk(k:Nat)(h:PH)(P:Pg)(ok:P.Ok):run pg (k+1) "hands_of" [P.v] h= .ok (.ref h.length) (h++[.lst (az 0 P.hs.length)]):=by
 have:=ok.many;rw[run_eq T.pN rfl];have tn:Za ((P.hs.length:Nat):Int)=P.hs.length:=VH _;simp? [gz,kL,Pg.v,Jr,EE,UO,tn];exact cj rfl
end
theorem AR{h:PH}{n m:Nat}{xs:List PV}{ds:List W4}(e1:h[n]?=some (.lst xs))(e2:h[m]?=some (.lst []))(d: ∀ sub,bT sub xs=some ds)(c:Wx ds=true):alike (.ref n) (.ref m) h=some (decide (xs=[])):=by
 have d1:dat 6 h (.ref n)=some (.list ds):=by unfold dat;simp only[jm,e1,d,Xc]
 have d2:dat 6 h (.ref m)=some (.list []):=by unfold dat;simp only[jm,e2,bT,Xc]
 have c1:(XS ds).canLay0=true/\(XS []).canLay0=true/\min (XS ds).depth (XS []).depth<=64:=⟨by rw[Zq];exact c,rfl,Vn (YD _ _) (by decide)⟩
 unfold alike;rw[show kc (.ref n) (.ref m)=false from rfl,d1,d2];simp only[WZ,if_false];rw[if_pos c1];cases xs with
 | nil =>
  have:=d λ_=>none
  cases this
  rfl
 | cons x r =>
  have q:=d λ_=>none
  cases ds with
  | nil =>
   rw[bT] at q
   split at q
   . cases q
   . exact nomatch q
  | cons a b=>rfl
theorem zu{h:PH}{n m:Nat}{xs:List PV}{ds:List W4}(e1:h[n]?=some (.lst xs))(e2:h[m]?=some (.lst []))(d: ∀ sub,bT sub xs=some ds)(c:Wx ds=true):jT (.ref n) (.ref m) h= .ok (.bl (!decide (xs=[]))) h:=by
 have nd:gM h (.ref n)=false:=by simp only[gM,e1]
 unfold jT;rw[AR e1 e2 d c,nd];rfl
theorem Cs(l:List Nat):l.map gq=(l.map λj:Nat=>(j:Int)).map PV.int:=by rw[VN];rfl
theorem IS(l:List Nat): ∃ ds:List W4,(∀ sub,bT sub (l.map gq)=some ds)/\Wx ds=true:=by
 rw[Cs];exact⟨_,λsub=>kD _,lay_ints _⟩
noncomputable def jt(j:Nat)(c:Int):PV:= .tup [.int (j:Int),.int c]
noncomputable def Rw.tg:Rw->Str
 | .hear _ d=>d
 | r=>match r.th with
  | some (_,t)=>t
  | none=> ""
noncomputable def met(P:Pg)(S:Wd)(j:Nat)(c:Int)(s:aI)(g:PV):Rw->Wd × PV × PV
 | .get _ b=>(S,.int ((S.iI[(P.nm 0).idxOf b]?).getD (0,.non)).1,((S.iI[(P.nm 0).idxOf b]?).getD (0,.non)).2)
 | .put b e=>({ S with iI:=S.iI.set ((P.nm 0).idxOf b) (e.val (fP s.ps),jt j c) },.int (e.val (fP s.ps)),((S.iI[(P.nm 0).idxOf b]?).getD (0,.non)).2)
 | .take l=>({ S with eA:=S.eA.set ((P.nm 1).idxOf l) (some (j:Int),((S.eA[(P.nm 1).idxOf l]?).getD (none,.non)).2) },.non,((S.eA[(P.nm 1).idxOf l]?).getD (none,.non)).2)
 | .free l=>({ S with eA:=S.eA.set ((P.nm 1).idxOf l) (none,jt j c) },.non,.non)
 | .send l e=>({ S with cV:=S.cV.set ((P.nm 2).idxOf l) (((S.cV[(P.nm 2).idxOf l]?).getD (0,0,[])).1+1,((S.cV[(P.nm 2).idxOf l]?).getD (0,0,[])).2.1,((S.cV[(P.nm 2).idxOf l]?).getD (0,0,[])).2.2++[e.val (fP s.ps)]) },.int (e.val (fP s.ps)),.int ((S.cV[(P.nm 2).idxOf l]?).getD (0,0,[])).1)
 | .fetch _ l=>({ S with cV:=S.cV.set ((P.nm 2).idxOf l) (((S.cV[(P.nm 2).idxOf l]?).getD (0,0,[])).1,((S.cV[(P.nm 2).idxOf l]?).getD (0,0,[])).2.1+1,((S.cV[(P.nm 2).idxOf l]?).getD (0,0,[])).2.2.tail) },.int (((S.cV[(P.nm 2).idxOf l]?).getD (0,0,[])).2.2.headD 0),.int ((S.cV[(P.nm 2).idxOf l]?).getD (0,0,[])).2.1)
 | .say d e=>({ S with ki:=S.ki.set ((P.nm 3).idxOf d) ((S.ki[(P.nm 3).idxOf d]?).getD 0+1) },.int (e.val (fP s.ps)),.int ((S.ki[(P.nm 3).idxOf d]?).getD 0))
 | _=>(S,g,.non)
noncomputable def ka(S:Wd)(j:Nat)(c:Int)(t:aI):Wd:={ S with cE:=S.cE.set j (c+1),bg:=S.bg.set j t }
noncomputable def df(r:Rw)(v m:PV):PV:= .tup [.str r.w,.str r.tg,v,m]
noncomputable def fD(P:Pg)(S:Wd)(j:Nat)(c:Int)(rs:List Rw)(s:aI)(g:PV)(r:Rw):Wd:=ka (met P S j c s g r).1 j c (bf rs 200 (after s (met P S j c s g r).2.1 r))
noncomputable def dS:Rw->Bool
 | .clock _=>true | .lot _ _=>true | .hear _ _=>true
 | _=>false
noncomputable def ft (r:Rw) (g:PV):Prop:=(dS r=true-> ∃ i:Int,g= .int i∧0<=i∧i<=999∧ ∀ x n,r= .lot x n->i < n)∧(dS r=false->g= .non)
theorem bI {α :Type} (f: α ->PV) (l:List α) (n:Nat) (z: α):(l.map f).set n (f z)=(l.set n z).map f:=List.map_set.symm
theorem pC {r:Rw} {i:Nat} {t:Str} (h:r.th=some (i,t)):cw fT (.inr r.w)=some (.str (hU i))∧ ¬ r.w∈(["clock", "lot", "hear"]:List Str)∧i < 4∧dS r=false∧r.tg=t:=by
 cases r<;>cases h<;>exact ⟨by simp only [Rw.w,hU];decide +kernel,by simp only [Rw.w];decide +kernel,by decide,rfl,rfl⟩
theorem jG {r:Rw} (h:dS r=true):r.w∈(["clock", "lot", "hear"]:List Str)∧r.th=none∧ ∀ P S j c s g,met P S j c s g r=(S,g,.non):=by
 cases r<;>first | exact ⟨by simp only [Rw.w];decide +kernel,rfl,λ_ _ _ _ _ _=>rfl⟩ | exact nomatch h
theorem pK {r:Rw} (s:aI) (h:dS r=true): ∃ tv,bQ s r= .tup [.str r.w,.str r.tg,tv]∧((∃ x n,r= .lot x n∧tv= .int n)∨ ¬ r.w= "lot"):=by
 cases r<;>first | exact ⟨_,rfl,.inl ⟨_,_,rfl,rfl⟩⟩ | exact ⟨_,rfl,.inr (by simp only [Rw.w];decide +kernel)⟩ | exact nomatch h
theorem vF{r:Rw}{i:Nat}{t:Str}(s:aI)(h:r.th=some (i,t)): ∃ tv,bQ s r= .tup [.str r.w,.str t,tv]:=by
 cases r<;>cases h<;>exact⟨_,rfl⟩
theorem jr{rs:List Rw}{s:aI}{r:Rw}(h:bu rs s=true)(e:rs[s.row]?=some r):own s.held r=false/\((∃ i t,r.th=some (i,t))\/dS r=true):=by
 unfold bu at h;rw[e] at h;have ho:own s.held r=false:=by simpa using h
 refine⟨ho,?_⟩;cases r<;>first | exact .inr rfl | exact .inl ⟨_,_,rfl⟩ | exact nomatch ho
section
variable{pg:Tb}(T:bS pg)
include T
theorem dI(k:Nat)(h:PH)(xs:List PV)(n:Nat)(v:PV)(hn:n < xs.length)(hx:xs.length<=1000):run pg (k+1) "replaced" [.tup xs,.int (n:Int),v] h= .ok (.tup (xs.set n v)) h:=by
 have c1:fF xs none (some (n:Int))=xs.take n:=by rw[P3.mW (by omega)];rfl
 have c2:fF xs (some ((n:Int)+1)) none=xs.drop (n+1):=by rw[P3.jC (by omega)];congr 1
 have a1: ∀ g,aX (.tup (xs.take n)) (.tup [v]) g= .ok (.tup (xs.take n++[v])) g:=λg=>jJ (by simp only[VC,UU,Vk];omega);have a2: ∀ g,aX (.tup (xs.take n++[v])) (.tup (xs.drop (n+1))) g= .ok (.tup (xs.take n++[v]++xs.drop (n+1))) g:=λg=>jJ (by simp only[U5,VC,Wn,UU,Vk];omega);have es:xs.set n v=xs.take n++[v]++xs.drop (n+1):=by rw[List.set_eq_take_append_cons_drop,if_pos hn];simp
 rw[es,run_eq T.yv rfl];simp? [iN,p8,c1,c2,a1,↓a2]
theorem qe(k:Nat)(h:PH){i a b:Int}(h0:a<=i)(h9:i<=b):run pg (k+2) "is_between" [.int i,.int a,.int b] h= .ok (.bl true) h:=by
 have w:run pg (k+1) "is_whole" [.int i] h= .ok (.bl true) h:=by
  rw[run_eq T.xp rfl];simp? [iF,oN,N2,Ma]
 rw [run_eq T.sT rfl];simp? [fN,kU,w,h0,h9]
theorem Ia (k:Nat) (h:PH) {r:Rw} {g:PV} (s:aI) (hg:ft r g) (hc:(∃ i t,r.th=some (i,t))∨dS r=true):run pg (k+5) "takes_gift" [bQ s r,g] h= .ok (.bl true) h:=by
 have ink: ∀ a:Str,jz (.str a) (.ktup [(.str "clock"),(.str "lot"),(.str "hear")]) h= .ok (.bl (decide (a∈(["clock", "lot", "hear"]:List Str)))) h:=λa=>in_K (ss:=["clock", "lot", "hear"]);rw [run_eq T.t6 rfl];rcases hc with ⟨i,t,ht⟩ | hq
 . obtain ⟨_,n2,_,n4,_⟩:=pC ht;obtain⟨tv,et⟩:=vF s ht;have eg:=hg.2 n4;subst eg;rw[et];simp? [dP,iU,ink,n2]
 . obtain⟨m1,_⟩:=jG hq;obtain⟨i,rfl,i0,i9,il⟩:=hg.1 hq;obtain⟨tv,et,cl⟩:=pK s hq;have iv:run pg (k+3) "is_value" [.int i] h= .ok (.bl true) h:=by
    have:=qe T k h i0 i9;rw[run_eq T.xv rfl];simp? [iG,o6,this]
   have mc:run pg (k+4) "may_come" [bQ s r,.int i] h= .ok (.bl true) h:=by
    rw[run_eq T.xY rfl];rcases cl with⟨x,n,rfl,rfl⟩ | cl
    . have lt:=il x n rfl;rw[et];simp? [fZ,kN,iv,Rw.w,lt]
    . rw[et];simp? [fZ,kN,iv,cl]
   rw[et] at mc ⊢;simp? [dP,iU,ink,m1,mc]
theorem DS(k:Nat)(h:PH){P:Pg}(ok:P.Ok){N:Nat}{S:Wd}(W:fR P N S){j:Nat}{x:Str × List Rw}{s:aI}{r:Rw}(ex:P.hs[j]?=some x)(es:S.bg[j]?=some s)(er:x.2[s.row]?=some r)(hw:cZ P S j= .non){g:PV}(hg:ft r g):run pg (k+12) "due_touch" [P.v,bz S,.int j,g] h= .ok (bQ s r) h:=by
 have hj:j < P.hs.length:=(UP.mp ex).1;have so:=W.se j x s ex es;obtain⟨l1,l2,l3⟩:=eJ (ok.hd x (UX ex));have to:=nU T (k+1) h (by omega) (P.hand ex) l3 so.so;unfold pj at to;rw[er] at to;have to':run pg (k+11) "touch_of" [P.v,.int j,aA s] h= .ok (bQ s r) h:=to;have i1: ∀ g,aB (bz S) (.int 1) g= .ok (.tup (S.bg.map aA)) g:=λg=>j6;have i2: ∀ g,aB (.tup (S.bg.map aA)) (.int j) g= .ok (aA s) g:=λg=>kq (bL es);have i4: ∀ g,aB P.v (.int 4) g= .ok (.tup (P.hs.map bF)) g:=λg=>uo;have w:=xE T k h ok W hj;rw[hw] at w;have bt:=qe T (k+9) h (i:=(j:Int)) (a:=0) (b:=(P.hs.length:Int) - 1) (by omega) (by omega);have tg:=Ia T (k+6) h s hg (jr so.re er).2;have en:jW .non (.str "end") h= .ok (.bl false) h:=rfl;rw[run_eq T.wt rfl];simp? [gI,nO,i4,UO,bt,w,en,i1,i2,to',tg]
theorem pB(k:Nat)(h:PH){P:Pg}(ok:P.Ok){N:Nat}{S:Wd}(W:fR P N S)(N9:N<=60){j:Nat}{x:Str × List Rw}{s:aI}{c:Int}{r:Rw}(ex:P.hs[j]?=some x)(es:S.bg[j]?=some s)(ec:S.cE[j]?=some c)(er:x.2[s.row]?=some r){S1:Wd}(h1:S1.cE=S.cE)(h2:S1.bg=S.bg){v:PV}(hv: ∀ x,r.gh=some x-> ∃ i:Int,v= .int i/\0<=i/\i<=999):run pg (k+12) "with_hand_on" [P.v,bz S1,.int j,v] h= .ok (bz (ka S1 j c (bf x.2 200 (after s v r)))) h:=by
 have so:=W.se j x s ex es;have hm:=ok.many;obtain⟨l1,l2,l3⟩:=eJ (ok.hd x (UX ex))
 let t:=bf x.2 200 (after s v r)
 have sb:run pg (k+11) "seat_behind" [P.v,.int j,aA s,v] h= .ok (aA t) h:=qq T k h (by omega) (P.hand ex) l3 so.so (Vn so.le N9) er hv;have lj:j < P.hs.length:=(UP.mp ex).1;have i0: ∀ g,aB (bz S1) (.int 0) g= .ok (.tup (S.cE.map PV.int)) g:=λg=>by rw[<- h1];exact tR
 have i1: ∀ g,aB (bz S1) (.int 1) g= .ok (.tup (S.bg.map aA)) g:=λg=>by rw[<- h2];exact j6
 have i2: ∀ g,aB (.tup (S.bg.map aA)) (.int j) g= .ok (aA s) g:=λg=>kq (bL es);have i3: ∀ g,aB (.tup (S.cE.map PV.int)) (.int j) g= .ok (.int c) g:=λg=>kq (bL ec);have lc:S.cE.length=P.hs.length:=W.lc;have ls:S.bg.length=P.hs.length:=W.ls;have r1:=dI T (k+10) h (S.cE.map PV.int) j (.int (c+1)) (by rw[UO];omega) (by rw[UO];omega);rw[bI PV.int] at r1;have r2:=dI T (k+10) h (S.bg.map aA) j (aA t) (by rw[UO];omega) (by rw[UO];omega);rw[bI aA] at r2
 let B:List PV:=[.tup (S1.iI.map gR),.tup (S1.eA.map fz),.tup (S1.cV.map fu),.tup (S1.ki.map PV.int)]
 have e1:bz S1= .tup (.tup (S.cE.map PV.int):: .tup (S.bg.map aA)::B):=by rw[<- h1,<- h2];rfl
 have r3:=dI T (k+10) h (.tup (S.cE.map PV.int):: .tup (S.bg.map aA)::B) 0 (.tup ((S.cE.set j (c+1)).map PV.int)) (by simp[B]) (by simp[B]);rw[<- e1] at r3;have r3':run pg (k+11) "replaced" [bz S1,.int 0,.tup ((S.cE.set j (c+1)).map PV.int)] h= .ok (.tup (.tup ((S.cE.set j (c+1)).map PV.int):: .tup (S.bg.map aA)::B)) h:=r3;have r4:=dI T (k+10) h (.tup ((S.cE.set j (c+1)).map PV.int):: .tup (S.bg.map aA)::B) 1 (.tup ((S.bg.set j t).map aA)) (by simp[B]) (by simp[B]);have r4':run pg (k+11) "replaced" [.tup (.tup ((S.cE.set j (c+1)).map PV.int):: .tup (S.bg.map aA)::B),.int 1,.tup ((S.bg.set j t).map aA)] h= .ok (bz (ka S1 j c t)) h:=by
  refine(show _=RV.ok (PV.tup (.tup ((S.cE.set j (c+1)).map PV.int):: .tup ((S.bg.set j t).map aA)::B)) h from r4).trans ?_;unfold ka bz;rw[h1,h2]
 show _=RV.ok (bz (ka S1 j c t)) h;rw[run_eq T.oQ rfl]
 clear_value B t
 simp? [dW,jB,i0,i1,i2,i3,sb,r1,r2,r3',r4']
end
noncomputable def Kz(S:Wd)(i n:Nat)(z:PV):PV:= .tup ([.tup (S.cE.map PV.int),.tup (S.bg.map aA),.tup (S.iI.map gR),.tup (S.eA.map fz),.tup (S.cV.map fu),.tup (S.ki.map PV.int)].set (2+i) (.tup ((BW S i).set n z)))
theorem J6{α :Type}{l:List α}{n:Nat}{z: α}(e:l[n]?=some z):l.set n z=l:=by
 obtain⟨h,rfl⟩:=UP.mp e;exact aaG h
theorem EO{P:Pg}{N:Nat}{S:Wd}(W:fR P N S){i:Nat}(i4:i < 4):(BW S i).length=(P.nm i).length:=by
 match i,i4 with
 | 0,_=>show(S.iI.map gR).length=(P.bs.map (·.1)).length;rw[UO,UO];exact W.l0
 | 1,_=>show(S.eA.map fz).length=P.s1.length;rw[UO];exact W.l1
 | 2,_=>show(S.cV.map fu).length=P.s2.length;rw[UO];exact W.l2
 | 3,_=>show(S.ki.map PV.int).length=P.s3.length;rw[UO];exact W.l3
theorem NW{P:Pg}(ok:P.Ok){i:Nat}(i4:i < 4):(P.nm i).length<=20:=by
 match i,i4 with
 | 0,_=>show(P.bs.map (·.1)).length<=20;rw[UO];exact ok.bx.1
 | 1,_=>exact ok.nm.1.1
 | 2,_=>exact ok.nm.2.1.1
 | 3,_=>exact ok.nm.2.2.1
section
variable{pg:Tb}(T:bS pg)
include T
theorem rl(k:Nat)(h:PH){P:Pg}(ok:P.Ok){N:Nat}{S:Wd}(W:fR P N S){i:Nat}(i4:i < 4){t:Str}(m:t∈P.nm i)(z:PV):run pg (k+3) "with_state" [P.v,bz S,.str (hU i),.str t,z] h= .ok (Kz S i ((P.nm i).idxOf t) z) h:=by
 have n1:=si T k h ok m;have hn:(P.nm i).idxOf t < (BW S i).length:=by rw[EO W i4];exact Y9 m
 have hx:=NW ok i4;rw[<- EO W i4] at hx;have pl:cw dC (.inr (hU i))=some (.int ((2+i:Nat):Int)):=by
  match i,i4 with
  | 0,_=>simp only[hU];decide +kernel
  | 1,_=>simp only[hU];decide +kernel
  | 2,_=>simp only[hU];decide +kernel
  | 3,_=>simp only[hU];decide +kernel
 have st: ∀ g,aB (bz S) (.int ((2+i:Nat):Int)) g= .ok (.tup (BW S i)) g:=λg=>by
  match i,i4 with
  | 0,_=>exact wm
  | 1,_=>exact Bh
  | 2,_=>exact uo
  | 3,_=>exact JX
 have r1:=dI T (k+1) h (BW S i) ((P.nm i).idxOf t) z hn (by omega);have r2:=dI T (k+1) h [.tup (S.cE.map PV.int),.tup (S.bg.map aA),.tup (S.iI.map gR),.tup (S.eA.map fz),.tup (S.cV.map fu),.tup (S.ki.map PV.int)] (2+i) (.tup ((BW S i).set ((P.nm i).idxOf t) z)) (by simp only[UU,Vk];omega) (by simp only[UU,Vk];omega);have r2':run pg (k+2) "replaced" [bz S,.int ((2+i:Nat):Int),.tup ((BW S i).set ((P.nm i).idxOf t) z)] h= .ok (Kz S i ((P.nm i).idxOf t) z) h:=r2;rw[run_eq T.uj rfl];simp? [fQ,lV,pl,st,n1,r1,r2']
theorem fY(k:Nat)(h:PH){P:Pg}(ok:P.Ok){N:Nat}{S:Wd}(W:fR P N S)(N9:N<=60){j:Nat}{x:Str × List Rw}{s:aI}{c:Int}{r:Rw}(ex:P.hs[j]?=some x)(es:S.bg[j]?=some s)(ec:S.cE[j]?=some c)(er:x.2[s.row]?=some r)(hw:cZ P S j= .non)
  {i:Nat} {t:Str} (ht:r.th=some (i,t)) {z v m z':PV} (ez:(BW S i)[(P.nm i).idxOf t]?=some z) (me:run pg (k+12) "meeting" [bQ s r,jt j c,z] h= .ok (.tup [v,m,z']) h) {S1:Wd} (h0:Kz S i ((P.nm i).idxOf t) z'=bz S1) (h1:S1.cE=S.cE) (h2:S1.bg=S.bg) (hv: ∀ x,r.gh=some x-> ∃ i:Int,v= .int i/\0<=i/\i<=999) :
  run pg (k+13) "gone" [P.v,bz S,.int j,.non] h= .ok (.tup [bz (ka S1 j c (bf x.2 200 (after s v r))),df r v m]) h:=by
 obtain⟨q1,q2,q3,q4,q5⟩:=pC ht;have tm:=bK ok ex (UX er) ht;obtain⟨tv,et⟩:=vF s ht;have du:=DS T k h ok W ex es er hw (g:= .non) ⟨λe=>(nomatch (q4.symm.trans e)),λ_=>rfl⟩;have so:=oZ T (k+9) h ok S q3 tm ez;have ws:=rl T (k+9) h ok W q3 tm z';rw[h0] at ws;have ho:=pB T k h ok W N9 ex es ec er h1 h2 hv;have i0: ∀ g,aB (bz S) (.int 0) g= .ok (.tup (S.cE.map PV.int)) g:=λg=>tR;have i3: ∀ g,aB (.tup (S.cE.map PV.int)) (.int j) g= .ok (.int c) g:=λg=>kq (bL ec);have ink: ∀ a:Str,jz (.str a) (.ktup [(.str "clock"),(.str "lot"),(.str "hear")]) h= .ok (.bl (decide (a∈(["clock", "lot", "hear"]:List Str)))) h:=λa=>in_K (ss:=["clock", "lot", "hear"]);unfold jt at me;unfold df;rw [et] at du me;rw[q5,run_eq T.Cn rfl];simp? [qm,xS,du,ink,q2,q1,i0,i3,so,me,ws,ho]
theorem Ao(k:Nat)(h:PH){P:Pg}(ok:P.Ok){N:Nat}{S:Wd}(W:fR P N S)(N9:N<=60){j:Nat}{x:Str × List Rw}{s:aI}{c:Int}{r:Rw}(ex:P.hs[j]?=some x)(es:S.bg[j]?=some s)(ec:S.cE[j]?=some c)(er:x.2[s.row]?=some r)(hw:cZ P S j= .non)(hq:dS r=true){g:PV}(hg:ft r g) :
  run pg (k+13) "gone" [P.v,bz S,.int j,g] h= .ok (.tup [bz (ka S j c (bf x.2 200 (after s g r))),df r g .non]) h:=by
 obtain⟨q1,q2,q3⟩:=jG hq;obtain⟨tv,et,_⟩:=pK s hq;have du:=DS T k h ok W ex es er hw hg;obtain ⟨i,rfl,i0,i9,_⟩:=hg.1 hq;have ho:=pB T k h ok W N9 ex es ec er (S1:=S) rfl rfl (v:= .int i) (λ_ _=>⟨i,rfl,i0,i9⟩);have ink: ∀ a:Str,jz (.str a) (.ktup [(.str "clock"),(.str "lot"),(.str "hear")]) h= .ok (.bl (decide (a∈(["clock", "lot", "hear"]:List Str)))) h:=λa=>in_K (ss:=["clock", "lot", "hear"]);unfold df;rw [et] at du;rw [run_eq T.Cn rfl];simp? [qm,xS,du,ink,q1,ho]
theorem Fy(k:Nat)(h:PH){P:Pg}(ok:P.Ok){N:Nat}{S:Wd}(W:fR P N S)(N9:N<=60){j:Nat}{x:Str × List Rw}{s:aI}{c:Int}{r:Rw}(ex:P.hs[j]?=some x)(es:S.bg[j]?=some s)(ec:S.cE[j]?=some c)(er:x.2[s.row]?=some r)(hw:cZ P S j= .non){g:PV}(hg:ft r g) :
  run pg (k+13) "gone" [P.v,bz S,.int j,g] h= .ok (.tup [bz (fD P S j c x.2 s g r),df r (met P S j c s g r).2.1 (met P S j c s g r).2.2]) h:=by
 have so:=W.se j x s ex es;have mr:=UX er;rcases(jr so.re er).2 with⟨i,t,ht⟩ | hq
 . obtain⟨q1,q2,q3,q4,q5⟩:=pC ht;have eg:=hg.2 q4;subst eg;have tm:=bK ok ex mr ht;cases r with
   | get y b =>
    obtain⟨z,ez,mz⟩:=ba (l:=S.iI) (ns:=P.nm 0) (by rw[W.l0];exact(UO ..).symm) (bK ok ex mr (k:=0) (t:=b) rfl)
    have hz:=W.bx z mz
    have:=fY T k h ok W N9 ex es ec er hw (r:= .get y b) (i:=0) (t:=b) rfl (z:=gR z) (v:= .int z.1) (m:=z.2) (z':=gR z) (S1:=S) (by show(S.iI.map gR)[_]?=_;rw[U8,ez];rfl) (by
     rw[run_eq T.eG rfl];simp? [cH,dH,bQ,gR,jt]) (by
     show PV.tup [_,_,.tup ((S.iI.map gR).set _ (gR z)),_,_,_]=_;rw[bI gR,J6 ez];rfl) rfl rfl (λ_ _=>⟨z.1,rfl,hz.1.1,hz.1.2⟩)
    simp only[fD,met,ez,Vd]
    exact this
   | put b e =>
    obtain⟨z,ez,mz⟩:=ba (l:=S.iI) (ns:=P.nm 0) (by rw[W.l0];exact(UO ..).symm) (bK ok ex mr (k:=0) (t:=b) rfl)
    have:=fY T k h ok W N9 ex es ec er hw (r:= .put b e) (i:=0) (t:=b) rfl (z:=gR z) (v:= .int (e.val (fP s.ps))) (m:=z.2) (z':=gR (e.val (fP s.ps),jt j c)) (S1:={ S with iI:=S.iI.set ((P.nm 0).idxOf b) (e.val (fP s.ps),jt j c) }) (by show(S.iI.map gR)[_]?=_;rw[U8,ez];rfl) (by
     rw[run_eq T.eG rfl];simp? [cH,dH,bQ,gR,jt]) (by
     show PV.tup [_,_,.tup ((S.iI.map gR).set _ (gR _)),_,_,_]=_;rw[bI gR];rfl) rfl rfl (λ_ q=>nomatch q)
    simp only[fD,met,ez,Vd]
    exact this
   | take l =>
    obtain⟨z,ez,mz⟩:=ba (l:=S.eA) (ns:=P.nm 1) W.l1 (bK ok ex mr (k:=1) (t:=l) rfl)
    have:=fY T k h ok W N9 ex es ec er hw (r:= .take l) (i:=1) (t:=l) rfl (z:=fz z) (v:= .non) (m:=z.2) (z':=fz (some (j:Int),z.2)) (S1:={ S with eA:=S.eA.set ((P.nm 1).idxOf l) (some (j:Int),z.2) }) (by show(S.eA.map fz)[_]?=_;rw[U8,ez];rfl) (by
     rw[run_eq T.eG rfl];simp? [cH,dH,bQ,fz,Jn,jt]) (by
     show PV.tup [_,_,_,.tup ((S.eA.map fz).set _ (fz _)),_,_]=_;rw[bI fz];rfl) rfl rfl (λ_ q=>nomatch q)
    simp only[fD,met,ez,Vd]
    exact this
   | free l =>
    obtain⟨z,ez,mz⟩:=ba (l:=S.eA) (ns:=P.nm 1) W.l1 (bK ok ex mr (k:=1) (t:=l) rfl)
    have:=fY T k h ok W N9 ex es ec er hw (r:= .free l) (i:=1) (t:=l) rfl (z:=fz z) (v:= .non) (m:= .non) (z':=fz (none,jt j c)) (S1:={ S with eA:=S.eA.set ((P.nm 1).idxOf l) (none,jt j c) }) (by show(S.eA.map fz)[_]?=_;rw[U8,ez];rfl) (by
     rw[run_eq T.eG rfl];simp? [cH,dH,bQ,fz,Jn,jt]) (by
     show PV.tup [_,_,_,.tup ((S.eA.map fz).set _ (fz _)),_,_]=_;rw[bI fz];rfl) rfl rfl (λ_ q=>nomatch q)
    simp only[fD,met]
    exact this
   | send l e =>
    obtain⟨z,ez,mz⟩:=ba (l:=S.cV) (ns:=P.nm 2) W.l2 (bK ok ex mr (k:=2) (t:=l) rfl)
    have hz:=(W.ln z mz).2.2.1
    have ad: ∀ g,aX (.tup (z.2.2.map PV.int)) (.tup [.int (e.val (fP s.ps))]) g= .ok (.tup ((z.2.2++[e.val (fP s.ps)]).map PV.int)) g:=λg=>by
     rw[jJ (by simp only[UO,UU,Vk];omega),VG];rfl
    have:=fY T k h ok W N9 ex es ec er hw (r:= .send l e) (i:=2) (t:=l) rfl (z:=fu z) (v:= .int (e.val (fP s.ps))) (m:= .int z.1) (z':=fu (z.1+1,z.2.1,z.2.2++[e.val (fP s.ps)])) (S1:={ S with cV:=S.cV.set ((P.nm 2).idxOf l) (z.1+1,z.2.1,z.2.2++[e.val (fP s.ps)]) }) (by show(S.cV.map fu)[_]?=_;rw[U8,ez];rfl) (by
     rw[run_eq T.eG rfl];simp? [cH,dH,bQ,fu,jt,↓ad]) (by
     show PV.tup [_,_,_,_,.tup ((S.cV.map fu).set _ (fu _)),_]=_;rw[bI fu];rfl) rfl rfl (λ_ q=>nomatch q)
    simp only[fD,met,ez,Vd]
    exact this
   | fetch y l =>
    obtain⟨z,ez,mz⟩:=ba (l:=S.cV) (ns:=P.nm 2) W.l2 (bK ok ex mr (k:=2) (t:=l) rfl)
    have hz:=(W.ln z mz).2.2.2
    obtain⟨za,zb,zl⟩:=z
    obtain⟨i,ls,rfl⟩: ∃ i ls,zl=i::ls:=by
     cases zl with
     | cons i ls=>exact⟨i,ls,rfl⟩
     | nil =>
      unfold cZ at hw
      rw[fg ex es,er] at hw
      simp only[ke,ez] at hw
      exact nomatch hw
    have hi:=hz i U3
    have:=fY T k h ok W N9 ex es ec er hw (r:= .fetch y l) (i:=2) (t:=l) rfl (z:=fu (za,zb,i::ls)) (v:= .int i) (m:= .int zb) (z':=fu (za,zb+1,ls)) (S1:={ S with cV:=S.cV.set ((P.nm 2).idxOf l) (za,zb+1,ls) }) (by show(S.cV.map fu)[_]?=_;rw[U8,ez];rfl) (by
     rw[run_eq T.eG rfl];simp? [cH,dH,bQ,fu,jt,pZ]) (by
     show PV.tup [_,_,_,_,.tup ((S.cV.map fu).set _ (fu _)),_]=_;rw[bI fu];rfl) rfl rfl (λ_ _=>⟨i,rfl,hi.1,hi.2⟩)
    simp only[fD,met,ez,Vd,acv,YY]
    exact this
   | say d e =>
    obtain⟨z,ez,mz⟩:=ba (l:=S.ki) (ns:=P.nm 3) W.l3 (bK ok ex mr (k:=3) (t:=d) rfl)
    have:=fY T k h ok W N9 ex es ec er hw (r:= .say d e) (i:=3) (t:=d) rfl (z:= .int z) (v:= .int (e.val (fP s.ps))) (m:= .int z) (z':= .int (z+1)) (S1:={ S with ki:=S.ki.set ((P.nm 3).idxOf d) (z+1) }) (by show(S.ki.map PV.int)[_]?=_;rw[U8,ez];rfl) (by
     rw[run_eq T.eG rfl];simp? [cH,dH,bQ,jt]) (by
     show PV.tup [_,_,_,_,_,.tup ((S.ki.map PV.int).set _ (.int _))]=_;rw[bI PV.int];rfl) rfl rfl (λ_ q=>nomatch q)
    simp only[fD,met,ez,Vd]
    exact this
   | _=>exact nomatch ht
 . obtain⟨_,_,q3⟩:=jG hq;rw[fD,q3];exact Ao T k h ok W N9 ex es ec er hw hq hg
end
noncomputable def qz(n:Nat):List (Key × PV):=[(.inr "counts",.ref (n+1)),(.inr "seats",.ref (n+2)),(.inr "doors",.ref (n+3)),(.inr "boxes",.ref (n+4)),(.inr "locks",.ref (n+5)),(.inr "lanes",.ref (n+6))]
theorem dz(n:Nat):cw (qz n) (.inr "counts")=some (.ref (n+1))/\cw (qz n) (.inr "seats")=some (.ref (n+2))/\cw (qz n) (.inr "doors")=some (.ref (n+3))/\cw (qz n) (.inr "boxes")=some (.ref (n+4))/\cw (qz n) (.inr "locks")=some (.ref (n+5))/\cw (qz n) (.inr "lanes")=some (.ref (n+6)):=by
 refine⟨?_,?_,?_,?_,?_,?_⟩<;>simp[qz,cw,cC]
noncomputable def ub(n j:Nat)(s:aI):PV:= .tup [.int s.row,.ref (n+7+3*j),.ref (n+9+3*j)]
noncomputable def sL(n:Nat)(ss:List aI):List PV:=ss.mapIdx (ub n)
theorem Cj{n j:Nat}{ss:List aI}{s:aI}(e:ss[j]?=some s):(sL n ss)[j]?=some (ub n j s):=by unfold sL;rw[YS,e];rfl
theorem yy(n:Nat)(ss:List aI):(sL n ss).length=ss.length:=by unfold sL;simp
theorem Ki(n j:Nat)(ss:List aI)(t:aI):(sL n ss).set j (ub n j t)=sL n (ss.set j t):=by
 refine abP λi=>?_;unfold sL;rw[abU,YS,YS,abU,List.length_mapIdx];by_cases e:j=i
 . subst e;by_cases l:j < ss.length<;>simp[l]
 . simp[e]
noncomputable def cell(n:Nat)(S:Wd):Nat->PO
 | 0=> .dct (qz n) | 1=> .lst (S.cE.map PV.int) | 2=> .lst (sL n S.bg) | 3=> .lst (S.ki.map PV.int)
 | 4=> .lst (S.iI.map gR) | 5=> .lst (S.eA.map fz) | _=> .lst (S.cV.map fu)
noncomputable def Uw(H:PH)(d l:Nat)(L:List Str)(s:aI):Prop:= ∃(D:Pk)(hl:List Str),H[d]?=some (.dct (dM D))/\H[l]?=some (.lst (hl.map PV.str))/\qA L D/\(∀ x,fP D x=fP s.ps x)/\hl.Nodup/\ ∀ y,y∈hl↔y∈s.held
structure Rep(H:PH)(n:Nat)(P:Pg)(S:Wd)(ss:List aI):Prop where
 c: ∀ i,i < 7->H[n+i]?=some (cell n S i)
 p: ∀(j:Nat)(x:Str × List Rw)(s:aI),P.hs[j]?=some x->ss[j]?=some s->Uw H (n+7+3*j) (n+9+3*j) (JJ x) s
 g: ∀ j,j < P.hs.length->H[n+8+3*j]?=some (.lst [])
structure Fr(n m:Nat)(H H':PH):Prop where
 len:H'.length=H.length
 off: ∀ i,i < n\/n+7+3*m<=i->H'[i]?=H[i]?
theorem Fr.refl{n m:Nat}{H:PH}:Fr n m H H:=⟨rfl,λ_ _=>rfl⟩
theorem Fr.set{n m i:Nat}{H H':PH}{o:PO}(f:Fr n m H H')(h1:n<=i)(h2:i < n+7+3*m):Fr n m H (H'.set i o) :=
 ⟨by rw[Vr];exact f.len,λk hk=>by rw[aR (by omega)];exact f.off k hk⟩
theorem Rep.same{H H':PH}{n:Nat}{P:Pg}{S:Wd}{ss:List aI}(R:Rep H n P S ss)(e: ∀ i,n<=i->i < n+7+3*P.hs.length->H'[i]?=H[i]?):Rep H' n P S ss:=by
 refine⟨λi hi=>by rw[e _ (by omega) (by omega)];exact R.c i hi,λj x s ex es=>?_,λj hj=>by rw[e _ (by omega) (by omega)];exact R.g j hj⟩;obtain⟨D,hl,h1,h2,h3⟩:=R.p j x s ex es;have lj:=(UP.mp ex).1;exact⟨D,hl,by rw[e _ (by omega) (by omega)];exact h1,by rw[e _ (by omega) (by omega)];exact h2,h3⟩
theorem Rep.app{H:PH}{n:Nat}{P:Pg}{S:Wd}{ss:List aI}(R:Rep H n P S ss)(G:PH):Rep (H++G) n P S ss:=by
 refine⟨λi hi=>(ay (aG (R.c i hi))).trans (R.c i hi),λj x s ex es=>?_,λj hj=>(ay (aG (R.g j hj))).trans (R.g j hj)⟩;obtain⟨D,hl,h1,h2,h3⟩:=R.p j x s ex es;exact⟨D,hl,(ay (aG h1)).trans h1,(ay (aG h2)).trans h2,h3⟩
theorem Rep.set{H:PH}{n:Nat}{P:Pg}{S S':Wd}{ss:List aI}(R:Rep H n P S ss){i:Nat}(hi:i < 7)(e: ∀ k,k < 7->k≠i->cell n S' k=cell n S k):Rep (H.set (n+i) (cell n S' i)) n P S' ss:=by
 refine⟨λk hk=>?_,λj x s ex es=>?_,λj hj=>by rw[aR (by omega)];exact R.g j hj⟩
 . by_cases z:k=i
   . subst z;exact kJ (aG (R.c k hk))
   . rw[aR (by omega),e k hk z];exact R.c k hk
 . obtain⟨D,hl,h1,h2,h3⟩:=R.p j x s ex es;exact⟨D,hl,by rw[aR (by omega)];exact h1,by rw[aR (by omega)];exact h2,h3⟩
theorem Rep.put{H:PH}{n:Nat}{P:Pg}{S:Wd}{ss:List aI}(R:Rep H n P S ss){j:Nat}{x:Str × List Rw}{s s':aI}(ex:P.hs[j]?=some x)(es:ss[j]?=some s){D:Pk}(hD:qA (JJ x) D)(hf: ∀ y,fP D y=fP s'.ps y)(hh:s'.held=s.held):Rep (H.set (n+7+3*j) (.dct (dM D))) n P S (ss.set j s'):=by
 refine⟨λk hk=>by rw[aR (by omega)];exact R.c k hk,λi y t ey et=>?_,λi hi=>by rw[aR (by omega)];exact R.g i hi⟩;have lj:=(UP.mp es).1;by_cases z:j=i
 . subst z;rw[Vx lj] at et;rw[ex] at ey;cases et;cases ey;obtain⟨D0,hl,h1,h2,h3,h4,h5,h6⟩:=R.p j x s ex es;exact⟨D,hl,kJ (aG h1),by rw[aR (by omega)];exact h2,hD,hf,h5,by rw[hh];exact h6⟩
 . rw[VU z] at et;obtain⟨D0,hl,h1,h2,h3⟩:=R.p i y t ey et;exact⟨D0,hl,by rw[aR (by omega)];exact h1,by rw[aR (by omega)];exact h2,h3⟩
theorem Rep.hold{H:PH}{n:Nat}{P:Pg}{S:Wd}{ss:List aI}(R:Rep H n P S ss){j:Nat}{x:Str × List Rw}{s s':aI}(ex:P.hs[j]?=some x)(es:ss[j]?=some s){hl:List Str}(nd:hl.Nodup)(hm: ∀ y,y∈hl↔y∈s'.held)(hp:s'.ps=s.ps):Rep (H.set (n+9+3*j) (.lst (hl.map PV.str))) n P S (ss.set j s'):=by
 refine⟨λk hk=>by rw[aR (by omega)];exact R.c k hk,λi y t ey et=>?_,λi hi=>by rw[aR (by omega)];exact R.g i hi⟩;have lj:=(UP.mp es).1;by_cases z:j=i
 . subst z;rw[Vx lj] at et;rw[ex] at ey;cases et;cases ey;obtain⟨D0,hl0,h1,h2,h3,h4,h5,h6⟩:=R.p j x s ex es;exact⟨D0,hl,by rw[aR (by omega)];exact h1,kJ (aG h2),h3,by rw[hp];exact h4,nd,hm⟩
 . rw[VU z] at et;obtain⟨D0,hl0,h1,h2,h3⟩:=R.p i y t ey et;exact⟨D0,hl0,by rw[aR (by omega)];exact h1,by rw[aR (by omega)];exact h2,h3⟩
noncomputable def GP:Option Rw->PV
 | none=> .non
 | some r=>bq r
structure Cells(H:PH)(n:Nat)(S:Wd):Prop where
 e0:H[n]?=some (.dct (qz n))
 e1:H[n+1]?=some (.lst (S.cE.map PV.int))
 e2:H[n+2]?=some (.lst (sL n S.bg))
 e3:H[n+3]?=some (.lst (S.ki.map PV.int))
 e4:H[n+4]?=some (.lst (S.iI.map gR))
 e5:H[n+5]?=some (.lst (S.eA.map fz))
 e6:H[n+6]?=some (.lst (S.cV.map fu))
theorem Rep.cells{H:PH}{n:Nat}{P:Pg}{S:Wd}{ss:List aI}(R:Rep H n P S ss):Cells H n S :=
 ⟨R.c 0 (by decide),R.c 1 (by decide),R.c 2 (by decide),R.c 3 (by decide),R.c 4 (by decide),R.c 5 (by decide),R.c 6 (by decide)⟩
section
variable{pg:Tb}(T:bS pg)
include T
theorem kz(k:Nat){H:PH}{n:Nat}{P:Pg}{S:Wd}{N:Nat}(W:fR P N S)(C:Cells H n S){j:Nat}(hj:j < P.hs.length):run pg (k+1) "_law_row" [P.v,.ref n,.int j] H= .ok (GP (rowAt P S j)) H:=by
 obtain⟨x,s,c,ex,es,ec,so⟩:=lF W hj;obtain⟨v1,v2,v3,v4,v5,v6⟩:=dz n;have i4: ∀ g,aB P.v (.int 4) g= .ok (.tup (P.hs.map bF)) g:=λg=>uo;have ih: ∀ g,aB (.tup (P.hs.map bF)) (.int j) g= .ok (bF x) g:=λg=>kq (bL ex);have i1: ∀ g,aB (bF x) (.int 1) g= .ok (bG x.2) g:=λg=>j6;have se:d9 (sL n S.bg) (j:Int)=some (ub n j s):=P3.eP rfl (Cj es);have s0: ∀ g,aB (ub n j s) (.int 0) g= .ok (.int s.row) g:=λg=>tR;have ln: ∀ h,b6 [bG x.2] h= .ok (.int x.2.length) h:=λh=>by unfold bG;rw[len_T,UO]
 rw[run_eq T.xJ rfl,fg ex es];cases e:x.2[s.row]? with
 | none =>
  have z: ¬ (s.row:Int) < (x.2.length:Int):=by have:=Wb.mp e;omega
  simp? [gv,kS,i4,ih,i1,C.e0,v2,C.e2,se,s0,ln,z,GP]
 | some r =>
  have z:(s.row:Int) < (x.2.length:Int):=by have:=(UP.mp e).1;omega
  have ix: ∀ h,aB (bG x.2) (.int s.row) h= .ok (bq r) h:=λh=>kq (ir e)
  simp? [gv,kS,i4,ih,i1,C.e0,v2,C.e2,se,s0,ln,z,ix,GP]
theorem vX(k:Nat){H:PH}{n:Nat}{P:Pg}(ok:P.Ok){S:Wd}{N:Nat}(W:fR P N S)(C:Cells H n S){j:Nat}(hj:j < P.hs.length):run pg (k+2) "_law_wait" [P.v,.ref n,.int j] H= .ok (cZ P S j) H:=by
 have ro:=kz T k W C hj;obtain⟨x,s,c,ex,es,ec,so⟩:=lF W hj;obtain⟨v1,v2,v3,v4,v5,v6⟩:=dz n;have j1: ∀ g,aB P.v (.int 1) g= .ok (.tup (P.s1.map PV.str)) g:=λg=>j6;have j2: ∀ g,aB P.v (.int 2) g= .ok (.tup (P.s2.map PV.str)) g:=λg=>wm;unfold cZ;rw[fg ex es] at ro ⊢;rw[run_eq T.wK rfl];cases e:x.2[s.row]? with
 | none =>
  rw[e] at ro
  simp? [bZ,cR,ro,GP,ke]
 | some r =>
  rw[e] at ro
  have mr:=UX e
  rcases wH r with⟨l,rfl⟩ | ⟨y,l,rfl⟩ | ⟨n1,n2,n3⟩
  . have m:l∈P.s1:=bK ok ex mr (k:=1) (t:=l) rfl;obtain⟨z,ez,mz⟩:=ba (l:=S.eA) (ns:=P.s1) W.l1 m;have ez':S.eA[(P.nm 1).idxOf l]?=some z:=ez;have at_:=bL (f:=fz) ez;obtain⟨zh,zm⟩:=z;simp only[ke,ez'];cases zh with
    | none=>simp? [bZ,cR,ro,GP,bq,Rw.w,Rw.ps,C.e0,v5,C.e5,j1,k7,iL,iH m,at_,fz,Jn]
    | some i=>simp? [bZ,cR,ro,GP,bq,Rw.w,Rw.ps,C.e0,v5,C.e5,j1,k7,iL,iH m,at_,fz,Jn]
  . have m:l∈P.s2:=bK ok ex mr (k:=2) (t:=l) rfl;obtain⟨z,ez,mz⟩:=ba (l:=S.cV) (ns:=P.s2) W.l2 m;have ez':S.cV[(P.nm 2).idxOf l]?=some z:=ez;have at_:=bL (f:=fu) ez;obtain⟨a,b,ls⟩:=z;simp only[ke,ez'];cases ls with
    | nil =>
     have q:=oE (ls:=[]) (h:=H)
     rw[Vh] at q
     simp? [bZ,cR,ro,GP,bq,Rw.w,Rw.ps,C.e0,v6,C.e6,j2,k7,iL,iH m,at_,fu,q]
    | cons i r =>
     have q:=oE (ls:=i::r) (h:=H)
     have ne:decide (i::r=[])=false:=rfl
     rw[ne,US] at q
     simp? [bZ,cR,ro,GP,bq,Rw.w,Rw.ps,C.e0,v6,C.e6,j2,k7,iL,iH m,at_,fu,q]
  . have r0:=λg=>rw_0 r g;have rn: ∀ g,ip false (bq r) g= .ok (.bl false) g:=λg=>IZ;rw[n3];simp? [bZ,cR,ro,GP,rn,r0,n1,n2]
theorem o9(k:Nat){H:PH}{n:Nat}{P:Pg}(ok:P.Ok){S:Wd}{N:Nat}(W:fR P N S)(C:Cells H n S):run pg (k+3) "_law_can" [P.v,.ref n] H= .ok (.ref H.length) (H++[.lst ((d7 P S).map gq)]):=by
 have hm:=ok.many;have i4: ∀ g,aB P.v (.int 4) g= .ok (.tup (P.hs.map bF)) g:=λg=>uo;have tn:Za ((P.hs.length:Nat):Int)=P.hs.length:=VH _;have lc:iq ⟨none,az 0 P.hs.length⟩ (aV 1 (gN 2) (aH (Au (ip false) (ag "_law_wait" (a3 (aa 0) (aa 1) (aa 2))))) (aa 2) (run pg (k+2)) [some P.v,some (.ref n)]) (az 0 P.hs.length) [] H= .ok ((d7 P S).map gq) H:=by
  refine(dw rfl (VX P.hs.length) [] (f:=λj=>if decide (cZ P S j= .non)=true then some (gq j) else none) (g:=λi:Nat=>PV.int (0+(i:Int))) (λi m=>?_) (by simp;omega)).trans (by rw[Vj,ny];rfl);have iz:(0:Int)+(i:Int)=(i:Int):=Yu _;have w:=vX T k ok W C (Xm.mp m);by_cases z:cZ P S i= .non
  . simp? [iz,w,z,IY,gq]
  . simp? [iz,w,z,IY,gq]
 rw[run_eq T.yj rfl];simp? [iA,pT,i4,UO,tn,lc];exact cj rfl
end
mutual
theorem CK(n:Nat): ∀ v:PV,v.flat=true->v.gW n=true
 | .tup xs,h=>by rw[PV.flat] at h;rw[PV.gW];exact fS n xs h
 | .ktup xs,h=>by rw[PV.flat] at h;rw[PV.gW];exact fS n xs h
 | .non,_=>rfl
 | .bl _,_=>rfl
 | .int _,_=>rfl
 | .str _,_=>rfl
 | .ty _,_=>rfl
 | .ref _,h=>nomatch h
theorem fS(n:Nat): ∀ xs:List PV,PV.aQ xs=true->PV.ib n xs=true
 | [],_=>rfl
 | x::r,h=>by
  rw[PV.aQ,U9] at h;rw[PV.ib,CK n x h.1,fS n r h.2];rfl
end
theorem gY{α :Type}{f: α ->PV}: ∀{l:List α},(∀ x∈l,(f x).flat=true)->PV.aQ (l.map f)=true
 | [],_=>rfl
 | x::r,h=>by rw[US,PV.aQ,h x U3,gY λz m=>h z (U6 _ m)];rfl
theorem DT(n:Nat)(D:Pk):(PO.dct (dM D)).gW n=true:=by
 show PV.ib n ((dM D).map λkv=>kv.2)=true;unfold dM;rw[VN];exact fS n _ (gY (f:=(λkv:Key × PV=>kv.2) ∘ λq:Str × Int=>((.inr q.1:Key),PV.int q.2)) λ_ _=>rfl)
theorem fV{h h':PH}{v:PV}(e:h'.length=h.length):P3.settle h v h'= .ok v h':=by
 unfold P3.settle;split
 . rw [<- e,Z7]
 . rfl
theorem zS {h g:PH} {n:Nat} {o:PO} (l:n < h.length):(h++g).set n o=h.set n o++g:=aaV _ _ l
theorem Et {r:Rw} (h:dS r=false): ¬ r.w∈(["clock", "lot", "hear"]:List Str):=by
 cases r<;>first | (simp only [Rw.w];decide +kernel) | exact nomatch h
theorem Bi {L:List Str} {n:Nat} {r:Rw} (hr:fk L n r) (h:dS r=true):(∃ x m,r= .lot x m∧2<=m∧m<=1000)∨(¬ r.w= "lot" /\ ∀ x m,¬ r= .lot x m):=by
 cases r with
 | lot x m=>exact .inl ⟨x,m,rfl,hr.2⟩
 | clock x=>exact .inr ⟨by simp only[Rw.w];decide +kernel,λ_ _ e=>nomatch e⟩
 | hear x d=>exact .inr ⟨by simp only[Rw.w];decide +kernel,λ_ _ e=>nomatch e⟩
 | _=>exact nomatch h
theorem Ha{m a b w:Int}(m0:2<=m)(a0:0<=a)(a1:a < m)(b0:0<=b)(b1:b < 2)(w0:0<=w)(w1:w < 4): ∃ v:Int,0<=v/\v < m/\d9 [PV.int 0,.int (m - 1),.int a,.int b] w=some (.int v):=by
 rcases(show w=0\/w=1\/w=2\/w=3 by omega) with rfl | rfl | rfl | rfl
 . exact⟨0,by omega,by omega,qQ⟩
 . exact⟨m - 1,by omega,by omega,xI⟩
 . exact⟨a,a0,a1,xO⟩
 . exact⟨b,b0,by omega,EJ⟩
section
variable{pg:Tb}(T:bS pg)
include T
theorem wA (j:Nat) (fr:PO) (q:Int × Int × Int) {L:List Str} {n:Nat} {r:Rw} (hr:fk L n r): ∃ (g:PV) (q':Int × Int × Int),ft r g∧ ∀ G,run pg (j+2) "_law_gift" [.ref 1,bq r] (fr::bp q::G)= .ok g (fr::bp q'::G):=by
 have r0:=λg=>rw_0 r g;have nin: ∀ (a:Str) h,kI (.str a) (.tup [.str "clock",.str "lot",.str "hear"]) h= .ok (.bl (!decide (a∈(["clock", "lot", "hear"]:List Str)))) h:=λa h=>zD (ss:=["clock", "lot", "hear"]);cases hq:dS r with
 | false =>
  have ng:=Et hq
  refine⟨.non,q,⟨λe=>(nomatch (hq.symm.trans e)),λ_=>rfl⟩,λG=>?_⟩
  rw[run_eq T.jy rfl]
  simp? [dG,gO,r0,nin,ng]
 | true =>
  obtain⟨m1,_⟩:=jG hq
  have fin_: ∀ m:Int,2<=m->m<=1000-> ∃(v:Int)(q':Int × Int × Int),0<=v/\v < m/\ ∀(G:PH)(e1:Option PV),∃ X:PH,(aw (ak aB (bH (ab (eI 0) (ab (ak rH (aa 2) (eI 1)) (ab (ag "_law_take" (a2 (aa 0) (aa 2))) (ab (ag "_law_take" (a2 (aa 0) (eI 2))) ah))))) (ag "_law_take" (a2 (aa 0) (eI 4))))) (run pg (j+1)) [some (.ref 1),e1,some (.int m)] (fr::bp q::G)= .ok (.rt (.int v)) (fr::bp q'::(G++X)):=λm m0 m9=>by
   obtain⟨a,q1,a0,a1,ea⟩:=cA T j fr q m (by omega) (by omega);obtain⟨b,q2,b0,b1,eb⟩:=cA T j fr q1 2 (by decide) (by decide);obtain⟨w,q3,w0,w1,ew⟩:=cA T j fr q2 4 (by decide) (by decide);obtain⟨v,v0,v1,ev⟩:=Ha m0 a0 a1 b0 b1 w0 w1;refine⟨v,q3,v0,v1,λG e1=>⟨[.lst [.int 0,.int (m - 1),.int a,.int b]],?_⟩⟩;simp? [ea,eb,ew,ev]
  rcases Bi hr hq with⟨x,m,rfl,m0,m9⟩ | ⟨nl,nl2⟩
  . obtain⟨v,q',v0,v1,fv⟩:=fin_ m m0 m9;refine⟨.int v,q',⟨λ_=>⟨v,rfl,v0,by omega,λx n e=>by cases e;exact v1⟩,λe=>(nomatch e)⟩,λG=>?_⟩;obtain⟨X,fx⟩:=fv G (some (bq (.lot x m)));rw[run_eq T.jy rfl];simp only[bq,Rw.w,Rw.ps] at fx m1;simp? [dG,gO,bq,Rw.w,Rw.ps,nin,m1,↓fx];exact dX rfl
  . obtain⟨v,q',v0,v1,fv⟩:=fin_ 1000 (by decide) (by decide);refine⟨.int v,q',⟨λ_=>⟨v,rfl,v0,by omega,λx n e=>absurd e (nl2 x n)⟩,λe=>(nomatch (hq.symm.trans e))⟩,λG=>?_⟩;obtain⟨X,fx⟩:=fv G (some (bq r));rw[run_eq T.jy rfl];simp? [dG,gO,r0,nin,m1,nl,↓fx];exact dX rfl
end
theorem uM{P:Pg}{N:Nat}{S:Wd}(W:fR P N S){b:Int × PV}(m:b∈S.iI):(gR b).flat=true:=by
 simp[gR,PV.flat,PV.aQ,((W.bx b m).2).flat]
theorem vJ{c:CF}{E:aq}{P:Pg}(ok:P.Ok){H:PH}{e1 e2 e3 e4 e5 e6 e7:Option PV}:iq ⟨none,P.bs.map cO⟩ (aV 1 (gN 8) bo (eX 8 0) c [some P.v,e1,e2,e3,e4,e5,e6,e7]) (P.bs.map cO) [] H= .ok ((P.nm 0).map PV.str) H:=by
 show _=RV.ok ((P.bs.map (·.1)).map PV.str) H
 have b20:=ok.bx.1;rw[VN];refine LC (l:=P.bs) (f:=PV.str ∘ λz:Str × Int=>z.1) (by omega) λx _=>?_;simp? [cO];rfl
section
variable{pg:Tb}(T:bS pg)
include T
theorem BN(k:Nat){H:PH}{n d:Nat}{P:Pg}(ok:P.Ok){S:Wd}{N:Nat}(W:fR P N S)(C:Cells H n S){L:List Str}(hL:L.length<=20){D:Pk}(ed:H[d]?=some (.dct (dM D)))(hD:qA L D){y b:Str}(m:b∈P.nm 0){z:Int × PV}(ez:S.iI[(P.nm 0).idxOf b]?=some z)(ev:PV):run pg (k+1) "_law_boxed" [P.v,.ref n,bq (.get y b),ev,.ref d] H= .ok (.tup [.str "get",.str b,.int z.1,z.2]) (H.set d (.dct (dM (putD D y z.1)))):=by
 obtain⟨v1,v2,v3,v4,v5,v6⟩:=dz n;have i0: ∀ g,aB P.v (.int 0) g= .ok (.tup (P.bs.map cO)) g:=λg=>tR;have old: ∀{i:Nat}{o:PO}(X:PH),H[i]?=some o->(H++X)[i]?=some o:=λX e=>(ay (aG e)).trans e;have c0:=old [.lst ((P.nm 0).map PV.str)] C.e0;have c4:=old [.lst ((P.nm 0).map PV.str)] C.e4;have cd:=old [.lst ((P.nm 0).map PV.str)] ed;have ix:=uB (h:=H++[.lst ((P.nm 0).map PV.str)]) (n:=H.length) cq m;have at_:=bL (f:=gR) ez;have zf:=uM W (UX ez);have ld:=aG ed;rw[run_eq T.lN rfl];simp? (disch:=first | assumption | omega) only[dQ,iW,bq,Rw.w,Rw.ps,i0,vJ (E:=[]) ok,C.e0,c0,v4,c4,cd,ix,at_,gR,lU (oA hL hD),jU,zS];refine kn ?_ ed rfl (DT _ _);simp only[gR,PV.flat,PV.aQ,XG,abk] at zf ⊢;exact zf
theorem BH(k:Nat){H:PH}{n d:Nat}{P:Pg}(ok:P.Ok){S:Wd}{N:Nat}(W:fR P N S)(C:Cells H n S){D:Pk}(ed:H[d]?=some (.dct (dM D))){L:List Str}(hD:qA L D){b:Str}{e:Sm}(he:jb e)(m:b∈P.nm 0){z:Int × PV}(ez:S.iI[(P.nm 0).idxOf b]?=some z){ev:PV}(evf:ev.flat=true):run pg (k+9) "_law_boxed" [P.v,.ref n,bq (.put b e),ev,.ref d] H= .ok (.tup [.str "put",.str b,.int (e.val (fP D)),z.2]) (H.set (n+4) (.lst ((S.iI.set ((P.nm 0).idxOf b) (e.val (fP D),ev)).map gR))):=by
 obtain⟨v1,v2,v3,v4,v5,v6⟩:=dz n;have i0: ∀ g,aB P.v (.int 0) g= .ok (.tup (P.bs.map cO)) g:=λg=>tR;have old: ∀{i:Nat}{o:PO}(X:PH),H[i]?=some o->(H++X)[i]?=some o:=λX e=>(ay (aG e)).trans e;have c0:=old [.lst ((P.nm 0).map PV.str)] C.e0;have c4:=old [.lst ((P.nm 0).map PV.str)] C.e4;have cd:=old [.lst ((P.nm 0).map PV.str)] ed;have ix:=uB (h:=H++[.lst ((P.nm 0).map PV.str)]) (n:=H.length) cq m;have at_:=bL (f:=gR) ez;have zf:=uM W (UX ez);have ld:=aG C.e4;have lk:(P.nm 0).idxOf b < S.iI.length:=(UP.mp ez).1;have w:=qp T hD.rS e (k+7) _ cd he.1 (by have:=he.2;omega)
 let B:=S.iI.set ((P.nm 0).idxOf b) (e.val (fP D),ev)
 have at2:d9 (B.map gR) ((P.nm 0).idxOf b:Int)=some (gR (e.val (fP D),ev)):=bL (Vx lk);have bB:(S.iI.map gR).set ((P.nm 0).idxOf b) (.tup [.int (e.val (fP D)),ev])=B.map gR:=bI gR S.iI _ (e.val (fP D),ev);have pl:=λh v=>nE (h:=h) (n:=n+4) (xs:=S.iI.map gR) (v:=v) (i:=((P.nm 0).idxOf b:Int)) rfl (by rw[UO];exact lk);rw[run_eq T.lN rfl];have o0: ∀ o:PO,(H.set (n+4) o++[.lst ((P.nm 0).map PV.str)])[n]?=some (.dct (qz n)):=λo=>by rw[ay (by rw[Vr];exact aG C.e0),aR (by omega)];exact C.e0
 have o4: ∀ o:PO,(H.set (n+4) o++[.lst ((P.nm 0).map PV.str)])[n+4]?=some o:=λo=>by rw[ay (by rw[Vr];exact ld)];exact kJ ld
 have uf:(PO.lst (B.map gR)).gW H.length=true:=fS _ _ (gY λq mq=>by
  rcases VS mq with mq | rfl
  . exact uM W mq
  . simp[gR,PV.flat,PV.aQ,evf])
 show _=RV.ok _ (H.set (n+4) (.lst (B.map gR)))
 clear_value B
 simp only[gR] at at2 at_ zf;simp? (disch:=first | assumption | omega) only[dQ,iW,bq,Rw.w,Rw.ps,i0,vJ (E:=[]) ok,c0,v4,c4,ix,at_,w,pl,bB,zS,o0,o4,at2];refine kn ?_ C.e4 rfl uf;simp only[PV.flat,PV.aQ,XG,abk] at zf ⊢;exact zf
theorem wz(k:Nat){H:PH}{n d:Nat}{P:Pg}{S:Wd}(C:Cells H n S){hl:List Str}(eh:H[d]?=some (.lst (hl.map PV.str)))(hd:n+6 < d)(hh:hl.length<=1000){l:Str}(m:l∈P.s1){z:Option Int × PV}(ez:S.eA[P.s1.idxOf l]?=some z)(j:Nat)(c:Int):run pg (k+1) "_law_locked" [P.v,.ref n,bq (.take l),jt j c,.ref d] H= .ok (.tup [.str "take",.str l,.non,z.2]) ((H.set (n+5) (.lst ((S.eA.set (P.s1.idxOf l) (some (j:Int),z.2)).map fz))).set d (.lst ((hl++[l]).map PV.str))):=by
 obtain⟨v1,v2,v3,v4,v5,v6⟩:=dz n;have j1: ∀ g,aB P.v (.int 1) g= .ok (.tup (P.s1.map PV.str)) g:=λg=>j6;have at_:=bL (f:=fz) ez;have ld:=aG C.e5;have lk:P.s1.idxOf l < S.eA.length:=(UP.mp ez).1
 let B:=S.eA.set (P.s1.idxOf l) (some (j:Int),z.2)
 have bB:(S.eA.map fz).set (P.s1.idxOf l) (.tup [.int (j:Int),z.2])=B.map fz:=bI fz S.eA _ (some (j:Int),z.2);have pl:=λh v=>nE (h:=h) (n:=n+5) (xs:=S.eA.map fz) (v:=v) (i:=(P.s1.idxOf l:Int)) rfl (by rw[UO];exact lk);have od: ∀ o:PO,(H.set (n+5) o)[d]?=some (.lst (hl.map PV.str)):=λo=>by rw[aR (by omega)];exact eh
 have hz:(hl.map PV.str).length < 16777216:=by rw[UO];omega
 show _=RV.ok _ ((H.set (n+5) (.lst (B.map fz))).set d (.lst ((hl++[l]).map PV.str)));rw[VG,run_eq T.kf rfl]
 clear_value B
 simp only[fz] at at_;simp? (disch:=first | assumption | omega) only[dj,gP,bq,Rw.w,Rw.ps,jt,j1,k7,iL,iH m,C.e0,v5,C.e5,at_,pl,bB,od,kM hz];exact fV (by rw[Vr,Vr])
theorem uX(k:Nat){H:PH}{n d:Nat}{P:Pg}{S:Wd}(C:Cells H n S){hl:List Str}(eh:H[d]?=some (.lst (hl.map PV.str)))(hd:n+6 < d){l:Str}(hm:l∈hl)(m:l∈P.s1){z:Option Int × PV}(ez:S.eA[P.s1.idxOf l]?=some z)(j:Nat)(c:Int):run pg (k+1) "_law_locked" [P.v,.ref n,bq (.free l),jt j c,.ref d] H= .ok (.tup [.str "free",.str l,.non,.non]) ((H.set (n+5) (.lst ((S.eA.set (P.s1.idxOf l) (none,jt j c)).map fz))).set d (.lst ((qY hl l).map PV.str))):=by
 obtain⟨v1,v2,v3,v4,v5,v6⟩:=dz n;have j1: ∀ g,aB P.v (.int 1) g= .ok (.tup (P.s1.map PV.str)) g:=λg=>j6;have at_:=bL (f:=fz) ez;have lk:P.s1.idxOf l < S.eA.length:=(UP.mp ez).1
 let B:=S.eA.set (P.s1.idxOf l) (none,jt j c)
 have bB:(S.eA.map fz).set (P.s1.idxOf l) (.tup [.non,.tup [.int (j:Int),.int c]])=B.map fz:=bI fz S.eA _ (none,jt j c);have pl:=λh v=>nE (h:=h) (n:=n+5) (xs:=S.eA.map fz) (v:=v) (i:=(P.s1.idxOf l:Int)) rfl (by rw[UO];exact lk);have od: ∀ o:PO,(H.set (n+5) o)[d]?=some (.lst (hl.map PV.str)):=λo=>by rw[aR (by omega)];exact eh
 have rm:=λo=>SW (h:=H.set (n+5) o) (n:=d) (od o) hm;show _=RV.ok _ ((H.set (n+5) (.lst (B.map fz))).set d (.lst ((qY hl l).map PV.str)));rw[run_eq T.kf rfl]
 clear_value B
 simp only[fz] at at_;simp? (disch:=first | assumption | omega) only[dj,gP,bq,Rw.w,Rw.ps,jt,j1,k7,iL,iH m,C.e0,v5,C.e5,at_,pl,bB,od,rm];exact fV (by rw[Vr,Vr])
theorem xt(k:Nat){H:PH}{n d:Nat}{P:Pg}{S:Wd}(C:Cells H n S){D:Pk}(ed:H[d]?=some (.dct (dM D))){L:List Str}(hD:qA L D){l:Str}{e:Sm}(he:jb e)(m:l∈P.s2){z:Int × Int × List Int}(ez:S.cV[P.s2.idxOf l]?=some z)(hz:z.2.2.length<=1000):run pg (k+9) "_law_laned" [P.v,.ref n,bq (.send l e),.ref d] H= .ok (.tup [.str "send",.str l,.int (e.val (fP D)),.int z.1]) (H.set (n+6) (.lst ((S.cV.set (P.s2.idxOf l) (z.1+1,z.2.1,z.2.2++[e.val (fP D)])).map fu))):=by
 obtain⟨v1,v2,v3,v4,v5,v6⟩:=dz n;have j2: ∀ g,aB P.v (.int 2) g= .ok (.tup (P.s2.map PV.str)) g:=λg=>wm;have at_:=bL (f:=fu) ez;have lk:P.s2.idxOf l < S.cV.length:=(UP.mp ez).1;have w:=qp T hD.rS e (k+7) _ ed he.1 (by have:=he.2;omega)
 let B:=S.cV.set (P.s2.idxOf l) (z.1+1,z.2.1,z.2.2++[e.val (fP D)])
 have bB:(S.cV.map fu).set (P.s2.idxOf l) (.tup [.int (z.1+1),.int z.2.1,.tup ((z.2.2++[e.val (fP D)]).map PV.int)])=B.map fu:=bI fu S.cV _ (z.1+1,z.2.1,z.2.2++[e.val (fP D)]);have pl:=λh v=>nE (h:=h) (n:=n+6) (xs:=S.cV.map fu) (v:=v) (i:=(P.s2.idxOf l:Int)) rfl (by rw[UO];exact lk);have ad: ∀ g,aX (.tup (z.2.2.map PV.int)) (.tup [.int (e.val (fP D))]) g= .ok (.tup ((z.2.2++[e.val (fP D)]).map PV.int)) g:=λg=>by
  rw[jJ (by simp only[UO,UU,Vk];omega),VG];rfl
 show _=RV.ok _ (H.set (n+6) (.lst (B.map fu)));rw[run_eq T.k8 rfl]
 clear_value B
 simp only[fu] at at_;simp? (disch:=first | assumption | omega) only[d8,iM,bq,Rw.w,Rw.ps,j2,k7,iL,iH m,C.e0,v6,C.e6,at_,w,↓ad,pl,bB];exact fV (by rw[Vr])
theorem vT(k:Nat){H:PH}{n d:Nat}{P:Pg}{S:Wd}(C:Cells H n S){D:Pk}(ed:H[d]?=some (.dct (dM D)))(hd:n+6 < d){L:List Str}(hL:L.length<=20)(hD:qA L D){y l:Str}(m:l∈P.s2){a b i:Int}{ls:List Int}(ez:S.cV[P.s2.idxOf l]?=some (a,b,i::ls)):run pg (k+1) "_law_laned" [P.v,.ref n,bq (.fetch y l),.ref d] H= .ok (.tup [.str "fetch",.str l,.int i,.int b]) ((H.set (n+6) (.lst ((S.cV.set (P.s2.idxOf l) (a,b+1,ls)).map fu))).set d (.dct (dM (putD D y i)))):=by
 obtain⟨v1,v2,v3,v4,v5,v6⟩:=dz n;have j2: ∀ g,aB P.v (.int 2) g= .ok (.tup (P.s2.map PV.str)) g:=λg=>wm;have at_:=bL (f:=fu) ez;have lk:P.s2.idxOf l < S.cV.length:=(UP.mp ez).1
 let B:=S.cV.set (P.s2.idxOf l) (a,b+1,ls)
 have bB:(S.cV.map fu).set (P.s2.idxOf l) (.tup [.int a,.int (b+1),.tup (ls.map PV.int)])=B.map fu:=bI fu S.cV _ (a,b+1,ls);have pl:=λh v=>nE (h:=h) (n:=n+6) (xs:=S.cV.map fu) (v:=v) (i:=(P.s2.idxOf l:Int)) rfl (by rw[UO];exact lk);have od: ∀ o:PO,(H.set (n+6) o)[d]?=some (.dct (dM D)):=λo=>by rw[aR (by omega)];exact ed
 show _=RV.ok _ ((H.set (n+6) (.lst (B.map fu))).set d (.dct (dM (putD D y i))));rw[run_eq T.k8 rfl]
 clear_value B
 simp only[fu,US] at at_;simp? (disch:=first | assumption | omega) only[d8,iM,bq,Rw.w,Rw.ps,j2,k7,iL,iH m,C.e0,v6,C.e6,at_,pZ,pl,bB,od,lU (oA hL hD),jU];exact fV (by rw[Vr,Vr])
end
theorem As(s:aI)(v:PV)(r:Rw):(after s v r).row=s.row+1:=by cases r<;>rfl
theorem vo{L:List Str}{rs:List Rw}{s:aI}{r:Rw}{v:PV}(hs:c8 L rs s)(e:rs[s.row]?=some r)(hr:fk L rs.length r)(hv: ∀ x,r.gh=some x-> ∃ i:Int,v= .int i/\0<=i/\i<=999):c8 L rs (after s v r):=by
 have hlt:s.row < rs.length:=(UP.mp e).1;rcases rw_cls r with⟨x,hx⟩ | ⟨l,rfl⟩ | ⟨l,rfl⟩ | ⟨_,af⟩
 . obtain⟨i,rfl,h0,h9⟩:=hv x hx;rw[js hx];exact⟨wY hs.pk (hr.pk hx) h0 h9,hlt⟩
 . exact⟨hs.pk,hlt⟩
 . exact⟨hs.pk,hlt⟩
 . rw[af];exact⟨hs.pk,hlt⟩
theorem qg{P:Pg}{S:Wd}{j:Nat}{x:Str × List Rw}{s:aI}{y l:Str}(ex:P.hs[j]?=some x)(es:S.bg[j]?=some s)(er:x.2[s.row]?=some (.fetch y l))(hw:cZ P S j= .non){z:Int × Int × List Int}(ez:S.cV[(P.nm 2).idxOf l]?=some z): ∃ a b i ls,z=(a,b,i::ls):=by
 obtain⟨za,zb,zl⟩:=z;cases zl with
 | cons i ls=>exact⟨za,zb,i,ls,rfl⟩
 | nil =>
  unfold cZ at hw
  rw[fg ex es,er] at hw
  simp only[ke,ez] at hw
  exact nomatch hw
theorem uq{P:Pg}{N:Nat}{S:Wd}(W:fR P N S):S.iI.length=(P.nm 0).length:=by rw[W.l0];exact(UO ..).symm
theorem yt{P:Pg}(ok:P.Ok){N:Nat}{S:Wd}(W:fR P N S){j:Nat}{x:Str × List Rw}{s:aI}{c:Int}{r:Rw}(ex:P.hs[j]?=some x)(es:S.bg[j]?=some s)(er:x.2[s.row]?=some r)(hw:cZ P S j= .non){g:PV}(hg:ft r g): ∀ y,r.gh=some y-> ∃ i:Int,(met P S j c s g r).2.1= .int i/\0<=i/\i<=999:=by
 have mr:=UX er;have gi:dS r=true-> ∃ i:Int,(met P S j c s g r).2.1= .int i/\0<=i/\i<=999:=λhq=>by
  obtain⟨i,rfl,h0,h9,_⟩:=hg.1 hq;rw[(jG hq).2.2];exact⟨i,rfl,h0,h9⟩
 intro y hy;cases r with
 | get y' b =>
  obtain⟨z,ez,mz⟩:=ba (uq W) (bK ok ex mr (k:=0) (t:=b) rfl)
  exact⟨z.1,by simp only[met,ez,Vd],(W.bx z mz).1⟩
 | fetch y' l =>
  obtain⟨z,ez,mz⟩:=ba (l:=S.cV) (ns:=P.nm 2) W.l2 (bK ok ex mr (k:=2) (t:=l) rfl)
  obtain⟨a,b,i,ls,rfl⟩:=qg ex es er hw ez
  exact⟨i,by simp only[met,ez,Vd,YY],(W.ln _ mz).2.2.2 i U3⟩
 | clock _=>exact gi rfl
 | lot _ _=>exact gi rfl
 | hear _ _=>exact gi rfl
 | _=>exact nomatch hy
theorem Rep.J3{H:PH}{n:Nat}{P:Pg}{S:Wd}{ss:List aI}(R:Rep H n P S ss){j:Nat}{s s':aI}(es:ss[j]?=some s)(hp:s'.ps=s.ps)(hh:s'.held=s.held):Rep H n P S (ss.set j s'):=by
 refine⟨R.c,λi y t ey et=>?_,R.g⟩;have lj:=(UP.mp es).1;by_cases z:j=i
 . subst z;rw[Vx lj] at et;cases et;obtain⟨D,hl,h1,h2,h3,h4,h5,h6⟩:=R.p j y s ey es;exact⟨D,hl,h1,h2,h3,by rw[hp];exact h4,h5,by rw[hh];exact h6⟩
 . rw[VU z] at et;exact R.p i y t ey et
theorem EG{hl:List Str}(nd:hl.Nodup)(a y:Str):y∈qY hl a↔y∈hl/\y≠a:=by
 unfold qY;rw[<- List.erase_eq_eraseIdx_of_idxOf rfl,nd.mem_erase_iff];exact And.comm
theorem Ga{hl:List Str}(nd:hl.Nodup)(a:Str):(qY hl a).Nodup:=by
 unfold qY;exact nd.sublist (List.eraseIdx_sublist ..)
noncomputable def BU:MS:=(bR (aH (ak jz (eX 7 0) (ao (a2 (eS "get") (eS "put"))))) (ai (ag "_law_boxed" (ab (aa 0) (ab (aa 1) (a3 (aa 7) (aa 8) (aa 5))))) (gN 9)) (bR (aH (ak jz (eX 7 0) (ao (a2 (eS "take") (eS "free"))))) (ai (ag "_law_locked" (ab (aa 0) (ab (aa 1) (a3 (aa 7) (aa 8) (aa 6))))) (gN 9)) (bR (aH (ak jz (eX 7 0) (ao (a2 (eS "send") (eS "fetch"))))) (ai (ag "_law_laned" (ab (aa 0) (a3 (aa 1) (aa 7) (aa 5)))) (gN 9)) (bR (mQ (eX 7 0) (eS "say")) (ae (ai (IH (eX 0 3) (a1 (eX 7 1))) (gN 10))
  (ae (ai (ao (ab (eS "say") (ab (eX 7 1) (ab (ag "_law_worth" (a2 (eX 7 2) (aa 5))) (ab (ak aB (ak aB (aa 1) (eS "doors")) (aa 10)) ah))))) (gN 9))
  (gF fG (ak aB (aa 1) (eS "doors")) (aa 10) (ak aX (ak aB (ak aB (aa 1) (eS "doors")) (aa 10)) (eI 1))))) (ae (gF fG (aa 5) (eX 7 1) (aa 3))
  (ai (ao (ab (eX 7 0) (ab (uO (mQ (eX 7 0) (eS "hear")) (eX 7 2) (eS "")) (a2 (aa 3) (eC .non))))) (gN 9)))))))
theorem E7(a b c:Str)(h:PH):jz (.str a) (.tup [.str b,.str c]) h= .ok (.bl (decide (a=b\/a=c))) h:=by
 have:=xB (a:=a) (ss:=[b,c]) (h:=h);simpa using this
section
variable{pg:Tb}(T:bS pg)
include T
theorem NH(k:Nat){H:PH}{n:Nat}{P:Pg}(ok:P.Ok){S:Wd}{N:Nat}(W:fR P N S)(N9:N<=60)(R:Rep H n P S S.bg){j:Nat}{x:Str × List Rw}{s:aI}{c:Int}{r:Rw}(ex:P.hs[j]?=some x)(es:S.bg[j]?=some s)(ec:S.cE[j]?=some c)(er:x.2[s.row]?=some r)(hw:cZ P S j= .non){g:PV}(hg:ft r g)(e4:Option PV) :
  ∃(H1:PH)(f10:Option PV),Fr n P.hs.length H H1/\Rep H1 n P (met P S j c s g r).1 (S.bg.set j (after s (met P S j c s g r).2.1 r)) /\
   BU (run pg (k+10)) [some P.v,some (.ref n),some (.int j),some g,e4,some (.ref (n+7+3*j)),some (.ref (n+9+3*j)),some (bq r),some (jt j c),none,none] H= .ok (.nx [some P.v,some (.ref n),some (.int j),some g,e4,some (.ref (n+7+3*j)),some (.ref (n+9+3*j)),some (bq r),some (jt j c),some (df r (met P S j c s g r).2.1 (met P S j c s g r).2.2),f10]) H1:=by
 have so:=W.se j x s ex es;have mr:=UX er;have C:=R.cells;have lj:=(UP.mp ex).1;obtain⟨l1,l2,l3⟩:=eJ (ok.hd x (UX ex));obtain⟨D,hl,p1,p2,p3,p4,p5,p6⟩:=R.p j x s ex es;have hr:=l3 r mr;have hv:=yt ok W (c:=c) ex es er hw hg;have ow:=(jr so.re er).1;have cl:=(jr so.re er).2;obtain⟨v1,v2,v3,v4,v5,v6⟩:=dz n;have ff:fP D=fP s.ps:=funext p4;have ld:=aG p1;have ll:=aG p2;have hl9:=oA (by omega) p3;have gi:dS r=true-> ∀ y,r.gh=some y->(∀ h,aB (bq r) (.int 1) h= .ok (.str y) h)-> ∃(H1:PH),Fr n P.hs.length H H1/\Rep H1 n P (met P S j c s g r).1 (S.bg.set j (after s (met P S j c s g r).2.1 r))/\ ∃ i:Int,g= .int i/\H1=H.set (n+7+3*j) (.dct (dM (putD D y i))):=λhq y hy _=>by
  obtain⟨i,rfl,h0,h9,_⟩:=hg.1 hq;refine⟨_,Fr.refl.set (by omega) (by omega),?_,i,rfl,rfl⟩;rw[(jG hq).2.2];exact R.put ex es (oD p3 (hr.pk hy) h0 h9) (λz=>by rw[js hy,oB,p4];exact(sO so.so.pk.nd y i z).symm) (by rw[js hy])
 cases r with
 | get y b =>
  have m:=bK ok ex mr (k:=0) (t:=b) rfl
  obtain⟨z,ez,mz⟩:=ba (uq W) m
  have hz:=(W.bx z mz).1
  have st:=BN T (k+9) ok W C (by omega) p1 p3 (y:=y) m ez (jt j c)
  refine⟨_,none,Fr.refl.set (i:=n+7+3*j) (o:= .dct (dM (putD D y z.1))) (by omega) (by omega),?_,?_⟩
  . simp only[met,ez,Vd];exact R.put ex es (oD p3 hr hz.1 hz.2) (λq=>by rw[oB,p4];exact(sO so.so.pk.nd y z.1 q).symm) rfl
  . simp only[bq,Rw.w,Rw.ps] at st;simp? [BU,bq,Rw.w,Rw.ps,E7,st,met,ez,Vd,df,Rw.tg,Rw.th,true_or,or_true,or_false,false_or]
 | put b e =>
  have m:=bK ok ex mr (k:=0) (t:=b) rfl
  obtain⟨z,ez,mz⟩:=ba (uq W) m
  have st:=BH T (k+1) ok W C p1 p3 hr m ez (ev:=jt j c) rfl
  rw[ff] at st
  refine⟨_,none,Fr.refl.set (i:=n+4) (o:= .lst ((S.iI.set ((P.nm 0).idxOf b) (e.val (fP s.ps),jt j c)).map gR)) (by omega) (by omega),?_,?_⟩
  . refine Rep.J3 (s:=s) ?_ es rfl rfl;exact R.set (i:=4) (S':={ S with iI:=S.iI.set ((P.nm 0).idxOf b) (e.val (fP s.ps),jt j c) }) (by decide) (by rintro (_ | _ | _ | _ | _ | _ | _ | _) a b<;>first | rfl | omega)
  . simp only[bq,Rw.w,Rw.ps] at st;simp? [BU,bq,Rw.w,Rw.ps,E7,st,met,ez,Vd,df,Rw.tg,Rw.th,true_or,or_true,or_false,false_or]
 | take l =>
  have m:l∈P.s1:=bK ok ex mr (k:=1) (t:=l) rfl
  obtain⟨z,ez,mz⟩:=ba (l:=S.eA) (ns:=P.s1) W.l1 m
  have ez':S.eA[(P.nm 1).idxOf l]?=some z:=ez
  have nl:l ∉ s.held:=by simpa [own] using ow
  have hh:hl.length<=1000:=by
   have:=Xs p5 (l₂ :=s.held) λy hy=>(p6 y).mp hy;have:=so.le;omega
  have st:=wz T (k+9) (P:=P) C p2 (by omega) hh m ez j c
  refine⟨_,none,(Fr.refl.set (i:=n+5) (o:= .lst ((S.eA.set (P.s1.idxOf l) (some (j:Int),z.2)).map fz)) (by omega) (by omega)).set (i:=n+9+3*j) (o:= .lst ((hl++[l]).map PV.str)) (by omega) (by omega),?_,?_⟩
  . simp only[met,ez',Vd];refine(R.set (i:=5) (S':={ S with eA:=S.eA.set (P.s1.idxOf l) (some (j:Int),z.2) }) (by decide) (by rintro (_ | _ | _ | _ | _ | _ | _ | _) a b<;>first | rfl | omega)).hold ex es ?_ (λy=>?_) rfl
    . exact XN.mpr ⟨p5,by simp,λa ha b hb e=>nl (by rw[<- VL.mp hb,<- e];exact(p6 a).mp ha)⟩
    . show y∈hl++[l]↔y∈cx (s.held++[l]);rw[(cg _).mem_iff,VT,VT,p6]
  . simp only[bq,Rw.w,Rw.ps] at st;simp? [BU,bq,Rw.w,Rw.ps,E7,st,met,ez',Vd,df,Rw.tg,Rw.th,true_or,or_true,or_false,false_or]
 | free l =>
  have m:l∈P.s1:=bK ok ex mr (k:=1) (t:=l) rfl
  obtain⟨z,ez,mz⟩:=ba (l:=S.eA) (ns:=P.s1) W.l1 m
  have ih:l∈s.held:=by simpa [own] using ow
  have st:=uX T (k+9) (P:=P) C p2 (by omega) ((p6 l).mpr ih) m ez j c
  refine⟨_,none,(Fr.refl.set (i:=n+5) (o:= .lst ((S.eA.set (P.s1.idxOf l) (none,jt j c)).map fz)) (by omega) (by omega)).set (i:=n+9+3*j) (o:= .lst ((qY hl l).map PV.str)) (by omega) (by omega),?_,?_⟩
  . refine(R.set (i:=5) (S':={ S with eA:=S.eA.set (P.s1.idxOf l) (none,jt j c) }) (by decide) (by rintro (_ | _ | _ | _ | _ | _ | _ | _) a b<;>first | rfl | omega)).hold ex es (Ga p5 l) (λy=>?_) rfl;rw[EG p5,p6];show _↔y∈s.held.filter λz=> !decide (z=l);rw[Wl];simp
  . simp only[bq,Rw.w,Rw.ps] at st;simp? [BU,bq,Rw.w,Rw.ps,E7,st,met,df,Rw.tg,Rw.th,true_or,or_true,or_false,false_or]
 | send l e =>
  have m:l∈P.s2:=bK ok ex mr (k:=2) (t:=l) rfl
  obtain⟨z,ez,mz⟩:=ba (l:=S.cV) (ns:=P.s2) W.l2 m
  have ez':S.cV[(P.nm 2).idxOf l]?=some z:=ez
  have hz:=(W.ln z mz).2.2.1
  have st:=xt T (k+1) (P:=P) C p1 p3 hr m ez (by omega)
  rw[ff] at st
  refine⟨_,none,Fr.refl.set (i:=n+6) (o:= .lst ((S.cV.set (P.s2.idxOf l) (z.1+1,z.2.1,z.2.2++[e.val (fP s.ps)])).map fu)) (by omega) (by omega),?_,?_⟩
  . simp only[met,ez',Vd];refine Rep.J3 (s:=s) ?_ es rfl rfl;exact R.set (i:=6) (S':={ S with cV:=S.cV.set (P.s2.idxOf l) (z.1+1,z.2.1,z.2.2++[e.val (fP s.ps)]) }) (by decide) (by rintro (_ | _ | _ | _ | _ | _ | _ | _) a b<;>first | rfl | omega)
  . simp only[bq,Rw.w,Rw.ps] at st;simp? [BU,bq,Rw.w,Rw.ps,E7,st,met,ez',Vd,df,Rw.tg,Rw.th,true_or,or_true,or_false,false_or]
 | fetch y l =>
  have m:l∈P.s2:=bK ok ex mr (k:=2) (t:=l) rfl
  obtain⟨z,ez,mz⟩:=ba (l:=S.cV) (ns:=P.s2) W.l2 m
  obtain⟨a,b,i,ls,rfl⟩:=qg ex es er hw (z:=z) ez
  have ez':S.cV[(P.nm 2).idxOf l]?=some (a,b,i::ls):=ez
  have hi:=(W.ln _ mz).2.2.2 i U3
  have st:=vT T (k+9) (P:=P) C p1 (by omega) (by omega) p3 (y:=y) m ez
  refine⟨_,none,(Fr.refl.set (i:=n+6) (o:= .lst ((S.cV.set (P.s2.idxOf l) (a,b+1,ls)).map fu)) (by omega) (by omega)).set (i:=n+7+3*j) (o:= .dct (dM (putD D y i))) (by omega) (by omega),?_,?_⟩
  . simp only[met,ez',Vd,acv,YY];refine(R.set (i:=6) (S':={ S with cV:=S.cV.set (P.s2.idxOf l) (a,b+1,ls) }) (by decide) (by rintro (_ | _ | _ | _ | _ | _ | _ | _) a b<;>first | rfl | omega)).put ex es (oD p3 hr hi.1 hi.2) (λq=>?_) rfl;rw[oB,p4];exact(sO so.so.pk.nd y i q).symm
  . simp only[bq,Rw.w,Rw.ps] at st;simp? [BU,bq,Rw.w,Rw.ps,E7,st,met,ez',Vd,YY,df,Rw.tg,Rw.th,true_or,or_true,or_false,false_or]
 | say d e =>
  have m:d∈P.s3:=bK ok ex mr (k:=3) (t:=d) rfl
  obtain⟨z,ez,mz⟩:=ba (l:=S.ki) (ns:=P.s3) W.l3 m
  have ez':S.ki[(P.nm 3).idxOf d]?=some z:=ez
  have j3: ∀ g,aB P.v (.int 3) g= .ok (.tup (P.s3.map PV.str)) g:=λg=>Bh
  have at_:=bL (f:=PV.int) ez
  have lk:P.s3.idxOf d < S.ki.length:=(UP.mp ez).1
  have w:run pg (k+10) "_law_worth" [ig e,.ref (n+7+3*j)] H= .ok (.int (e.val (fP s.ps))) H:=by
   rw[<- ff];exact qp T p3.rS e (k+9) _ p1 hr.1 (by have:=hr.2;omega)
  have pl:=λh v=>nE (h:=h) (n:=n+3) (xs:=S.ki.map PV.int) (v:=v) (i:=(P.s3.idxOf d:Int)) rfl (by rw[UO];exact lk)
  have bB:(S.ki.map PV.int).set (P.s3.idxOf d) (.int (z+1))=(S.ki.set (P.s3.idxOf d) (z+1)).map PV.int:=bI PV.int S.ki _ (z+1)
  refine⟨_,some (.int (P.s3.idxOf d:Nat)),Fr.refl.set (i:=n+3) (o:= .lst ((S.ki.set (P.s3.idxOf d) (z+1)).map PV.int)) (by omega) (by omega),?_,?_⟩
  . simp only[met,ez',Vd];refine Rep.J3 (s:=s) ?_ es rfl rfl;exact R.set (i:=3) (S':={ S with ki:=S.ki.set (P.s3.idxOf d) (z+1) }) (by decide) (by rintro (_ | _ | _ | _ | _ | _ | _ | _) a b<;>first | rfl | omega)
  . simp? [BU,bq,Rw.w,Rw.ps,E7,j3,k7,iL,iH m,w,C.e0,v3,C.e3,at_,pl,bB,met,ez',Vd,df,Rw.tg,Rw.th,true_or,or_true,or_false,false_or]
 | clock y =>
  obtain⟨H1,f,rp,i,rfl,rfl⟩:=gi rfl y rfl (λh=>j6)
  refine⟨_,none,f,rp,?_⟩
  simp? [BU,bq,Rw.w,Rw.ps,E7,p1,lU hl9,jU,met,df,Rw.tg,Rw.th,true_or,or_true,or_false,false_or]
 | lot y q =>
  obtain⟨H1,f,rp,i,rfl,rfl⟩:=gi rfl y rfl (λh=>j6)
  refine⟨_,none,f,rp,?_⟩
  simp? [BU,bq,Rw.w,Rw.ps,E7,p1,lU hl9,jU,met,df,Rw.tg,Rw.th,true_or,or_true,or_false,false_or]
 | hear y d =>
  obtain⟨H1,f,rp,i,rfl,rfl⟩:=gi rfl y rfl (λh=>j6)
  refine⟨_,none,f,rp,?_⟩
  simp? [BU,bq,Rw.w,Rw.ps,E7,p1,lU hl9,jU,met,df,Rw.tg,Rw.th,true_or,or_true,or_false,false_or]
 | let_ _ _=>exact nomatch ow
 | leap _ _=>exact nomatch ow
end
section
variable{pg:Tb}(T:bS pg)
include T
theorem AI(k:Nat){H:PH}{n:Nat}{P:Pg}(ok:P.Ok){S:Wd}{N:Nat}(W:fR P N S)(N9:N<=60)(R:Rep H n P S S.bg){j:Nat}{x:Str × List Rw}{s:aI}{c:Int}{r:Rw}(ex:P.hs[j]?=some x)(es:S.bg[j]?=some s)(ec:S.cE[j]?=some c)(er:x.2[s.row]?=some r)(hw:cZ P S j= .non){g:PV}(hg:ft r g) :
  ∃ H1:PH,Fr n P.hs.length H H1/\Rep H1 n P (fD P S j c x.2 s g r) (fD P S j c x.2 s g r).bg/\run pg (k+11) "_law_go" [P.v,.ref n,.int j,g] H= .ok (df r (met P S j c s g r).2.1 (met P S j c s g r).2.2) H1:=by
 have C:=R.cells;have lj:=(UP.mp ex).1;have so:=W.se j x s ex es;obtain⟨l1,l2,l3⟩:=eJ (ok.hd x (UX ex));obtain⟨v1,v2,v3,v4,v5,v6⟩:=dz n;obtain⟨H1,f10,F1,R1,A4⟩:=NH T k ok W N9 R ex es ec er hw hg (some (.int s.row));have hv:=yt ok W (c:=c) ex es er hw hg;have mc:(met P S j c s g r).1.cE=S.cE/\(met P S j c s g r).1.bg=S.bg:=by cases r<;>exact⟨rfl,rfl⟩
 let M:=(met P S j c s g r).1
 let v:=(met P S j c s g r).2.1
 let m:=(met P S j c s g r).2.2
 let t:=after s v r
 have lc:j < S.cE.length:=(UP.mp ec).1;have ls:j < S.bg.length:=(UP.mp es).1;have R2:Rep (H1.set (n+1) (.lst ((S.cE.set j (c+1)).map PV.int))) n P { M with cE:=S.cE.set j (c+1) } (S.bg.set j t):=R1.set (i:=1) (S':={ M with cE:=S.cE.set j (c+1) }) (by decide) (by rintro (_ | _ | _ | _ | _ | _ | _ | _) a b<;>first | rfl | omega)
 let H2:=H1.set (n+1) (.lst ((S.cE.set j (c+1)).map PV.int))
 have et:(S.bg.set j t)[j]?=some t:=Vx ls;have hs1:c8 (JJ x) x.2 t:=vo so.so er (l3 r (UX er)) hv;obtain⟨D,hl,p1,p2,p3,p4,p5,p6⟩:=R2.p j x t ex et;obtain⟨D',d1,d2,d3⟩:=yT T k H2 (d:=n+7+3*j) (l:=n+9+3*j) (by omega) (by omega) l3 p1 p2 p6 hs1 p3 p4
 let t':=bf x.2 200 t
 have R3:Rep (H2.set (n+7+3*j) (.dct (dM D'))) n P { M with cE:=S.cE.set j (c+1) } ((S.bg.set j t).set j t'):=R2.put ex et d1 d2 (cP 200 t);rw[List.set_set] at R3
 let H3:=H2.set (n+7+3*j) (.dct (dM D'))
 have R4:Rep (H3.set (n+2) (.lst (sL n (S.bg.set j t')))) n P { M with cE:=S.cE.set j (c+1),bg:=S.bg.set j t' } (S.bg.set j t'):=R3.set (i:=2) (S':={ M with cE:=S.cE.set j (c+1),bg:=S.bg.set j t' }) (by decide) (by rintro (_ | _ | _ | _ | _ | _ | _ | _) a b<;>first | rfl | omega);have Sw:fD P S j c x.2 s g r={ M with cE:=S.cE.set j (c+1),bg:=S.bg.set j t' }:=by
  show ka M j c t'=_;unfold ka;have e1:M.cE=S.cE:=mc.1;have e2:M.bg=S.bg:=mc.2;rw[e1,e2]
 refine⟨H3.set (n+2) (.lst (sL n (S.bg.set j t'))),((F1.set (by omega) (by omega)).set (by omega) (by omega)).set (by omega) (by omega),by rw[Sw];exact R4,?_⟩;have ro:=kz T (k+9) W C lj;rw[fg ex es,er] at ro;have ro':run pg (k+10) "_law_row" [P.v,.ref n,.int j] H= .ok (bq r) H:=ro;have C1:=R1.cells;have C2:=R2.cells;have C3:=R3.cells;have se:d9 (sL n S.bg) (j:Int)=some (ub n j s):=P3.eP rfl (Cj es);have ac:d9 (S.cE.map PV.int) (j:Int)=some (.int c):=bL ec;have i4: ∀ g,aB P.v (.int 4) g= .ok (.tup (P.hs.map bF)) g:=λg=>uo;have ih: ∀ g,aB (.tup (P.hs.map bF)) (.int j) g= .ok (bF x) g:=λg=>kq (bL ex);have i1: ∀ g,aB (bF x) (.int 1) g= .ok (bG x.2) g:=λg=>j6;have up:((s.row:Int)+1)=((t.row:Nat):Int):=by show _=(((after s v r).row:Nat):Int);rw[As];omega
 have pc:=λh w=>nE (h:=h) (n:=n+1) (xs:=S.cE.map PV.int) (v:=w) (i:=(j:Int)) rfl (by rw[UO];exact lc);have bc:(S.cE.map PV.int).set j (.int (c+1))=(S.cE.set j (c+1)).map PV.int:=bI PV.int S.cE j (c+1);have ps:=λh w=>nE (h:=h) (n:=n+2) (xs:=sL n S.bg) (v:=w) (i:=(j:Int)) rfl (by rw[yy];exact ls);have bs:(sL n S.bg).set j (.tup [.int t'.row,.ref (n+7+3*j),.ref (n+9+3*j)])=sL n (S.bg.set j t'):=Ki n j S.bg t';have c11:H1[n+1]?=some (.lst (S.cE.map PV.int)):=by have:=C1.e1;rw[mc.1] at this;exact this
 have c32:H3[n+2]?=some (.lst (sL n S.bg)):=by
  have:=C3.e2;have e2:M.bg=S.bg:=mc.2;show _=some (PO.lst (sL n S.bg));rw[<- e2];exact this
 have c10:=C1.e0;have c30:H3[n]?=some (.dct (qz n)):=C3.e0;have d3':run pg (k+10) "_law_rest" [bG x.2,.int t.row,.ref (n+7+3*j),.ref (n+9+3*j)] H2= .ok (.int t'.row) H3:=d3;have h2:H1.set (n+1) (.lst ((S.cE.set j (c+1)).map PV.int))=H2:=rfl;have A:mH (run pg (k+10)) [some P.v,some (.ref n),some (.int j),some g,none,none,none,none,none,none,none] H= .ok (.rt (df r v m)) (H3.set (n+2) (.lst (sL n (S.bg.set j t')))):=by
  show ae _ (ae _ (ae _ (ae BU (ae _ (ae _ _))))) _ _ _=_;refine(bV (e1:=[some P.v,some (.ref n),some (.int j),some g,some (.int s.row),some (.ref (n+7+3*j)),some (.ref (n+9+3*j)),none,none,none,none]) (h1:=H) ?_).trans ?_
  . simp? [C.e0,v2,C.e2,se,ub]
  refine(bV (e1:=[some P.v,some (.ref n),some (.int j),some g,some (.int s.row),some (.ref (n+7+3*j)),some (.ref (n+9+3*j)),some (bq r),none,none,none]) (h1:=H) ?_).trans ?_
  . simp? [ro']
  refine(bV (e1:=[some P.v,some (.ref n),some (.int j),some g,some (.int s.row),some (.ref (n+7+3*j)),some (.ref (n+9+3*j)),some (bq r),some (jt j c),none,none]) (h1:=H) ?_).trans ?_
  . simp? [C.e0,v1,C.e1,ac,jt]
  refine(bV A4).trans ?_;refine(bV (e1:=[some P.v,some (.ref n),some (.int j),some g,some (.int s.row),some (.ref (n+7+3*j)),some (.ref (n+9+3*j)),some (bq r),some (jt j c),some (df r v m),f10]) (h1:=H2) ?_).trans ?_
  . simp? [c10,v1,c11,jt,pc,bc,h2];rfl
  clear_value H3 t t' v m
  clear_value H2
  simp? [i4,ih,i1,up,d3',c30,v2,c32,ps,bs]
 rw[run_eq T.Ag rfl];show fin _ (mH (run pg (k+10)) [some P.v,some (.ref n),some (.int j),some g,none,none,none,none,none,none,none] H)=_;rw[A,kC];exact fV (by rw[Vr,Vr,Vr];exact F1.len)
end
theorem uv.up{N:Nat}{v:PV}(h:uv N v):uv (N+1) v:=by
 rcases h with h | ⟨a,b,h,h1,h2,h3,h4⟩
 . exact .inl h
 . exact .inr ⟨a,b,h,h1,h2,h3,by omega⟩
theorem Qz.up{P:Pg}{N:Nat}{x:Str × List Rw}{s:aI}(h:Qz P N x s):Qz P (N+1) x s:=⟨h.so,h.nd,by have:=h.le;omega,h.re,h.nm,h.sr⟩
theorem fR.up{P:Pg}{N:Nat}{S:Wd}(W:fR P N S):fR P (N+1) S where
 lc:=W.lc
 ls:=W.ls
 l0:=W.l0
 l1:=W.l1
 l2:=W.l2
 l3:=W.l3
 ct c m:=by have:=W.ct c m;omega
 bx b m:=⟨(W.bx b m).1,(W.bx b m).2.up⟩
 lk l m:=⟨(W.lk l m).1,(W.lk l m).2.up⟩
 ln n m:=by have:=W.ln n m;exact⟨by omega,by omega,by omega,this.2.2.2⟩
 dr d m:=by have:=W.dr d m;omega
 se j x s e1 e2:=(W.se j x s e1 e2).up
theorem LW{P:Pg}(ok:P.Ok){N:Nat}{S:Wd}(W:fR P N S){j:Nat}{x:Str × List Rw}{s:aI}{c:Int}{r:Rw}(ex:P.hs[j]?=some x)(es:S.bg[j]?=some s)(ec:S.cE[j]?=some c)(er:x.2[s.row]?=some r)(hw:cZ P S j= .non){g:PV}(hg:ft r g):fR P (N+1) (met P S j c s g r).1:=by
 have mr:=UX er;have U:=W.up;have lj:=(UP.mp ex).1;have hm:=ok.many;have hc:=W.ct c (UX ec);have so:=W.se j x s ex es;obtain⟨l1,l2,l3⟩:=eJ (ok.hd x (UX ex));have hr:=l3 r mr;have rS: ∀ e:Sm,jb e->0<=e.val (fP s.ps)/\e.val (fP s.ps)<=999:=λe he=>Sm.nh (wu λq m=>(so.so.pk.mem q m).2) e he.1;have mk:uv (N+1) (jt j c):= .inr ⟨j,c,rfl,by omega,by omega,by omega,by omega⟩;cases r with
 | get y b=>exact U
 | put b e=>exact{ U with
   l0:=by rw[<- U.l0];exact Vr
   bx:=λq m=>by
    rcases VS m with m | rfl
    . exact U.bx q m
    . exact⟨rS e hr,mk⟩ }
 | take l =>
  obtain⟨z,ez,mz⟩:=ba (l:=S.eA) (ns:=P.nm 1) W.l1 (bK ok ex mr (k:=1) (t:=l) rfl)
  simp only[met,ez,Vd]
  exact{ U with
   l1:=by rw[<- U.l1];exact Vr
   lk:=λq m=>by
    rcases VS m with m | rfl
    . exact U.lk q m
    . exact⟨λi e=>by cases e;omega,(U.lk z mz).2⟩ }
 | free l=>exact{ U with
   l1:=by rw[<- U.l1];exact Vr
   lk:=λq m=>by
    rcases VS m with m | rfl
    . exact U.lk q m
    . exact⟨λi e=>(nomatch e),mk⟩ }
 | send l e =>
  obtain⟨z,ez,mz⟩:=ba (l:=S.cV) (ns:=P.nm 2) W.l2 (bK ok ex mr (k:=2) (t:=l) rfl)
  have hz:=W.ln z mz
  simp only[met,ez,Vd]
  exact{ U with
   l2:=by rw[<- U.l2];exact Vr
   ln:=λq m=>by
    rcases VS m with m | rfl
    . exact U.ln q m
    . refine⟨by show 0<=z.1+1/\z.1+1<=((N+1:Nat):Int);omega,by show 0<=z.2.1/\z.2.1<=((N+1:Nat):Int);omega,by show(z.2.2++[_]).length<=N+1;rw[U5];have:=hz.2.2.1;simp;omega,λv mv=>?_⟩;rcases VT.mp mv with mv | mv
      . exact hz.2.2.2 v mv
      . rw[VL.mp mv];exact rS e hr }
 | fetch y l =>
  obtain⟨z,ez,mz⟩:=ba (l:=S.cV) (ns:=P.nm 2) W.l2 (bK ok ex mr (k:=2) (t:=l) rfl)
  have hz:=W.ln z mz
  simp only[met,ez,Vd]
  exact{ U with
   l2:=by rw[<- U.l2];exact Vr
   ln:=λq m=>by
    rcases VS m with m | rfl
    . exact U.ln q m
    . refine⟨by show 0<=z.1/\z.1<=((N+1:Nat):Int);omega,by show 0<=z.2.1+1/\z.2.1+1<=((N+1:Nat):Int);omega,by show z.2.2.tail.length<=N+1;rw[List.length_tail];have:=hz.2.2.1;omega,λv mv=>hz.2.2.2 v (List.mem_of_mem_tail mv)⟩ }
 | say d e =>
  obtain⟨z,ez,mz⟩:=ba (l:=S.ki) (ns:=P.nm 3) W.l3 (bK ok ex mr (k:=3) (t:=d) rfl)
  have hz:=W.dr z mz
  simp only[met,ez,Vd]
  exact{ U with
   l3:=by rw[<- U.l3];exact Vr
   dr:=λq m=>by
    rcases VS m with m | rfl
    . exact U.dr q m
    . omega }
 | _=>exact U
theorem zO{P:Pg}(ok:P.Ok){N:Nat}{S:Wd}(W:fR P N S){j:Nat}{x:Str × List Rw}{s:aI}{c:Int}{r:Rw}(ex:P.hs[j]?=some x)(es:S.bg[j]?=some s)(ec:S.cE[j]?=some c)(er:x.2[s.row]?=some r)(hw:cZ P S j= .non){g:PV}(hg:ft r g):fR P (N+1) (fD P S j c x.2 s g r):=by
 have mr:=UX er;have M:=LW ok W ex es ec er hw hg;have mc:(met P S j c s g r).1.cE=S.cE/\(met P S j c s g r).1.bg=S.bg:=by cases r<;>exact⟨rfl,rfl⟩
 have so:=W.se j x s ex es;have hc:=W.ct c (UX ec);obtain⟨l1,l2,l3⟩:=eJ (ok.hd x (UX ex));have hv:=yt ok W (c:=c) ex es er hw hg;have ow:=(jr so.re er).1;have ls:j < S.bg.length:=(UP.mp es).1;unfold fD ka;have hh:(after s (met P S j c s g r).2.1 r).held.Nodup/\(after s (met P S j c s g r).2.1 r).held.length<=N+1/\(∀ l∈(after s (met P S j c s g r).2.1 r).held,l∈P.s1)/\(after s (met P S j c s g r).2.1 r).held.Pairwise iZ:=by
  have le:=so.le;rcases rw_cls r with⟨y,hy⟩ | ⟨l,rfl⟩ | ⟨l,rfl⟩ | ⟨_,af⟩
  . rw[js hy];exact⟨so.nd,by show s.held.length<=_;omega,so.nm,so.sr⟩
  . have nl:l ∉ s.held:=by simpa [own] using ow
    have ndl:(s.held++[l]).Nodup:=XN.mpr ⟨so.nd,by simp,λa ha b hb e=>nl (by rw[<- VL.mp hb,<- e];exact ha)⟩;refine⟨?_,?_,λy hy=>?_,nB ndl⟩
    . show(cx (s.held++[l])).Nodup;rw[(cg _).nodup_iff];exact ndl
    . show(cx (s.held++[l])).length<=_;rw[(cg _).length_eq,U5];simp;omega
    . have hy':y∈cx (s.held++[l]):=hy;rw[(cg _).mem_iff,VT] at hy';rcases hy' with hy' | hy'
      . exact so.nm y hy'
      . rw[VL.mp hy'];exact bK ok ex mr (k:=1) (t:=l) rfl
  . refine⟨so.nd.sublist X4,?_,λy hy=>so.nm y (Wl.mp hy).1,so.sr.sublist X4⟩;show(s.held.filter _).length<=_;exact Vn (Yz _ _) (by omega)
  . rw[af];exact⟨so.nd,by show s.held.length<=_;omega,so.nm,so.sr⟩
 exact{ M with
  lc:=by rw[<- M.lc];exact Vr
  ls:=by rw[<- M.ls];exact Vr
  ct:=λq m=>by
   rcases VS m with m | rfl
   . exact M.ct q m
   . omega
  se:=λi y t ey et=>by
   have et':(S.bg.set j (bf x.2 200 (after s (met P S j c s g r).2.1 r)))[i]?=some t:=by rw[<- mc.2];exact et
   by_cases z:j=i
   . subst z;rw[Vx ls] at et';rw[ex] at ey;cases et';cases ey;exact⟨pH l3 200 _ (vo so.so er (l3 r mr) hv),by rw[cP];exact hh.1,by rw[cP];exact hh.2.1,iT 200 _,by rw[cP];exact hh.2.2.1,by rw[cP];exact hh.2.2.2⟩
   . rw[VU z] at et';exact(W.se i y t ey et').up }
theorem zF{α :Type}{f: α ->PV}: ∀{l:List α},(∀ x∈l,wV (f x)=true)->lx (l.map f)=true
 | [],_=>rfl
 | x::r,h=>by rw[US,lx,h x U3,zF λz m=>h z (U6 _ m)];rfl
theorem zd{α :Type}{f: α ->PV}{c:Nat}: ∀{l:List α},(∀ x∈l,HU (f x)<=c)->JB (l.map f)<=(c+1)*l.length
 | [],_=>VM _
 | x::r,h=>by
  have h1:=h x U3;have h2:=zd (l:=r) λz m=>h z (U6 _ m);rw[US,JB,UU,Nat.mul_succ];omega
theorem ze{α :Type}{f: α ->PV}{c:Nat}: ∀{l:List α},(∀ x∈l,F5 (f x)<=c)->uR (l.map f)<=c
 | [],_=>VM _
 | x::r,h=>by
  have h1:=h x U3;have h2:=ze (l:=r) λz m=>h z (U6 _ m);rw[US,uR];omega
structure Sh(b d:Nat)(v:PV):Prop where
 ok:wV v=true
 bk:HU v<=b
 dp:F5 v<=d
theorem eL{α :Type}{f: α ->PV}{l:List α}{b d:Nat}(n:Nat)(hl:l.length<=n)(h: ∀ x∈l,Sh b d (f x)):Sh ((b+1)*n) (d+1) (.tup (l.map f)) :=
 ⟨by rw[wV];exact zF λx m=>(h x m).ok,by rw[HU];exact Vn (zd λx m=>(h x m).bk) (Nat.mul_le_mul_left _ hl),by rw[F5];have:=ze λx m=>(h x m).dp;omega⟩
theorem tF{x:Str}(h:tw x=true):Sh 20 0 (.str x):=⟨h,KJ h,UT _⟩
theorem cm{i:Int}(h0:0<=i)(h1:i<=1000000):Sh 0 0 (.int i):=⟨by rw[wV,decide_eq_true_eq];exact⟨h0,h1⟩,UT _,UT _⟩
theorem kl:Sh 0 0 .non:=⟨rfl,UT _,UT _⟩
theorem ou(d:Nat):Sh 0 (d+1) (.tup []):=⟨rfl,UT _,ZW (VM _)⟩
theorem dm(d:Nat){v:PV}{vs:List PV}{b c e:Nat}(h:Sh b e v)(t:Sh c (d+1) (.tup vs))(he:e<=d:=by decide):Sh (b+1+c) (d+1) (.tup (v::vs)):=by
 have t1:=t.ok;have t2:=t.bk;have t3:=t.dp;have h2:=h.bk;have h3:=h.dp;rw[wV] at t1;rw[HU] at t2;rw[F5] at t3;exact⟨by rw[wV,lx,h.ok,t1];rfl,by rw[HU,JB];omega,by rw[F5,uR];omega⟩
theorem Sh.up{v:PV}{b c d e:Nat}(h:Sh b d v)(hb:b<=c:=by decide)(hd:d<=e:=by decide):Sh c e v:=⟨h.ok,Vn h.bk hb,Vn h.dp hd⟩
theorem Sh.show{xs:List PV}{b d:Nat}(h:Sh b d (.tup xs))(hb:b<=1000000:=by decide)(hd:d<=61:=by decide): ∃ x:Str,∀ g,dZ [.tup xs] g= .ok (.str x) g:=by
 have h1:=h.ok;have h2:=h.bk;have h3:=h.dp;rw[wV] at h1;rw[HU] at h2;rw[F5] at h3;exact IP h1 (by omega) (by omega)
theorem Ji{P:Pg}(ok:P.Ok){k:Nat}{t:Str}(m:t∈P.nm k):tw t=true:=by
 match k,m with
 | 0,m =>
  obtain⟨z,mz,rfl⟩:=Vv.mp (show t∈P.bs.map (·.1) from m)
  exact(ok.bx.2 z mz).1
 | 1,m=>exact(ok.nm.1.2 t m).1
 | 2,m=>exact(ok.nm.2.1.2 t m).1
 | _+3,m=>exact(ok.nm.2.2.2 t m).1
theorem wJ{N:Nat}(N9:N<=100){v:PV}(h:uv N v):Sh 2 1 v:=by
 rcases h with rfl | ⟨a,b,rfl,h1,h2,h3,h4⟩
 . exact kl.up
 . exact dm 0 (cm h1 (by omega)) (dm 0 (cm h3 (by omega)) (ou 0))
theorem ug{P:Pg}(ok:P.Ok){N:Nat}(N9:N<=100){S:Wd}(W:fR P N S):Sh 100000 5 (bz S):=by
 have hm:=ok.many;have a0:Sh ((0+1)*4) 1 (.tup (S.cE.map PV.int)):=eL 4 (by rw[W.lc];omega) λc m=>by have:=W.ct c m;exact cm (by omega) (by omega)
 have a1:Sh ((2500+1)*4) 4 (.tup (S.bg.map aA)):=eL 4 (by rw[W.ls];omega) λs m=>by
  obtain⟨j,hj,ej⟩:=abd m;have es:S.bg[j]?=some s:=by rw[<- ej];exact UW hj
  have hj':j < P.hs.length:=by rw[<- W.ls];exact hj
  have so:=W.se j _ s (UW hj') es;obtain⟨l1,l2,l3⟩:=eJ (ok.hd _ (Wq hj'));have hd:=(ok.hd _ (Wq hj')).1;have pl:=so.so.pk.len;have le:=so.so.le;have p1:Sh ((22+1)*6) 2 (.tup (s.ps.map cO)):=eL 6 (by omega) λz mz=>by
   have:=so.so.pk.mem z mz;show Sh 22 1 (.tup [.str z.1,.int z.2]);exact dm 0 (tF (l2 _ this.1)) (dm 0 (cm (by omega) (by omega)) (ou 0))
  have p2:Sh ((20+1)*100) 1 (.tup (s.held.map PV.str)):=eL 100 (by have:=so.le;omega) λz mz=>tF (Ji ok (k:=1) (so.nm z mz));exact(dm 2 (cm (by omega) (by omega)) (dm 2 p1 (dm 2 p2 (ou 2)))).up
 have a2:Sh ((4+1)*20) 3 (.tup (S.iI.map gR)):=eL 20 (by rw[W.l0];exact ok.bx.1) λz m=>by
  have:=W.bx z m;exact dm 1 (cm (by omega) (by omega)) (dm 1 (wJ N9 this.2) (ou 1))
 have a3:Sh ((4+1)*20) 3 (.tup (S.eA.map fz)):=eL 20 (by rw[W.l1];exact ok.nm.1.1) λz m=>by
  have:=W.lk z m;refine dm 1 (b:=0) (e:=0) ?_ (dm 1 (wJ N9 this.2) (ou 1));cases e:z.1 with
  | none=>exact kl
  | some i=>have:=this.1 i e;exact cm this.1 (by omega)
 have a4:Sh ((103+1)*20) 3 (.tup (S.cV.map fu)):=eL 20 (by rw[W.l2];exact ok.nm.2.1.1) λz m=>by
  have:=W.ln z m;have q:Sh ((0+1)*100) 1 (.tup (z.2.2.map PV.int)):=eL 100 (by omega) λv mv=>by have:=this.2.2.2 v mv;exact cm this.1 (by omega)
  exact dm 1 (cm (by omega) (by omega)) (dm 1 (cm (by omega) (by omega)) (dm 1 q (ou 1)))
 have a5:Sh ((0+1)*20) 1 (.tup (S.ki.map PV.int)):=eL 20 (by rw[W.l3];exact ok.nm.2.2.1) λz m=>by have:=W.dr z m;exact cm (by omega) (by omega)
 exact(dm 4 a0 (dm 4 a1 (dm 4 a2 (dm 4 a3 (dm 4 a4 (dm 4 a5 (ou 4))))))).up
theorem Mz{P:Pg}(ok:P.Ok){N:Nat}(N9:N<=100){S:Wd}(W:fR P N S){j:Nat}{x:Str × List Rw}{s:aI}{c:Int}{r:Rw}(ex:P.hs[j]?=some x)(es:S.bg[j]?=some s)(er:x.2[s.row]?=some r){g:PV}(hg:ft r g):Sh 0 0 g/\Sh 0 0 (met P S j c s g r).2.1/\Sh 2 1 (met P S j c s g r).2.2:=by
 have mr:=UX er;have so:=W.se j x s ex es;obtain⟨l1,l2,l3⟩:=eJ (ok.hd x (UX ex));have hr:=l3 r mr;have rS: ∀ e:Sm,jb e->Sh 0 0 (.int (e.val (fP s.ps))):=λe he=>by
  have:=Sm.nh (wu λq m=>(so.so.pk.mem q m).2) e he.1;exact cm this.1 (by omega)
 have gs:Sh 0 0 g:=by
  cases e:dS r with
  | true=>obtain⟨i,rfl,h0,h9,_⟩:=hg.1 e;exact cm h0 (by omega)
  | false=>rw[hg.2 e];exact kl
 refine⟨gs,?_⟩;cases r with
 | get y b =>
  obtain⟨z,ez,mz⟩:=ba (l:=S.iI) (ns:=P.nm 0) (by rw[W.l0];exact(UO ..).symm) (bK ok ex mr (k:=0) (t:=b) rfl)
  have:=W.bx z mz
  simp only[met,ez,Vd]
  exact⟨cm this.1.1 (by omega),wJ N9 this.2⟩
 | put b e =>
  obtain⟨z,ez,mz⟩:=ba (l:=S.iI) (ns:=P.nm 0) (by rw[W.l0];exact(UO ..).symm) (bK ok ex mr (k:=0) (t:=b) rfl)
  simp only[met,ez,Vd]
  exact⟨rS e hr,wJ N9 (W.bx z mz).2⟩
 | take l =>
  obtain⟨z,ez,mz⟩:=ba (l:=S.eA) (ns:=P.nm 1) W.l1 (bK ok ex mr (k:=1) (t:=l) rfl)
  simp only[met,ez,Vd]
  exact⟨kl,wJ N9 (W.lk z mz).2⟩
 | free l=>exact⟨kl,kl.up⟩
 | send l e =>
  obtain⟨z,ez,mz⟩:=ba (l:=S.cV) (ns:=P.nm 2) W.l2 (bK ok ex mr (k:=2) (t:=l) rfl)
  have:=W.ln z mz
  simp only[met,ez,Vd]
  exact⟨rS e hr,(cm this.1.1 (by omega)).up⟩
 | fetch y l =>
  obtain⟨z,ez,mz⟩:=ba (l:=S.cV) (ns:=P.nm 2) W.l2 (bK ok ex mr (k:=2) (t:=l) rfl)
  have:=W.ln z mz
  simp only[met,ez,Vd]
  refine⟨?_,(cm this.2.1.1 (by omega)).up⟩
  cases q:z.2.2 with
  | nil=>exact cm (by decide) (by decide)
  | cons i ls=>have:=this.2.2.2 i (by rw[q];exact U3);exact cm this.1 (by show i<=_;omega)
 | say d e =>
  obtain⟨z,ez,mz⟩:=ba (l:=S.ki) (ns:=P.nm 3) W.l3 (bK ok ex mr (k:=3) (t:=d) rfl)
  have:=W.dr z mz
  simp only[met,ez,Vd]
  exact⟨rS e hr,(cm this.1 (by omega)).up⟩
 | _=>exact⟨gs,kl.up⟩
theorem Ro{P:Pg}(ok:P.Ok){j:Nat}{x:Str × List Rw}{r:Rw}(ex:P.hs[j]?=some x)(m:r∈x.2):tw r.w=true/\tw r.tg=true:=by
 have e0:tw "" =true:=by decide +kernel
 have nn: ∀ k t,r.nm=some (k,t)->tw t=true:=λk t q=>Ji ok (Pw ok ex m q);cases r<;>first | exact⟨by simp only[Rw.w];decide +kernel,nn _ _ rfl⟩ | exact⟨by simp only[Rw.w];decide +kernel,e0⟩
structure Li(P:Pg)(S:Wd)(j:Nat)(g l:PV)(S1:Wd):Prop where
 at_: ∃ x s c r,P.hs[j]?=some x/\S.bg[j]?=some s/\S.cE[j]?=some c/\x.2[s.row]?=some r/\cZ P S j= .non/\ft r g/\S1=fD P S j c x.2 s g r/\l=df r (met P S j c s g r).2.1 (met P S j c s g r).2.2
inductive Wk(P:Pg):Wd->List (Nat × PV × PV)->Wd->Prop
 | nil (S:Wd):Wk P S [] S
 | cons {S S1 S2:Wd} {j:Nat} {g l:PV} {r:List (Nat × PV × PV)} (h:Li P S j g l S1) (t:Wk P S1 r S2):Wk P S ((j,g,l)::r) S2
theorem Wk.app{P:Pg}{S S1 S2:Wd}{a b:List (Nat × PV × PV)}(h:Wk P S a S1)(t:Wk P S1 b S2):Wk P S (a++b) S2:=by
 induction h with
 | nil=>exact t
 | cons h _ ih=>exact .cons h (ih t)
theorem Wk.split{P:Pg}: ∀{a b:List (Nat × PV × PV)}{S S2:Wd},Wk P S (a++b) S2-> ∃ S1,Wk P S a S1/\Wk P S1 b S2
 | [],b,S,S2,h=>⟨S,.nil S,h⟩
 | z::a,b,S,S2,h=>by
  cases h with
  | cons h t=>obtain⟨S1,h1,h2⟩:=Wk.split t;exact⟨S1,.cons h h1,h2⟩
noncomputable def my(z:Nat × PV × PV):PV:= .tup [gq z.1,z.2.1]
noncomputable def hI(z:Nat × PV × PV):PV:= .tup [gq z.1,z.2.2]
theorem Li.ok{P:Pg}(ok:P.Ok){N:Nat}{S S1:Wd}{j:Nat}{g l:PV}(W:fR P N S)(h:Li P S j g l S1):fR P (N+1) S1:=by
 obtain⟨x,s,c,r,ex,es,ec,er,hw,hg,rfl,rfl⟩:=h.at_;exact zO ok W ex es ec er hw hg
theorem Wk.ok{P:Pg}(ok:P.Ok){S S2:Wd}{a:List (Nat × PV × PV)}(h:Wk P S a S2): ∀{N:Nat},fR P N S->fR P (N+a.length) S2:=by
 induction h with
 | nil=>exact λW=>W
 | cons h _ ih=>intro N W;have:=ih (h.ok ok W);rw[UU,aah _ 1,<- abj];exact this
theorem Li.sh{P:Pg}(ok:P.Ok){N:Nat}(N9:N<=100){S S1:Wd}{j:Nat}{g l:PV}(W:fR P N S)(h:Li P S j g l S1):j < P.hs.length/\Sh 0 0 g/\Sh 60 2 l:=by
 obtain⟨x,s,c,r,ex,es,ec,er,hw,hg,rfl,rfl⟩:=h.at_;obtain⟨m1,m2,m3⟩:=Mz (c:=c) ok N9 W ex es er hg;obtain⟨t1,t2⟩:=Ro ok ex (UX er);exact⟨(UP.mp ex).1,m1,(dm 1 (tF t1) (dm 1 (tF t2) (dm 1 m2 (dm 1 m3 (ou 1))))).up⟩
theorem Wk.sh{P:Pg}(ok:P.Ok){S S2:Wd}{a:List (Nat × PV × PV)}(h:Wk P S a S2): ∀{N:Nat},N+a.length<=100->fR P N S-> ∀ z∈a,z.1 < P.hs.length/\Sh 0 0 z.2.1/\Sh 60 2 z.2.2:=by
 induction h with
 | nil=>intro N _ _ z m;exact nomatch m
 | cons h _ ih =>
  intro N hN W z m
  rw[UU] at hN
  rcases U1.mp m with rfl | m
  . exact h.sh ok (by omega) W
  . exact ih (by omega) (h.ok ok W) z m
theorem Cg{P:Pg}(ok:P.Ok){a:List (Nat × PV × PV)}(hl:a.length<=100)(h: ∀ z∈a,z.1 < P.hs.length/\Sh 0 0 z.2.1/\Sh 60 2 z.2.2):Sh 300 2 (.tup (a.map my))/\Sh 6300 4 (.tup (a.map hI)):=by
 have hm:=ok.many;refine⟨(eL (b:=2) (d:=1) 100 hl λz m=>?_).up,(eL (b:=62) (d:=3) 100 hl λz m=>?_).up⟩
 . obtain⟨h1,h2,h3⟩:=h z m;exact dm 0 (cm (by omega) (by omega)) (dm 0 h2 (ou 0))
 . obtain⟨h1,h2,h3⟩:=h z m;exact dm 2 (cm (by omega) (by omega)) (dm 2 h3 (ou 2))
mutual
theorem dN: ∀ v:PV,wV v=true->v.flat=true
 | .tup xs,h=>by rw[wV] at h;rw[PV.flat];exact sA xs h
 | .non,_=>rfl
 | .int _,_=>rfl
 | .str _,_=>rfl
theorem sA: ∀ xs:List PV,lx xs=true->PV.aQ xs=true
 | [],_=>rfl
 | x::r,h=>by
  rw[lx,U9] at h;rw[PV.aQ,dN x h.1,sA r h.2];rfl
end
theorem Dl{xs:List PV}{h:PH}:tD [.tup xs,.ty "tuple"] h= .ok (.bl true) h:=rfl
noncomputable def RW:MG:=(gT 2 (au (gN 5) (au (gN 6) cv)))
noncomputable def RU:MS:=(ae (bR (qh (aH (ag "is_tuple_of" (a2 (aa 6) (eI 2))))) jd cD)
  (ae (ai (ag "stepped" (ab (aa 0) (a3 (aa 3) (aa 5) (aa 6)))) (gN 7))
  (ae (ai (eX 7 0) (gN 3))
  (cb (eM aM bw (aa 4) (ab (ao (a2 (eX 6 0) (eX 7 1))) ah))))))
noncomputable def By(a:List (Nat × PV × PV))(j:Nat):List PV:=a.filterMap λz=>if decide ((z.1:Int)=(j:Int))=true then some z.2.2 else none
noncomputable def Qg(P:Pg)(a:List (Nat × PV × PV)):List PV:=(VX P.hs.length).map λj=> .tup (By a j)
theorem EB{P:Pg}{a:List (Nat × PV × PV)}(hl:a.length<=100)(h: ∀ z∈a,z.1 < P.hs.length/\Sh 0 0 z.2.1/\Sh 60 2 z.2.2)(j:Nat):Sh 6100 3 (.tup (By a j)):=by
 have e:(By a j).map id=By a j:=ach _;rw[<- e];refine(eL (f:=id) (b:=60) (d:=2) 100 (Vn (List.length_filterMap_le _ _) hl) λv m=>?_).up;obtain⟨z,mz,ez⟩:=Zd.mp m;split at ez
 . cases ez;exact(h z mz).2.2
 . exact nomatch ez
theorem EL{P:Pg}(ok:P.Ok){a:List (Nat × PV × PV)}(hl:a.length<=100)(h: ∀ z∈a,z.1 < P.hs.length/\Sh 0 0 z.2.1/\Sh 60 2 z.2.2):Sh 25000 4 (.tup (Qg P a)):=by
 have hm:=ok.many;exact(eL (b:=6100) (d:=3) 4 (by rw[XM];omega) λj _=>EB hl h j).up
section
variable{pg:Tb}(T:bS pg)
include T
theorem qo(k:Nat)(h:PH)(xs:List PV)(n:Int):run pg (k+1) "is_tuple_of" [.tup xs,.int n] h= .ok (.bl (decide ((xs.length:Int)=n))) h:=by
 rw[run_eq T.qE rfl];simp? [eV,kj,Dl]
theorem xg(k:Nat)(h:PH){P:Pg}(ok:P.Ok){N:Nat}{S S1:Wd}(W:fR P N S)(N9:N<=60){j:Nat}{g l:PV}(st:Li P S j g l S1)(p:PV):run pg (k+14) "stepped" [P.v,bz S,p,my (j,g,l)] h= .ok (.tup [bz S1,l]) h:=by
 obtain⟨x,s,c,r,ex,es,ec,er,hw,hg,rfl,rfl⟩:=st.at_;have ge:=Fy T k h ok W N9 ex es ec er hw hg;rw[run_eq T.Al rfl];simp? [jN,sj,my,gq,ge]
theorem BE(k:Nat)(h:PH){P:Pg}(ok:P.Ok)(xs0:List PV)(e1 e2:Option PV){S S2:Wd}{a:List (Nat × PV × PV)}(w:Wk P S a S2): ∀{N:Nat},fR P N S->N+a.length<=60-> ∀(ts:List PV)(i:Nat)(e5 e6 e7:Option PV),ts.length+a.length<=1000 ->
  ∃ f5 f6 f7:Option PV,bN ⟨none,xs0⟩ (bE RW RU (run pg (k+14))) (((a.map my).zipIdx i).map λq=>PV.tup [.int (q.2:Int),q.1]) [some P.v,e1,e2,some (bz S),some (.ref h.length),e5,e6,e7] (h++[.lst ts])= .ok (.nx [some P.v,e1,e2,some (bz S2),some (.ref h.length),f5,f6,f7]) (h++[.lst (ts++a.map hI)]):=by
 induction w with
 | nil S=>intro N _ _ ts i e5 e6 e7 _;exact⟨e5,e6,e7,by rw[Vh,Vh,VF];exact gS⟩
 | @cons S S1 S2 j g l r st t ih =>
  intro N W hN ts i e5 e6 e7 hl
  rw[UU] at hN hl
  have se:=xg T k (h++[.lst ts]) ok W (by omega) st (.int (i:Int))
  have it:run pg (k+14) "is_tuple_of" [.tup [gq j,g],.int 2] (h++[.lst ts])= .ok (.bl true) (h++[.lst ts]):=qo T (k+13) (h++[.lst ts]) [gq j,g] 2
  have hz:ts.length < 16777216:=by omega
  obtain⟨f5,f6,f7,i1⟩:=ih (st.ok ok W) (by omega) (ts++[hI (j,g,l)]) (i+1) (some (.int i)) (some (my (j,g,l))) (some (.tup [bz S1,l])) (by rw[U5];simp;omega)
  refine⟨f5,f6,f7,?_⟩
  have stp:bE RW RU (run pg (k+14)) (.tup [.int (i:Int),my (j,g,l)]) [some P.v,e1,e2,some (bz S),some (.ref h.length),e5,e6,e7] (h++[.lst ts])= .ok (.nx [some P.v,e1,e2,some (bz S1),some (.ref h.length),some (.int i),some (my (j,g,l)),some (.tup [bz S1,l])]) (h++[.lst (ts++[hI (j,g,l)])]):=by
   unfold my hI at *;simp? [RW,RU,it,se,kM hz]
  rw[US,List.zipIdx_cons,US,fw,stp,dR,cB,i1,US,Vs]
  rfl
theorem nu(k:Nat)(h:PH){P:Pg}(ok:P.Ok){N:Nat}{S S2:Wd}(W:fR P N S){a:List (Nat × PV × PV)}(hN:N+a.length<=60)(w:Wk P S a S2):run pg (k+15) "walked" [P.v,bz S,.tup (a.map my)] h= .ok (.tup [bz S2,.tup (a.map hI)]) h:=by
 obtain⟨f5,f6,f7,lp⟩:=BE T k h ok (((a.map my).zipIdx 0).map λq=>PV.tup [.int (q.2:Int),q.1]) (some (bz S)) (some (.tup (a.map my))) w W hN [] 0 none none none (by simp;omega);rw[Vj] at lp;have z: ¬ (60:Int) < ((a.map my).length:Int):=by rw[UO];omega
 have sh:=w.sh ok (N:=N) (by omega) W;have fl:PV.flat (.tup [bz S2,.tup (a.map hI)])=true:=by
  have f1:=dN _ (ug ok (by omega) (w.ok ok W)).ok;have f2:=dN _ (Cg ok (by omega) sh).2.ok;rw[PV.flat,PV.aQ,PV.aQ,PV.aQ,f1,f2];rfl
 unfold RW RU at lp;rw[run_eq T.C8 rfl];simp? [kX,u0,Dl,z,GD,Ck,lp];exact bC fl
theorem vN(k:Nat)(h:PH){P:Pg}{a:List (Nat × PV × PV)}(hl:a.length<=100)(sh: ∀ z∈a,z.1 < P.hs.length/\Sh 0 0 z.2.1/\Sh 60 2 z.2.2)(j:Nat):run pg (k+1) "looks_of" [.tup (a.map hI),.int j] h= .ok (.tup (By a j)) h:=by
 have lc:iq ⟨none,a.map hI⟩ (aV 2 (gT 2 (au (gN 2) (au (gN 3) cv))) (aH (ak jW (aa 2) (aa 1))) (aa 3) (run pg k) [some (.tup (a.map hI)),some (.int j)]) (a.map hI) [] h= .ok (By a j) h:=by
  refine(dw rfl a [] (f:=λz=>if decide ((z.1:Int)=(j:Int))=true then some z.2.2 else none) (g:=hI) (λz m=>?_) (by simp;omega)).trans (by rw[Vj];rfl);by_cases c:(z.1:Int)=(j:Int)
  . simp? [hI,gq,c]
  . simp? [hI,gq,c]
 have fl:=dN _ (EB hl sh j).ok;rw[run_eq T.yK rfl];simp? [iy,pF,lc];exact bC fl
theorem tP(k:Nat)(h:PH){P:Pg}(ok:P.Ok){N:Nat}{S S2:Wd}(W:fR P N S){a:List (Nat × PV × PV)}(hN:N+a.length<=60)(w:Wk P S a S2):run pg (k+16) "tables_of" [P.v,bz S,.tup (a.map my)] h= .ok (.tup (Qg P a)) h:=by
 have hm:=ok.many;have we:=nu T k h ok W hN w;have sh:=w.sh ok (N:=N) (by omega) W;have ho:=wk T (k+14) h P ok;have lc:iq ⟨some h.length,az 0 P.hs.length⟩ (aV 1 (gN 4) bo (ag "looks_of" (a2 (aa 3) (aa 4))) (run pg (k+15)) [some P.v,some (bz S),some (.tup (a.map my)),some (.tup (a.map hI))]) (az 0 P.hs.length) [] (h++[.lst (az 0 P.hs.length)])= .ok (Qg P a) (h++[.lst (az 0 P.hs.length)]):=by
  refine(dw (fO cq) (VX P.hs.length) [] (f:=λj=>some (.tup (By a j))) (g:=λi:Nat=>PV.int (0+(i:Int))) (λi m=>?_) (by simp;omega)).trans (by rw[Vj,Xw];rfl);have iz:(0:Int)+(i:Int)=(i:Int):=Yu _;have lo:=vN T (k+14) (h++[.lst (az 0 P.hs.length)]) (by omega) sh i;generalize h++[PO.lst (az 0 P.hs.length)]=H at lo;simp? [iz,lo]
 have fl:=dN _ (EL ok (by omega) sh).ok;rw[run_eq T.wB rfl];simp? [gK,nR,we,ho,lc];exact bC fl
theorem qU(k:Nat)(h:PH){P:Pg}(ok:P.Ok){a:List (Nat × PV × PV)}(hl:a.length<=100)(sh: ∀ z∈a,z.1 < P.hs.length/\Sh 0 0 z.2.1/\Sh 60 2 z.2.2):run pg (k+1) "_law_tables" [P.v,.tup (a.map hI)] h= .ok (.tup (Qg P a)) h:=by
 have hm:=ok.many;have i4: ∀ g,aB P.v (.int 4) g= .ok (.tup (P.hs.map bF)) g:=λg=>uo;have tn:Za ((P.hs.length:Nat):Int)=P.hs.length:=VH _;have lc2: ∀(j:Nat)(H:PH),iq ⟨none,a.map hI⟩ (aV 2 (gT 2 (au (gN 3) (au (gN 4) cv))) (aH (ak jW (aa 3) (aa 2))) (aa 4) (run pg k) [some P.v,some (.tup (a.map hI)),some (.int j)]) (a.map hI) [] H= .ok (By a j) H:=λj H=>by
  refine(dw rfl a [] (f:=λz=>if decide ((z.1:Int)=(j:Int))=true then some z.2.2 else none) (g:=hI) (λz m=>?_) (by simp;omega)).trans (by rw[Vj];rfl);by_cases c:(z.1:Int)=(j:Int)
  . simp? [hI,gq,c]
  . simp? [hI,gq,c]
 have lc: ∀(aj:List Nat)(ys:List PV)(X:PH),ys.length+aj.length<=1000-> ∃ X':PH,iq ⟨none,az 0 P.hs.length⟩ (aV 1 (gN 2) bo (eB aC (ab (ji 2 (jZ (aa 1)) (gT 2 (au (gN 3) (au (gN 4) cv))) (aH (ak jW (aa 3) (aa 2))) (aa 4)) ah)) (run pg k) [some P.v,some (.tup (a.map hI))]) (aj.map λi:Nat=>PV.int (0+(i:Int))) ys (h++X)= .ok (ys++aj.map λj=> .tup (By a j)) (h++X'):=by
  intro aj
  induction aj with
  | nil=>intro ys X _;exact⟨X,by rw[Vh,Vh,VF,P3.iq,if_pos (show lA.ko ⟨none,_⟩ _=true from rfl)]⟩
  | cons i aj ih =>
   intro ys X hy
   rw[UU] at hy
   obtain⟨X',i1⟩:=ih (ys++[.tup (By a i)]) (X++[.lst (By a i)]) (by simp;omega)
   refine⟨X',?_⟩
   have iz:(0:Int)+(i:Int)=(i:Int):=Yu _
   have hz:ys.length < sizeLine:=U0 (show ys.length < 1001 by omega) (by decide)
   have st:aV 1 (gN 2) bo (eB aC (ab (ji 2 (jZ (aa 1)) (gT 2 (au (gN 3) (au (gN 4) cv))) (aH (ak jW (aa 3) (aa 2))) (aa 4)) ah)) (run pg k) [some P.v,some (.tup (a.map hI))] (.int (i:Int)) (h++X)= .ok (some (.tup (By a i))) (h++(X++[.lst (By a i)])):=by
    have l2:=lc2 i (h++X);simp? [l2]
   rw[US,P3.iq,if_pos ⟨show lA.ko ⟨none,_⟩ _=true from rfl,hz⟩,iz,st,cK]
   refine i1.trans ?_
   rw[US,Vs]
   rfl
 obtain⟨X',l1⟩:=lc (VX P.hs.length) [] [] (by simp;omega);rw[VF,Vj] at l1;have l1':iq ⟨none,az 0 P.hs.length⟩ (aV 1 (gN 2) bo (eB aC (ab (ji 2 (jZ (aa 1)) (gT 2 (au (gN 3) (au (gN 4) cv))) (aH (ak jW (aa 3) (aa 2))) (aa 4)) ah)) (run pg k) [some P.v,some (.tup (a.map hI))]) (az 0 P.hs.length) [] h= .ok (Qg P a) (h++X'):=l1;have fl:=dN _ (EL ok hl sh).ok;rw[run_eq T.qZ rfl];simp? [eU,kh,i4,UO,tn,l1'];exact bC fl
end
noncomputable def dU(x:Str × List Rw):aI:=bf x.2 200 ⟨0,[],[]⟩
noncomputable def OB(bs:List (Str × Int))(s1 s2 s3:List Str)(hs:List (Str × List Rw)):PV:= .tup [.tup (hs.map λ_=>PV.int 0),.tup (hs.map λx=>aA (dU x)),.tup (bs.map λb=>PV.tup [.int b.2,.non]),.tup (s1.map λ_=>PV.tup [.non,.non]),.tup (s2.map λ_=>PV.tup [.int 0,.int 0,.tup []]),.tup (s3.map λ_=>PV.int 0)]
theorem sC{α :Type}(hs:List α)(f: α ->PV)(d:PV):(VX hs.length).filterMap (λi=>some ((hs[i]?.map f).getD d))=hs.map f:=by
 rw[Xw];refine List.ext_getElem (by simp) λi h1 h2=>?_;simp at h1 h2 ⊢;rw[UW (by omega)];rfl
theorem gu{α :Type}(f: α ->PV)(hf: ∀ x,(f x).flat=true): ∀ l:List α,PV.aQ (l.map f)=true
 | []=>rfl
 | x::r=>by rw[US,PV.aQ,hf,gu f hf r];rfl
theorem CM(bs:List (Str × Int))(s1 s2 s3:List Str)(hs:List (Str × List Rw)):(OB bs s1 s2 s3 hs).flat=true:=by
 unfold OB;simp only[PV.flat,PV.aQ,XG,U9];exact⟨gu _ (λ_=>rfl) _,gu _ (λx=>kR _) _,gu _ (λ_=>rfl) _,gu _ (λ_=>rfl) _,gu _ (λ_=>rfl) _,gu _ (λ_=>rfl) _⟩
noncomputable def gQ(P:Pg):Wd:=⟨P.hs.map λ_=>0,P.hs.map dU,P.bs.map λz=>(z.2,.non),P.s1.map λ_=>(none,.non),P.s2.map λ_=>(0,0,[]),P.s3.map λ_=>0⟩
theorem Bs(P:Pg):bz (gQ P)=OB P.bs P.s1 P.s2 P.s3 P.hs:=by
 unfold bz gQ OB;simp only[VN];rfl
theorem yR{P:Pg}(ok:P.Ok):fR P 0 (gQ P) where
 lc:=UO ..
 ls:=UO ..
 l0:=UO ..
 l1:=UO ..
 l2:=UO ..
 l3:=UO ..
 ct c m:=by obtain⟨_,_,rfl⟩:=Vv.mp m;decide
 bx b m:=by obtain⟨z,mz,rfl⟩:=Vv.mp m;exact⟨(ok.bx.2 z mz).2,.inl rfl⟩
 lk l m:=by obtain⟨_,_,rfl⟩:=Vv.mp m;exact⟨λi e=>(nomatch e),.inl rfl⟩
 ln n m:=by obtain⟨_,_,rfl⟩:=Vv.mp m;exact⟨by decide,by decide,by decide,λv mv=>(nomatch mv)⟩
 dr d m:=by obtain⟨_,_,rfl⟩:=Vv.mp m;decide
 se j x s e1 e2:=by
  have e2':(P.hs.map dU)[j]?=some s:=e2;rw[U8,e1] at e2';cases e2';obtain⟨l1,l2,l3⟩:=eJ (ok.hd x (UX e1));have h0:(dU x).held=[]:=cP 200 ⟨0,[],[]⟩;exact⟨pH l3 200 _ ⟨.nil,VM _⟩,by rw[h0];exact .nil,by rw[h0];exact UT _,iT 200 _,by rw[h0];exact λl m=>(nomatch m),by rw[h0];exact .nil⟩
section
variable{pg:Tb}(T:bS pg)
include T
theorem pd(k:Nat)(h:PH){P:Pg}(ok:P.Ok):run pg (k+12) "first_stand" [P.v] h= .ok (bz (gQ P)) h:=by
 rw[Bs];obtain⟨bs,s1,s2,s3,hs⟩:=P;obtain⟨p,pa⟩: ∃ p,p=Pg.v ⟨bs,s1,s2,s3,hs⟩:=⟨_,rfl⟩
 rw[<- pa];show _=RV.ok (OB bs s1 s2 s3 hs) h;have hm:1<=hs.length/\hs.length<=4:=ok.many;have ho:run pg (k+11) "hands_of" [p] h= .ok (.ref h.length) (h++[.lst (az 0 hs.length)]):=by
  rw[run_eq T.pN rfl,pa];unfold Pg.v;have tn:Za ((hs.length:Nat):Int)=hs.length:=VH _;simp? [gz,kL,Jr,EE,UO,tn];exact cj rfl
 have lc: ∀(H:PH)(e:ME)(f:Nat->PV),H[h.length]?=some (.lst (az 0 hs.length))->(∀ i < hs.length,e (run pg (k+11)) [some p,some (.ref h.length),some (.int (0+(i:Int)))] H= .ok (f i) H)->iq ⟨some h.length,az 0 hs.length⟩ (aV 1 (gN 2) bo e (run pg (k+11)) [some p,some (.ref h.length)]) (az 0 hs.length) [] H= .ok ((VX hs.length).filterMap λi=>some (f i)) H:=λH e f hH he=>by
  refine(dw (fO hH) (VX hs.length) [] (f:=λi=>some (f i)) (g:=λi:Nat=>PV.int (0+(i:Int))) (λi m=>?_) (by simp;omega)).trans (by rw[Vj]);have:=he i (Xm.mp m);simp? [this]
 have lt: ∀{α :Type}(l:List α)(g f: α ->PV)(e:ME)(H:PH),l.length<=1000->(∀ x∈l,e (run pg (k+11)) [some p,some (.ref h.length),some (g x)] H= .ok (f x) H)->iq ⟨none,l.map g⟩ (aV 1 (gN 2) bo e (run pg (k+11)) [some p,some (.ref h.length)]) (l.map g) [] H= .ok (l.map f) H:=λl g f e H hl he=>by
  refine(dw rfl l [] (f:=λx=>some (f x)) (g:=g) (λx m=>?_) (by simp;omega)).trans (by rw[Vj,Xw]);have:=he x m;simp? [this]
 let A:List PV:=hs.map λ_=>PV.int 0
 let B:List PV:=hs.map λx=>aA (dU x)
 have n0: ∀ Y:PH,(h++ .lst (az 0 hs.length)::Y)[h.length]?=some (.lst (az 0 hs.length)):=λY=>cq;have c1: ∀ Y:PH,iq ⟨some h.length,az 0 hs.length⟩ (aV 1 (gN 2) bo (eI 0) (run pg (k+11)) [some p,some (.ref h.length)]) (az 0 hs.length) [] (h++ .lst (az 0 hs.length)::Y)= .ok A (h++ .lst (az 0 hs.length)::Y):=λY=>by
  rw[lc _ (eI 0) (λi=>((hs[i]?.map λ_=>PV.int 0).getD (.int 0))) (n0 Y) (λi hi=>by rw[Jo,UW hi];rfl),sC]
 have c2: ∀ Y:PH,iq ⟨some h.length,az 0 hs.length⟩ (aV 1 (gN 2) bo (ag "first_seat" (a2 (aa 0) (aa 2))) (run pg (k+11)) [some p,some (.ref h.length)]) (az 0 hs.length) [] (h++ .lst (az 0 hs.length)::Y)= .ok B (h++ .lst (az 0 hs.length)::Y):=λY=>by
  rw[lc _ (ag "first_seat" (a2 (aa 0) (aa 2))) (λi=>((hs[i]?.map λx=>aA (dU x)).getD .non)) (n0 Y) (λi hi=>?_),sC];have e:=UW hi;obtain⟨_,L,l1,_,l3⟩:=ok.hd _ (Wq hi);have fs:run pg (k+11) "first_seat" [p,.int i] (h++ .lst (az 0 hs.length)::Y)=_:=qR T k _ (L:=L) (by omega) (by rw[pa];exact Pg.hand _ e) (λr m=>(l3 r m).1);rw[e];have iz:(0:Int)+(i:Int)=(i:Int):=Yu _;simp? [iz,fs];rfl
 have b20:bs.length<=20:=ok.bx.1;have n1:s1.length<=20:=ok.nm.1.1;have n2:s2.length<=20:=ok.nm.2.1.1;have n3:s3.length<=20:=ok.nm.2.2.1;have c3: ∀ H:PH,iq ⟨none,bs.map cO⟩ (aV 1 (gN 2) bo (ao (a2 (eX 2 1) (eC .non))) (run pg (k+11)) [some p,some (.ref h.length)]) (bs.map cO) [] H= .ok (bs.map λb=>PV.tup [.int b.2,.non]) H:=λH=>lt bs cO _ _ H (by omega) λx _=>by simp? [cO]
 have c4: ∀ H:PH,iq ⟨none,s1.map PV.str⟩ (aV 1 (gN 2) bo (ao (a2 (eC .non) (eC .non))) (run pg (k+11)) [some p,some (.ref h.length)]) (s1.map PV.str) [] H= .ok (s1.map λ_=>PV.tup [.non,.non]) H:=λH=>lt s1 PV.str _ _ H (by omega) λx _=>by simp? [Vh]
 have c5: ∀ H:PH,iq ⟨none,s2.map PV.str⟩ (aV 1 (gN 2) bo (ao (a3 (eI 0) (eI 0) (ao ah))) (run pg (k+11)) [some p,some (.ref h.length)]) (s2.map PV.str) [] H= .ok (s2.map λ_=>PV.tup [.int 0,.int 0,.tup []]) H:=λH=>lt s2 PV.str _ _ H (by omega) λx _=>by simp? [Vh]
 have c6: ∀ H:PH,iq ⟨none,s3.map PV.str⟩ (aV 1 (gN 2) bo (eI 0) (run pg (k+11)) [some p,some (.ref h.length)]) (s3.map PV.str) [] H= .ok (s3.map λ_=>PV.int 0) H:=λH=>lt s3 PV.str _ _ H (by omega) λx _=>rfl;have i0: ∀ H,aB p (.int 0) H= .ok (.tup (bs.map cO)) H:=λH=>by rw[pa];exact tR
 have i1: ∀ H,aB p (.int 1) H= .ok (.tup (s1.map PV.str)) H:=λH=>by rw[pa];exact j6
 have i2: ∀ H,aB p (.int 2) H= .ok (.tup (s2.map PV.str)) H:=λH=>by rw[pa];exact wm
 have i3: ∀ H,aB p (.int 3) H= .ok (.tup (s3.map PV.str)) H:=λH=>by rw[pa];exact Bh
 rw[run_eq T.qM rfl];simp? [eR,j9,ho,c1,c2,c3,c4,c5,c6,i0,i1,i2,i3];exact bC (v:=OB bs s1 s2 s3 hs) (CM ..)
end
structure FI(dn:List (Str × List Rw))(R:PH):Prop where
 len:R.length=4+3*dn.length
 at_: ∀(j:Nat)(x:Str × List Rw),dn[j]?=some x-> ∃ D:Pk,R[4+3*j]?=some (.dct (dM D))/\R[6+3*j]?=some (.lst [])/\R[5+3*j]?=some (.lst [])/\qA (JJ x) D/\ ∀ y,fP D y=fP (dU x).ps y
theorem FI.more{dn:List (Str × List Rw)}{R:PH}(h:FI dn R){x:Str × List Rw}{D:Pk}(hD:qA (JJ x) D)(hf: ∀ y,fP D y=fP (dU x).ps y):FI (dn++[x]) (R++[.dct (dM D),.lst [],.lst []]):=by
 have l:=h.len;refine⟨by simp only[U5,UU,Vk];omega,λj y e=>?_⟩;by_cases z:j < dn.length
 . rw[Vy z] at e;obtain⟨D0,h1,h2,h5,h3⟩:=h.at_ j y e;exact⟨D0,(ay (aG h1)).trans h1,(ay (aG h2)).trans h2,(ay (aG h5)).trans h5,h3⟩
 . rw[Vq (by omega)] at e;have j0:j=dn.length:=by
    have:=(UP.mp e).1;simp at this;omega
   subst j0;rw[Nat.sub_self] at e;cases e;refine⟨D,?_,?_,?_,hD,hf⟩
   . rw[show 4+3*dn.length=R.length by omega];exact cq
   . rw[show 6+3*dn.length=R.length+2 by omega,br];rfl
   . rw[show 5+3*dn.length=R.length+1 by omega,br];rfl
theorem N5(n:Nat)(ss:List aI)(s:aI):sL n (ss++[s])=sL n ss++[ub n ss.length s]:=by
 unfold sL;rw[List.mapIdx_append];simp
noncomputable def fB:MS:=(ae (ai sN (gN 3)) (ae (ai (ag "_law_rest" (ab (eX 2 1) (a3 (eI 0) (aa 3) (bH ah)))) (gN 4)) (ae (cb (eM aM bw (ak aB (aa 1) (eS "counts")) (a1 (eI 0)))) (cb (eM aM bw (ak aB (aa 1) (eS "seats")) (ab (ao (a3 (aa 4) (aa 3) (bH ah))) ah))))))
section
variable{pg:Tb}(T:bS pg)
include T
theorem yx(k:Nat)(h:PH)(xs0:List PV)(e0:Option PV){s0 s1 s2 s3:List Str}: ∀(hs dn:List (Str × List Rw))(R:PH)(e2 e3 e4:Option PV),dn.length+hs.length<=1000->(∀ x∈hs,km s0 s1 s2 s3 x)->FI dn R ->
  ∃(X:PH)(f2 f3 f4:Option PV),FI (dn++hs) (R++X) /\
   bN ⟨none,xs0⟩ (bE (gN 2) fB (run pg (k+10))) (hs.map bF) [e0,some (.ref h.length),e2,e3,e4] (h++ .dct (qz h.length):: .lst (dn.map λ_=>PV.int 0):: .lst (sL h.length (dn.map dU))::R)= .ok (.nx [e0,some (.ref h.length),f2,f3,f4]) (h++ .dct (qz h.length):: .lst ((dn++hs).map λ_=>PV.int 0):: .lst (sL h.length ((dn++hs).map dU))::(R++X)):=by
 obtain⟨vc,vs,_⟩:=dz h.length;intro hs
 induction hs with
 | nil=>intro dn R e2 e3 e4 _ _ f;exact⟨[],e2,e3,e4,by simpa using f,by simp only[Vh,VF];exact gS⟩
 | cons x hs ih =>
  intro dn R e2 e3 e4 hc hH f
  rw[UU] at hc
  have lR:=f.len
  obtain⟨l1,l2,l3⟩:=eJ (hH x U3)
  let cE:List PV:=dn.map λ_=>PV.int 0
  let bg:List PV:=sL h.length (dn.map dU)
  let W:PH:=h++ .dct (qz h.length):: .lst cE:: .lst bg::R
  have lW:W.length=h.length+(R.length+1+1+1):=by simp[W]
  obtain⟨D,a1,a2,a3⟩:=yT T k (W++[.dct [],.lst []]) (d:=W.length) (l:=W.length+1) (hl:=[]) (L:=JJ x) (rs:=x.2) (t:=⟨0,[],[]⟩) (D:=[]) (by omega) (by omega) l3 cq (by rw[br];rfl) (λy=>Iff.rfl) ⟨.nil,VM _⟩ ⟨.nil,λq m=>nomatch m⟩ (λ_=>rfl)
  rw[jS] at a3
  let v:PV:= .tup [.int (dU x).row,.ref (h.length+(R.length+1+1+1)),.ref (h.length+(R.length+(0+1+1)+1+1+1))]
  obtain⟨X,f2,f3,f4,i1,i2⟩:=ih (dn++[x]) (R++[.dct (dM D),.lst [],.lst []]) (some (bF x)) (some (.ref (h.length+(R.length+1+1+1)))) (some (.int (dU x).row)) (by simp only[U5,UU,Vk];omega) (λz m=>hH z (U6 _ m)) (f.more a1 a2)
  refine⟨[.dct (dM D),.lst [],.lst []]++X,f2,f3,f4,?_,?_⟩
  . rw[<- Vs];rw[Vs dn] at i1;exact i1
  have hz1:cE.length < 16777216:=by simp only[cE,UO];omega
  have hz2:bg.length < 16777216:=by simp only[bg];rw[yy,UO];omega
  have h1: ∀ H,aB (bF x) (.int 1) H= .ok (bG x.2) H:=λH=>j6
  have st:bE (gN 2) fB (run pg (k+10)) (bF x) [e0,some (.ref h.length),e2,e3,e4] W= .ok (.nx [e0,some (.ref h.length),some (bF x),some (.ref (h.length+(R.length+1+1+1))),some (.int (dU x).row)]) (h++ .dct (qz h.length):: .lst (cE++[.int 0]):: .lst (bg++[v])::(R++[.dct (dM D),.lst [],.lst []])):=by
   have a3':run pg (k+10) "_law_rest" [bG x.2,.int 0,.ref (h.length+(R.length+1+1+1)),.ref (h.length+(R.length+(0+1)+1+1+1))] (h++ .dct (qz h.length):: .lst cE:: .lst bg::(R++[.dct [],.lst []]))= .ok (.int (dU x).row) (h++ .dct (qz h.length):: .lst cE:: .lst bg::(R++[.dct (dM D),.lst []])):=by
    rw[lW] at a3;simp only[W,Vs,VZ,aby] at a3;exact a3
   clear_value cE bg
   simp? [fB,W,v,h1,a3',vc,vs,kM hz1,kM hz2]
  have ec:(dn++[x]).map (λ_=>PV.int 0)=cE++[.int 0]:=by rw[VG];rfl
  have es:sL h.length ((dn++[x]).map dU)=bg++[v]:=by
   rw[VG,US,Vh,N5,UO];show bg++[_]=bg++[v];unfold ub;rw[show h.length+7+3*dn.length=h.length+(R.length+1+1+1) by omega,show h.length+9+3*dn.length=h.length+(R.length+(0+1+1)+1+1+1) by omega]
  rw[ec,es] at i2
  rw[US,fw]
  show(bE (gN 2) fB (run pg (k+10)) (bF x) [e0,some (.ref h.length),e2,e3,e4] W).bind _=_
  rw[st,dR,cB,i2]
  simp
end
noncomputable def mn(n:Nat):List (Key × PV):=[(.inr "counts",.ref (n+1)),(.inr "seats",.ref (n+2)),(.inr "doors",.ref (n+3))]
theorem M9(n:Nat):cy [] (mn n)=mn n/\ia (mn n) (.inr "boxes") (.ref (n+4))=mn n++[(.inr "boxes",.ref (n+4))]/\ia (mn n++[(.inr "boxes",.ref (n+4))]) (.inr "locks") (.ref (n+5))=mn n++[(.inr "boxes",.ref (n+4)),(.inr "locks",.ref (n+5))]/\ia (mn n++[(.inr "boxes",.ref (n+4)),(.inr "locks",.ref (n+5))]) (.inr "lanes") (.ref (n+6))=qz n:=by
 refine⟨?_,?_,?_,?_⟩<;>simp[mn,qz,cy,ia,cC]
section
variable{pg:Tb}(T:bS pg)
include T
theorem tS(k:Nat)(h:PH){P:Pg}(ok:P.Ok) :
  ∃ X:PH,X.length=7+3*P.hs.length/\Rep (h++X) h.length P (gQ P) (gQ P).bg/\run pg (k+11) "_law_first" [P.v] h= .ok (.ref h.length) (h++X):=by
 have b20:=ok.bx.1;have n1:=ok.nm.1.1;have n2:=ok.nm.2.1.1;have n3:=ok.nm.2.2.1;have hm:=ok.many
 let n:=h.length
 let A3:PO:= .lst (P.s3.map λ_=>PV.int 0)
 let A0:PO:= .lst (P.bs.map λb=>PV.tup [.int b.2,.non])
 let A1:PO:= .lst (P.s1.map λ_=>PV.tup [.non,.non])
 let A2:PO:= .lst (P.s2.map λ_=>PV.tup [.int 0,.int 0,.tup []])
 obtain⟨X,f2,f3,f4,i1,i2⟩:=yx T k h (P.hs.map bF) (some P.v) P.hs [] [A3,A0,A1,A2] none none none (by simp;omega) ok.hd ⟨rfl,λj x e=>nomatch e⟩;rw[Vj] at i1;have lX:=i1.len
 let Y:PH:= .dct (qz n):: .lst (P.hs.map λ_=>PV.int 0):: .lst (sL n (P.hs.map dU))::([A3,A0,A1,A2]++X)
 refine⟨Y,by simp only[Y,UU];omega,⟨λi hi=>?_,λj x s ex es=>?_,λj hj=>?_⟩,?_⟩
 . rw[br]
   match i,hi with
   | 0,_=>rfl
   | 1,_=>show some (PO.lst (P.hs.map λ_=>PV.int 0))=some (.lst ((P.hs.map λ_=>(0:Int)).map PV.int));rw[VN];rfl
   | 2,_=>rfl
   | 3,_=>show some A3=some (.lst ((P.s3.map λ_=>(0:Int)).map PV.int));rw[VN];rfl
   | 4,_=>show some A0=some (.lst ((P.bs.map λz=>(z.2,PV.non)).map gR));rw[VN];rfl
   | 5,_=>show some A1=some (.lst ((P.s1.map λ_=>((none:Option Int),PV.non)).map fz));rw[VN];rfl
   | 6,_=>show some A2=some (.lst ((P.s2.map λ_=>((0:Int),(0:Int),([]:List Int))).map fu));rw[VN];rfl
 . have es':(P.hs.map dU)[j]?=some s:=es;rw[U8,ex] at es';cases es';obtain⟨D,h1,h2,_,h3,h4⟩:=i1.at_ j x ex;have h0:(dU x).held=[]:=cP 200 ⟨0,[],[]⟩;refine⟨D,[],?_,?_,h3,h4,.nil,by rw[h0];exact λy=>Iff.rfl⟩
   . rw[show h.length+7+3*j=h.length+(4+3*j+1+1+1) by omega,br];exact h1
   . rw[show h.length+9+3*j=h.length+(6+3*j+1+1+1) by omega,br];exact h2
 . obtain⟨D,_,_,h5,_⟩:=i1.at_ j _ (UW hj);rw[show h.length+8+3*j=h.length+(5+3*j+1+1+1) by omega,br];exact h5
 obtain⟨p0,p1,p2,p3⟩:=M9 n;have c3: ∀(E:aq)(H:PH),iq ⟨none,P.s3.map PV.str⟩ (aV 1 (gN 5) bo (eI 0) (run pg (k+10)) E) (P.s3.map PV.str) [] H= .ok (P.s3.map λ_=>PV.int 0) H:=λE H=>LC (by omega) λx _=>rfl;have c0: ∀(e1:Option PV)(H:PH),iq ⟨none,P.bs.map cO⟩ (aV 1 (gN 5) bo (ao (a2 (eX 5 1) (eC .non))) (run pg (k+10)) [some P.v,e1,none,none,none]) (P.bs.map cO) [] H= .ok (P.bs.map λb=>PV.tup [.int b.2,.non]) H:=λe1 H=>LC (by omega) λx _=>by simp? [cO]
 have c1: ∀(e1:Option PV)(H:PH),iq ⟨none,P.s1.map PV.str⟩ (aV 1 (gN 5) bo (ao (a2 (eC .non) (eC .non))) (run pg (k+10)) [some P.v,e1,none,none,none]) (P.s1.map PV.str) [] H= .ok (P.s1.map λ_=>PV.tup [.non,.non]) H:=λe1 H=>LC (by omega) λx _=>by simp? [Vh]
 have c2: ∀(e1:Option PV)(H:PH),iq ⟨none,P.s2.map PV.str⟩ (aV 1 (gN 5) bo (ao (a3 (eI 0) (eI 0) (ao ah))) (run pg (k+10)) [some P.v,e1,none,none,none]) (P.s2.map PV.str) [] H= .ok (P.s2.map λ_=>PV.tup [.int 0,.int 0,.tup []]) H:=λe1 H=>LC (by omega) λx _=>by simp? [Vh]
 have i0: ∀ H,aB P.v (.int 0) H= .ok (.tup (P.bs.map cO)) H:=λH=>tR;have j1: ∀ H,aB P.v (.int 1) H= .ok (.tup (P.s1.map PV.str)) H:=λH=>j6;have j2: ∀ H,aB P.v (.int 2) H= .ok (.tup (P.s2.map PV.str)) H:=λH=>wm;have j3: ∀ H,aB P.v (.int 3) H= .ok (.tup (P.s3.map PV.str)) H:=λH=>Bh;have j4: ∀ H,aB P.v (.int 4) H= .ok (.tup (P.hs.map bF)) H:=λH=>uo;have dk:Oy h.length [((.inr "counts" :Key),PV.ref (h.length+(0+1))),(.inr "seats",.ref (h.length+(0+1+1))),(.inr "doors",.ref (h.length+(0+1+1+1)))] (h++[.dct [],.lst [],.lst [],A3])= .ok (.ref h.length) (h++[.dct (mn n),.lst [],.lst [],A3]):=by
  rw[Du cq (by simp),jS];show RV.ok (PV.ref h.length) (h++[.dct (cy [] (mn n)),.lst [],.lst [],A3])=_;rw[p0]
 have l3:(mn n).length < 16777216:=by simp[mn]
 have l4:(mn n++[((.inr "boxes" :Key),PV.ref (n+4))]).length < 16777216:=by simp[mn]
 have l5:(mn n++[((.inr "boxes" :Key),PV.ref (n+4)),(.inr "locks",.ref (n+5))]).length < 16777216:=by simp[mn]
 have A:iS (run pg (k+10)) [some P.v,none,none,none,none] h= .ok (.rt (.ref h.length)) (h++Y):=by
  show ae _ (ae _ (ae _ (ae _ (ae _ _)))) _ _ _=_;refine(bV (e1:=[some P.v,some (.ref h.length),none,none,none]) (h1:=h++[.dct (mn n),.lst [],.lst [],A3]) ?_).trans ?_
  . simp? [lC,oO,lu,ph,px,qi,j3,c3,A3,dk]
  refine(bV (e1:=[some P.v,some (.ref h.length),none,none,none]) (h1:=h++[.dct (mn n++[(.inr "boxes",.ref (n+4))]),.lst [],.lst [],A3,A0]) ?_).trans ?_
  . have q:ia (mn n) (.inr "boxes") (.ref (h.length+(0+1+1+1+1)))=_:=p1;simp? [A0,i0,c0,lU l3,q]
  refine(bV (e1:=[some P.v,some (.ref h.length),none,none,none]) (h1:=h++[.dct (mn n++[(.inr "boxes",.ref (n+4)),(.inr "locks",.ref (n+5))]),.lst [],.lst [],A3,A0,A1]) ?_).trans ?_
  . have q:ia (mn n++[(.inr "boxes",.ref (n+4))]) (.inr "locks") (.ref (h.length+(0+1+1+1+1+1)))=_:=p2;simp? [A1,j1,c1,lU l4,q]
  refine(bV (e1:=[some P.v,some (.ref h.length),none,none,none]) (h1:=h++[.dct (qz n),.lst [],.lst [],A3,A0,A1,A2]) ?_).trans ?_
  . have q:ia (mn n++[(.inr "boxes",.ref (n+4)),(.inr "locks",.ref (n+5))]) (.inr "lanes") (.ref (h.length+(0+1+1+1+1+1+1)))=_:=p3;simp? [A2,j2,c2,lU l5,q]
  . unfold fB at i2;simp only[Vj,VZ,Vh] at i2;have sn:sL h.length []=[]:=rfl;rw[sn] at i2;simp? [j4,i2,n,Y]
 rw[run_eq T.tO rfl];show fin _ (iS (run pg (k+10)) [some P.v,none,none,none,none] h)=_;rw[A,kC];exact cj rfl
end
theorem LM{h:PH}{n:Nat}{ss:List Str}(e:h[n]?=some (.lst (ss.map PV.str)))(hl:ss.length < 64):bJ [.ref n] h= .ok (.ref h.length) (h++[.lst ((cx ss).map PV.str)]):=by
 have i0:itemsOf h (.ref n)=some (ss.map PV.str):=by simp[itemsOf,de,e]
 show fM [.ref n] h=_;unfold fM;simp only[i0,P3.cG,if_pos hl]
theorem Ba{hl held:List Str}(n1:hl.Nodup)(n2:held.Nodup)(s2:held.Pairwise iZ)(m: ∀ y,y∈hl↔y∈held):cx hl=held :=
 P3.iw (le:=iZ) (λa _ b _ h1 h2=>absurd h2 (jR h1)) ((cg hl).trans ((XR n1 n2).mpr m)) (nB n1) s2
noncomputable def sG:MG:=(gT 3 (au (gN 2) (au (gN 3) (au (gN 4) cv))))
noncomputable def sB:MS:=(ae (ai (eB aC (ab (ji 1 (jZ (eB bJ (a1 (aa 3)))) (gN 7) (aH (ak jT (ak aB (aa 3) (aa 7)) (eI 0))) (ao (ab (aa 7) (ab (ak aB (aa 3) (aa 7)) ah)))) ah)) (gN 5)) (cb (eM aM bw (aa 1) (ab (ao (ab (aa 2) (ab (aa 5) (ab (eB aC (ab (eB bJ (a1 (aa 4))) ah)) ah)))) ah))))
section
variable{pg:Tb}(T:bS pg)
include T
theorem xA(k:Nat)(H:PH){n:Nat}{P:Pg}(ok:P.Ok){N:Nat}(N9:N<=60){S:Wd}(W:fR P N S)(R:Rep H n P S S.bg)(e0:Option PV): ∀(ss:List aI)(i:Nat),(∀(j:Nat)(s:aI),ss[j]?=some s->S.bg[i+j]?=some s)-> ∀(vs:List PV)(Y:PH)(e2 e3 e4 e5:Option PV),vs.length+ss.length<=1000 ->
  ∃(X:PH)(f2 f3 f4 f5:Option PV),bN ⟨some (n+2),sL n S.bg⟩ (bE sG sB (run pg (k+1))) (ss.mapIdx λj=>ub n (i+j)) [e0,some (.ref H.length),e2,e3,e4,e5,none] (H++ .lst vs::Y)= .ok (.nx [e0,some (.ref H.length),f2,f3,f4,f5,none]) (H++ .lst (vs++ss.map aA)::(Y++X)):=by
 have hS:=R.cells.e2;have fi: ∀ Z:PH,lA.ko ⟨some (n+2),sL n S.bg⟩ (H++Z)=true:=λZ=>fO ((ay (aG hS)).trans hS);intro ss
 induction ss with
 | nil=>intro i _ vs Y e2 e3 e4 e5 _;exact⟨[],e2,e3,e4,e5,by rw[Vh,VF,VF];exact tZ (fi _)⟩
 | cons s ss ih =>
  intro i hss vs Y e2 e3 e4 e5 hl
  rw[UU] at hl
  have es:S.bg[i]?=some s:=hss 0 s rfl
  have hi:i < P.hs.length:=by rw[<- W.ls];exact(UP.mp es).1
  have ex:=UW hi
  have so:=W.se i _ s ex es
  obtain⟨D,hd,h1,h2,h3,h4,h5,h6⟩:=R.p i _ s ex es
  obtain⟨l1,l2,l3⟩:=eJ (ok.hd _ (Wq hi))
  have hD: ∀ Z:PH,(H++Z)[n+7+3*i]?=some (.dct (dM D)):=λZ=>(ay (aG h1)).trans h1
  have hJ: ∀ Z:PH,(H++Z)[n+9+3*i]?=some (.lst (hd.map PV.str)):=λZ=>(ay (aG h2)).trans h2
  have dl:D.length < 64:=by have:=h3.len;omega
  have pe:=(XR h5 so.nd).mpr h6
  have jl:hd.length < 64:=by have:=so.le;rw[pe.length_eq];omega
  have hs:=Ba h5 so.nd so.sr h6
  let M:List Str:=cx (D.map (·.1))
  have so1:=HR (h:=H++ .lst vs::Y) (hD _) dl
  have te:=FX h3 so.so.pk h4
  have fm:M.filterMap (λz=>if fP D z=0 then none else some (cO (z,fP D z)))=s.ps.map cO:=by
   rw[<- te,<- tX];refine congrFun (congrArg List.filterMap (funext λz=>?_)) M;have:=h3.rS z;by_cases c:fP D z=0
   . rw[if_pos c,if_neg (by omega)]
   . rw[if_neg c,if_pos (by omega)]
  let Y1:PH:=Y++[.lst (M.map PV.str)]
  have lc: ∀ e5:Option PV,iq ⟨some (H.length+(Y.length+1)),M.map PV.str⟩ (aV 1 (gN 7) (aH (ak jT (ak aB (aa 3) (aa 7)) (eI 0))) (ao (ab (aa 7) (ab (ak aB (aa 3) (aa 7)) ah))) (run pg (k+1)) [e0,some (.ref H.length),some (.int s.row),some (.ref (n+7+3*i)),some (.ref (n+9+3*i)),e5,none]) (M.map PV.str) [] (H++ .lst vs::Y1)= .ok (s.ps.map cO) (H++ .lst vs::Y1):=λe5=>by
   refine(dw (fO (by rw[br,Vi];exact cq)) M [] (f:=λz=>if fP D z=0 then none else some (cO (z,fP D z))) (g:=PV.str) (λz m=>?_) ?_).trans (by rw[Vj,fm])
   . have va:cw (dM D) (.inr z)=some (.int (fP D z)):=JK (D:=D) ((cg _).mem_iff.mp m);have hd:=hD (.lst vs::Y1);by_cases c:fP D z=0
     . simp? [hd,va,c,cO]
     . simp? [hd,va,c,cO]
   . have:M.length=D.length:=by rw[(cg _).length_eq,UO]
     simp;omega
  let Y2:PH:=Y1++[.lst (s.ps.map cO)]
  have sl:=LM (h:=H++ .lst vs::Y2) (hJ _) jl
  rw[hs] at sl
  have hz:vs.length < 16777216:=by omega
  obtain⟨X,f2,f3,f4,f5,i1⟩:=ih (i+1) (λj t e=>by rw[abj,aah 1 j];exact hss (j+1) t e) (vs++[aA s]) (Y++[.lst (M.map PV.str),.lst (s.ps.map cO),.lst (s.held.map PV.str)]) (some (.int s.row)) (some (.ref (n+7+3*i))) (some (.ref (n+9+3*i))) (some (.tup (s.ps.map cO))) (by simp only[U5,UU,Vk];omega)
  refine⟨[.lst (M.map PV.str),.lst (s.ps.map cO),.lst (s.held.map PV.str)]++X,f2,f3,f4,f5,?_⟩
  have sv:aA s= .tup [.int s.row,.tup (s.ps.map cO),.tup (s.held.map PV.str)]:=rfl
  have st:bE sG sB (run pg (k+1)) (ub n i s) [e0,some (.ref H.length),e2,e3,e4,e5,none] (H++ .lst vs::Y)= .ok (.nx [e0,some (.ref H.length),some (.int s.row),some (.ref (n+7+3*i)),some (.ref (n+9+3*i)),some (.tup (s.ps.map cO)),none]) (H++ .lst (vs++[aA s])::(Y++[.lst (M.map PV.str),.lst (s.ps.map cO),.lst (s.held.map PV.str)])):=by
   have so':bJ [.ref (n+7+3*i)] (H++ .lst vs::Y)= .ok (.ref (H.length+(Y.length+1))) (H++ .lst vs::(Y++[.lst (M.map PV.str)])):=by rw[so1];simp[M]
   have sl':bJ [.ref (n+9+3*i)] (H++ .lst vs::(Y++[.lst (M.map PV.str),.lst (s.ps.map cO)]))= .ok (.ref (H.length+(Y.length+(0+1+1)+1))) (H++ .lst vs::(Y++[.lst (M.map PV.str),.lst (s.ps.map cO),.lst (s.held.map PV.str)])):=by
    simp only[Y2,Y1,Vs,VZ,Vj] at sl;rw[sl];simp
   simp only[Y1] at lc;rw[sv];simp? [sG,sB,ub,so',lc,sl',kM hz]
  have it:(s::ss).mapIdx (λj=>ub n (i+j))=ub n i s::ss.mapIdx λj=>ub n (i+1+j):=by
   rw[List.mapIdx_cons];refine congrArg (ub n i s:: ·) (congrFun (congrArg List.mapIdx (funext λj=>?_)) ss)
   rw[show i+(j+1)=i+1+j by omega]
  rw[it,t9 (fi _),st,dR,cB,i1]
  simp
theorem uc(k:Nat)(H:PH){n:Nat}{P:Pg}(ok:P.Ok){N:Nat}(N9:N<=60){S:Wd}(W:fR P N S)(R:Rep H n P S S.bg):run pg (k+2) "_law_stand" [.ref n] H= .ok (bz S) H:=by
 have hm:=ok.many;have C:=R.cells;obtain⟨X,f2,f3,f4,f5,lp⟩:=xA T k H ok N9 W R (some (.ref n)) S.bg 0 (λj s e=>by rw[aan];exact e) [] [] none none none none (by rw[W.ls];simp;omega);rw[Vj,Vj,show(λj=>ub n (0+j))=ub n from funext λj=>by rw[aan]] at lp;obtain⟨v1,v2,v3,v4,v5,v6⟩:=dz n;have sx: ∀(Z:PH)(key:Str)(m:Nat),cw (qz n) (.inr key)=some (.ref m)->aB (.ref n) (.str key) (H++Z)= .ok (.ref m) (H++Z):=λZ key m e=>by
  rw[xZ,(ay (aG C.e0)).trans C.e0,Q4,e];rfl
 have tu: ∀(Z:PH)(i:Nat)(xs:List PV),H[n+i]?=some (.lst xs)->aC [.ref (n+i)] (H++Z)= .ok (.tup xs) (H++Z):=λZ i xs e=>by
  rw[lT,(ay (aG e)).trans e,jv]
 have it:s9 (.ref (n+2)) (H++[.lst []])= .ok ⟨some (n+2),sL n S.bg⟩ (H++[.lst []]):=by rw[xX,(ay (aG C.e2)).trans C.e2,yO]
 have ad: ∀(a b c d e f:PV) H,aX (.tup [a,b,c,d]) (.tup [e,f]) H= .ok (.tup [a,b,c,d,e,f]) H:=λa b c d e f H=>jJ (by simp);have fl:=dN _ (ug ok (by omega) W).ok;have lp':bN ⟨some (n+2),sL n S.bg⟩ (bE sG sB (run pg (k+1))) (sL n S.bg) [some (.ref n),some (.ref H.length),none,none,none,none,none] (H++[.lst []])= .ok (.nx [some (.ref n),some (.ref H.length),f2,f3,f4,f5,none]) (H++ .lst (S.bg.map aA)::X):=lp;unfold sG sB at lp';unfold bz at fl ⊢;rw[run_eq T.tL rfl];simp? [fK,lq,sx _ _ _ v1,sx _ _ _ v2,sx _ _ _ v3,sx _ _ _ v4,sx _ _ _ v5,sx _ _ _ v6,it,lp',tu _ _ _ C.e1,tu _ _ _ C.e3,tu _ _ _ C.e4,tu _ _ _ C.e5,tu _ _ _ C.e6,ad];exact bC fl
end
theorem sE{H:PH}{a b:PO}(h0:H[0]?=some a)(h1:H[1]?=some b): ∃ G,H=a::b::G:=by
 match H,h0,h1 with
 | x::y::G,h0,h1=>cases h0;cases h1;exact⟨G,rfl⟩
theorem rN{n:Nat}: ∀{h h':PH},h.length<=h'.length->(∀(i:Nat)(o o':PO),h[i]?=some o->h'[i]?=some o'->o=o'\/(o'.gW n=true/\o.dE=o'.dE))->bW n h h'=true
 | [],_,_,_=>rfl
 | o::h,[],l,_=>by simp at l
 | o::h,o'::h',l,f=>by
  rw[bW,rN (by simpa using l) λi a b e1 e2=>f (i+1) a b e1 e2];rcases f 0 o o' rfl rfl with e | ⟨e1,e2⟩
  . simp[e]
  . simp[e1,e2]
theorem vS{h h':PH}{v:PV}(fl:v.flat=true)(l:h.length<=h'.length)(f: ∀(i:Nat)(o o':PO),h[i]?=some o->h'[i]?=some o'->o=o'\/(o'.gW h.length=true/\o.dE=o'.dE)):P3.settle h v h'= .ok v (h'.take h.length):=by
 unfold P3.settle;rw[if_pos (by rw[fl,rN l f];rfl)]
theorem jK{α :Type}{f: α ->PV}{l:List α}{n:Nat}(h: ∀ x∈l,(f x).flat=true):(PO.lst (l.map f)).gW n=true:=fS n _ (gY h)
theorem Rep.drop{H H':PH}{n:Nat}{P:Pg}{N:Nat}{S S':Wd}(R:Rep H n P S S.bg)(R':Rep H' n P S' S'.bg){N':Nat}(W:fR P N S)(W':fR P N' S'){m:Nat}(hm:n+7+3*P.hs.length<=m){i:Nat}(h1:n<=i)(h2:i < n+7+3*P.hs.length){o o':PO}(e:H[i]?=some o)(e':H'[i]?=some o'):o=o'\/(o'.gW m=true/\o.dE=o'.dE):=by
 by_cases z:i < n+7
 . obtain⟨k,rfl⟩: ∃ k,i=n+k:=⟨i - n,by omega⟩
   have hk:k < 7:=by omega
   rw[R.c k hk] at e;rw[R'.c k hk] at e';cases e;cases e'
   match k,hk with
   | 0,_=>exact .inl rfl
   | 1,_=>exact .inr ⟨jK λ_ _=>rfl,rfl⟩
   | 2,_ =>
    refine .inr ⟨?_,rfl⟩
    have: ∀(vs:List PV),(∀ v∈vs,v.gW m=true)->PV.ib m vs=true:=λvs=>by
     induction vs with
     | nil=>exact λ_=>rfl
     | cons v vs ih=>intro h;rw[PV.ib,h v U3,ih λz mz=>h z (U6 _ mz)];rfl
    refine this _ λv mv=>?_
    obtain⟨j,hj,rfl⟩:=abd mv
    have hj':j < S'.bg.length:=by rw[<- yy n];exact hj
    have ej:=Cj (n:=n) (UW hj')
    rw[UW hj] at ej
    rw[VE ej]
    have:=W'.ls
    simp only[ub,PV.gW,PV.ib,XG,abk,U9,decide_eq_true_eq]
    omega
   | 3,_=>exact .inr ⟨jK λ_ _=>rfl,rfl⟩
   | 4,_=>exact .inr ⟨jK λb mb=>by simp only[gR,PV.flat,PV.aQ,(W'.bx b mb).2.flat,XG],rfl⟩
   | 5,_=>exact .inr ⟨jK λb mb=>by
     have:=(W'.lk b mb).2.flat;obtain⟨a,b⟩:=b;cases a<;>simp only[fz,Jn,PV.flat,PV.aQ,this,XG],rfl⟩
   | 6,_=>exact .inr ⟨jK λb mb=>by simp only[fu,PV.flat,PV.aQ,XG];exact gY λ_ _=>rfl,rfl⟩
 . obtain⟨j,k,hk,rfl⟩: ∃ j k,k < 3/\i=n+7+3*j+k:=⟨(i - n - 7) / 3,(i - n - 7) % 3,by omega,by omega⟩
   have hj:j < P.hs.length:=by omega
   obtain⟨D,hl,d1,d2,_⟩:=R.p j _ _ (UW hj) (UW (by rw[W.ls];exact hj));obtain⟨D',hl',d1',d2',_⟩:=R'.p j _ _ (UW hj) (UW (by rw[W'.ls];exact hj))
   match k,hk with
   | 0,_ =>
    rw[abS,d1] at e;rw[abS,d1'] at e'
    cases e;cases e'
    exact .inr ⟨DT _ _,rfl⟩
   | 1,_ =>
    rw[show n+7+3*j+1=n+8+3*j by omega] at e e'
    rw[R.g j hj] at e;rw[R'.g j hj] at e'
    cases e;cases e'
    exact .inl rfl
   | 2,_ =>
    rw[show n+7+3*j+2=n+9+3*j by omega] at e e'
    rw[d2] at e;rw[d2'] at e'
    cases e;cases e'
    exact .inr ⟨jK λ_ _=>rfl,rfl⟩
structure DI(H:PH)(fr:PO)(n r:Nat)(P:Pg)(q:Int × Int × Int)(S:Wd)(a:List (Nat × PV × PV))(Z:PH):Prop where
 z0:Z[0]?=some fr
 z1:Z[1]?=some (bp q)
 R:Rep Z n P S S.bg
 ru:Z[r]?=some (.lst (a.map my))
 lo:Z[r+1]?=some (.lst (a.map hI))
 off: ∀ i,i < r->i≠1->(i < n\/n+7+3*P.hs.length<=i)->Z[i]?=H[i]?
theorem DI.app{H:PH}{fr:PO}{n r:Nat}{P:Pg}{q:Int × Int × Int}{S:Wd}{a:List (Nat × PV × PV)}{Z:PH}(I:DI H fr n r P q S a Z)(Y:PH):DI H fr n r P q S a (Z++Y) :=
 ⟨(ay (aG I.z0)).trans I.z0,(ay (aG I.z1)).trans I.z1,I.R.app Y,(ay (aG I.ru)).trans I.ru,(ay (aG I.lo)).trans I.lo,λi h1 h2 h3=>(ay (by have:=aG I.ru;omega)).trans (I.off i h1 h2 h3)⟩
theorem DI.box{H:PH}{fr:PO}{n r:Nat}{P:Pg}{q q':Int × Int × Int}{S:Wd}{a:List (Nat × PV × PV)}{G:PH}(n2:2<=n)(nr:n+7+3*P.hs.length<=r)(I:DI H fr n r P q S a (fr::bp q::G)):DI H fr n r P q' S a (fr::bp q'::G):=by
 have off: ∀ i,i≠1->(fr::bp q'::G)[i]?=(fr::bp q::G)[i]?:=λi hi=>by
  match i,hi with
  | 0,_=>rfl
  | k+2,_=>rfl
 exact⟨rfl,rfl,I.R.same λi h1 _=>off i (by omega),by rw[off _ (by omega)];exact I.ru,by rw[off _ (by omega)];exact I.lo,λi h1 h2 h3=>by rw[off i h2];exact I.off i h1 h2 h3⟩
noncomputable def IW:MT:=(pV (aH (ak jT (aa 6) (bH ah))) (aH (ak Bd (eB b6 (a1 (aa 4))) (aa 3))))
noncomputable def Sy:MS:=(ae (ai (ak aB (aa 6) (ag "_law_take" (ab (aa 1) (ab (eB b6 (a1 (aa 6))) ah)))) (gN 7))
  (ae (ai (ag "_law_gift" (ab (aa 1) (ab (ag "_law_row" (a3 (aa 0) (aa 2) (aa 7))) ah))) (gN 8))
  (ae (cb (eM aM bw (aa 4) (ab (ao (a2 (aa 7) (aa 8))) ah)))
  (ae (cb (eM aM bw (aa 5) (ab (ao (ab (aa 7) (ab (ag "_law_go" (ab (aa 0) (a3 (aa 2) (aa 7) (aa 8)))) ah))) ah)))
  (ai (ag "_law_can" (a2 (aa 0) (aa 2))) (gN 6))))))
section
variable{pg:Tb}(T:bS pg)
include T
theorem Bq(k:Nat){H:PH}{fr:PO}{n r:Nat}{P:Pg}(ok:P.Ok)(n2:2<=n)(nr:n+7+3*P.hs.length<=r){q:Int × Int × Int}{N:Nat}{S:Wd}(W:fR P N S)(N9:N<=60){a:List (Nat × PV × PV)}(la:a.length<=100){Z:PH}(I:DI H fr n r P q S a Z){c:Nat}(hc:Z[c]?=some (.lst ((d7 P S).map gq)))(rc:r+1 < c)(ne:d7 P S≠[])(m:PV)(e7 e8:Option PV) :
  ∃(j:Nat)(g l:PV)(S1:Wd)(q':Int × Int × Int)(Z':PH)(c':Nat)(f7 f8:Option PV),Li P S j g l S1/\DI H fr n r P q' S1 (a++[(j,g,l)]) Z'/\Z'[c']?=some (.lst ((d7 P S1).map gq))/\r+1 < c' /\
   Sy (run pg (k+20)) [some P.v,some (.ref 1),some (.ref n),some m,some (.ref r),some (.ref (r+1)),some (.ref c),e7,e8] Z= .ok (.nx [some P.v,some (.ref 1),some (.ref n),some m,some (.ref r),some (.ref (r+1)),some (.ref c'),f7,f8]) Z':=by
 have hm:=ok.many;have lc0:0 < (d7 P S).length:=abc.mpr ne;have lc4:(d7 P S).length<=4:=by
  unfold d7;exact Vn (Yz _ _) (by rw[XM];omega)
 obtain⟨G,rfl⟩:=sE I.z0 I.z1;obtain⟨v,q1,v0,v1,ev⟩:=cA T (k+19) fr q (d7 P S).length (by omega) (by omega);obtain⟨vn,rfl⟩:=V0 v0;have vl:vn < (d7 P S).length:=by omega
 obtain⟨j,ej⟩: ∃ j,(d7 P S)[vn]?=some j:=⟨_,UW vl⟩
 have mj:=Wl.mp (UX ej);have hj:j < P.hs.length:=Xm.mp mj.1;have hw:cZ P S j= .non:=by simpa using mj.2
 obtain⟨x,s,cc,ex,es,ec,so⟩:=lF W hj;obtain⟨rw_,er⟩: ∃ r,x.2[s.row]?=some r:=by
  cases e:x.2[s.row]? with
  | some r=>exact⟨r,rfl⟩
  | none =>
   unfold cZ at hw
   rw[fg ex es,e] at hw
   exact nomatch hw
 obtain⟨l1,l2,l3⟩:=eJ (ok.hd x (UX ex));obtain⟨gf,q2,hg,eg⟩:=wA T (k+18) fr q1 (l3 rw_ (UX er));have I1:DI H fr n r P q1 S a (fr::bp q1::G):=I.box n2 nr;have I2:DI H fr n r P q2 S a (fr::bp q2::G):=I.box n2 nr;obtain⟨K0,hK0⟩: ∃ K,K=fr::bp q::G:=⟨_,rfl⟩
 obtain⟨K1,hK1⟩: ∃ K,K=fr::bp q1::G:=⟨_,rfl⟩
 obtain⟨K2,hK2⟩: ∃ K,K=fr::bp q2::G:=⟨_,rfl⟩
 have ev':run pg (k+20) "_law_take" [.ref 1,.int ((d7 P S).length:Int)] K0= .ok (.int (vn:Int)) K1:=by rw[hK0,hK1];exact ev G
 have eg':run pg (k+20) "_law_gift" [.ref 1,bq rw_] K1= .ok gf K2:=by rw[hK1,hK2];exact eg G
 have lK0:K0[c]?=some (.lst ((d7 P S).map gq)):=by rw[hK0];exact hc
 have c1:c≠1:=by omega
 have lK1:K1[c]?=some (.lst ((d7 P S).map gq)):=by
  rw[hK1]
  match c,c1,hc with
  | 0,_,hc=>exact hc
  | c+2,_,hc=>exact hc
 rw[<- hK1] at I1;rw[<- hK2] at I2;have ro:=kz T (k+19) W I1.R.cells hj;rw[fg ex es,er] at ro;have ro':run pg (k+20) "_law_row" [P.v,.ref n,gq j] K1= .ok (bq rw_) K1:=ro;have ln:b6 [.ref c] K0= .ok (.int ((d7 P S).length:Int)) K0:=by rw[zv,lK0,ui,UO]
 have ix1:aB (.ref c) (.int (vn:Int)) K1= .ok (gq j) K1:=by rw[xZ,lK1,Eo,bL (f:=gq) ej];rfl
 let S1:=fD P S j cc x.2 s gf rw_
 let l:PV:=df rw_ (met P S j cc s gf rw_).2.1 (met P S j cc s gf rw_).2.2
 have hz: ∀ f:Nat × PV × PV->PV,(a.map f).length < 16777216:=λf=>by rw[UO];omega
 let K3:=K2.set r (.lst (a.map my++[.tup [gq j,gf]]))
 have ap1:aM (.ref r) [.tup [gq j,gf]] K2= .ok .non K3:=by rw[Ov,I2.ru,kM (hz _)]
 have R3:Rep K3 n P S S.bg:=I2.R.same λi h1 h2=>aR (by omega);obtain⟨K4,F4,R4,go⟩:=AI T (k+9) ok W N9 R3 ex es ec er hw hg;have go':run pg (k+20) "_law_go" [P.v,.ref n,gq j,gf] K3= .ok l K4:=go;have lo3:K3[r+1]?=some (.lst (a.map hI)):=by show(K2.set _ _)[_]?=_;rw[aR (by omega)];exact I2.lo
 have lo4:K4[r+1]?=some (.lst (a.map hI)):=by rw[F4.off _ (by omega)];exact lo3
 let K5:=K4.set (r+1) (.lst (a.map hI++[.tup [gq j,l]]))
 have ap2:aM (.ref (r+1)) [.tup [gq j,l]] K4= .ok .non K5:=by rw[Ov,lo4,kM (hz _)]
 have R5:Rep K5 n P S1 S1.bg:=R4.same λi h1 h2=>aR (by omega);have W1:fR P (N+1) S1:=zO ok W ex es ec er hw hg;have HC:=o9 T (k+17) ok W1 R5.cells;have can':run pg (k+20) "_law_can" [P.v,.ref n] K5= .ok (.ref K5.length) (K5++[.lst ((d7 P S1).map gq)]):=HC;have out: ∀ i,i≠r->i≠r+1->(i < n\/n+7+3*P.hs.length<=i)->K5[i]?=K2[i]?:=λi h1 h2 h3=>by
  show(K4.set _ _)[i]?=_;rw[aR (λe=>h2 e.symm),F4.off i h3];exact aR λe=>h1 e.symm
 have lr2:=aG I2.ru;have lr3:r < K3.length:=by show r < (K2.set _ _).length;rw[Vr];exact lr2
 have I5:DI H fr n r P q2 S1 (a++[(j,gf,l)]) K5:=by
  refine⟨by rw[out 0 (by omega) (by omega) (by omega)];exact I2.z0,by rw[out 1 (by omega) (by omega) (by omega)];exact I2.z1,R5,?_,?_,λi h1 h2 h3=>by rw[out i (by omega) (by omega) h3];exact I2.off i h1 h2 h3⟩
  . show(K4.set _ _)[r]?=_;rw[aR (by omega),F4.off _ (by omega),VG];exact kJ lr2
  . show(K4.set _ _)[r+1]?=_;rw[kJ (aG lo4),VG];rfl
 refine⟨j,gf,l,S1,q2,K5++[.lst ((d7 P S1).map gq)],K5.length,some (gq j),some gf,⟨x,s,cc,rw_,ex,es,ec,er,hw,hg,rfl,rfl⟩,I5.app _,cq,aG I5.lo,?_⟩;rw[<- hK0];have ru2:=I2.ru
 clear_value K3 K5 S1 l
 simp? [Sy,ln,ev',ix1,ro',eg',ru2,↓ap1,lo3,go',lo4,↓ap2,can']
end
section
variable{pg:Tb}(T:bS pg)
include T
theorem AO(k:Nat){H:PH}{fr:PO}{n r:Nat}{P:Pg}(ok:P.Ok)(n2:2<=n)(nr:n+7+3*P.hs.length<=r){N:Nat}{S0:Wd}(W0:fR P N S0){m:Nat}(m9:N+m<=60): ∀(d f:Nat)(a:List (Nat × PV × PV))(S:Wd)(q:Int × Int × Int)(Z:PH)(c:Nat)(e7 e8:Option PV),a.length+d=m->d < f->Wk P S0 a S->DI H fr n r P q S a Z->Z[c]?=some (.lst ((d7 P S).map gq))->r+1 < c ->
  ∃(a':List (Nat × PV × PV))(S':Wd)(q':Int × Int × Int)(Z':PH)(c':Nat)(f7 f8:Option PV),a'.length<=m/\Wk P S0 a' S'/\DI H fr n r P q' S' a' Z' /\
   cI (IW (run pg (k+20))) (Sy (run pg (k+20))) f [some P.v,some (.ref 1),some (.ref n),some (.int (m:Int)),some (.ref r),some (.ref (r+1)),some (.ref c),e7,e8] Z= .ok (.nx [some P.v,some (.ref 1),some (.ref n),some (.int (m:Int)),some (.ref r),some (.ref (r+1)),some (.ref c'),f7,f8]) Z':=by
 intro d
 induction d with
 | zero =>
  intro f a S q Z c e7 e8 ha hf w I hc rc
  obtain⟨f,rfl⟩: ∃ j,f=j+1:=⟨f - 1,by omega⟩
  refine⟨a,S,q,Z++[.lst []],c,e7,e8,by omega,w,I.app _,?_⟩
  obtain⟨ds,d1,d2⟩:=IS (d7 P S)
  have ne:=zu (h:=Z++[.lst []]) (n:=c) (m:=Z.length) ((ay (aG hc)).trans hc) cq d1 d2
  have ru:=(I.app [.lst []]).ru
  have ln:b6 [.ref r] (Z++[.lst []])= .ok (.int (a.length:Int)) (Z++[.lst []]):=by rw[zv,ru,ui,UO]
  have z: ¬ (a.length:Int) < (m:Int):=by omega
  have tt:IW (run pg (k+20)) [some P.v,some (.ref 1),some (.ref n),some (.int (m:Int)),some (.ref r),some (.ref (r+1)),some (.ref c),e7,e8] Z= .ok false (Z++[.lst []]):=by
   by_cases q0:(d7 P S).map gq=[]
   . have dt:decide ((d7 P S).map gq=[])=true:=decide_eq_true q0;rw[dt] at ne;simp? [IW,ne]
   . have dt:decide ((d7 P S).map gq=[])=false:=decide_eq_false q0;rw[dt] at ne;simp? [IW,ne,ln,z]
  rw[cI,tt,cK,if_neg Vb]
 | succ d ih =>
  intro f a S q Z c e7 e8 ha hf w I hc rc
  obtain⟨f,rfl⟩: ∃ j,f=j+1:=⟨f - 1,by omega⟩
  obtain⟨ds,d1,d2⟩:=IS (d7 P S)
  have hc':(Z++[PO.lst []])[c]?=some (.lst ((d7 P S).map gq)):=(ay (aG hc)).trans hc
  have ne:=zu (h:=Z++[.lst []]) (n:=c) (m:=Z.length) hc' cq d1 d2
  have I':=I.app [.lst []]
  have ru:=I'.ru
  have ln:b6 [.ref r] (Z++[.lst []])= .ok (.int (a.length:Int)) (Z++[.lst []]):=by rw[zv,ru,ui,UO]
  have z:(a.length:Int) < (m:Int):=by omega
  by_cases q0:(d7 P S).map gq=[]
  . refine⟨a,S,q,Z++[.lst []],c,e7,e8,by omega,w,I',?_⟩;have dt:decide ((d7 P S).map gq=[])=true:=decide_eq_true q0;rw[dt] at ne;have tt:IW (run pg (k+20)) [some P.v,some (.ref 1),some (.ref n),some (.int (m:Int)),some (.ref r),some (.ref (r+1)),some (.ref c),e7,e8] Z= .ok false (Z++[.lst []]):=by
     simp? [IW,ne]
    rw[cI,tt,cK,if_neg Vb]
  . have dt:decide ((d7 P S).map gq=[])=false:=decide_eq_false q0;rw[dt] at ne;have tt:IW (run pg (k+20)) [some P.v,some (.ref 1),some (.ref n),some (.int (m:Int)),some (.ref r),some (.ref (r+1)),some (.ref c),e7,e8] Z= .ok true (Z++[.lst []]):=by
     simp? [IW,ne,ln,z]
    have W:=w.ok ok W0;obtain⟨j,g,l,S1,q1,Z1,c1,f7,f8,st,I1,hc1,rc1,e1⟩:=Bq T k ok n2 nr W (by omega) (by omega) I' hc' rc (λe=>q0 (by rw[e];rfl)) (.int (m:Int)) e7 e8;obtain⟨a',S',q',Z',c',g7,g8,h1,h2,h3,h4⟩:=ih f (a++[(j,g,l)]) S1 q1 Z1 c1 f7 f8 (by rw[U5,Yx];omega) (by omega) (w.app (.cons st (.nil _))) I1 hc1 rc1;exact⟨a',S',q',Z',c',g7,g8,h1,h2,h3,by rw[Jb tt e1];exact h4⟩
theorem uG(k:Nat){fr:PO}{q:Int × Int × Int}{G:PH}{n:Nat}{P:Pg}(ok:P.Ok)(n2:2<=n){N:Nat}{S:Wd}(W:fR P N S)(R:Rep (fr::bp q::G) n P S S.bg)(hl:n+7+3*P.hs.length<=(fr::bp q::G).length){m:Nat}(m9:N+m<=60) :
  ∃(a:List (Nat × PV × PV))(S':Wd)(q':Int × Int × Int)(G':PH),a.length<=m/\Wk P S a S'/\G'.length=G.length/\Rep (fr::bp q'::G') n P S' S'.bg/\(∀ i,i≠1->(i < n\/n+7+3*P.hs.length<=i)->(fr::bp q'::G')[i]?=(fr::bp q::G)[i]?) /\
   run pg (k+21) "_law_drawn" [P.v,.ref 1,.ref n,.int (m:Int)] (fr::bp q::G)= .ok (.tup [.tup (a.map my),.tup (a.map hI)]) (fr::bp q'::G'):=by
 obtain⟨H,hH⟩: ∃ H,H=fr::bp q::G:=⟨_,rfl⟩
 rw[<- hH] at R hl ⊢;have hm:=ok.many
 let r:=H.length
 have HC:=o9 T (k+17) ok W (R.app [.lst [],.lst []]).cells;have can':run pg (k+20) "_law_can" [P.v,.ref n] (H++[.lst [],.lst []])= .ok (.ref (H.length+(0+1+1))) (H++[.lst [],.lst [],.lst ((d7 P S).map gq)]):=by
  have:(H++[PO.lst [],.lst []]).length=H.length+(0+1+1):=by rw[U5];rfl
  rw[<- this];refine HC.trans ?_;rw[Vs];rfl
 let Z0:PH:=H++[.lst [],.lst [],.lst ((d7 P S).map gq)]
 have I0:DI H fr n r P q S [] Z0:=⟨by show(H++_)[0]?=_;rw[hH];rfl,by show(H++_)[1]?=_;rw[hH];rfl,R.app _,cq,by show(H++_)[H.length+1]?=_;rw[br];rfl,λi h1 _ _=>ay h1⟩
 obtain⟨a,S',q',Z',c',f7,f8,la,w,I,wh⟩:=AO T k (H:=H) (fr:=fr) ok n2 hl W m9 m 100000 [] S q Z0 (H.length+(0+1+1)) none none (by simp) (by omega) (.nil S) I0 (by show(H++_)[_]?=_;rw[br];rfl) (by omega);have W':=w.ok ok W;have sh:=w.sh ok (N:=N) (by omega) W;have lz:r < Z'.length:=aG I.ru;have tk: ∀ i,i < r->(Z'.take r)[i]?=Z'[i]?:=λi hi=>by rw[abz];simp[hi]
 obtain⟨G',hG'⟩:=sE (H:=Z'.take r) (a:=fr) (b:=bp q') (by rw[tk 0 (by omega)];exact I.z0) (by rw[tk 1 (by omega)];exact I.z1);have lG:G'.length=G.length:=by
  have e1:(Z'.take r).length=r:=by rw[VC];omega
  rw[hG'] at e1;have e2:r=(fr::bp q::G).length:=by show H.length=_;rw[hH]
  rw[e2] at e1;simpa using e1
 refine⟨a,S',q',G',la,w,lG,?_,λi h1 h2=>?_,?_⟩
 . rw[<- hG'];exact I.R.same λi h1 h2=>tk i (by omega)
 . rw[<- hG'];by_cases z:i < r
   . rw[tk i z];exact I.off i z h1 h2
   . rw[Wf (by rw[VC];omega),Wf (by omega)]
 have fl:PV.flat (.tup [.tup (a.map my),.tup (a.map hI)])=true:=by
  have s1:=Cg ok (by omega) sh;have f1:=dN _ s1.1.ok;have f2:=dN _ s1.2.ok;rw[PV.flat,PV.aQ,PV.aQ,PV.aQ,f1,f2];rfl
 have se:=vS (h:=H) (h':=Z') fl (WO lz) λi o o' e e'=>by
  have hi:i < r:=aG e;by_cases z1:i=1
  . subst z1;rw[hH] at e;rw[I.z1] at e';cases e;cases e';exact .inr ⟨rfl,rfl⟩
  . by_cases z2:i < n\/n+7+3*P.hs.length<=i
    . rw[I.off i hi z1 z2,e] at e';exact .inl (VE e')
    . exact Rep.drop R I.R W W' hl (by omega) (by omega) e e'
 have tu1:aC [.ref r] Z'= .ok (.tup (a.map my)) Z':=by rw[lT,I.ru,jv]
 have tu2:aC [.ref (r+1)] Z'= .ok (.tup (a.map hI)) Z':=by rw[lT,I.lo,jv]
 rw[run_eq T.tM rfl,<- hG'];have A:iJ (run pg (k+20)) [some P.v,some (.ref 1),some (.ref n),some (.int (m:Int)),none,none,none,none,none] H= .ok (.rt (.tup [.tup (a.map my),.tup (a.map hI)])) Z':=by
  show ae _ (ae _ (ae _ (ae _ _))) _ _ _=_;refine(bV (e1:=[some P.v,some (.ref 1),some (.ref n),some (.int (m:Int)),some (.ref H.length),none,none,none,none]) (h1:=H++[.lst []]) ?_).trans ?_
  . simp? [Vh]
  refine(bV (e1:=[some P.v,some (.ref 1),some (.ref n),some (.int (m:Int)),some (.ref H.length),some (.ref (H.length+(0+1))),none,none,none]) (h1:=H++[.lst [],.lst []]) ?_).trans ?_
  . simp? [Vh]
  refine(bV (e1:=[some P.v,some (.ref 1),some (.ref n),some (.int (m:Int)),some (.ref H.length),some (.ref (H.length+(0+1))),some (.ref (H.length+(0+1+1))),none,none]) (h1:=Z0) ?_).trans ?_
  . simp? [can',Z0]
  refine(bV (e1:=[some P.v,some (.ref 1),some (.ref n),some (.int (m:Int)),some (.ref r),some (.ref (r+1)),some (.ref c'),f7,f8]) (h1:=Z') ?_).trans ?_
  . exact wh
  . simp? [tu1,tu2]
 show fin _ (iJ (run pg (k+20)) [some P.v,some (.ref 1),some (.ref n),some (.int (m:Int)),none,none,none,none,none] H)=_;rw[A,kC];exact se
end
noncomputable def RM:MS:=(ae (bR (aH (ak jT (eB dZ (ab (ag "walked" (a3 (aa 0) (aa 1) (aa 2))) ah)) (aa 6))) (aw (eC (.bl false))) cD)
  (bR (aH (ak jT (eB dZ (ab (ag "tables_of" (a3 (aa 0) (aa 1) (aa 2))) ah)) (eB dZ (ab (ag "_law_tables" (a2 (aa 0) (aa 4))) ah)))) (aw (eC (.bl false))) cD))
section
variable{pg:Tb}(T:bS pg)
include T
theorem l8(k:Nat)(H:PH){n:Nat}{P:Pg}(ok:P.Ok){N:Nat}{S0 S:Wd}(W:fR P N S0){a:List (Nat × PV × PV)}(hN:N+a.length<=60)(w:Wk P S0 a S)(R:Rep H n P S S.bg) :
  run pg (k+18) "_law_is_walked" [P.v,bz S0,.tup (a.map my),.ref n,.tup (a.map hI)] H= .ok (.bl true) H:=by
 have W2:=w.ok ok W;have sh:=w.sh ok (N:=N) (by omega) W;obtain⟨r1,r2⟩:=Cg ok (by omega) sh;obtain⟨x1,s1⟩:=(dm 6 (ug ok (by omega) W) (dm 6 r1 (ou 6))).show;obtain⟨x2,s2⟩:=(dm 6 (ug ok (by omega) W2) (dm 6 r2 (ou 6))).show;obtain⟨x3,s3⟩:=(EL ok (by omega) sh).show;have st:=uc T (k+15) H ok (by omega) W2 R;have we:=nu T (k+2) H ok W hN w;have ta:=tP T (k+1) H ok W hN w;have lt:=qU T (k+16) H ok (by omega) sh;have bd: ∀(i:PV)(e7:Option PV),bE (gN 7) RM (run pg (k+17)) i [some P.v,some (bz S0),some (.tup (a.map my)),some (.ref n),some (.tup (a.map hI)),some (.str x1),some (.str x2),e7] H= .ok (.nx [some P.v,some (bz S0),some (.tup (a.map my)),some (.ref n),some (.tup (a.map hI)),some (.str x1),some (.str x2),some i]) H:=λi e7=>by
  simp? [RM,we,s2,ta,s3,lt]
 have lp: ∀(xs0 aj:List PV)(e7:Option PV),∃ f7,bN ⟨none,xs0⟩ (bE (gN 7) RM (run pg (k+17))) aj [some P.v,some (bz S0),some (.tup (a.map my)),some (.ref n),some (.tup (a.map hI)),some (.str x1),some (.str x2),e7] H= .ok (.nx [some P.v,some (bz S0),some (.tup (a.map my)),some (.ref n),some (.tup (a.map hI)),some (.str x1),some (.str x2),f7]) H:=by
  intro xs0 aj
  induction aj with
  | nil=>exact λe7=>⟨e7,gS⟩
  | cons y aj ih=>intro e7;obtain⟨f7,h⟩:=ih (some y);exact⟨f7,by rw[fw,bd,dR,cB];exact h⟩
 obtain⟨f7,l2⟩:=lp (az 0 2) (az 0 2) none;have r4:az 0 (2:Int).toNat=az 0 2:=rfl;unfold RM at l2;rw[run_eq T.mZ rfl];simp? [cU,ic,s1,st,s2,↓tW,↓t8,oI,dR,oF,r4,l2]
end
noncomputable def room:Nat:=30
noncomputable def NK(P:Pg)(a:List (Nat × PV × PV))(n pl:Nat):PV:= .tup [P.v,.tup (a.map my),.ref n,.tup (a.map hI),.int (pl:Int)]
noncomputable def S5:MS:=(ae (ai (ag "_law_program" (a1 (aa 1))) (gN 4))
  (ae (ai (ag "_law_first" (a1 (aa 4))) (gN 5))
  (ae (ai (ag "_law_drawn" (ab (aa 4) (ab (aa 1) (ab (aa 5) (ab (ag "_law_take" (a2 (aa 1) (eI 25))) ah))))) (gT 2 (au (gN 6) (au (gN 7) cv))))
  (ae (ai (ag "_law_take" (ab (aa 1) (ab (ak aX (eB b6 (a1 (aa 6))) (eI 1)) ah))) (gN 8))
  (cb (eM aM bw (aa 2) (ab (ao (ab (aa 4) (ab (aa 6) (a3 (aa 5) (aa 7) (aa 8))))) ah)))))))
noncomputable def Sd:MG:=(gT 5 (au (gN 4) (au (gN 6) (au (gN 5) (au (gN 7) (au (gN 8) cv))))))
noncomputable def RS:MS:=(ae (ai (ag "first_stand" (a1 (aa 4))) (gN 9))
  (ae (bR (qh (aH (ag "_law_is_walked" (ab (aa 4) (ab (aa 9) (a3 (aa 6) (aa 5) (aa 7))))))) (aw (eC (.bl false))) cD)
  (ae (ai (ak aB (ag "walked" (ab (aa 4) (ab (aa 9) (ab (rL (aa 6) eF (cY (aa 8))) ah)))) (eI 0)) (gN 10))
  (bR (qh (aH (ag "_law_is_walked" (ab (aa 4) (ab (aa 10) (ab (rL (aa 6) (cY (aa 8)) eF) (ab (aa 5) (ab (rL (aa 7) (cY (aa 8)) eF) ah)))))))) (aw (eC (.bl false))) cD))))
structure Ca(H:PH)(v:PV):Prop where
 at_: ∃(P:Pg)(a:List (Nat × PV × PV))(S:Wd)(n pl:Nat),v=NK P a n pl/\P.Ok/\Wk P (gQ P) a S/\a.length<=24/\Rep H n P S S.bg/\pl<=a.length
theorem PK{A B C A' B' C':PO}{G G':PH}(h: ∀ i,i < G.length->G'[i]?=G[i]?): ∀ i,3<=i->i < 3+G.length->(A::B::C::G')[i]?=(A'::B'::C'::G)[i]?:=λi h1 h2=>by
 obtain⟨k,rfl⟩: ∃ k,i=k+1+1+1:=⟨i - 3,by omega⟩
 exact h k (by omega)
section
variable{pg:Tb}(T:bS pg)
include T
theorem rO(fr:PO)(q:Int × Int × Int)(cs:List PV)(hcs:cs.length<=10)(G:PH)(i:Int)(e0 e3 e4 e5 e6 e7 e8:Option PV) :
  ∃(v:PV)(q':Int × Int × Int)(G':PH)(f4 f5 f6 f7 f8:Option PV),Ca (fr::bp q':: .lst (cs++[v])::G') v/\G.length<=G'.length/\(∀ i,i < G.length->G'[i]?=G[i]?)/\(∃ P a pl,v=NK P a (3+G.length) pl/\3+G.length+7+3*P.hs.length<=3+G'.length) /\
   bE (gN 3) S5 (run pg 30) (.int i) [e0,some (.ref 1),some (.ref 2),e3,e4,e5,e6,e7,e8,none,none] (fr::bp q:: .lst cs::G)= .ok (.nx [e0,some (.ref 1),some (.ref 2),some (.int i),f4,f5,f6,f7,f8,none,none]) (fr::bp q':: .lst (cs++[v])::G'):=by
 obtain⟨b1,s11,s12,s13,h1,p1,q1,D1,e1⟩:=yI T 23 fr q (.lst cs::G);obtain⟨rfl,ok⟩:=D1.pg;obtain⟨P,hP⟩: ∃ P,P=Pg.mk b1 s11 s12 s13 h1:=⟨_,rfl⟩
 rw[<- hP] at ok e1;have hm:=ok.many;obtain⟨X,lX,R0,ef⟩:=tS T 19 (fr::bp q1:: .lst cs::G) ok;have ln:(fr::bp q1::PO.lst cs::G).length=3+G.length:=by simp only[UU];omega
 rw[ln] at R0 ef;obtain⟨t,q2,t0,t1,et⟩:=cA T 29 fr q1 25 (by decide) (by decide);obtain⟨tn,rfl⟩:=V0 t0;have W0:=yR ok;have R1:Rep (fr::bp q2:: .lst cs::(G++X)) (3+G.length) P (gQ P) (gQ P).bg:=R0.same λi h1 _=>by
  obtain⟨k,rfl⟩: ∃ k,i=k+1+1:=⟨i - 2,by omega⟩
  rfl
 obtain⟨a,S,q3,G3,la,w,lG,R3,off,ed⟩:=uG T 9 ok (by omega) W0 R1 (by simp only[UU,U5,lX];omega) (m:=tn) (by omega);obtain⟨g2,G4,rfl⟩: ∃ g2 G4,G3=g2::G4:=by
  cases G3 with
  | nil=>simp at lG
  | cons x y=>exact⟨x,y,rfl⟩
 have g2e:g2= .lst cs:=VE (off 2 (by omega) (by omega));subst g2e;have lG4:G4.length=G.length+X.length:=by simpa using lG
 obtain⟨p,q4,p0,p9,ep⟩:=cA T 29 fr q3 ((a.length:Int)+1) (by omega) (by omega);obtain⟨pl,rfl⟩:=V0 p0
 let v:PV:=NK P a (3+G.length) pl
 have R4:Rep (fr::bp q4:: .lst (cs++[v])::G4) (3+G.length) P S S.bg:=R3.same λi h1 _=>by
  obtain⟨k,rfl⟩: ∃ k,i=k+1+1+1:=⟨i - 3,by omega⟩
  rfl
 refine⟨v,q4,G4,some P.v,some (.ref (3+G.length)),some (.tup (a.map my)),some (.tup (a.map hI)),some (.int (pl:Int)),⟨P,a,S,3+G.length,pl,rfl,ok,w,by omega,R4,by omega⟩,by omega,λi hi=>?_,⟨P,a,pl,rfl,by omega⟩,?_⟩
 . have:=off (i+1+1+1) (by omega) (by omega);refine Eq.trans this ?_;show(G++X)[i]?=_;exact ay hi
 have hz:cs.length < 16777216:=by omega
 have e1':run pg 30 "_law_program" [.ref 1] (fr::bp q:: .lst cs::G)= .ok P.v (fr::bp q1:: .lst cs::G):=e1;have ef':run pg 30 "_law_first" [P.v] (fr::bp q1:: .lst cs::G)= .ok (.ref (3+G.length)) (fr::bp q1:: .lst cs::(G++X)):=ef;have et':run pg 30 "_law_take" [.ref 1,.int 25] (fr::bp q1:: .lst cs::(G++X))= .ok (.int (tn:Int)) (fr::bp q2:: .lst cs::(G++X)):=et _;have ep':run pg 30 "_law_take" [.ref 1,.int ((a.length:Int)+1)] (fr::bp q3:: .lst cs::G4)= .ok (.int (pl:Int)) (fr::bp q4:: .lst cs::G4):=ep _
 clear R0 R1 R3 R4 off
 simp? [S5,v,NK,e1',ef',et',ed,ep',kM hz,UO]
theorem IL{H:PH}{v:PV}(c:Ca H v)(e0 e3 e4 e5 e6 e7 e8 e9 e10:Option PV) :
  ∃ f4 f5 f6 f7 f8 f9 f10:Option PV,bE Sd RS (run pg 30) v [e0,some (.ref 1),some (.ref 2),e3,e4,e5,e6,e7,e8,e9,e10] H= .ok (.nx [e0,some (.ref 1),some (.ref 2),e3,f4,f5,f6,f7,f8,f9,f10]) H:=by
 obtain⟨P,a,S,n,pl,rfl,ok,w,la,R,hp⟩:=c.at_;have W:=yR ok;obtain⟨S1,w1,w2⟩:=Wk.split (a:=a.take pl) (b:=a.drop pl) (by rw[List.take_append_drop];exact w);have l1:(a.take pl).length<=24:=by rw[VC];omega
 have l2:(a.take pl).length+(a.drop pl).length<=24:=by rw[VC,Wn];omega
 have fs:=pd T 18 H ok;have i1:=l8 T 12 H ok W (by omega) w R;have wa:=nu T 15 H ok W (a:=a.take pl) (by omega) w1;have W1:=w1.ok ok W;have i2:=l8 T 12 H ok W1 (by omega) w2 R;have c1: ∀ f:Nat × PV × PV->PV,fF (a.map f) none (some (pl:Int))=(a.take pl).map f:=λf=>by rw[P3.mW (by omega),VH,ZR]
 have c2: ∀ f:Nat × PV × PV->PV,fF (a.map f) (some (pl:Int)) none=(a.drop pl).map f:=λf=>by rw[P3.jC (by omega),VH,abi]
 exact⟨some P.v,some (.ref n),some (.tup (a.map my)),some (.tup (a.map hI)),some (.int pl),some (bz (gQ P)),some (bz S1),by
  simp? [Sd,RS,NK,fs,i1,c1,wa,c2,i2]⟩
theorem Am{H:PH}{x:Nat}{xs0:List PV}(hx:H[x]?=some (.lst xs0))(e0 e3:Option PV): ∀(vs:List PV),(∀ v∈vs,Ca H v)-> ∀(e4 e5 e6 e7 e8 e9 e10:Option PV),
  ∃ f4 f5 f6 f7 f8 f9 f10:Option PV,bN ⟨some x,xs0⟩ (bE Sd RS (run pg 30)) vs [e0,some (.ref 1),some (.ref 2),e3,e4,e5,e6,e7,e8,e9,e10] H= .ok (.nx [e0,some (.ref 1),some (.ref 2),e3,f4,f5,f6,f7,f8,f9,f10]) H:=by
 intro vs
 induction vs with
 | nil=>intro _ e4 e5 e6 e7 e8 e9 e10;exact⟨e4,e5,e6,e7,e8,e9,e10,tZ (fO hx)⟩
 | cons v vs ih =>
  intro h e4 e5 e6 e7 e8 e9 e10
  obtain⟨f4,f5,f6,f7,f8,f9,f10,st⟩:=IL T (h v U3) e0 e3 e4 e5 e6 e7 e8 e9 e10
  obtain⟨g4,g5,g6,g7,g8,g9,g10,lp⟩:=ih (λz m=>h z (U6 _ m)) f4 f5 f6 f7 f8 f9 f10
  exact⟨g4,g5,g6,g7,g8,g9,g10,by rw[t9 (fO hx),st,dR,cB];exact lp⟩
end
theorem CI: ∀ ns:List Int,ns.length<=63->Ok (run tb (room+1) "law" [.ref 0] [.lB (ns.map PV.int)]) λv _=>v= .bl true:=by
 intro ns hn;have T:bS tb:=has;show Ok (run tb (30+1) "law" [.ref 0] [zH ns]) _;obtain⟨q0,bx⟩:=J4 T 29 ns hn;obtain⟨v1,q1,G1,f4,f5,f6,f7,f8,C1,l1,o1,⟨P1,a1,p1,hv1,b1⟩,s1⟩:=rO T (zH ns) q0 [] (by decide) [] 0 (some (.ref 0)) none none none none none none;obtain⟨v2,q2,G2,g4,g5,g6,g7,g8,C2,l2,o2,_,s2⟩:=rO T (zH ns) q1 [v1] (by simp) G1 1 (some (.ref 0)) (some (.int 0)) f4 f5 f6 f7 f8
 let H:PH:=zH ns::bp q2:: .lst [v1,v2]::G2
 have C1':Ca H v1:=by
  obtain⟨P,a,S,n,pl,e,ok,w,la,R,hp⟩:=C1.at_;refine⟨P,a,S,n,pl,e,ok,w,la,?_,hp⟩;have e':NK P a n pl=NK P1 a1 (3+([]:PH).length) p1:=e.symm.trans hv1;have en:n=3:=by injection e' with e';injection e' with _ e';injection e' with _ e';injection e' with e' _;injection e'
  have eh:P.hs.length=P1.hs.length:=by
   injection e' with e';injection e' with e' _;have:Pg.v P=Pg.v P1:=e';injection this with this;injection this with _ this;injection this with _ this;injection this with _ this;injection this with _ this;injection this with this _;injection this with this;have:=congrArg aaM this;simpa using this
  subst en;refine R.same λi h1 h2=>PK o2 i h1 ?_;simp only[Vk] at b1;omega
 let X:PH:=H++[.lst [v1],.lst [v1,v2,v1]]
 have CX: ∀ v∈[v1,v2,v1],Ca X v:=λv m=>by
  have h:Ca H v:=by
   simp only[U1,Vm,or_false] at m;rcases m with rfl | rfl | rfl
   . exact C1'
   . exact C2
   . exact C1'
  obtain⟨P,a,S,n,pl,e,ok,w,la,R,hp⟩:=h.at_;exact⟨P,a,S,n,pl,e,ok,w,la,R.app _,hp⟩
 have hX:X[H.length+(0+1)]?=some (.lst [v1,v2,v1]):=by show(H++_)[_]?=_;rw[br];rfl
 obtain⟨h4,h5,h6,h7,h8,h9,h10,lp⟩:=Am T hX (some (.ref 0)) (some (.int 1)) [v1,v2,v1] CX g4 g5 g6 g7 g8 none none;have A:Cb (run tb 30) [some (.ref 0),none,none,none,none,none,none,none,none,none,none] [zH ns]= .ok (.rt (.bl true)) X:=by
  show ae _ (ae _ (ae _ (ae _ _))) _ _ _=_;refine(bV (e1:=[some (.ref 0),some (.ref 1),none,none,none,none,none,none,none,none,none]) (h1:=[zH ns,bp q0]) ?_).trans ?_
  . simp? [bx]
  refine(bV (e1:=[some (.ref 0),some (.ref 1),some (.ref 2),none,none,none,none,none,none,none,none]) (h1:=[zH ns,bp q0,.lst []]) ?_).trans ?_
  . simp? [Vh]
  refine(bV (e1:=[some (.ref 0),some (.ref 1),some (.ref 2),some (.int 1),g4,g5,g6,g7,g8,none,none]) (h1:=H) ?_).trans ?_
  . have r2:az 0 2=[.int 0,.int 1]:=rfl;unfold S5 at s1 s2;simp? [↓tW,↓t8,oI,dR,oF,r2];rw[fw,s1,dR,cB,fw];refine Eq.trans (congrArg (λz=>RV.bind z _) s2) ?_;rw[dR,cB,gS];rfl
  refine(bV (e1:=[some (.ref 0),some (.ref 1),some (.ref 2),some (.int 1),h4,h5,h6,h7,h8,h9,h10]) (h1:=X) ?_).trans ?_
  . have eH:H[2]?=some (.lst [v1,v2]):=rfl;have sl:E2 (.ref 2) none (some 1) H= .ok (.ref H.length) (H++[.lst [v1]]):=by
     rw[Rb,eH,JQ,P3.mW (by decide)];rfl
    have ad:aX (.ref 2) (.ref H.length) (H++[.lst [v1]])= .ok (.ref (H.length+(0+1))) X:=by
     refine(oG (xs:=[v1,v2]) (ys:=[v1]) ((ay (aG eH)).trans eH) cq (by simp)).trans ?_;rw[U5,Vs];rfl
    have it:s9 (.ref (H.length+(0+1))) X= .ok ⟨some (H.length+(0+1)),[v1,v2,v1]⟩ X:=by rw[xX,hX,yO]
    unfold Sd RS at lp
    clear_value X H
    simp? [↓sl,↓ad,it,lp]
  . simp? [Vh]
 rw[run_eq T.Jz rfl];show Ok (fin _ (Cb (run tb 30) [some (.ref 0),none,none,none,none,none,none,none,none,none,none] [zH ns])) _;rw[A,kC];unfold P3.settle;split<;>exact⟨_,_,rfl,rfl⟩
open PySem PySem.W PyProof.Rows
set_option maxHeartbeats 8000000
theorem all_mk{l:YM}{w:World}{K:UL}{h:Heap}{mg:Str->Option Value}{fa:Addr}(X:K.In h)(G:h.Ns Vc mg)(hfa:mg "law" =some (.ref fa)){aSORTS:Addr}{nSORTS:Nat}{sSORTS:Array (Option Value)}{tSORTS0 tSORTS1 tSORTS2 tSORTS3 tSORTS4:Tok}{tWORTHS:Tok}{tMOST_OWN_ROWS:Tok}{aPOCKETING:Addr}{nPOCKETING:Nat}{sPOCKETING:Array (Option Value)}{tPOCKETING0 tPOCKETING1 tPOCKETING2 tPOCKETING3 tPOCKETING4:Tok}{tCOUNTS:Tok}{tSEATS:Tok}{aGIFTED:Addr}{nGIFTED:Nat}{sGIFTED:Array (Option Value)}{tGIFTED0 tGIFTED1 tGIFTED2:Tok}{tMOST_STEPS:Tok}{aROW_PARTS:Addr}{eROW_PARTS:Nat}{qROW_PARTS0 qROW_PARTS1 qROW_PARTS2 qROW_PARTS3 qROW_PARTS4 qROW_PARTS5 qROW_PARTS6 qROW_PARTS7 qROW_PARTS8 qROW_PARTS9 qROW_PARTS10 qROW_PARTS11:Tok}{rROW_PARTS0:Addr}{nROW_PARTSv0_:Nat}{dROW_PARTSv0_:Option Addr}{sROW_PARTSv0_:Array (Option Value)}{tROW_PARTSv0_0 tROW_PARTSv0_1:Tok}{rROW_PARTS1:Addr}{nROW_PARTSv1_:Nat}{dROW_PARTSv1_:Option Addr}{sROW_PARTSv1_:Array (Option Value)}{tROW_PARTSv1_0 tROW_PARTSv1_1:Tok}{rROW_PARTS2:Addr}{nROW_PARTSv2_:Nat}{dROW_PARTSv2_:Option Addr}{sROW_PARTSv2_:Array (Option Value)}{tROW_PARTSv2_0 tROW_PARTSv2_1:Tok}{rROW_PARTS3:Addr}{nROW_PARTSv3_:Nat}{dROW_PARTSv3_:Option Addr}{sROW_PARTSv3_:Array (Option Value)}{tROW_PARTSv3_0 tROW_PARTSv3_1:Tok}{rROW_PARTS4:Addr}{nROW_PARTSv4_:Nat}{dROW_PARTSv4_:Option Addr}{sROW_PARTSv4_:Array (Option Value)}{tROW_PARTSv4_0:Tok}{rROW_PARTS5:Addr}{nROW_PARTSv5_:Nat}{dROW_PARTSv5_:Option Addr}{sROW_PARTSv5_:Array (Option Value)}{tROW_PARTSv5_0:Tok}{rROW_PARTS6:Addr}{nROW_PARTSv6_:Nat}{dROW_PARTSv6_:Option Addr}{sROW_PARTSv6_:Array (Option Value)}{tROW_PARTSv6_0 tROW_PARTSv6_1:Tok}{rROW_PARTS7:Addr}{nROW_PARTSv7_:Nat}{dROW_PARTSv7_:Option Addr}{sROW_PARTSv7_:Array (Option Value)}{tROW_PARTSv7_0 tROW_PARTSv7_1:Tok}{rROW_PARTS8:Addr}{nROW_PARTSv8_:Nat}{dROW_PARTSv8_:Option Addr}{sROW_PARTSv8_:Array (Option Value)}{tROW_PARTSv8_0 tROW_PARTSv8_1:Tok}{rROW_PARTS9:Addr}{nROW_PARTSv9_:Nat}{dROW_PARTSv9_:Option Addr}{sROW_PARTSv9_:Array (Option Value)}{tROW_PARTSv9_0:Tok}{rROW_PARTS10:Addr}{nROW_PARTSv10_:Nat}{dROW_PARTSv10_:Option Addr}{sROW_PARTSv10_:Array (Option Value)}{tROW_PARTSv10_0 tROW_PARTSv10_1:Tok}{rROW_PARTS11:Addr}{nROW_PARTSv11_:Nat}{dROW_PARTSv11_:Option Addr}{sROW_PARTSv11_:Array (Option Value)}{tROW_PARTSv11_0 tROW_PARTSv11_1:Tok}{aPLACE_OF:Addr}{ePLACE_OF:Nat}{qPLACE_OF0 qPLACE_OF1 qPLACE_OF2 qPLACE_OF3:Tok}{vPLACE_OF0:Tok}{vPLACE_OF1:Tok}{vPLACE_OF2:Tok}{vPLACE_OF3:Tok}{aMET_SORT:Addr}{eMET_SORT:Nat}{qMET_SORT0 qMET_SORT1 qMET_SORT2 qMET_SORT3 qMET_SORT4 qMET_SORT5 qMET_SORT6:Tok}{vMET_SORT0:Tok}{vMET_SORT1:Tok}{vMET_SORT2:Tok}{vMET_SORT3:Tok}{vMET_SORT4:Tok}{vMET_SORT5:Tok}{vMET_SORT6:Tok}
  (A0:At K mg "is_whole" (top 5))
  (A1:At K mg "is_between" (top 6))
  (A2:At K mg "is_value" (top 7))
  (A3:At K mg "is_tuple_of" (top 8))
  (A4:At K mg "worth" (top 13))
  (A5:At K mg "joined_worth" (top 14))
  (A6:At K mg "names_of" (top 16))
  (A7:At K mg "number_of" (top 17))
  (A8:At K mg "rows_of" (top 18))
  (A9:At K mg "first_seat" (top 22))
  (A10:At K mg "rested" (top 23))
  (A11:At K mg "is_rested" (top 24))
  (A12:At K mg "is_own_row" (top 25))
  (A13:At K mg "behind_own_row" (top 26))
  (A14:At K mg "laid" (top 27))
  (A15:At K mg "touch_of" (top 28))
  (A16:At K mg "seat_behind" (top 29))
  (A17:At K mg "may_come" (top 30))
  (A18:At K mg "first_stand" (top 35))
  (A19:At K mg "hands_of" (top 36))
  (A20:At K mg "state_of" (top 37))
  (A21:At K mg "wait_of" (top 38))
  (A22:At K mg "gone" (top 42))
  (A23:At K mg "due_touch" (top 43))
  (A24:At K mg "takes_gift" (top 44))
  (A25:At K mg "meeting" (top 45))
  (A26:At K mg "with_hand_on" (top 46))
  (A27:At K mg "with_state" (top 47))
  (A28:At K mg "replaced" (top 48))
  (A29:At K mg "walked" (top 51))
  (A30:At K mg "stepped" (top 52))
  (A31:At K mg "tables_of" (top 53))
  (A32:At K mg "looks_of" (top 54))
  (A33:At K mg "_law_box" (top 56))
  (A34:At K mg "_law_take" (top 57))
  (A35:At K mg "_law_sum" (top 58))
  (A36:At K mg "_law_touch_row" (top 59))
  (A37:At K mg "_law_rows" (top 60))
  (A38:At K mg "_law_program" (top 61))
  (A39:At K mg "_law_worth" (top 62))
  (A40:At K mg "_law_is_own" (top 63))
  (A41:At K mg "_law_rest" (top 64))
  (A42:At K mg "_law_first" (top 65))
  (A43:At K mg "_law_stand" (top 66))
  (A44:At K mg "_law_row" (top 67))
  (A45:At K mg "_law_wait" (top 68))
  (A46:At K mg "_law_boxed" (top 69))
  (A47:At K mg "_law_locked" (top 70))
  (A48:At K mg "_law_laned" (top 71))
  (A49:At K mg "_law_go" (top 72))
  (A50:At K mg "_law_can" (top 73))
  (A51:At K mg "_law_gift" (top 74))
  (A52:At K mg "_law_drawn" (top 75))
  (A53:At K mg "_law_tables" (top 76))
  (A54:At K mg "_law_is_walked" (top 77))
  (A55:At K mg "law" (top 78))
  (z0:Vo K Vc "len" =some none)
  (z1:Vo K Vc "range" =some none)
  (z2:Vo K Vc "isinstance" =some none)
  (z3:Vo K Vc "int" =some none)
  (z4:Vo K Vc "bool" =some none)
  (z5:Vo K Vc "tuple" =some none)
  (z6:Vo K Vc "dict" =some none)
  (z7:Vo K Vc "sorted" =some none)
  (z8:Vo K Vc "min" =some none)
  (z9:Vo K Vc "max" =some none)
  (z10:Vo K Vc "abs" =some none)
  (z11:Vo K Vc "all" =some none)
  (z12:Vo K Vc "any" =some none)
  (z13:Vo K Vc "sum" =some none)
  (z14:Vo K Vc "str" =some none)
  (z15:Vo K Vc "list" =some none)
  (z16:Vo K Vc "zip" =some none)
  (z17:Vo K Vc "set" =some none)
  (z18:Vo K Vc "repr" =some none)
  (z19:Vo K Vc "enumerate" =some none)
  (wSORTS:Vo K Vc "SORTS" =some (some (.ref aSORTS))) (oSORTS:K.lookup aSORTS=some ⟨.type "tuple",none,.seq #[.str "box" tSORTS0,.str "lock" tSORTS1,.str "lane" tSORTS2,.str "door" tSORTS3,.str "hand" tSORTS4] nSORTS,sSORTS⟩)
  (wWORTHS:Vo K Vc "WORTHS" =some (some (.int 1000 tWORTHS)))
  (wMOST_OWN_ROWS:Vo K Vc "MOST_OWN_ROWS" =some (some (.int 200 tMOST_OWN_ROWS)))
  (wPOCKETING:Vo K Vc "POCKETING" =some (some (.ref aPOCKETING))) (oPOCKETING:K.lookup aPOCKETING=some ⟨.type "tuple",none,.seq #[.str "get" tPOCKETING0,.str "fetch" tPOCKETING1,.str "clock" tPOCKETING2,.str "lot" tPOCKETING3,.str "hear" tPOCKETING4] nPOCKETING,sPOCKETING⟩)
  (wCOUNTS:Vo K Vc "COUNTS" =some (some (.int 0 tCOUNTS)))
  (wSEATS:Vo K Vc "SEATS" =some (some (.int 1 tSEATS)))
  (wGIFTED:Vo K Vc "GIFTED" =some (some (.ref aGIFTED))) (oGIFTED:K.lookup aGIFTED=some ⟨.type "tuple",none,.seq #[.str "clock" tGIFTED0,.str "lot" tGIFTED1,.str "hear" tGIFTED2] nGIFTED,sGIFTED⟩)
  (wMOST_STEPS:Vo K Vc "MOST_STEPS" =some (some (.int 60 tMOST_STEPS)))
  (oROW_PARTSv0_:K.lookup rROW_PARTS0=some ⟨.type "tuple",dROW_PARTSv0_,.seq #[.str "pocket" tROW_PARTSv0_0,.str "sum" tROW_PARTSv0_1] nROW_PARTSv0_,sROW_PARTSv0_⟩)
  (oROW_PARTSv1_:K.lookup rROW_PARTS1=some ⟨.type "tuple",dROW_PARTSv1_,.seq #[.str "target" tROW_PARTSv1_0,.str "sum" tROW_PARTSv1_1] nROW_PARTSv1_,sROW_PARTSv1_⟩)
  (oROW_PARTSv2_:K.lookup rROW_PARTS2=some ⟨.type "tuple",dROW_PARTSv2_,.seq #[.str "pocket" tROW_PARTSv2_0,.str "box" tROW_PARTSv2_1] nROW_PARTSv2_,sROW_PARTSv2_⟩)
  (oROW_PARTSv3_:K.lookup rROW_PARTS3=some ⟨.type "tuple",dROW_PARTSv3_,.seq #[.str "box" tROW_PARTSv3_0,.str "sum" tROW_PARTSv3_1] nROW_PARTSv3_,sROW_PARTSv3_⟩)
  (oROW_PARTSv4_:K.lookup rROW_PARTS4=some ⟨.type "tuple",dROW_PARTSv4_,.seq #[.str "lock" tROW_PARTSv4_0] nROW_PARTSv4_,sROW_PARTSv4_⟩)
  (oROW_PARTSv5_:K.lookup rROW_PARTS5=some ⟨.type "tuple",dROW_PARTSv5_,.seq #[.str "lock" tROW_PARTSv5_0] nROW_PARTSv5_,sROW_PARTSv5_⟩)
  (oROW_PARTSv6_:K.lookup rROW_PARTS6=some ⟨.type "tuple",dROW_PARTSv6_,.seq #[.str "lane" tROW_PARTSv6_0,.str "sum" tROW_PARTSv6_1] nROW_PARTSv6_,sROW_PARTSv6_⟩)
  (oROW_PARTSv7_:K.lookup rROW_PARTS7=some ⟨.type "tuple",dROW_PARTSv7_,.seq #[.str "pocket" tROW_PARTSv7_0,.str "lane" tROW_PARTSv7_1] nROW_PARTSv7_,sROW_PARTSv7_⟩)
  (oROW_PARTSv8_:K.lookup rROW_PARTS8=some ⟨.type "tuple",dROW_PARTSv8_,.seq #[.str "door" tROW_PARTSv8_0,.str "sum" tROW_PARTSv8_1] nROW_PARTSv8_,sROW_PARTSv8_⟩)
  (oROW_PARTSv9_:K.lookup rROW_PARTS9=some ⟨.type "tuple",dROW_PARTSv9_,.seq #[.str "pocket" tROW_PARTSv9_0] nROW_PARTSv9_,sROW_PARTSv9_⟩)
  (oROW_PARTSv10_:K.lookup rROW_PARTS10=some ⟨.type "tuple",dROW_PARTSv10_,.seq #[.str "pocket" tROW_PARTSv10_0,.str "chances" tROW_PARTSv10_1] nROW_PARTSv10_,sROW_PARTSv10_⟩)
  (oROW_PARTSv11_:K.lookup rROW_PARTS11=some ⟨.type "tuple",dROW_PARTSv11_,.seq #[.str "pocket" tROW_PARTSv11_0,.str "door" tROW_PARTSv11_1] nROW_PARTSv11_,sROW_PARTSv11_⟩)
  (wROW_PARTS:Vo K Vc "ROW_PARTS" =some (some (.ref aROW_PARTS))) (oROW_PARTS:K.lookup aROW_PARTS=some { cls:= .type "dict",data:= .dict #[{ hash:=Vt w.params "let",key:= .str "let" qROW_PARTS0,val:= .ref rROW_PARTS0 },{ hash:=Vt w.params "leap",key:= .str "leap" qROW_PARTS1,val:= .ref rROW_PARTS1 },{ hash:=Vt w.params "get",key:= .str "get" qROW_PARTS2,val:= .ref rROW_PARTS2 },{ hash:=Vt w.params "put",key:= .str "put" qROW_PARTS3,val:= .ref rROW_PARTS3 },{ hash:=Vt w.params "take",key:= .str "take" qROW_PARTS4,val:= .ref rROW_PARTS4 },{ hash:=Vt w.params "free",key:= .str "free" qROW_PARTS5,val:= .ref rROW_PARTS5 },{ hash:=Vt w.params "send",key:= .str "send" qROW_PARTS6,val:= .ref rROW_PARTS6 },{ hash:=Vt w.params "fetch",key:= .str "fetch" qROW_PARTS7,val:= .ref rROW_PARTS7 },{ hash:=Vt w.params "say",key:= .str "say" qROW_PARTS8,val:= .ref rROW_PARTS8 },{ hash:=Vt w.params "clock",key:= .str "clock" qROW_PARTS9,val:= .ref rROW_PARTS9 },{ hash:=Vt w.params "lot",key:= .str "lot" qROW_PARTS10,val:= .ref rROW_PARTS10 },{ hash:=Vt w.params "hear",key:= .str "hear" qROW_PARTS11,val:= .ref rROW_PARTS11 }] eROW_PARTS }) (yROW_PARTS:(aROW_PARTS == V6)=false)
  (wPLACE_OF:Vo K Vc "PLACE_OF" =some (some (.ref aPLACE_OF))) (oPLACE_OF:K.lookup aPLACE_OF=some { cls:= .type "dict",data:= .dict #[{ hash:=Vt w.params "box",key:= .str "box" qPLACE_OF0,val:= .int 2 vPLACE_OF0 },{ hash:=Vt w.params "lock",key:= .str "lock" qPLACE_OF1,val:= .int 3 vPLACE_OF1 },{ hash:=Vt w.params "lane",key:= .str "lane" qPLACE_OF2,val:= .int 4 vPLACE_OF2 },{ hash:=Vt w.params "door",key:= .str "door" qPLACE_OF3,val:= .int 5 vPLACE_OF3 }] ePLACE_OF }) (yPLACE_OF:(aPLACE_OF == V6)=false)
  (wMET_SORT:Vo K Vc "MET_SORT" =some (some (.ref aMET_SORT))) (oMET_SORT:K.lookup aMET_SORT=some { cls:= .type "dict",data:= .dict #[{ hash:=Vt w.params "get",key:= .str "get" qMET_SORT0,val:= .str "box" vMET_SORT0 },{ hash:=Vt w.params "put",key:= .str "put" qMET_SORT1,val:= .str "box" vMET_SORT1 },{ hash:=Vt w.params "take",key:= .str "take" qMET_SORT2,val:= .str "lock" vMET_SORT2 },{ hash:=Vt w.params "free",key:= .str "free" qMET_SORT3,val:= .str "lock" vMET_SORT3 },{ hash:=Vt w.params "send",key:= .str "send" qMET_SORT4,val:= .str "lane" vMET_SORT4 },{ hash:=Vt w.params "fetch",key:= .str "fetch" qMET_SORT5,val:= .str "lane" vMET_SORT5 },{ hash:=Vt w.params "say",key:= .str "say" qMET_SORT6,val:= .str "door" vMET_SORT6 }] eMET_SORT }) (yMET_SORT:(aMET_SORT == V6)=false) :
  ∃ fd:WB,(∀(s:UR)(v:Value),aaa s fd ⟨[v],[]⟩ [("_law_script",v)])/\ ∀ base:Heap,K.In base->base.Ns Vc mg->lP l.prog w K mg base um (room+1) fa fd ["_law_script"] (xC K tb (room+1) "law"):=by
 have T:Top l.prog w K mg tb:=⟨(UM.mpr ⟨Vp X G z0,(UM.mpr ⟨Vp X G z1,(UM.mpr ⟨Vp X G z2,(UM.mpr ⟨Vp X G z3,(UM.mpr ⟨Vp X G z4,(UM.mpr ⟨Vp X G z5,(UM.mpr ⟨Vp X G z6,(UM.mpr ⟨Vp X G z7,(UM.mpr ⟨Vp X G z8,(UM.mpr ⟨Vp X G z9,(UM.mpr ⟨Vp X G z10,(UM.mpr ⟨Vp X G z11,(UM.mpr ⟨Vp X G z12,(UM.mpr ⟨Vp X G z13,(UM.mpr ⟨Vp X G z14,(UM.mpr ⟨Vp X G z15,(UM.mpr ⟨Vp X G z16,(UM.mpr ⟨Vp X G z17,(UM.mpr ⟨Vp X G z18,(UM.mpr ⟨Vp X G z19,(by intro p m;cases m)⟩)⟩)⟩)⟩)⟩)⟩)⟩)⟩)⟩)⟩)⟩)⟩)⟩)⟩)⟩)⟩)⟩)⟩)⟩)⟩),FK (conT:=conT) rfl (UM.mpr ⟨uh (us:=[.str "box" tSORTS0,.str "lock" tSORTS1,.str "lane" tSORTS2,.str "door" tSORTS3,.str "hand" tSORTS4]) (Wj X G wSORTS) oSORTS (by show 5<=sizeLine;decide) (.cons (.str _ _) (.cons (.str _ _) (.cons (.str _ _) (.cons (.str _ _) (.cons (.str _ _) .nil))))),(UM.mpr ⟨pG (Wj X G wWORTHS) (.int _ _),(UM.mpr ⟨pG (Wj X G wMOST_OWN_ROWS) (.int _ _),(UM.mpr ⟨uh (us:=[.str "get" tPOCKETING0,.str "fetch" tPOCKETING1,.str "clock" tPOCKETING2,.str "lot" tPOCKETING3,.str "hear" tPOCKETING4]) (Wj X G wPOCKETING) oPOCKETING (by show 5<=sizeLine;decide) (.cons (.str _ _) (.cons (.str _ _) (.cons (.str _ _) (.cons (.str _ _) (.cons (.str _ _) .nil))))),(UM.mpr ⟨pG (Wj X G wCOUNTS) (.int _ _),(UM.mpr ⟨pG (Wj X G wSEATS) (.int _ _),(UM.mpr ⟨uh (us:=[.str "clock" tGIFTED0,.str "lot" tGIFTED1,.str "hear" tGIFTED2]) (Wj X G wGIFTED) oGIFTED (by show 3<=sizeLine;decide) (.cons (.str _ _) (.cons (.str _ _) (.cons (.str _ _) .nil))),(UM.mpr ⟨pG (Wj X G wMOST_STEPS) (.int _ _),(by intro p m;cases m)⟩)⟩)⟩)⟩)⟩)⟩)⟩)⟩),HS (dcT:=dcT) rfl (UM.mpr ⟨xu (ls:=[("let",qROW_PARTS0,.ref rROW_PARTS0),("leap",qROW_PARTS1,.ref rROW_PARTS1),("get",qROW_PARTS2,.ref rROW_PARTS2),("put",qROW_PARTS3,.ref rROW_PARTS3),("take",qROW_PARTS4,.ref rROW_PARTS4),("free",qROW_PARTS5,.ref rROW_PARTS5),("send",qROW_PARTS6,.ref rROW_PARTS6),("fetch",qROW_PARTS7,.ref rROW_PARTS7),("say",qROW_PARTS8,.ref rROW_PARTS8),("clock",qROW_PARTS9,.ref rROW_PARTS9),("lot",qROW_PARTS10,.ref rROW_PARTS10),("hear",qROW_PARTS11,.ref rROW_PARTS11)]) (Wj X G wROW_PARTS) oROW_PARTS yROW_PARTS (show([.inr "let",.inr "leap",.inr "get",.inr "put",.inr "take",.inr "free",.inr "send",.inr "fetch",.inr "say",.inr "clock",.inr "lot",.inr "hear"]:List Key).Nodup by decide +kernel) (.cons ⟨rfl,fA (us:=[.str "pocket" tROW_PARTSv0_0,.str "sum" tROW_PARTSv0_1]) oROW_PARTSv0_ (by show 2<=sizeLine;decide) (.cons (.str _ _) (.cons (.str _ _) .nil))⟩ (.cons ⟨rfl,fA (us:=[.str "target" tROW_PARTSv1_0,.str "sum" tROW_PARTSv1_1]) oROW_PARTSv1_ (by show 2<=sizeLine;decide) (.cons (.str _ _) (.cons (.str _ _) .nil))⟩ (.cons ⟨rfl,fA (us:=[.str "pocket" tROW_PARTSv2_0,.str "box" tROW_PARTSv2_1]) oROW_PARTSv2_ (by show 2<=sizeLine;decide) (.cons (.str _ _) (.cons (.str _ _) .nil))⟩ (.cons ⟨rfl,fA (us:=[.str "box" tROW_PARTSv3_0,.str "sum" tROW_PARTSv3_1]) oROW_PARTSv3_ (by show 2<=sizeLine;decide) (.cons (.str _ _) (.cons (.str _ _) .nil))⟩ (.cons ⟨rfl,fA (us:=[.str "lock" tROW_PARTSv4_0]) oROW_PARTSv4_ (by show 1<=sizeLine;decide) (.cons (.str _ _) .nil)⟩ (.cons ⟨rfl,fA (us:=[.str "lock" tROW_PARTSv5_0]) oROW_PARTSv5_ (by show 1<=sizeLine;decide) (.cons (.str _ _) .nil)⟩ (.cons ⟨rfl,fA (us:=[.str "lane" tROW_PARTSv6_0,.str "sum" tROW_PARTSv6_1]) oROW_PARTSv6_ (by show 2<=sizeLine;decide) (.cons (.str _ _) (.cons (.str _ _) .nil))⟩ (.cons ⟨rfl,fA (us:=[.str "pocket" tROW_PARTSv7_0,.str "lane" tROW_PARTSv7_1]) oROW_PARTSv7_ (by show 2<=sizeLine;decide) (.cons (.str _ _) (.cons (.str _ _) .nil))⟩ (.cons ⟨rfl,fA (us:=[.str "door" tROW_PARTSv8_0,.str "sum" tROW_PARTSv8_1]) oROW_PARTSv8_ (by show 2<=sizeLine;decide) (.cons (.str _ _) (.cons (.str _ _) .nil))⟩ (.cons ⟨rfl,fA (us:=[.str "pocket" tROW_PARTSv9_0]) oROW_PARTSv9_ (by show 1<=sizeLine;decide) (.cons (.str _ _) .nil)⟩ (.cons ⟨rfl,fA (us:=[.str "pocket" tROW_PARTSv10_0,.str "chances" tROW_PARTSv10_1]) oROW_PARTSv10_ (by show 2<=sizeLine;decide) (.cons (.str _ _) (.cons (.str _ _) .nil))⟩ (.cons ⟨rfl,fA (us:=[.str "pocket" tROW_PARTSv11_0,.str "door" tROW_PARTSv11_1]) oROW_PARTSv11_ (by show 2<=sizeLine;decide) (.cons (.str _ _) (.cons (.str _ _) .nil))⟩ .nil)))))))))))),(UM.mpr ⟨xu (ls:=[("box",qPLACE_OF0,.int 2 vPLACE_OF0),("lock",qPLACE_OF1,.int 3 vPLACE_OF1),("lane",qPLACE_OF2,.int 4 vPLACE_OF2),("door",qPLACE_OF3,.int 5 vPLACE_OF3)]) (Wj X G wPLACE_OF) oPLACE_OF yPLACE_OF (show([.inr "box",.inr "lock",.inr "lane",.inr "door"]:List Key).Nodup by decide +kernel) (.cons ⟨rfl,jq (.int _ _)⟩ (.cons ⟨rfl,jq (.int _ _)⟩ (.cons ⟨rfl,jq (.int _ _)⟩ (.cons ⟨rfl,jq (.int _ _)⟩ .nil)))),(UM.mpr ⟨xu (ls:=[("get",qMET_SORT0,.str "box" vMET_SORT0),("put",qMET_SORT1,.str "box" vMET_SORT1),("take",qMET_SORT2,.str "lock" vMET_SORT2),("free",qMET_SORT3,.str "lock" vMET_SORT3),("send",qMET_SORT4,.str "lane" vMET_SORT4),("fetch",qMET_SORT5,.str "lane" vMET_SORT5),("say",qMET_SORT6,.str "door" vMET_SORT6)]) (Wj X G wMET_SORT) oMET_SORT yMET_SORT (show([.inr "get",.inr "put",.inr "take",.inr "free",.inr "send",.inr "fetch",.inr "say"]:List Key).Nodup by decide +kernel) (.cons ⟨rfl,jq (.str _ _)⟩ (.cons ⟨rfl,jq (.str _ _)⟩ (.cons ⟨rfl,jq (.str _ _)⟩ (.cons ⟨rfl,jq (.str _ _)⟩ (.cons ⟨rfl,jq (.str _ _)⟩ (.cons ⟨rfl,jq (.str _ _)⟩ (.cons ⟨rfl,jq (.str _ _)⟩ .nil))))))),(by intro p m;cases m)⟩)⟩)⟩)⟩
 have gs: ∀ p∈J9,∃ st N,aS l.prog w K mg tb p.1 p.2 st N:=(UM.mpr ⟨⟨_,_,xR has A0⟩,(UM.mpr ⟨⟨_,_,uz has A1⟩,(UM.mpr ⟨⟨_,_,yk has A2⟩,(UM.mpr ⟨⟨_,_,qK has A3⟩,(UM.mpr ⟨⟨_,_,Hm has A4⟩,(UM.mpr ⟨⟨_,_,oW has A5⟩,(UM.mpr ⟨⟨_,_,xH has A6⟩,(UM.mpr ⟨⟨_,_,vg has A7⟩,(UM.mpr ⟨⟨_,_,Ab has A8⟩,(UM.mpr ⟨⟨_,_,uJ has A9⟩,(UM.mpr ⟨⟨_,_,CO has A10⟩,(UM.mpr ⟨⟨_,_,uZ has A11⟩,(UM.mpr ⟨⟨_,_,sP has A12⟩,(UM.mpr ⟨⟨_,_,mG has A13⟩,(UM.mpr ⟨⟨_,_,N6 has A14⟩,(UM.mpr ⟨⟨_,_,xn has A15⟩,(UM.mpr ⟨⟨_,_,rE has A16⟩,(UM.mpr ⟨⟨_,_,xT has A17⟩,(UM.mpr ⟨⟨_,_,qV has A18⟩,(UM.mpr ⟨⟨_,_,xh has A19⟩,(UM.mpr ⟨⟨_,_,xf has A20⟩,(UM.mpr ⟨⟨_,_,BQ has A21⟩,(UM.mpr ⟨⟨_,_,Lp has A22⟩,(UM.mpr ⟨⟨_,_,v9 has A23⟩,(UM.mpr ⟨⟨_,_,tE has A24⟩,(UM.mpr ⟨⟨_,_,Bx has A25⟩,(UM.mpr ⟨⟨_,_,qa has A26⟩,(UM.mpr ⟨⟨_,_,tj has A27⟩,(UM.mpr ⟨⟨_,_,yH has A28⟩,(UM.mpr ⟨⟨_,_,CS has A29⟩,(UM.mpr ⟨⟨_,_,BG has A30⟩,(UM.mpr ⟨⟨_,_,wI has A31⟩,(UM.mpr ⟨⟨_,_,wZ has A32⟩,(UM.mpr ⟨⟨_,_,yr has A33⟩,(UM.mpr ⟨⟨_,_,vj has A34⟩,(UM.mpr ⟨⟨_,_,xr has A35⟩,(UM.mpr ⟨⟨_,_,mO has A36⟩,(UM.mpr ⟨⟨_,_,vG has A37⟩,(UM.mpr ⟨⟨_,_,qw has A38⟩,(UM.mpr ⟨⟨_,_,t5 has A39⟩,(UM.mpr ⟨⟨_,_,qD has A40⟩,(UM.mpr ⟨⟨_,_,vQ has A41⟩,(UM.mpr ⟨⟨_,_,tK has A42⟩,(UM.mpr ⟨⟨_,_,uI has A43⟩,(UM.mpr ⟨⟨_,_,xc has A44⟩,(UM.mpr ⟨⟨_,_,vE has A45⟩,(UM.mpr ⟨⟨_,_,ue has A46⟩,(UM.mpr ⟨⟨_,_,qH has A47⟩,(UM.mpr ⟨⟨_,_,tY has A48⟩,(UM.mpr ⟨⟨_,_,Ap has A49⟩,(UM.mpr ⟨⟨_,_,yo has A50⟩,(UM.mpr ⟨⟨_,_,u6 has A51⟩,(UM.mpr ⟨⟨_,_,uK has A52⟩,(UM.mpr ⟨⟨_,_,rh has A53⟩,(UM.mpr ⟨⟨_,_,mT has A54⟩,(UM.mpr ⟨⟨_,_,IU has A55⟩,(by intro p m;cases m)⟩)⟩)⟩)⟩)⟩)⟩)⟩)⟩)⟩)⟩)⟩)⟩)⟩)⟩)⟩)⟩)⟩)⟩)⟩)⟩)⟩)⟩)⟩)⟩)⟩)⟩)⟩)⟩)⟩)⟩)⟩)⟩)⟩)⟩)⟩)⟩)⟩)⟩)⟩)⟩)⟩)⟩)⟩)⟩)⟩)⟩)⟩)⟩)⟩)⟩)⟩)⟩)⟩)⟩)⟩)⟩)
 exact LZ T (Ey rfl gs) has.Jz rfl (IU has A55) hfa
theorem walk{l:YM}{q:Vg}{loose:List Str}{XP:(Str->Option Value)->Heap->Prop}{YP:World->Heap->Prop}{d:DefRec}{K:Params->UL}(hn:l.most=some 63)(hdf:d.params.defaults=[])
  (hY: ∀(w:World)(h:Heap),YP w h->(K w.params).In h)
  (F: ∀(w:World)(mg:Str->Option Value)(fa:Addr)(h:Heap),(K w.params).In h->h.Ns Vc mg->mg d.name=some (.ref fa) ->
   ∃ fd:WB,(∀(s:UR)(u:Value),aaa s fd ⟨[u],[]⟩ [("_law_script",u)])/\ ∀ base:Heap,(K w.params).In base->base.Ns Vc mg->lP l.prog w (K w.params) mg base um (room+1) fa fd ["_law_script"] (xC (K w.params) tb (room+1) "law")) :
  acx q loose XP YP l.row.toRowW d [] (λf vs=>acq f vs) :=
 L2.GL (n:=63) (k:=room+1) (x:= "_law_script") (CX:=λ_=>um) (sp:=λw=>xC (K w.params) tb (room+1) "law") hn (by decide) hdf ⟨rfl,by decide,by decide,rfl⟩ hY F (λ_ H a ns hl hO hS=>LQ CI H a ns hl hO hS) λ_ _ _ _ _ z=>z
end K23
open PySem PySem.W PyProof.Rows
set_option maxRecDepth 100000 in
set_option maxHeartbeats 0 in
theorem PySem.Challenge.cw_leastrecord_k23_runs_walked_holds : PySem.Challenge.rw_leastrecord_k23_runs_walked.Holds := by
 w_on;o_law;k_head;(case hw=>w_witness2)
 k_fill
 refine K23.walk (l:=PySem.Challenge.rw_leastrecord_k23_runs_walked) rfl rfl (λw h Y=>PySem.W.kIn_of Y) ?F
 case F =>
  intro w mg fa h KX G hmg
  refine' K23.all_mk KX G hmg (L2.aK KX G ?_ ?_ ?_ ?_) (L2.aK KX G ?_ ?_ ?_ ?_) (L2.aK KX G ?_ ?_ ?_ ?_) (L2.aK KX G ?_ ?_ ?_ ?_) (L2.aK KX G ?_ ?_ ?_ ?_) (L2.aK KX G ?_ ?_ ?_ ?_) (L2.aK KX G ?_ ?_ ?_ ?_) (L2.aK KX G ?_ ?_ ?_ ?_) (L2.aK KX G ?_ ?_ ?_ ?_) (L2.aK KX G ?_ ?_ ?_ ?_) (L2.aK KX G ?_ ?_ ?_ ?_) (L2.aK KX G ?_ ?_ ?_ ?_) (L2.aK KX G ?_ ?_ ?_ ?_) (L2.aK KX G ?_ ?_ ?_ ?_) (L2.aK KX G ?_ ?_ ?_ ?_) (L2.aK KX G ?_ ?_ ?_ ?_) (L2.aK KX G ?_ ?_ ?_ ?_) (L2.aK KX G ?_ ?_ ?_ ?_) (L2.aK KX G ?_ ?_ ?_ ?_) (L2.aK KX G ?_ ?_ ?_ ?_) (L2.aK KX G ?_ ?_ ?_ ?_) (L2.aK KX G ?_ ?_ ?_ ?_) (L2.aK KX G ?_ ?_ ?_ ?_) (L2.aK KX G ?_ ?_ ?_ ?_) (L2.aK KX G ?_ ?_ ?_ ?_) (L2.aK KX G ?_ ?_ ?_ ?_) (L2.aK KX G ?_ ?_ ?_ ?_) (L2.aK KX G ?_ ?_ ?_ ?_) (L2.aK KX G ?_ ?_ ?_ ?_) (L2.aK KX G ?_ ?_ ?_ ?_) (L2.aK KX G ?_ ?_ ?_ ?_) (L2.aK KX G ?_ ?_ ?_ ?_) (L2.aK KX G ?_ ?_ ?_ ?_) (L2.aK KX G ?_ ?_ ?_ ?_) (L2.aK KX G ?_ ?_ ?_ ?_) (L2.aK KX G ?_ ?_ ?_ ?_) (L2.aK KX G ?_ ?_ ?_ ?_) (L2.aK KX G ?_ ?_ ?_ ?_) (L2.aK KX G ?_ ?_ ?_ ?_) (L2.aK KX G ?_ ?_ ?_ ?_) (L2.aK KX G ?_ ?_ ?_ ?_) (L2.aK KX G ?_ ?_ ?_ ?_) (L2.aK KX G ?_ ?_ ?_ ?_) (L2.aK KX G ?_ ?_ ?_ ?_) (L2.aK KX G ?_ ?_ ?_ ?_) (L2.aK KX G ?_ ?_ ?_ ?_) (L2.aK KX G ?_ ?_ ?_ ?_) (L2.aK KX G ?_ ?_ ?_ ?_) (L2.aK KX G ?_ ?_ ?_ ?_) (L2.aK KX G ?_ ?_ ?_ ?_) (L2.aK KX G ?_ ?_ ?_ ?_) (L2.aK KX G ?_ ?_ ?_ ?_) (L2.aK KX G ?_ ?_ ?_ ?_) (L2.aK KX G ?_ ?_ ?_ ?_) (L2.aK KX G ?_ ?_ ?_ ?_) (L2.aK KX G ?_ ?_ ?_ ?_) ?z0 ?z1 ?z2 ?z3 ?z4 ?z5 ?z6 ?z7 ?z8 ?z9 ?z10 ?z11 ?z12 ?z13 ?z14 ?z15 ?z16 ?z17 ?z18 ?z19 ?wSORTS ?oSORTS ?wWORTHS ?wMOST_OWN_ROWS ?wPOCKETING ?oPOCKETING ?wCOUNTS ?wSEATS ?wGIFTED ?oGIFTED ?wMOST_STEPS ?oROW_PARTSv0_ ?oROW_PARTSv1_ ?oROW_PARTSv2_ ?oROW_PARTSv3_ ?oROW_PARTSv4_ ?oROW_PARTSv5_ ?oROW_PARTSv6_ ?oROW_PARTSv7_ ?oROW_PARTSv8_ ?oROW_PARTSv9_ ?oROW_PARTSv10_ ?oROW_PARTSv11_ ?wROW_PARTS ?oROW_PARTS ?yROW_PARTS ?wPLACE_OF ?oPLACE_OF ?yPLACE_OF ?wMET_SORT ?oMET_SORT ?yMET_SORT
  all_goals try k_is
  all_goals try k_is
  all_goals exact rfl
end
end
end
