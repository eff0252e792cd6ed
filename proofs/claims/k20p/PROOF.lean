import PyProof.Rows.All
import Wide.All
import OpenK.AllK
import Wide.FinOn
import Lean
import PyProof.EqAt
import PyProof.EqKinds
import PyProof.TupleCall
import KE.KDictSum
import PyProof.AttrMissHeap
import PyProof.WalksMore
import KE.LcSums
import PyProof.AutoListH
import PyProof.ListMulRoad
import KE.KSortTup
import PyProof.ZipIter
import PyProof.Draws
import PyProof.EnumFor
import PyProof.ReprRoads
import PyProof.ListRange
import PySem.Challenge.RW_leastrecord_k20_who_waits
open PySem.W renaming Frag->TV,mg_none_of->UC,nsIn->UG,fnOf->Vi,kia_one->Vs,mg_of->VL,emptyDict->VO,instObj->Wm,keepIn->WE,kas_sort->WU,findIn->XA,OpenLaw->XZ,codeIn->X8,kia_tup->Yi,kitOne->Yo,methodObj->YC,kitx_list->YS,kitx_dict->YT,cellsFrom_some->Zl,lookIn->ZU,kitAny->Z2,specialIn->aaF,plainGet->aaY,kitx_float->abn,kitx_tuple->abo,WalkO->abu,isFn->aby
open List renaming forall_mem_cons->TX,length_map->TZ,getElem?_eq_some_iff->T1,map_cons->T9,length_cons->Ub,replicate->Uc,mem_of_getElem?->Ue,size_toArray->Uh,mem_cons->Ui,getElem?_eq_getElem->Uj,mem_cons_self->Uk,mem_cons_of_mem->Uo,getElem?_map->Uq,length_append->Ur,getElem?_cons_succ->Us,append_assoc->UA,mem_append_right->UB,getElem?_append_right->UD,length_nil->UE,not_mem_nil->UH,length_set->UI,nil_append->UL,map_nil->UN,getElem?_set_self->UO,mem_map->UP,range->UR,filter_cons_of_pos->US,getElem?_append_left->UT,mem_singleton->UX,map_append->U3,map_map->U5,filter_cons_of_neg->U6,mem_or_eq_of_mem_set->U8,mem_append->Va,getElem?_set_ne->Vb,append_nil->Vd,length_take->Ve,getD_eq_getElem?_getD->Vf,mem_range->Vj,any_cons->Vl,cons_append->Vm,drop_eq_nil_of_le->Vv,getElem?_eq_none_iff->Vx,length_range->VB,mem_filter->VE,take_of_length_le->VP,replicate_succ->VS,length_drop->VW,find?_cons->V3,filterMap_eq_map'->Wa,getElem?_eq_none->Wj,length_filter_le->Wk,nodup_cons->Wq,flatten_cons->Wt,filterMap_cons_none->Wz,filterMap_cons_some->WA,getElem?_replicate->WG,getElem_mem->WI,forIn_cons->WS,all_cons->WX,nodup_append->W2,mem_append_left->W4,lookup_cons->W9,drop_eq_getElem_cons->Xc,mem_of_find?_eq_some->Xd,getElem?_range->Xe,map_congr_left->Xf,mergeSort_perm->Xg,pairwise_mergeSort->Xt,pairwise_map->XD,all_eq_true->XO,eq_nil_of_length_eq_zero->X3,mem_of_mem_take->X4,getElem?_mapIdx->X5,headD_cons->Yc,filterMap_cons->Yd,idxOf_lt_length_of_mem->Ym,pairwise_cons->Yu,getElem?_inj->YJ,map_id->YM,getElem?_cons_zero->Y9,pairwise_singleton->Zc,take_length->Zf,any_eq_true->Zh,not_of_lt_findIdx->Zz,filter_eq_nil_iff->ZC,of_mem_zip->ZD,find?_some->ZH,length_replicate->ZJ,length_singleton->ZL,set_append_right->ZP,set_getElem_self->ZQ,drop_zero->ZY,map->Z1,set_append_left->Z3,mem_of_mem_drop->Z7,filter_sublist->aai,length_pos_iff->aaj,map_take->aap,mem_filterMap->aau,foldl->aaz,set_cons_zero->aaC,getElem_idxOf->aaE,ext_getElem?->aaR,getElem?_set->aaU,range'_succ->aa5,ext_getElem->aa6,length->aa9,range'->abg,tail_cons->abr,map_drop->abv
open PySem renaming wpAny_bind->TY,Shared->T7,wpAny_pure->Ud,mainGlobals->Uv,Program->Uy,compareOp->UK,Around->UW,starEach->UY,wpAny_mono->UZ,foldedSetIterable->U2,Paired->Vh,assignEach->Vn,sysModules->Vq,bootBuiltins->Vu,binaryOp->Vw,wpAny_field->Vy,wpAny_newObj_type->Vz,behindInMarks->VC,wpAny_ite_split->VF,wpAny_callSpecial?_slot->VH,wpAny_holding->VJ,wpAny_truthy_bool->VM,FuncData->VU,wpAny_call_entry->VX,wpAny_pyIter_tuple->VY,wpAny_seqItems->V0,PyData->V1,call_meets->V2,compEnvC->V6,wpAny_setField_rec->Wg,wpAny_passesOwn->Wn,wpAny_load->Ww,attributeBase->Wx,mem_of_lookup->WC,tupleKind_room_in1->WM,Builtin->WO,bindArgs->WQ,swapsWith->WW,wpAny_typeOf->W8,NameKind->Xi,sliceBounds->Xs,backTo->Xx,assign->Xy,IsPair->XF,wpAny_newList->XU,wpAny_onRaise->XW,wpAny_updateSeq_pair->X0,wpAny_execs_nil->X6,letOwnedTupleGo->X7,codeAny_builtin->X9,holding->Ye,getItem->Yf,wpAny_Call_Name_kw->Yp,wpAny_binaryOp_repeat_ref->Yz,subscripted->YF,swapsWithSole->YQ,swappedStores->YR,wpAny_comprehension_free->YV,tupleKind->Y4,PassesOwn->Y5,noFill_tuple_add->Y7,BindsTo->Zj,codeAny->Zk,IsPart->Zm,typeIs_int->Zp,wpAny_Call_method_late->Zq,valueAt->Zr,wpAny_rule->Zu,wpAny_specialOf->ZE,wpAny_isTrue_Compare1->ZI,getitemInPython_of_ne->ZM,wpAny_notOrdered_dict->ZN,wpAny_letTemporaryGo->ZV,Keyword->Z9,callerA->aaa,DictEntry->aab,wpAny_standAt->aal,seq_tuple_add->aam,rawInt->aat,typeIs_str->aaw,PlainAttrs->aay,codeAny_mono->aaG,concat_meets->aaH,seqIndex_neg->aaI,ZipApart->aaS,isTrue->aaV,pyNext->aaW,pyIter->aaX,seqSlot_of->aa2,sizeLine_eq->aa8,seqIndex_of->aba,keywordEach->abb,wpAny_letGo->abe,standAt->abl,call->abp,Within->abw
open PySem.Heap renaming get?_push_of_some->T6,lt_size->Ug,get?_push_size->Um,size_push->Vr,push->VI,get?_none_of_le->VZ,get?_push_ne->XE,size_update->Zb,SameBut->Zi,get?_update_other->Zo,get?_update_self->ZK,get?_update_ne->aae,IsTuple->aaT
open Nat renaming le_refl->Ua,lt_of_lt_of_le->Up,ne_of_lt->Uw,le_trans->UM,zero_le->UQ,lt_irrefl->Vk,lt_or_ge->V8,le_of_lt->Wr,ne_of_gt->Ws,lt_succ_of_lt->Wu,lt_of_le_of_lt->WL,min_eq_left->Xo,lt_succ_self->XM,min_le_right->XN,min_eq_right->XQ,not_lt_zero->Ya,lt_trans->Yg,lt_of_lt_of_eq->Yt,le_succ->YG,le_succ_of_le->YL,add_sub_cancel_left->Ze,le_total->Zv,lt_of_succ_lt_succ->Zy,ble->aac,not_lt->aaA,mul_comm->aaJ,sub_zero->aaO,succ_le_succ->aa0
open PySem.Str renaming ofString->Ul,ofString_eq_toList->Zx
open Bool renaming and_eq_true->Ut,false_ne_true->Uu,not_eq_true'->VA,false_eq_true->VG,eq_iff_iff->Wo,and_self->Wy,or_eq_true->WT,true_and->Xn,false_and->Xz,and_true->XX,false_or->aan
open PySem.Value renaming ref->Ux,none->Wc,type->W3,int->W7,str->XI,bool->XJ,float->aa7,isStrOf->abt
open Option renaming getD_some->Uz,map_some->V4,isSome_map->YH,getD_none->aaZ,none->abC
open PySem.PyData renaming keyHash->UJ,canLayAll0->U0,depthAll->Vt,eqv->V5,strOk->V9,leavesShort->Wi,list->WK,str->W5,canLay0->W6,leavesShortAll->XH,showable->Yb,depth->Yk,tuple->Yl,int->Yx,showableAll->Yy,hasDictAll->YO,shown_fits_bulk->ZA,hasDict->Z5,bulkAll->Z6,bulk->abh,none->abE
open Array renaming getD_eq_getD_getElem?->UU,getElem?_eq_getElem->U7,length_toList->VR,getElem?_toList->WY,append_assoc->aas,toList_inj->aa3,toList->abx
open PySem.AutoSeq1 renaming wpAny_loadPart'->U1,idx_int->Zg
open PyProof.Rows renaming slot_tuple_getitem->U4,callWith_type1->Vo,seqObj->WN,StrsAre->Yh,isStrOf->Yj,envOfC->Yq,AllBare->YD,sortedS->YI,subscriptTail->YU,listUpdate_at->Y0,subscriptTail_builtinR->Zn,sortedHeap->Zt,entry_list_sort->ZG,slot_list_sort->ZR,args_list_sort->ZS,entry_tuple_getitem->aad,Constant_none->aak,sortedAll_old->aao,args_tuple_getitem->aav,plain_sorted->aaK,entry_sorted->aaL,args_sorted1->aaM,sortedAll_at->aaN,SortKind->aaP,listItems_at->aaQ,sortedAll->aa4,kind_sorted->abc,seqEpoch_at->abd,IntsAre->abm
open Option.some renaming inj->U9,injEq->W0
open Int renaming toNat_natCast->Vc,eq_ofNat_of_zero_le->Vp,emod_lt_of_pos->Wh,zero_add->Wv,emod_nonneg->WV,toNat->XS,toNat_of_nonneg->aah,natCast_mul->abj
open PySem.Builtin.SmallTypes renaming nextOf->Vg,ownedTupleIsFree->Xl,ownedTupleHandOut->aag
open PySem.Builtin.Tuple renaming tupleExact->VD,tupleItemsOf->Ys,tupleTooMany->Yv
open False renaming elim->VN
open PySem.F renaming slot_tuple_iterator_next->VQ,slot_tuple_mul->V7,slot_zip_next->WZ,args_tuple_add_2->Xj,args_tuple_mul_2->Xm,args_tuple_iterator_next_1->Xq,entry_tuple_add->Xr,entry_tuple_mul->Xu,plainAttrs_list->Xv,entry_tuple_iterator_next->Xw,slot_tuple_add->XB,slot_dict_get->XG,slot_dict_getitem->YB,slot_str_eq_refl->YZ,plainAttrs_tuple->Y1,slot_tuple_index->Y2,type_tuple_index->Y3,args_dict_get_3->Y8,slot_tuple_rmul->Za,args_zip_next_1->Zd,entry_dict_get->Zs,entry_zip_next->Zw,slot_int_rmul->ZO,sub_str_dict->ZZ,slot_dict_eq->Z0
open Sum renaming inr->VT,inl->Z8
open PySem.NameKind renaming free->Wb,cell->XT
open True renaming intro->We
open PySem.Obj renaming mapSeq->Wf,data_mapFields->aaB
open PySem.Builtin.Slice renaming slicePlaces->Wl,sliceAdjust->Xa,sliceApplied->Yr
open Ne renaming symm->WB
open PySem.Builtin.Str renaming occurrences->WD
open PySem.Builtin.Dict renaming updateFrom->WH,addKeywords->YW,selfAndRest->YX
open List.Nodup renaming length_le_of_subset->WJ
open ForInStep renaming yield->WR
open PySem.Calls renaming call_function_entry->Xb,spliced_cons->Xp,callWith_builtin->XC,evalArgs_plain->XY,Name_function_global->Yn,spliced_nil->YE
open PySem.Paired renaming length->Xh,snoc->abD
open PySem.Builtin.List renaming listTooLong->Xk,listExtendWith->XR
open Or renaming inr->YY,inl->ZX
open PySem.Builtin.Range renaming rangeSize->Y6
open PySem.Heap.DictOf renaming new->ZF
open Sum.inr renaming inj->ZT
open PySem.Around renaming under_plainId->ZW
open Std.Legacy.Range renaming forIn_eq_forIn_range'->Z4,size->abA
open PySem.Heap.SameBut renaming update->aaf
open PySem.SeqAt.EqAt renaming int_str->aaq,str_int->aar,str_str->aax
open Char renaming toNat->aaD
open And renaming intro->aa1
open PySem.Shared renaming heap->abf
open List.cons renaming injEq->abi
open PySem.PassesOwn renaming never->abk
open List.Perm renaming refl->abq
open Exists renaming intro->abz
open PySem.IsRange renaming new->abB
open PySem.Heap.IsSliceOf renaming new->abF
set_option genSizeOf false
set_option compiler.extract_closed false
set_option bootstrap.genMatcherCode false
namespace PySem.W.Fast
def tw6301824877937185232:=0
def tw18335412510276696216:=0
def tw6814435302117136133:=0
def tw2689066526488413719:=0
def tw17933575620262370777:=0
def tw18157872640190928629:=0
def tw2740925538277624978:=0
def tw10135824334791160346:=0
def tw13443934518431326251:=0
def tw12145056438108917228:=0
def tw4079431476640323524:=0
def tw3299545726490851700:=0
def tw12605238198610255767:=0
def tw16422352544094886838:=0
def tw1332487828362409726:=0
def tw3150328857697747443:=0
def tw798110815286735489:=0
def tw3770042392901445840:=0
def tw10510621242275754317:=0
def tw14767086289455319312:=0
def tw11438748585606886079:=0
def tw3963503368801168504:=0
def tw5372567140676167782:=0
def tw8956568881343628011:=0
def tw7217278421858151080:=0
def tw2350300335590146889:=0
def tw8090749163851888521:=0
def tw8261459225125538496:=0
def tw7235492100011194905:=0
def tw15647890603904912089:=0
def tw9869408655723420658:=0
def tw13989285515305163059:=0
def tw11208356293096567026:=0
def tw2152723460162184265:=0
def tw11606658862618834079:=0
def tw5781971838203705667:=0
def tw6938834384973014950:=0
def tw16854591238108704042:=0
def tw2493410721135267381:=0
def tw204031753167529015:=0
def tw2280568524506468905:=0
def tw9393151465674452967:=0
def tw9368790357551908916:=0
def tw8382330964617079366:=0
def tw7743191529155909797:=0
def tw1139881253365958751:=0
def tw15176892825148936537:=0
def tw11951726449901599158:=0
def tw16740077926115714094:=0
def tw3482158837982997252:=0
def tw9113546111805964415:=0
def tw14991896926289623098:=0
def tw17492737121118136100:=0
def tw17851342398716720400:=0
def tw3379686213919463743:=0
def tw15892753945257964581:=0
def tw9462575154672032173:=0
def tw8587199273899598915:=0
def tw13439499476802802969:=0
def tw16074701819542540879:=0
def tw14457513163177894189:=0
def tw11479213989377650606:=0
def tw6524256938789516080:=0
def tw6001769100874609307:=0
def tw18176971626845317792:=0
def tw15250183031416776257:=0
def tw12276908211535886197:=0
def tw5377582136491827427:=0
def tw13865279998239622714:=0
def tw14417984534386520991:=0
def tw3390112204706183470:=0
def tw4860268050474088780:=0
def tw6217715074898804885:=0
def tw15790230902130524739:=0
def tw1211528557261845231:=0
def tw18323567037052727208:=0
def tw12072485658293952982:=0
def tw5034236721527573978:=0
def tw8869910695225231779:=0
def tw16565756801604934199:=0
def tw13385617284798614440:=0
def tw16352130016612722430:=0
def tw4324428140314279156:=0
def tw13740388020450527508:=0
def tw1201850410620202777:=0
def tw10076530899666941916:=0
def tw6891232743081732403:=0
def tw16039388768232309908:=0
def tw7881190337108885481:=0
def tw6758600463347196549:=0
def tw10699752306543092137:=0
def tw6989588208897190110:=0
def tw5270653565028353518:=0
def tw4632911017495967784:=0
def tw12739203886071143647:=0
def tw12312402010896133076:=0
def tw1726018149524103666:=0
def tw14606737319224277748:=0
def tw12570711764044979639:=0
def tw7808620953093509887:=0
def tw600307434135356955:=0
def tw3438618996625922581:=0
def tw8365767999146003759:=0
def tw18296968031863381017:=0
def tw7307094575208046406:=0
def tw13206147209468083165:=0
def tw12210748493842881646:=0
def tw2373376547532838205:=0
def tw18197988207042305192:=0
def tw7130995941388391113:=0
def tw2463854254548070893:=0
def tw11112244732973834:=0
def tw15110569071498520731:=0
def tw16727095645333569154:=0
def tw13853509707286288238:=0
def tw14340781096384802118:=0
def tw12040879323476549032:=0
def tw16658966743936216193:=0
def tw14430041772704764093:=0
def tw3173068264218784460:=0
def tw7052169333345144178:=0
def tw9478293437141036204:=0
def tw4868663979861970958:=0
def tw13644178212973741321:=0
def tw13278426993229055770:=0
def tw10457667882570998270:=0
def tw14598192162704956749:=0
def tw17271966557891415110:=0
def tw14276510119325722419:=0
def tw14488580291189884242:=0
def tw17629525158969317006:=0
def tw6200528790687823590:=0
def tw16547204961403718431:=0
def tw17829893399932516570:=0
def tw2068462973283315001:=0
def tw2309380757238380505:=0
def tw4404493464921663900:=0
def tw8510030145416934200:=0
def tw17922221351883275497:=0
def tw5469743901090960449:=0
def tw16704212561729260648:=0
def tw17210556717618991:=0
def tw13133167717880838510:=0
def tw15391265984572373386:=0
def tw12508356057873339579:=0
def tw8013117463362025726:=0
def tw2364175060096517806:=0
def tw13351575337709888830:=0
def tw317288882688999580:=0
def tw3400079506244308516:=0
def tw14921864623651831187:=0
def tw13470875080369224853:=0
def tw2575532358137460183:=0
def tw8133490602682478516:=0
def tw2416563081261351090:=0
def tw15590678575937213918:=0
def tw15349133154631013589:=0
def tw14150507059306738346:=0
def tw3751373726834318183:=0
def tw8744831776086460874:=0
def tw782956948863643807:=0
def tw13240328943040641608:=0
def tw9321888703929983319:=0
def tw8322641263567522253:=0
def tw13869264549654345272:=0
def tw14240328573323642041:=0
def tw10061555197037829191:=0
def tw8621801254495237058:=0
def tw2404351402206893463:=0
def tw12798721188411100216:=0
def tw16745375862398423731:=0
def tw12238829206871457974:=0
def tw17885769872996298694:=0
def tw16486283824787723861:=0
def tw9954152957010555749:=0
def tw15837091469770944843:=0
def tw16417114955669425343:=0
def tw3655271196153504192:=0
def tw7322654626163905334:=0
def tw2812989446504805236:=0
def tw7639570673782217172:=0
def tw10548983535396074575:=0
def tw2154094184086183817:=0
def tw6586905485199388670:=0
def tw16211562255439757194:=0
def tw8460052411280910722:=0
def tw3085755616294452278:=0
def tw12458256388745903632:=0
def tw4677055821346146719:=0
def tw6185656437351830374:=0
def tw10283641018163877519:=0
def tw15794936265635911209:=0
def tw5752166993758603487:=0
def tw13524194766973488933:=0
def tw540651726552680568:=0
def tw5059209855612529560:=0
def tw12287541189324183039:=0
def tw5946999251449708077:=0
def tw8589644130172380381:=0
def tw5404493550942034270:=0
def tw9607322062729915161:=0
def tw12705868725503867604:=0
def tw11748338322932517746:=0
def tw7573958158794533726:=0
def tw8658782054679626880:=0
def tw8763881195162594601:=0
def tw14727141779679343926:=0
def tw4502173615208707411:=0
def tw2182189652499453142:=0
def tw5513342692850645314:=0
def tw17903773685958407356:=0
def tw15057181517263187447:=0
def tw8158647564909232078:=0
def tw5735699439954598979:=0
def tw10099341165076939947:=0
def tw17633650150055540248:=0
def tw14027796122140793388:=0
def tw14719296202451346504:=0
def tw6175693787908372824:=0
def tw10145671479449748369:=0
def tw5194264929526906430:=0
def tw2984033367670637597:=0
def tw14290428350357131057:=0
def tw10703325388494354996:=0
def tw7229853933013563785:=0
def tw14668157847775448894:=0
def tw2944914346162316840:=0
def tw1553080703876384032:=0
def tw17347198273751975333:=0
def tw6565281454107863325:=0
def tw13203157745454436441:=0
def tw16216484618647361522:=0
def tw10540981183803169148:=0
def tw17172186883192426638:=0
def tw5382722789902186960:=0
def tw3812511456676972144:=0
def tw3201723639270060403:=0
def tw8149754501346676109:=0
def tw17892502750466084066:=0
def tw13313897984372162563:=0
def tw10299967294768346298:=0
def tw7482400178278928463:=0
def tw1723160291287622164:=0
def tw1468686908931242937:=0
def tw8968558319138274189:=0
def tw6341232916747817958:=0
def tw3182345293592440260:=0
def tw4297208541592679572:=0
def tw8127596816934415944:=0
def tw8614977536802553279:=0
def tw17173711881391451236:=0
def tw4209182453566149247:=0
def tw2622822989919680659:=0
def tw7313612150454447663:=0
def tw12638427745522901344:=0
def tw7954607636395708865:=0
def tw16888760633013429028:=0
def tw8529878454560346730:=0
def tw1141290817804658170:=0
def tw11290618569337530502:=0
def tw10089776201921013626:=0
def tw16800582219349335681:=0
def tw3354821869698173194:=0
end PySem.W.Fast
noncomputable section
set_option Elab.async false
set_option linter.all false
set_option maxRecDepth 100000
section
namespace L2
open PySem PySem.Spec PyProof.Rows
abbrev Key:=Sum Int Str
noncomputable def oI:Key->Value->Bool
 | .inl k,v=>Value.isInt k v
 | .inr x,v=>abt x v
noncomputable def Sa(w:World):Key->Int
 | .inl k=>hashInt k
 | .inr x=>hashStr w x
theorem bN: ∀{k:Key}{v:Value},oI k v=true->(∃ i t,k=Z8 i/\v=W7 i t)\/(∃ x t,k=VT x/\v=XI x t)
 | .inl i,v,h=>by
  obtain⟨t,e⟩:=Value.isInt_shape (k:=i) (v:=v) h;exact .inl ⟨i,t,rfl,e⟩
 | .inr x,v,h=>by
  obtain⟨t,e⟩:=Value.isStrOf_shape (x:=x) (v:=v) h;exact .inr ⟨x,t,rfl,e⟩
theorem AI(i:Int)(t:Tok):oI (.inl i) (.int i t)=true:=by simp[oI,Value.isInt]
theorem mN(x:Str)(t:Tok):oI (.inr x) (.str x t)=true:=by simp[oI,abt]
theorem Lj(a b:Int):decide ((Z8 a:Key)=Z8 b)=(a == b):=by
 by_cases e:a=b
 . subst e;simp
 . have h: ¬ (Z8 a:Key)=Z8 b:=λq=>e (Sum.inl.inj q);rw[decide_eq_false h];exact(beq_eq_false_iff_ne.mpr e).symm
theorem J8(a b:Str):decide ((VT a:Key)=VT b)=decide (a=b):=by
 by_cases e:a=b
 . subst e;simp
 . have h: ¬ (VT a:Key)=VT b:=λq=>e (ZT q);rw[decide_eq_false h,decide_eq_false e]
theorem J5(a:Int)(b:Str):decide ((Z8 a:Key)=VT b)=false:=decide_eq_false (λq=>nomatch q)
theorem Nj(a:Str)(b:Int):decide ((VT a:Key)=Z8 b)=false:=decide_eq_false (λq=>nomatch q)
noncomputable def aH(prog:Uy)(w:World):PySem.KeyKind prog w Key where
 is:=oI
 hash:=Sa w
 inj:=λv a b ha hb=>by
  rcases bN ha with⟨i,t,rfl,rfl⟩ | ⟨x,t,rfl,rfl⟩
  . rcases bN hb with⟨j,u,rfl,e⟩ | ⟨y,u,rfl,e⟩
    . injection e with e1 _;rw[e1]
    . exact nomatch e
  . rcases bN hb with⟨j,u,rfl,e⟩ | ⟨y,u,rfl,e⟩
    . exact nomatch e
    . injection e with e1 _;rw[e1]
 byValue:=λk v h=>by
  rcases bN h with⟨i,t,rfl,rfl⟩ | ⟨x,t,rfl,rfl⟩<;>rfl
 pyHash:=λhv h=>by
  rcases bN hv with⟨i,t,rfl,rfl⟩ | ⟨x,t,rfl,rfl⟩
  . exact wpAny_pyHash_int h
  . exact wpAny_pyHash_str h
 eqBool:=λhu hv h=>by
  rcases bN hu with⟨i,t,rfl,rfl⟩ | ⟨x,t,rfl,rfl⟩
  . rcases bN hv with⟨j,u,rfl,rfl⟩ | ⟨y,u,rfl,rfl⟩
    . rw[Lj] at h;exact wpAny_eqBool_int h
    . rw[J5] at h;exact aaq i t y u _ _ _ _ h
  . rcases bN hv with⟨j,u,rfl,rfl⟩ | ⟨y,u,rfl,rfl⟩
    . rw[Nj] at h;exact aar x t j u _ _ _ _ h
    . rw[J8] at h;exact wpAny_eqBool_str h
 «strs» :=λk x t v h=>by
  rcases bN h with⟨i,u,rfl,e⟩ | ⟨y,u,rfl,e⟩
  . exact nomatch e
  . injection e with e1 _;subst e1;cases v<;>rfl
theorem uB(prog:Uy)(w:World)(i:Int)(t:Tok):(aH prog w).is (.inl i) (.int i t)=true:=AI i t
theorem vN(prog:Uy)(w:World)(x:Str)(t:Tok):(aH prog w).is (.inr x) (.str x t)=true:=mN x t
inductive V where
 | non | bl (b:Bool) | int (i:Int) | str (x:Str) | byt (b:Array UInt8) | flt (b:UInt64) | ref (a:Addr) | ty (n:String)
 deriving DecidableEq
noncomputable def RelV:V->Value->Prop
 | .non,u=>u=Wc
 | .bl b,u=>u=XJ b
 | .int i,u=> ∃ t,u=W7 i t
 | .str x,u=> ∃ t,u=XI x t
 | .byt b,u=> ∃ t,u=Value.bytes b t
 | .flt b,u=> ∃ t,u=aa7 b t
 | .ref a,u=>u=Ux a
 | .ty n,u=>u=W3 n
abbrev Vals:List V->List Value->Prop:=Vh RelV
theorem Vals.length{xs:List V}{us:List Value}(r:Vals xs us):xs.length=us.length:=Xh r
theorem Vals.get: ∀{xs:List V}{us:List Value}{i:Nat}{x:V},Vals xs us->xs[i]?=some x-> ∃ u,us[i]?=some u/\RelV x u
 | _,_,_,_,.nil,e=>by simp at e
 | _,_,0,_,.cons r _,e=>by simp at e;subst e;exact⟨_,rfl,r⟩
 | _,_,i+1,x,.cons _ t,e=>by
  obtain⟨u,h1,h2⟩:=Vals.get (i:=i) (x:=x) t (by simpa using e);exact⟨u,by simpa using h1,h2⟩
theorem Vals.set{x:V}{u:Value}(r:RelV x u): ∀{xs:List V}{us:List Value}(i:Nat),Vals xs us->Vals (xs.set i x) (us.set i u)
 | _,_,_,.nil=> .nil
 | _,_,0,.cons _ t=> .cons r t
 | _,_,i+1,.cons q t=> .cons q (Vals.set r i t)
theorem Vals.append: ∀{xs ys:List V}{us ws:List Value},Vals xs us->Vals ys ws->Vals (xs++ys) (us++ws)
 | _,_,_,_,.nil,s=>s
 | _,_,_,_,.cons r t,s=> .cons r (Vals.append t s)
theorem Vals.take: ∀{xs:List V}{us:List Value}(n:Nat),Vals xs us->Vals (xs.take n) (us.take n)
 | _,_,0,_=> .nil
 | _,_,_+1,.nil=> .nil
 | _,_,n+1,.cons r t=> .cons r (Vals.take n t)
theorem Vals.drop: ∀{xs:List V}{us:List Value}(n:Nat),Vals xs us->Vals (xs.drop n) (us.drop n)
 | _,_,0,r=>r
 | _,_,_+1,.nil=> .nil
 | _,_,n+1,.cons _ t=>Vals.drop n t
noncomputable def lu:Option V->Option Value->Prop
 | some v,some u=>RelV v u
 | none,none=>True
 | _,_=>False
noncomputable def KV{κ :Type}:List (κ × V)->List (κ × Value)->Prop:=Vh λ(p: κ × V) (q: κ × Value)=>p.1=q.1/\RelV p.2 q.2
noncomputable def kV:Key->V
 | .inl i=> .int i
 | .inr x=> .str x
inductive HO where
  | lst (xs:List V)
  | tup (xs:List V)
  | dK (kvs:List (Key × V)) | dT (kvs:List (List Key × V))
  | set (S:Int->Bool) (n:Nat)
  | ins (C dx:Addr) (fs:List (Str × V))
  | own (x:Addr)
  | xd (fs:List (Str × V))
  | met (f x:Addr)
  | Bb (lo hi:Int)
  | jP (o:Obj) (u:HO)
  | tbl (ps:Array Value)
  | ext (φ :Heap->Prop)
abbrev Hp:=Addr->Option HO
noncomputable def upd(H:Hp)(a:Addr)(o:HO):Hp:=λb=>if b=a then some o else H b
theorem ba{H:Hp}{a:Addr}{o:HO}:upd H a o a=some o:=by unfold upd;rw[if_pos rfl]
theorem aA{H:Hp}{a b:Addr}{o:HO}(h:b≠a):upd H a o b=H b:=by unfold upd;rw[if_neg h]
theorem qY{H:Hp}{a b:Addr}{o u:HO}(h:H a=some o)(h':H b=some u)(d:o≠u):a≠b:=by
 intro e;subst e;rw[h] at h';exact d (U9 h')
theorem aB{H:Hp}{a b:Addr}{o:HO}(h:H a=some o)(h':H b=none):a≠b:=by
 intro e;subst e;rw[h] at h';cases h'
noncomputable def qp(h:Heap)(a:Addr)(items:Array Value):Prop:= ∃ o,h.get? a=some o/\o.cls= .type "tuple" /\ ∃ n,o.data= .seq items n/\o.dict=none
theorem qp.tup{h:Heap}{a:Addr}{items:Array Value}(x:qp h a items):IsTup h a items:=let ⟨o,e,c,n,d,_⟩:=x;⟨o,e,c,n,d⟩
theorem qp.new(h:Heap)(items:Array Value):qp (h.push { cls:= .type "tuple",data:= .seq items }) h.objs.size items:=⟨_,Um _ rfl,rfl,_,rfl,rfl⟩
section
variable(P:Uy)(w:World)
noncomputable def aT(H:Hp)(h:Heap)(a:Addr):HO->Prop
 | .lst xs=>xs.length<=sizeLine/\ ∃(ai:List Value)(n:Nat),Vals xs ai/\h.get? a=some { cls:= .type "list",data:= .seq ai.toArray n }
 | .tup xs=>xs.length<=sizeLine/\ ∃ ai:List Value,Vals xs ai/\qp h a ai.toArray
 | .dK kvs=>kvs.length<=sizeLine/\(a == Vq)=false/\ ∃ vs,KV kvs vs/\h.DictOf (aH P w) a vs
 | .dT kvs=>kvs.length<=sizeLine/\(a == Vq)=false/\ ∃ xs:List (List Key × Addr × Value),
   Vh (λ(p:List Key × V) (q:List Key × Addr × Value)=>p.1=q.1/\H q.2.1=some (.tup (p.1.map kV))/\RelV p.2 q.2.2) kvs xs /\
   ∃ o es ep,h.get? a=some o/\o.ExactDict/\o.data= .dict es ep/\es.toList=xs.map (entryOfKey (Y4 (aH P w)))/\(xs.map (·.1)).Nodup
 | .set S n=>h.SetOf (intKind P w) a S n
 | .ins C dx fs=>H dx=some (.own a)/\fs.length<=1000/\dx≠a/\h.get? a=some (Wm C dx) /\
   ∃ mA,h.Ns1 dx mA/\(∀ f,lu (fs.lookup f) (mA f))/\abw mA (fs.map (·.1))
 | .own _=> ∃ o,h.get? a=some o
 | .xd fs=> ∃ mA,h.Ns1 a mA/\ ∀ f,lu (fs.lookup f) (mA f)
 | .Bb lo hi=> ∃ t u v,h.get? a=some { cls:= .type "range",data:= .fields #[.int lo t,.int hi u,.int 1 v] }
 | .jP o u=>h.get? a=some o∧aT H h a u
 | .tbl ps=>h.get? a=some { cls:= .none,data:= .fields ps }
 | .met f x=>h.get? a=some (YC (.ref f) (.ref x))
 | .ext φ => φ h∧(∃ o,h.get? a=some o)∧ ∀ h1 h2:Heap, φ h1->(∀ o,h1.get? a=some o->h2.get? a=some o)-> φ h2
noncomputable def jK (H:Hp) (h:Heap):Prop:= ∀ a o,H a=some o->aT P w H h a o
end
section
variable{P:Uy}{w:World}{H H':Hp}{h h':Heap}{a:Addr}{o:HO}
theorem aT.lt(x:aT P w H h a o):a < h.objs.size:=by
 cases o with
 | lst xs=>obtain⟨_,_,_,_,e⟩:=x;exact Ug e
 | tup xs=>obtain⟨_,_,_,p⟩:=x;exact p.tup.lt
 | dK kvs=>obtain⟨_,_,_,_,o,_,_,e,_⟩:=x;exact Ug e
 | dT kvs=>obtain⟨_,_,_,_,o,_,_,e,_⟩:=x;exact Ug e
 | set S n=>obtain⟨o,_,_,_,e,_⟩:=x;exact Ug e
 | ins C dx fs=>obtain⟨_,_,_,e,_⟩:=x;exact Ug e
 | own y=>obtain⟨_,e⟩:=x;exact Ug e
 | xd fs=>obtain⟨_,⟨_,_,_,e,_⟩,_⟩:=x;exact Ug e
 | Bb lo hi=>obtain⟨_,_,_,e⟩:=x;exact Ug e
 | jP ob u=>obtain⟨e,_⟩:=x;exact Ug e
 | tbl ps=>exact Ug (show h.get? a=some _ from x)
 | met f y=>exact Ug (show h.get? a=some _ from x)
 | ext φ =>obtain⟨_,⟨_,e⟩,_⟩:=x;exact Ug e
theorem Paired.Aw{α β :Type}{F G: α -> β ->Prop}: ∀{l₁ :List α}{l₂ :List β},Vh F l₁ l₂ ->(∀ a b,F a b->G a b)->Vh G l₁ l₂
 | _,_,.nil,_=> .nil
 | _,_,.cons r t,f=> .cons (f _ _ r) (Paired.Aw t f)
theorem aT.sU(x:aT P w H h a o)(k: ∀ b u,(b=a\/H b=some (.own a))->h.get? b=some u->h'.get? b=some u)
  (ho: ∀ b,H b=some (.own a)->H' b=some (.own a)) (ht: ∀ b xs,H b=some (.tup xs)->H' b=some (.tup xs)):aT P w H' h' a o:=by
 induction o with
 | lst xs=>obtain⟨z,ai,n,r,e⟩:=x;exact⟨z,ai,n,r,k _ _ (.inl rfl) e⟩
 | tup xs=>obtain⟨z,ai,r,ob,e,c⟩:=x;exact⟨z,ai,r,ob,k _ _ (.inl rfl) e,c⟩
 | dK kvs=>obtain⟨z,y,vs,r,ob,es,ep,e,c⟩:=x;exact⟨z,y,vs,r,ob,es,ep,k _ _ (.inl rfl) e,c⟩
 | dT kvs =>
  obtain⟨z,y,xs,r,ob,es,ep,e,c⟩:=x
  exact⟨z,y,xs,Paired.Aw r λp q z=>⟨z.1,ht _ _ z.2.1,z.2.2⟩,ob,es,ep,k _ _ (.inl rfl) e,c⟩
 | set S n=>obtain⟨ob,es,ep,t,e,c⟩:=x;exact⟨ob,es,ep,t,k _ _ (.inl rfl) e,c⟩
 | ins C dx fs =>
  obtain⟨d,z,ne,e,mA,⟨od,es,ep,e2,c⟩,r⟩:=x
  exact⟨ho _ d,z,ne,k _ _ (.inl rfl) e,mA,⟨od,es,ep,k _ _ (.inr d) e2,c⟩,r⟩
 | own y=>obtain⟨ob,e⟩:=x;exact⟨ob,k _ _ (.inl rfl) e⟩
 | xd fs=>obtain⟨mA,⟨od,es,ep,e,c⟩,r⟩:=x;exact⟨mA,⟨od,es,ep,k _ _ (.inl rfl) e,c⟩,r⟩
 | Bb lo hi=>obtain⟨t,u,v,e⟩:=x;exact⟨t,u,v,k _ _ (.inl rfl) e⟩
 | jP ob u ih=>obtain⟨e,q⟩:=x;exact⟨k _ _ (.inl rfl) e,ih q⟩
 | tbl ps =>
  have e:h.get? a=some { cls:= .none,data:= .fields ps }:=x
  show h'.get? a=some { cls:= .none,data:= .fields ps }
  exact k a _ (.inl rfl) e
 | met f y =>
  have e:h.get? a=some (YC (.ref f) (.ref y)):=x
  show h'.get? a=some (YC (.ref f) (.ref y))
  exact k a _ (.inl rfl) e
 | ext φ =>obtain⟨p,⟨o,e⟩,st⟩:=x;exact⟨st _ _ p λo q=>k _ _ (.inl rfl) q,⟨o,k _ _ (.inl rfl) e⟩,st⟩
theorem jK.lt(x:jK P w H h)(e:H a=some o):a < h.objs.size:=(x a o e).lt
theorem jK.fresh(x:jK P w H h)(e:h.objs.size<=a):H a=none:=by
 cases q:H a with
 | none=>rfl
 | some u=>exact absurd (Up (x.lt q) e) (Vk _)
theorem jK.kept(x:jK P w H h)(k: ∀ b u,h.get? b=some u->h'.get? b=some u):jK P w H h':=λa o e =>
 (x a o e).sU (λb u _ q=>k b u q) (λ_ q=>q) λ_ _ q=>q
theorem jK.laid(x:jK P w H h)(k: ∀ b u,h.get? b=some u->h'.get? b=some u)(hp:h.objs.size<=a)(new:aT P w (upd H a o) h' a o):jK P w (upd H a o) h':=λb u e=>by
 have hn:=x.fresh hp;by_cases hb:b=a
 . subst hb;rw[ba] at e;cases e;exact new
 . rw[aA hb] at e;exact(x b u e).sU (λc v _ q=>k c v q) (λc q=>by rw[aA (aB q hn)];exact q) λc xs q=>by rw[aA (aB q hn)];exact q
end
noncomputable def Rd(H:Hp)(a:Addr)(u:HO):Prop:=H a=some u\/ ∃ o,H a=some (.jP o u)
theorem Rd.of{H:Hp}{a:Addr}{u:HO}(h:H a=some u):Rd H a u:= .inl h
theorem Rd.ok{P:Uy}{w:World}{H:Hp}{h:Heap}{a:Addr}{u:HO}(r:Rd H a u)(x:jK P w H h):aT P w H h a u:=by
 rcases r with r | ⟨o,r⟩
 . exact x a u r
 . obtain⟨_,q⟩:=x a _ r;exact q
noncomputable def Qx:Option HO->Prop
 | some (.lst _)=>True
 | some (.dK _)=>True
 | some (.dT _)=>True
 | some (.set _ _)=>True
 | some (.ins _ _ _)=>True
 | some (.ext _)=>True
 | _=>False
section
variable{P:Uy}{w:World}{H:Hp}{h h':Heap}{x e:Addr}{o':HO}
theorem jK.write(ok:jK P w H h)(mu:Qx (H x))(he:e=x\/H e=some (.own x))(k: ∀ b u,b≠e->h.get? b=some u->h'.get? b=some u)(heo: ∃ u,h'.get? e=some u)
  (new:aT P w (upd H x o') h' x o'):jK P w (upd H x o') h':=λb u q=>by
 have nown: ∀ c y,H c=some (.own y)->c≠x:=λc y r z=>by subst z;rw[r] at mu;exact mu
 have ntup: ∀ c xs,H c=some (.tup xs)->c≠x:=λc xs r z=>by subst z;rw[r] at mu;exact mu
 by_cases hb:b=x
 . subst hb;rw[ba] at q;cases q;exact new
 . rw[aA hb] at q;by_cases hbe:b=e
   . have q':H b=some (.own x):=by
      rcases he with z | z
      . exact absurd (hbe.trans z) hb
      . rw[hbe];exact z
     rw[q] at q';cases q';obtain⟨v,hv⟩:=heo;exact⟨v,by rw[hbe];exact hv⟩
   . refine(ok b u q).sU (λc v hc r=>k c v ?_ r) (λc r=>by rw[aA (nown c b r)];exact r) λc xs r=>by rw[aA (ntup c xs r)];exact r
     rcases hc with rfl | hc
     . exact hbe
     . rintro rfl;rcases he with z | z
       . exact nown c b hc z
       . rw[hc] at z;cases z;exact hb rfl
end
structure Un(fs ex:List Addr)(H H':Hp)(h h':Heap):Prop where
 keep: ∀ b o,h.get? b=some o->H b=none->b ∉ fs->b ∉ ex->h'.get? b=some o
 slot: ∀ b o,h.get? b=some o->H b=none->b∈fs->b ∉ ex-> ∃ sl,h'.get? b=some { o with slots:=sl }
 free: ∀ b o,h.get? b=some o->H b=none->b ∉ ex->H' b=none
 there: ∀ b o,h.get? b=some o->b ∉ ex-> ∃ o',h'.get? b=some o'
 lY: ∀ b xs,H b=some (.tup xs)->H' b=some (.tup xs)
 kW: ∀ b o u,H b=some (.jP o u)->H' b=some (.jP o u)
 nv: ∀ b ps,H b=some (.tbl ps)-> ∃ more,H' b=some (.tbl (ps++more))
section
variable{fs fs' ex ex':List Addr}{H H1 H2:Hp}{h h1 h2 h':Heap}{a x e:Addr}{o:HO}
theorem Un.any(u:Un fs ex H H1 h h1){b:Addr}{ob:Obj}(q:h.get? b=some ob)(n:H b=none)(hx:b ∉ ex): ∃ sl,h1.get? b=some { ob with slots:=sl }:=by
 by_cases hb:b∈fs
 . exact u.slot b ob q n hb hx
 . exact⟨ob.slots,u.keep b ob q n hb hx⟩
theorem Un.trans(a:Un fs ex H H1 h h1)(b:Un fs ex H1 H2 h1 h2):Un fs ex H H2 h h2 where
 keep:=λc ob q n hc hx=>b.keep c ob (a.keep c ob q n hc hx) (a.free c ob q n hx) hc hx
 slot:=λc ob q n hc hx=>by
  obtain⟨sl,e1⟩:=a.slot c ob q n hc hx;obtain⟨sl',e2⟩:=b.slot c _ e1 (a.free c ob q n hx) hc hx;exact⟨sl',e2⟩
 free:=λc ob q n hx=>by
  obtain⟨o',e1⟩:=a.there c ob q hx;exact b.free c o' e1 (a.free c ob q n hx) hx
 there:=λc ob q hx=>by
  obtain⟨o',e1⟩:=a.there c ob q hx;exact b.there c o' e1 hx
 lY:=λc xs q=>b.lY c xs (a.lY c xs q)
 kW:=λc ob xs q=>b.kW c ob xs (a.kW c ob xs q)
 nv:=λc ps q=>by
  obtain⟨m1,e1⟩:=a.nv c ps q;obtain⟨m2,e2⟩:=b.nv c _ e1;exact⟨m1++m2,by rw[e2,aas]⟩
theorem Un.kept(k: ∀ b u,h.get? b=some u->h'.get? b=some u):Un fs ex H H h h' :=
 ⟨λb ob q _ _ _=>k b ob q,λb ob q _ _ _=>⟨ob.slots,k b ob q⟩,λ_ _ _ n _=>n,λb ob q _=>⟨ob,k b ob q⟩,λ_ _ q=>q,λ_ _ _ q=>q,λ_ ps q=>⟨#[],by rw[q];simp⟩⟩
theorem Un.refl:Un fs ex H H h h:=Un.kept λ_ _ q=>q
theorem Un.laid(k: ∀ b u,h.get? b=some u->h'.get? b=some u)(hp:h.objs.size<=a)(hn:H a=none):Un fs ex H (upd H a o) h h' where
 keep:=λb u q _ _ _=>k b u q
 slot:=λb u q _ _ _=>⟨u.slots,k b u q⟩
 free:=λb u q n _=>by rw[aA (Uw (Up (Ug q) hp))];exact n
 there:=λb u q _=>⟨u,k b u q⟩
 lY:=λb xs q=>by rw[aA (aB q hn)];exact q
 kW:=λb u xs q=>by rw[aA (aB q hn)];exact q
 nv:=λb ps q=>⟨#[],by rw[aA (aB q hn),q];simp⟩
theorem Un.write(mu:Qx (H x))(he:e=x\/H e=some (.own x))(k: ∀ b u,b≠e->h.get? b=some u->h'.get? b=some u)(heo: ∃ u,h'.get? e=some u):Un fs ex H (upd H x o) h h':=by
 have hx: ∀ b,H b=none->b≠x:=λb n z=>by subst z;rw[n] at mu;exact mu
 have hb: ∀ b,H b=none->b≠e:=λb n z=>by
  subst z;rcases he with r | r
  . exact hx b n r
  . rw[n] at r;cases r
 have hm: ∀ b u,H b=some u-> ¬ Qx (some u)->b≠x:=λb u q nm z=>by subst z;rw[q] at mu;exact nm mu
 refine⟨λb u q n _ _=>k b u (hb b n) q,λb u q n _ _=>⟨u.slots,k b u (hb b n) q⟩,λb u q n _=>by rw[aA (hx b n)];exact n,λb u q _=>?_,
  λb xs q=>by rw[aA (hm b _ q λz=>z)];exact q,λb u xs q=>by rw[aA (hm b _ q λz=>z)];exact q,λb ps q=>⟨#[],by rw[aA (hm b _ q λz=>z),q];simp⟩⟩
 by_cases hbe:b=e
 . subst hbe;exact heo
 . exact⟨u,k b u hbe q⟩
end
noncomputable def Q9(h:Heap)(H:Hp):List Addr:=(UR h.objs.size).filter λa=>(H a).isSome
noncomputable def rX(h:Heap)(H:Hp):Heap:=PySem.W.hideAll h (Q9 h H)
theorem AL(h:Heap)(H:Hp):(rX h H).objs.size=h.objs.size:=PySem.W.hideAll_size _ _
theorem B8{h:Heap}{H:Hp}{b:Addr}{o:Obj}(e:h.get? b=some o)(n:H b=none):(rX h H).get? b=some o :=
 PySem.W.hideAll_get _ e λhm=>by
  have q:(H b).isSome=true:=(VE.mp hm).2;rw[n] at q;simp at q
theorem HZ{h:Heap}{H:Hp}{b:Addr}{o:Obj}(e:(rX h H).get? b=some o):h.get? b=some o/\H b=none:=by
 have e':h.get? b=some o:=PySem.W.of_hideAll (Q9 h H) e;refine⟨e',?_⟩;cases q:H b with
 | none=>rfl
 | some x =>
  have hm:b∈Q9 h H:=VE.mpr ⟨Vj.mpr (Ug e'),by simp[q]⟩
  have z:(rX h H).get? b=none:=PySem.W.hideAll_none (Q9 h H) hm
  rw[z] at e;cases e
noncomputable def Hb(g h:Heap)(L:Addr):List (Addr × Obj):=(UR h.objs.size).filterMap λa=>if a=L\/(g.get? a).isSome=true then none else(h.get? a).map λo=>(a,o)
noncomputable def rest(g h:Heap)(L d:Addr):List (Addr × Obj):=(Hb g h L).filter λp=>decide (p.1≠d)
structure Mod(K:TV)(mg:Str->Option Value)(base:Heap):Prop where
 RO:K.In base
 glob:base.Ns Uv mg
 blt: ∃ mb,base.Ns builtinsNs mb/\ ∀ x:Str,x≠ "__name__" ->mb x=Vu x
 nolimit:base.NoLimit
structure Cx where
 prog:Uy
 w:World
 K:TV
 mg:Str->Option Value
 base:Heap
 A:UW
 N:List Str
 s₀ :T7
 H₀ :Hp
 env:Env
 outer:List Env
 stack:List Env
 ex:List Addr
 fn:Str->Bool
 calm:Bool
 pn:List (Addr × Obj)
 xe:Value->T7->Prop
noncomputable def Bk(l:List Env):List Addr:=l.filterMap (·.frame)
abbrev Cx.fs(X:Cx):List Addr:=Bk X.outer
noncomputable def NW(sc:Scope)(x:Str):Prop:=sc.names.lookup x=some .local\/sc.names.lookup x=some .cell\/sc.names.lookup x=some .free
noncomputable def Loc(sc:Scope)(x:Str):Prop:=sc.names.lookup x=some .local\/sc.names.lookup x=some .cell
noncomputable def Look(env:Env)(h:Heap)(m:Str->Option Value)(x:Str)(u:Value):Prop :=
 (env.kindOf x=some .local/\m x=some u)\/((env.kindOf x=some .cell\/env.kindOf x=some .free)/\ ∃ c,env.cells.lookup x=some c/\h.IsCell c (some u))
structure Cx.Ok(X:Cx):Prop where
 mod:Mod X.K X.mg X.base
 kind:X.env.scope.kind= .function
 glob:X.env.globals=Uv
 blt:X.env.builtins=builtinsNs
 above:X.s₀.heap.objs.size<=X.env.locals
 inj: ∀ x y c,X.env.cells.lookup x=some c->X.env.cells.lookup y=some c->x=y
 has: ∀ x,(X.env.kindOf x=some .cell\/X.env.kindOf x=some .free)-> ∃ c,X.env.cells.lookup x=some c
 NV: ∀ x c,X.fn x=true->X.env.cells.lookup x=some c->X.s₀.heap.objs.size<=c
 hd:X.calm=true->X.A.handled=none
 frames:X.A.frames=some X.stack
 Qu:X.stack=X.outer\/(X.stack=X.env::X.outer/\X.env.frame=some X.env.locals)
 RJ: ∀ b∈X.ex,b≠X.env.locals/\ ∀ x c,X.env.cells.lookup x=some c->c≠b
 bs: ∀ b o,X.base.get? b=some o->X.s₀.heap.get? b=some o/\X.H₀ b=none
 ED:X.base.objs.size<=X.s₀.heap.objs.size
 Ao: ∀ b o,X.base.get? b=some o->b ∉ X.ex
 Ct: ∀ b∈X.ex,b ∉ X.fs
 mH:X.s₀.heap.FunFrames X.base X.outer
 Jb: ∀ b∈X.fs,X.H₀ b=none
structure Inv(X:Cx)(pins:List (Addr × Obj))(σ :List (Option V))(H:Hp)(s:T7):Prop where
 ok:X.Ok
 os:s.os=X.s₀.os
 bare:YD s.gens
 base:Un X.fs X.ex X.H₀ H X.s₀.heap s.heap
 loc: ∃ m,s.heap.Ns X.env.locals m/\ ∀(i:Nat)(x:Str)(v:V),X.N[i]?=some x-> σ[i]?=some (some v)->NW X.env.scope x-> ∃ u,RelV v u/\Look X.env s.heap m x u
 cell: ∀ x c,X.env.cells.lookup x=some c-> ∃ v,s.heap.IsCell c v
 free:H X.env.locals=none
 jm: ∀ x c,X.env.cells.lookup x=some c->H c=none
 pin: ∀ p∈X.pn++pins,s.heap.get? p.1=some p.2/\H p.1=none/\p.1≠X.env.locals/\p.1 ∉ X.fs/\ ∀ v,p.2.data≠ .cell v
 bq:jK X.prog X.w H s.heap
 len: σ.length=X.N.length
section
variable{X:Cx}{pins:List (Addr × Obj)}{σ :List (Option V)}{H H':Hp}{s:T7}{h':Heap}
theorem Cx.Ok.RY(ok:X.Ok){b:Addr}{o:Obj}(e:X.base.get? b=some o):b ∉ X.fs:=λhb=>by
 have:=(ok.mH.mem hb).1;rw[e] at this;cases this
theorem Inv.bs(I:Inv X pins σ H s): ∀ b o,X.base.get? b=some o->s.heap.get? b=some o/\H b=none:=λb o e =>
 ⟨I.base.keep b o (I.ok.bs b o e).1 (I.ok.bs b o e).2 (I.ok.RY e) (I.ok.Ao b o e),I.base.free b o (I.ok.bs b o e).1 (I.ok.bs b o e).2 (I.ok.Ao b o e)⟩
theorem Inv.bk(I:Inv X pins σ H s): ∀ b o,X.base.get? b=some o->s.heap.get? b=some o:=λb o e=>(I.bs b o e).1
theorem Inv.mod(I:Inv X pins σ H s):Mod X.K X.mg X.base:=I.ok.mod
theorem Inv.lH(I:Inv X pins σ H s):X.K.In s.heap:=I.ok.mod.RO.keeps I.bk
theorem Inv.nolimit(I:Inv X pins σ H s):s.heap.NoLimit:=I.ok.mod.nolimit.keeps I.bk
theorem Inv.fr(I:Inv X pins σ H s): ∃ m,Fr X.base X.env.locals s.heap m :=
 let ⟨m,hn,_⟩:=I.loc
 ⟨m,hn,I.bk,UM I.ok.ED I.ok.above⟩
theorem Inv.lt(I:Inv X pins σ H s):X.env.locals < s.heap.objs.size:=let ⟨_,hn,_⟩:=I.loc;hn.lt
theorem Inv.sz(I:Inv X pins σ H s):X.s₀.heap.objs.size<=s.heap.objs.size:=UM I.ok.above (Wr I.lt)
theorem Inv.Pz(I:Inv X pins σ H s){a:Addr}(h:s.heap.objs.size<=a):a ∉ X.fs:=λhb=>by
 obtain⟨_,o,ho,_⟩:=I.ok.mH.mem hb;exact absurd (Up (Ug ho) (UM I.sz h)) (Vk _)
theorem Inv.Nx(I:Inv X pins σ H s): ∀ x c,X.env.cells.lookup x=some c->c≠X.env.locals:=λx c e z=>by
 obtain⟨v,o,ho,hd⟩:=I.cell x c e;obtain⟨m,⟨o',es,ep,ho',hd',_⟩,_⟩:=I.loc;rw[z,ho'] at ho;cases ho;rw[hd'] at hd;cases hd
theorem Inv.mH(I:Inv X pins σ H s):s.heap.FunFrames X.base X.outer:=by
 have all: ∀(l:List Env),(∀ b∈Bk l,b∈X.fs)->X.s₀.heap.FunFrames X.base l->s.heap.FunFrames X.base l:=by
  intro l
  induction l with
  | nil=>intro _ _;trivial
  | cons env r ih =>
   intro hs hl
   obtain⟨hk,⟨L,o,hf,hn,ho,hd⟩,hr⟩:=hl
   have hL:L∈X.fs:=hs L (by unfold Bk;rw[Yd,hf];exact Uk)
   obtain⟨sl,e⟩:=I.base.slot L o ho (I.ok.Jb L hL) hL λz=>I.ok.Ct L z hL
   exact⟨hk,⟨L,_,hf,hn,e,hd⟩,ih (λb hb=>hs b (by unfold Bk;rw[Yd,hf];exact Uo _ hb)) hr⟩
 exact all X.outer (λ_ hb=>hb) I.ok.mH
theorem Inv.stack(I:Inv X pins σ H s):s.heap.FunFrames X.base X.stack:=by
 rcases I.ok.Qu with e | ⟨e,hf⟩
 . rw[e];exact I.mH
 . rw[e];obtain⟨m,hn,_⟩:=I.loc;refine .cons (by rw[I.ok.kind];decide) hf hn ?_ I.mH;exact VZ (UM I.ok.ED I.ok.above)
theorem Inv.lO(I:Inv X pins σ H s): ∀ b∈Bk X.stack,b∈X.env.locals::X.fs:=λb hb=>by
 rcases I.ok.Qu with e | ⟨e,hf⟩
 . rw[e] at hb;exact Uo _ hb
 . rw[e] at hb;unfold Bk at hb;rw[Yd,hf] at hb;exact hb
theorem Inv.y8(I:Inv X pins σ H s): ∀ b∈Bk X.stack,H b=none:=λb hb=>by
 rcases Ui.mp (I.lO b hb) with e | hb
 . rw[e];exact I.free
 . obtain⟨_,o,ho,_⟩:=I.ok.mH.mem hb;exact I.base.free b o ho (I.ok.Jb b hb) λz=>I.ok.Ct b z hb
theorem Inv.step{g':Array GenState}{t':Nat}{d':Drawn}{ch:List Addr}(I:Inv X pins σ H s)
  (hch: ∀ b∈ch,(b∈X.ex\/X.s₀.heap.objs.size<=b)/\b≠X.env.locals/\(∀ x c,X.env.cells.lookup x=some c->c≠b)/\ ∀ p∈X.pn++pins,p.1≠b)
  (keep: ∀ b o,b≠X.env.locals->b ∉ X.fs->b ∉ ch->s.heap.get? b=some o->H b=none->h'.get? b=some o)
  (slot: ∀ b o,b≠X.env.locals->b∈X.fs->b ∉ ch->s.heap.get? b=some o->H b=none-> ∃ sl,h'.get? b=some { o with slots:=sl }) (free: ∀ b o,b ∉ ch->s.heap.get? b=some o->H b=none->H' b=none)
  (there: ∀ b o,b ∉ ch->s.heap.get? b=some o-> ∃ o',h'.get? b=some o')
  (lY: ∀ b xs,H b=some (.tup xs)->H' b=some (.tup xs)) (kW: ∀ b o u,H b=some (.jP o u)->H' b=some (.jP o u)) (nv: ∀ b ps,H b=some (.tbl ps)-> ∃ more,H' b=some (.tbl (ps++more)))
  (ns: ∀ m,s.heap.Ns X.env.locals m->h'.Ns X.env.locals m) (bq:jK X.prog X.w H' h') (hg:YD g') :
  Inv X pins σ H' { s with heap:=h',gens:=g',drawn:=d',toks:=t' }:=by
 have neL: ∀ b o,X.s₀.heap.get? b=some o->b≠X.env.locals:=λb o e=>Uw (Up (Ug e) I.ok.above);have neC: ∀ b o,X.s₀.heap.get? b=some o->b ∉ X.ex->b ∉ ch:=λb o e hx hb=>by
  rcases(hch b hb).1 with z | z
  . exact hx z
  . exact absurd (Up (Ug e) z) (Vk _)
 have cellK: ∀ x c,X.env.cells.lookup x=some c-> ∀ v,s.heap.IsCell c v->h'.IsCell c v:=λx c e v ⟨o,ho,hd⟩=>by
  have nch:c ∉ ch:=λz=>(hch c z).2.2.1 x c e rfl;by_cases hc:c∈X.fs
  . obtain⟨sl,q⟩:=slot c o (I.Nx x c e) hc nch ho (I.jm x c e);exact⟨_,q,hd⟩
  . exact⟨o,keep c o (I.Nx x c e) hc nch ho (I.jm x c e),hd⟩
 refine⟨I.ok,I.os,hg,⟨λb o e n hb hx=>?_,λb o e n hb hx=>?_,λb o e n hx=>?_,λb o e hx=>?_,λb xs e=>lY b xs (I.base.lY b xs e),λb o xs e=>kW b o xs (I.base.kW b o xs e),λb ps e=>?_⟩,?_,λx c e=>?_,?_,λx c e=>?_,λp hp=>?_,bq,I.len⟩
 . exact keep b o (neL b o e) hb (neC b o e hx) (I.base.keep b o e n hb hx) (I.base.free b o e n hx)
 . obtain⟨sl,e1⟩:=I.base.slot b o e n hb hx;obtain⟨sl',e2⟩:=slot b _ (neL b o e) hb (neC b o e hx) e1 (I.base.free b o e n hx);exact⟨sl',e2⟩
 . obtain⟨o',e1⟩:=I.base.there b o e hx;exact free b o' (neC b o e hx) e1 (I.base.free b o e n hx)
 . obtain⟨o',e1⟩:=I.base.there b o e hx;exact there b o' (neC b o e hx) e1
 . obtain⟨m1,e1⟩:=I.base.nv b ps e;obtain⟨m2,e2⟩:=nv b _ e1;exact⟨m1++m2,by rw[e2,aas]⟩
 . obtain⟨m,hn,hl⟩:=I.loc;refine⟨m,ns m hn,λi x v e1 e2 e3=>?_⟩;obtain⟨u,r,l⟩:=hl i x v e1 e2 e3;refine⟨u,r,?_⟩;rcases l with l | ⟨k,c,e,z⟩
   . exact .inl l
   . exact .inr ⟨k,c,e,cellK x c e _ z⟩
 . obtain⟨v,z⟩:=I.cell x c e;exact⟨v,cellK x c e v z⟩
 . obtain⟨m,⟨o,_,_,ho,_⟩,_⟩:=I.loc;exact free _ o (λz=>(hch _ z).2.1 rfl) ho I.free
 . obtain⟨v,o,ho,hd⟩:=I.cell x c e;exact free c o (λz=>(hch c z).2.2.1 x c e rfl) ho (I.jm x c e)
 . obtain⟨e,n,ne,nf,d⟩:=I.pin p hp;have nch:p.1 ∉ ch:=λz=>(hch p.1 z).2.2.2 p hp rfl;exact⟨keep p.1 p.2 ne nf nch e n,free p.1 p.2 nch e n,ne,nf,d⟩
theorem Inv.un{t':Nat}(I:Inv X pins σ H s)(u:Un X.fs [] H H' s.heap h')(bq:jK X.prog X.w H' h'):Inv X pins σ H' { s with heap:=h',toks:=t' }:=by
 obtain⟨m,⟨o,es,ep,ho,r⟩,_⟩:=id I.loc;obtain⟨sl,hL⟩:=u.any ho I.free (by simp);exact I.step (g':=s.gens) (d':=s.drawn) (ch:=[]) (λ_ z=>nomatch z) (λb o _ hb _ e n=>u.keep b o e n hb (by simp)) (λb o _ hb _ e n=>u.slot b o e n hb (by simp)) (λb o _ e n=>u.free b o e n (by simp)) (λb o _ e=>u.there b o e (by simp)) u.lY u.kW u.nv (λm' hm=>by
  obtain⟨o',es',ep',ho',r'⟩:=hm;rw[ho] at ho';cases ho';exact⟨_,es',ep',hL,r'⟩) bq I.bare
theorem Inv.call{g':Array GenState}{t':Nat}{d':Drawn}{ch:List Addr}(I:Inv X pins σ H s)(u:Un (Bk X.stack) ch H H' s.heap h')(bq:jK X.prog X.w H' h')(hg:YD g')
  (hch: ∀ b∈ch,(b∈X.ex\/X.s₀.heap.objs.size<=b)/\b≠X.env.locals/\(∀ x c,X.env.cells.lookup x=some c->c≠b)/\ ∀ p∈X.pn++pins,p.1≠b) :
  Inv X pins σ H' { s with heap:=h',gens:=g',drawn:=d',toks:=t' }:=by
 obtain⟨m,⟨o,es,ep,ho,r⟩,_⟩:=id I.loc;obtain⟨sl,hL⟩:=u.any ho I.free λz=>(hch _ z).2.1 rfl;exact I.step (ch:=ch) hch (λb o hL hb hc e n=>u.keep b o e n (λz=>(Ui.mp (I.lO b z)).elim hL hb) hc) (λb o _ _ hc e n=>u.any e n hc) (λb o hc e n=>u.free b o e n hc) (λb o hc e=>u.there b o e hc) u.lY u.kW u.nv (λm' hm=>by
  obtain⟨o',es',ep',ho',r'⟩:=hm;rw[ho] at ho';cases ho';exact⟨_,es',ep',hL,r'⟩) bq hg
theorem Inv.turned{t':Nat}{it:Addr}(I:Inv X pins σ H s)(k: ∀ b o,b≠it->s.heap.get? b=some o->h'.get? b=some o)(hn:H it=none)(hL:it≠X.env.locals)
  (h1:it∈X.ex\/X.s₀.heap.objs.size<=it) (h2: ∀ x c,X.env.cells.lookup x=some c->c≠it) (h3: ∀ p∈X.pn++pins,p.1≠it):Inv X pins σ H { s with heap:=h',toks:=t' }:=by
 have nit: ∀ b u,H b=some u->b≠it:=λb u e z=>by rw[z,hn] at e;cases e
 refine I.step (g':=s.gens) (d':=s.drawn) (ch:=[it]) (λb hb=>?_) (λb o _ _ hc e _=>k b o (λz=>hc (by simp[z])) e) (λb o _ _ hc e _=>⟨o.slots,k b o (λz=>hc (by simp[z])) e⟩) (λ_ _ _ _ n=>n)
  (λb o hc e=>⟨o,k b o (λz=>hc (by simp[z])) e⟩) (λ_ _ e=>e) (λ_ _ _ e=>e) (λb ps e=>⟨#[],by rw[e];simp⟩) (λm hm=>?_) (λb u e=>?_) I.bare
 . have e:b=it:=by simpa using hb
   subst e;exact⟨h1,hL,h2,h3⟩
 . obtain⟨o,es,ep,ho,r⟩:=hm;exact⟨o,es,ep,k _ o (WB hL) ho,r⟩
 . refine(I.bq b u e).sU (λc v hc q=>k c v ?_ q) (λ_ q=>q) λ_ _ q=>q;rcases hc with z | z
   . rw[z];exact nit b u e
   . exact nit c _ z
theorem Inv.tok(I:Inv X pins σ H s)(t:Nat):Inv X pins σ H { s with toks:=t }:=I.un (h':=s.heap) (t':=t) Un.refl I.bq
theorem Inv.kept{t':Nat}(I:Inv X pins σ H s)(k: ∀ b u,s.heap.get? b=some u->h'.get? b=some u):Inv X pins σ H { s with heap:=h',toks:=t' }:=I.un (Un.kept k) (I.bq.kept k)
theorem Inv.laid{a:Addr}{o:HO}{t':Nat}(I:Inv X pins σ H s)(k: ∀ b u,s.heap.get? b=some u->h'.get? b=some u)(hp:s.heap.objs.size<=a)(new:aT X.prog X.w (upd H a o) h' a o) :
  Inv X pins σ (upd H a o) { s with heap:=h',toks:=t' }:=I.un (Un.laid k hp (I.bq.fresh hp)) (I.bq.laid k hp new)
theorem Inv.write {x e:Addr} {o:HO} {t':Nat} (I:Inv X pins σ H s) (mu:Qx (H x)) (he:e=x∨H e=some (.own x)) (k: ∀ b u,b≠e->s.heap.get? b=some u->h'.get? b=some u) (heo: ∃ u,h'.get? e=some u)
  (new:aT X.prog X.w (upd H x o) h' x o):Inv X pins σ (upd H x o) { s with heap:=h',toks:=t' }:=I.un (Un.write mu he k heo) (I.bq.write mu he k heo new)
theorem Inv.weak {σ':List (Option V)} (I:Inv X pins σ H s) (hl: σ'.length= σ.length) (w: ∀ (i:Nat) v, σ'[i]?=some (some v)-> σ[i]?=some (some v)):Inv X pins σ' H s :=
 ⟨I.ok,I.os,I.bare,I.base,let ⟨m,hn,hl'⟩:=I.loc;⟨m,hn,λi x v e1 e2 e3=>hl' i x v e1 (w i v e2) e3⟩,I.cell,I.free,I.jm,I.pin,I.bq,hl.trans I.len⟩
theorem Inv.jt {pins':List (Addr × Obj)} (I:Inv X pins σ H s) (h: ∀ p∈pins',s.heap.get? p.1=some p.2∧H p.1=none∧p.1≠X.env.locals∧p.1 ∉ X.fs∧ ∀ v,p.2.data≠ .cell v):Inv X pins' σ H s :=
 ⟨I.ok,I.os,I.bare,I.base,I.loc,I.cell,I.free,I.jm,λp hp=>(Va.mp hp).elim (λz=>I.pin p (W4 _ z)) (h p),I.bq,I.len⟩
theorem vF{N:List Str}(hN:N.Nodup){i j:Nat}{x:Str}(a:N[i]?=some x)(b:N[j]?=some x):i=j:=by
 obtain⟨h1,e1⟩:=T1.mp a;obtain⟨h2,e2⟩:=T1.mp b;exact(List.getElem_inj hN).mp (e1.trans e2.symm)
theorem rN{M:Model}{A:UW}{E:Value->T7->Prop}{i:Nat}{x:Str}{v:V}{u:Value}{Q:Unit->T7->Prop}(I:Inv X pins σ H s)(hN:X.N.Nodup)(hi:X.N[i]?=some x)(hx:Loc X.env.scope x)(r:RelV v u)
  (h: ∀ s',Inv X pins (σ.set i (some v)) H s'->(∃ a,Zi a s.heap s'.heap/\(a=X.env.locals\/X.env.cells.lookup x=some a))->Q () s') (hf:X.fn x=true\/X.env.scope.names.lookup x=some .local:=by first | exact .inl rfl | exact .inr rfl | assumption):wpAny M A (storeName X.env x u) Q E s:=by
 obtain⟨m,hn,hl⟩:=id I.loc;have hcls:(X.env.scope.kind == .class||(X.env.scope.kind == .module&&X.env.locals !=X.env.globals))=false:=by rw[I.ok.kind];rfl
 have hiσ :i < σ.length:=by rw[I.len];exact(T1.mp hi).1
 have Nx:=I.Nx;have tracked: ∀{a:Addr}{h':Heap},(∃ o,s.heap.get? a=some o/\H a=none)->Zi a s.heap h'->jK X.prog X.w H h':=λ{a h'} ha hs b ob e=>by
  obtain⟨_,_,hfree⟩:=ha;refine(I.bq b ob e).sU (λc w' hc q=>(hs.2 c ?_).trans q) (λ_ q=>q) λ_ _ q=>q;rintro rfl;rcases hc with rfl | hc
  . rw[hfree] at e;cases e
  . rw[hfree] at hc;cases hc
 rcases hx with hk | hk
 . refine wpAny_storeName_local hk hn (λh' hn' hs=>?_) hcls;obtain⟨oL,_,_,hoL,_⟩:=id hn;refine h _ ⟨I.ok,I.os,I.bare,⟨λb o e n hb hx=>?_,λb o e n hb hx=>?_,I.base.free,λb o e hx=>?_,I.base.lY,I.base.kW,I.base.nv⟩,⟨_,hn',λj y v' e1 e2 e3=>?_⟩,λy c e=>?_,I.free,I.jm,λp hp=>?_,tracked ⟨oL,hoL,I.free⟩ hs,by simpa using I.len⟩ ⟨_,hs,.inl rfl⟩
   . exact(hs.2 b (Uw (Up (Ug e) I.ok.above))).trans (I.base.keep b o e n hb hx)
   . obtain⟨sl,e1⟩:=I.base.slot b o e n hb hx;exact⟨sl,(hs.2 b (Uw (Up (Ug e) I.ok.above))).trans e1⟩
   . obtain⟨o',e1⟩:=I.base.there b o e hx;exact⟨o',(hs.2 b (Uw (Up (Ug e) I.ok.above))).trans e1⟩
   . by_cases hj:j=i
     . subst hj;rw[hi] at e1;cases e1;rw[UO hiσ] at e2;cases e2;exact⟨u,r,.inl ⟨hk,by simp⟩⟩
     . rw[Vb (WB hj)] at e2;obtain⟨u',r',q⟩:=hl j y v' e1 e2 e3;refine⟨u',r',?_⟩;rcases q with⟨k,e⟩ | ⟨k,c,e,z⟩
       . refine .inl ⟨k,?_⟩;have:y≠x:=λe=>hj (vF hN e1 (e ▸ hi));simp[this,e]
       . exact .inr ⟨k,c,e,z.sameBut hs (Nx y c e)⟩
   . obtain⟨w',z⟩:=I.cell y c e;exact⟨w',z.sameBut hs (Nx y c e)⟩
   . obtain⟨e,n,ne,nf,d⟩:=I.pin p hp;exact⟨(hs.2 p.1 ne).trans e,n,ne,nf,d⟩
 . have hfn:X.fn x=true:=by
    rcases hf with z | z
    . exact z
    . rw[z] at hk;cases hk
   obtain⟨c,hc⟩:=I.ok.has x (.inl hk);obtain⟨w',z⟩:=I.cell x c hc;refine wpAny_storeName_cell I.ok.kind hk hc z (λh' hc' hs=>?_);obtain⟨oc,hoc,hocd⟩:=id z;refine h { s with heap:=h' } ⟨I.ok,I.os,I.bare,⟨λb o e n hb hx=>?_,λb o e n hb hx=>?_,I.base.free,λb o e hx=>?_,I.base.lY,I.base.kW,I.base.nv⟩,⟨m,hn.sameBut hs (WB (Nx x c hc)),λj y v' e1 e2 e3=>?_⟩,λy c' e=>?_,I.free,I.jm,λp hp=>?_,tracked ⟨oc,hoc,I.jm x c hc⟩ hs,by simpa using I.len⟩ ⟨c,hs,.inr hc⟩
   . exact(hs.2 b (Uw (Up (Ug e) (I.ok.NV x c hfn hc)))).trans (I.base.keep b o e n hb hx)
   . obtain⟨sl,e1⟩:=I.base.slot b o e n hb hx;exact⟨sl,(hs.2 b (Uw (Up (Ug e) (I.ok.NV x c hfn hc)))).trans e1⟩
   . obtain⟨o',e1⟩:=I.base.there b o e hx;exact⟨o',(hs.2 b (Uw (Up (Ug e) (I.ok.NV x c hfn hc)))).trans e1⟩
   . by_cases hj:j=i
     . subst hj;rw[hi] at e1;cases e1;rw[UO hiσ] at e2;cases e2;exact⟨u,r,.inr ⟨.inl hk,c,hc,hc'⟩⟩
     . rw[Vb (WB hj)] at e2;obtain⟨u',r',q⟩:=hl j y v' e1 e2 e3;refine⟨u',r',?_⟩;rcases q with q | ⟨k,c',e,z'⟩
       . exact .inl q
       . refine .inr ⟨k,c',e,z'.sameBut hs ?_⟩;rintro rfl;exact hj (vF hN e1 (I.ok.inj _ _ _ e hc ▸ hi))
   . by_cases hcc:c'=c
     . subst hcc;exact⟨_,hc'⟩
     . obtain⟨w2,z2⟩:=I.cell y c' e;exact⟨w2,z2.sameBut hs hcc⟩
   . obtain⟨e,n,ne,nf,d⟩:=I.pin p hp;refine⟨(hs.2 p.1 ?_).trans e,n,ne,nf,d⟩;intro q;rw[q,hoc] at e;have q':oc=p.2:=U9 e;exact d w' (by rw[<- q'];exact hocd)
theorem vQ{M:Model}{A:UW}{E:Value->T7->Prop}{i:Nat}{x:Str}{v:V}{u:Value}{Q:Unit->T7->Prop}(I:Inv X pins σ H s)(hN:X.N.Nodup)(hi:X.N[i]?=some x)(hx:Loc X.env.scope x)(r:RelV v u)
  (h: ∀ s',Inv X pins (σ.set i (some v)) H s'->Q () s') (hf:X.fn x=true\/X.env.scope.names.lookup x=some .local:=by first | exact .inl rfl | exact .inr rfl | assumption):wpAny M A (storeName X.env x u) Q E s :=
 rN I hN hi hx r (λs' I' _=>h s' I') hf
theorem Inv.ON{s':T7}{ch:List Addr}(I:Inv X pins σ H s)(ho:s'.os=s.os)(u:Un (Bk X.stack) ch H H' s.heap s'.heap)(bq:jK X.prog X.w H' s'.heap)(hg:YD s'.gens)
  (hch: ∀ b∈ch,(b∈X.ex\/X.s₀.heap.objs.size<=b)/\b≠X.env.locals/\(∀ x c,X.env.cells.lookup x=some c->c≠b)/\ ∀ p∈X.pn++pins,p.1≠b):Inv X pins σ H' s':=by
 obtain⟨h',g',d',t',o'⟩:=s';have e:o'=s.os:=ho;subst e;exact I.call (g':=g') (t':=t') (d':=d') u bq hg hch
end
abbrev XK:=Value->Option Addr->Hp->Prop
abbrev St:=List (Option V)
abbrev VK:=V->Hp->Prop
abbrev TE:=St->Hp->VK->Prop
abbrev TT:=St->Hp->(Bool->Hp->Prop)->Prop
abbrev TA:=St->Hp->(List V->Hp->Prop)->Prop
structure Ends where
 nx:St->Hp->Prop
 rt:VK
 bk:St->Hp->Prop:=λ_ _=>False
 ct:St->Hp->Prop:=λ_ _=>False
abbrev TS:=Ends->St->Hp->Prop
noncomputable def EP(X:Cx)(pins:List (Addr × Obj))(σ :St)(Q:VK)(u:Value)(s':T7):Prop:= ∃ v H',Inv X pins σ H' s'/\RelV v u/\Q v H'
noncomputable def TP(X:Cx)(pins:List (Addr × Obj))(σ :St)(Q:Bool->Hp->Prop)(b:Bool)(s':T7):Prop:= ∃ H',Inv X pins σ H' s'/\Q b H'
noncomputable def AP(X:Cx)(pins:List (Addr × Obj))(σ :St)(Q:List V->Hp->Prop)(us:List Value)(s':T7):Prop:= ∃ vs H',Inv X pins σ H' s'/\Vals vs us/\Q vs H'
noncomputable def SP(X:Cx)(pins:List (Addr × Obj))(D:Ends)(f:Flow)(s':T7):Prop :=
 match f with
 | .next=> ∃ σ' H',Inv X pins σ' H' s'/\D.nx σ' H'
 | .brk=> ∃ σ' H',Inv X pins σ' H' s'/\D.bk σ' H'
 | .cont=> ∃ σ' H',Inv X pins σ' H' s'/\D.ct σ' H'
 | .ret u=> ∃ v σ' H',Inv X pins σ' H' s'/\RelV v u/\D.rt v H'
noncomputable def PE(X:Cx)(e:Expr)(t:TE):Prop :=
 ∀(pins:List (Addr × Obj))(s:T7)(σ :St)(H:Hp)(Q:VK),Inv X pins σ H s->t σ H Q->wpAny (model X.prog X.w) X.A (eval e X.env) (EP X pins σ Q) X.xe s
noncomputable def PT(X:Cx)(e:Expr)(t:TT):Prop :=
 ∀(pins:List (Addr × Obj))(s:T7)(σ :St)(H:Hp)(Q:Bool->Hp->Prop),Inv X pins σ H s->t σ H Q->wpAny (model X.prog X.w) X.A (aaV e X.env (eval e X.env)) (TP X pins σ Q) X.xe s
noncomputable def PW(X:Cx)(e:Expr)(t:TT):Prop :=
 ∀(whole:Sem Value)(pins:List (Addr × Obj))(s:T7)(σ :St)(H:Hp)(Q:Bool->Hp->Prop),Inv X pins σ H s->t σ H Q->wpAny (model X.prog X.w) X.A (aaV e X.env whole) (TP X pins σ Q) X.xe s
theorem PW.pt{X:Cx}{e:Expr}{t:TT}(h:PW X e t):PT X e t:=h _
noncomputable def PA(X:Cx)(es:List Expr)(t:TA):Prop :=
 ∀(pos:Pos)(pins:List (Addr × Obj))(s:T7)(σ :St)(H:Hp)(Q:List V->Hp->Prop),Inv X pins σ H s->t σ H Q->wpAny (model X.prog X.w) X.A (spliced (Xx pos (UY es X.env))) (AP X pins σ Q) X.xe s
noncomputable def PS(X:Cx)(st:Stmt)(t:TS):Prop :=
 ∀(pins:List (Addr × Obj))(s:T7)(σ :St)(H:Hp)(D:Ends),Inv X pins σ H s->t D σ H->wpAny (model X.prog X.w) X.A (exec st X.env) (SP X pins D) X.xe s
noncomputable def x6(X:Cx)(st:List Stmt)(t:TS):Prop :=
 ∀(pins:List (Addr × Obj))(s:T7)(σ :St)(H:Hp)(D:Ends),Inv X pins σ H s->t D σ H->wpAny (model X.prog X.w) X.A (execs st X.env) (SP X pins D) X.xe s
theorem cC{α :Type}{t:Sem α}{Q Q': α ->T7->Prop}{M:Model}{A:UW}{E:Value->T7->Prop}{s:T7}(h:wpAny M A t Q E s)(hQ: ∀ a s,Q a s->Q' a s):wpAny M A t Q' E s:=UZ h hQ λ_ _ x=>x
section
variable{X:Cx}
theorem bin{a b:Expr}{ta tb:TE}(ha:PE X a ta)(hb:PE X b tb){pins:List (Addr × Obj)}{s:T7}{σ :St}{H:Hp}{R:V->V->Hp->Prop}(I:Inv X pins σ H s)(h:ta σ H λx H1=>tb σ H1 λy H2=>R x y H2)
  {α :Type} {Q: α ->T7->Prop} {f:Value->Value->Sem α}
  (hf: ∀ v u s2 x y H2,Inv X pins σ H2 s2->RelV x v->RelV y u->R x y H2->wpAny (model X.prog X.w) X.A (f v u) Q X.xe s2) :
  wpAny (model X.prog X.w) X.A (eval a X.env) (λv s₁ =>wpAny (model X.prog X.w) X.A (eval b X.env) (λu s₂ =>wpAny (model X.prog X.w) X.A (f v u) Q X.xe s₂) X.xe s₁) X.xe s:=by
 refine cC (ha pins s σ H _ I h) λv s1 ⟨x,H1,I1,r1,q1⟩=>?_;refine cC (hb pins s1 σ H1 _ I1 q1) λu s2 ⟨y,H2,I2,r2,q2⟩=>?_;exact hf v u s2 x y H2 I2 r1 r2 q2
noncomputable def Qj (i:Nat):TE:=fun σ H Q=> ∃ v, σ[i]?=some (some v)∧Q v H
noncomputable def tC (v:V):TE:=λ_ H Q=>Q v H
theorem NT {i:Nat} {x:Str} {pos:Pos} (hN:X.N[i]?=some x) (hv:NW X.env.scope x) (hd:(x == ("__debug__" :Str))=false:=by decide) (hcd:(x == ("__classdict__" :Str))=false:=by decide):PE X (.Name x pos) (Qj i):=by
 intro pins s σ H Q I h;obtain⟨v,e,h⟩:=h;obtain⟨m,hn,hl⟩:=I.loc;obtain⟨u,r,l⟩:=hl i x v hN e hv;have fin:EP X pins σ Q u s:=⟨v,H,I,r,h⟩
 rcases l with⟨hk,hm⟩ | ⟨hk,c,hc,hcell⟩
 . exact wpAny_Name (wpAny_loadName_local I.ok.kind hk hn hm fin) hd
 . rcases hk with hk | hk
   . exact wpAny_Name (wpAny_loadName_cell I.ok.kind hk hc hcell fin) hd
   . exact wpAny_Name (wpAny_loadName_free I.ok.kind hk hc hcell fin hcd) hd
theorem LD{i j pos}:PE X (.Constant (.int i) j pos) (tC (.int i)):=λ_ _ _ H _ I h=>wpAny_Constant_int ⟨.int i,H,I.tok _,⟨_,rfl⟩,h⟩
theorem O2{b j pos}:PE X (.Constant (.bool b) j pos) (tC (.bl b)):=λ_ _ _ H _ I h=>Constant_bool ⟨.bl b,H,I,rfl,h⟩
theorem LX{j pos}:PE X (.Constant .none j pos) (tC .non):=λ_ _ _ H _ I h=>aak ⟨.non,H,I,rfl,h⟩
theorem MJ{x j pos}:PE X (.Constant (.str x) j pos) (tC (.str x)):=λ_ _ _ H _ I h=>Calls.Constant_str ⟨.str x,H,I.tok _,⟨_,rfl⟩,h⟩
noncomputable def Gl(X:Cx)(x:Str):Prop:=X.env.kindOf x=some .globalImplicit
theorem yG{E:Value->T7->Prop}{pins:List (Addr × Obj)}{s:T7}{σ :St}{H:Hp}{x:Str}{u:Value}{pos:Pos}{Q:Value->T7->Prop}(I:Inv X pins σ H s)(hg:Gl X x)(hm:X.mg x=some u)(h:Q u s)
  (hd:(x == ("__debug__" :Str))=false:=by decide):wpAny (model X.prog X.w) X.A (eval (.Name x pos) X.env) Q E s :=
 Yn I.ok.kind hg (Calls.loadGlobal_global (by rw[I.ok.glob];exact I.mod.glob.keeps I.bk) hm h) hd
theorem iR{E:Value->T7->Prop}{pins:List (Addr × Obj)}{s:T7}{σ :St}{H:Hp}{x:Str}{u:Value}{pos:Pos}{Q:Value->T7->Prop}(I:Inv X pins σ H s)(hg:Gl X x)(hm:X.mg x=none)(hv:Vu x=some u)(h:Q u s)
  (hn:x≠ "__name__" :=by decide) (hd:(x == ("__debug__" :Str))=false:=by decide):wpAny (model X.prog X.w) X.A (eval (.Name x pos) X.env) Q E s:=by
 obtain⟨mb,h1,h2⟩:=I.mod.blt;exact Yn I.ok.kind hg (Calls.loadGlobal_builtin (by rw[I.ok.glob];exact I.mod.glob.keeps I.bk) hm (by rw[I.ok.blt];exact h1.keeps I.bk) ((h2 x hn).trans hv) h) hd
theorem yV{x:Str}{v:V}{u:Value}{pos:Pos}(hg:Gl X x)(hm:X.mg x=some u)(r:RelV v u)(hd:(x == ("__debug__" :Str))=false:=by decide):PE X (.Name x pos) (tC v) :=
 λ_ _ _ H _ I h=>yG I hg hm ⟨v,H,I,r,h⟩ hd
theorem FX{x:Str}{v:V}{u:Value}{pos:Pos}(hg:Gl X x)(hm:X.mg x=none)(hv:Vu x=some u)(r:RelV v u)(hn:x≠ "__name__" :=by decide)(hd:(x == ("__debug__" :Str))=false:=by decide):PE X (.Name x pos) (tC v) :=
 λ_ _ _ H _ I h=>iR I hg hm hv ⟨v,H,I,r,h⟩ hn hd
variable{a b:Expr}{ta tb:TE}{pos:Pos}
noncomputable def PC(X:Cx)(op:CmpOp)(a b:Expr)(t:TE):Prop :=
 ∀(pins:List (Addr × Obj))(s:T7)(σ :St)(H:Hp)(Q:VK),Inv X pins σ H s->t σ H Q ->
  wpAny (model X.prog X.w) X.A (eval a X.env) (λv s₁ =>wpAny (model X.prog X.w) X.A (eval b X.env) (λu s₂ =>wpAny (model X.prog X.w) X.A (UK op v u) (EP X pins σ Q) X.xe s₂) X.xe s₁) X.xe s
theorem ue(b:Expr){op:CmpOp}(h:op≠ .In)(h2:op≠ .NotIn):VC op b=false:=by
 have e1:(op == CmpOp.In)=false:=by cases op<;>first | rfl | exact absurd rfl h
 have e2:(op == CmpOp.NotIn)=false:=by cases op<;>first | rfl | exact absurd rfl h2
 cases b<;>simp[VC,e1,e2]
noncomputable def J9(ta:TE):TE:=fun σ H Q=>ta σ H λx H1=>Q (.bl (decide (x= .non))) H1
noncomputable def IV(ta:TE):TE:=fun σ H Q=>ta σ H λx H1=>Q (.bl (!decide (x= .non))) H1
theorem RelV.uT{x:V}{v:Value}(r:RelV x v):(v == Wc)=decide (x= .non):=by
 cases x with
 | non=>cases r;rfl
 | bl _=>cases r;rfl
 | int _=>obtain⟨t,rfl⟩:=r;rfl
 | str _=>obtain⟨t,rfl⟩:=r;rfl
 | byt _=>obtain⟨t,rfl⟩:=r;rfl
 | flt _=>obtain⟨t,rfl⟩:=r;rfl
 | ref _=>cases r;rfl
 | ty _=>cases r;rfl
theorem CA{j pos'}(ha:PE X a ta):PC X .Is a (.Constant .none j pos') (J9 ta):=by
 intro pins s σ H Q I h;refine cC (ha pins s σ H _ I h) λv s1 ⟨x,H1,I1,r1,q1⟩=>?_;exact aak (is_none_gen ⟨.bl _,H1,I1,by rw[r1.uT];rfl,q1⟩)
theorem FJ{j pos'}(ha:PE X a ta):PC X .IsNot a (.Constant .none j pos') (IV ta):=by
 intro pins s σ H Q I h;refine cC (ha pins s σ H _ I h) λv s1 ⟨x,H1,I1,r1,q1⟩=>?_;exact aak (isnot_none_gen ⟨.bl _,H1,I1,by rw[r1.uT];rfl,q1⟩)
noncomputable def tB(t:TE):TT:=fun σ H Q=>t σ H λx H1=> ∃ c,x= .bl c/\Q c H1
theorem JN{op:CmpOp}{t:TE}(h:PC X op a b t)(h1:VC op b=false:=by first | exact ue _ (by decide) (by decide) | rfl):PE X (.Compare a [op] [b] pos) t:=λpins s σ H Q I hw=>wpAny_Compare1 (h pins s σ H Q I hw) h1
theorem D6{op:CmpOp}{t:TE}(h:PC X op a b t)(h1:VC op b=false:=by first | exact ue _ (by decide) (by decide) | rfl):PT X (.Compare a [op] [b] pos) (tB t):=by
 intro pins s σ H Q I hw;refine ZI (cC (h pins s σ H _ I hw) λv s1 h1=>cC h1 λu s2 h2=>cC h2 λc s3 ⟨x,H1,I1,r1,q1⟩=>?_) h1;obtain⟨d,rfl,q⟩:=q1;cases r1;exact VM ⟨H1,I1,q⟩
theorem Mi{e:Expr}{t:TE}(h:PE X e t)(he: ∀ whole,aaV e X.env whole=(do let v <- whole;abl e.pos;Ye [v] (truthy v)):=by intro _;rfl):PT X e (tB t):=by
 intro pins s σ H Q I hw;refine isTrue_plain (cC (h pins s σ H _ I hw) λv s1 ⟨x,H1,I1,r1,q1⟩=>?_) (he _);obtain⟨d,rfl,q⟩:=q1;cases r1;exact VM ⟨H1,I1,q⟩
variable{tA tB':TT}{rest:List Expr}
noncomputable def OT(t u:TT):TT:=fun σ H Q=>t σ H λc H1=>if c=true then u σ H1 Q else Q false H1
noncomputable def SJ(t u:TT):TT:=fun σ H Q=>t σ H λc H1=>if c=true then Q true H1 else u σ H1 Q
noncomputable def Oc(t:TT):TT:=fun σ H Q=>t σ H λc H1=>Q (!c) H1
theorem pw_and1(ha:PT X a tA):PW X (.BoolOp .And [a] pos) tA:=by
 intro wh pins s σ H Q I h;refine isTrue_and (cC (ha pins s σ H Q I h) λc s1 e=>?_);cases c with
 | true=>exact isTrue_and_nil e
 | false=>exact e
theorem pw_or1(ha:PT X a tA):PW X (.BoolOp .Or [a] pos) tA:=by
 intro wh pins s σ H Q I h;refine isTrue_or (cC (ha pins s σ H Q I h) λc s1 e=>?_);cases c with
 | false=>exact isTrue_or_nil e
 | true=>exact e
theorem pw_and(ha:PT X a tA)(hb:PW X (.BoolOp .And (b::rest) pos) tB'):PW X (.BoolOp .And (a::b::rest) pos) (OT tA tB'):=by
 intro wh pins s σ H Q I h;refine isTrue_and (cC (ha pins s σ H _ I h) λc s1 ⟨H1,I1,q1⟩=>?_);cases c with
 | true=>exact hb wh pins s1 σ H1 Q I1 q1
 | false=>exact⟨H1,I1,q1⟩
theorem pw_or(ha:PT X a tA)(hb:PW X (.BoolOp .Or (b::rest) pos) tB'):PW X (.BoolOp .Or (a::b::rest) pos) (SJ tA tB'):=by
 intro wh pins s σ H Q I h;refine isTrue_or (cC (ha pins s σ H _ I h) λc s1 ⟨H1,I1,q1⟩=>?_);cases c with
 | true=>exact⟨H1,I1,q1⟩
 | false=>exact hb wh pins s1 σ H1 Q I1 q1
theorem LL(ha:PT X a tA):PT X (.UnaryOp .Not a pos) (Oc tA):=by
 intro pins s σ H Q I h;exact isTrue_not (ha pins s σ H (λc H1=>Q (!c) H1) I h)
noncomputable def Iz(ta tb:TE):TE:=fun σ H Q=>ta σ H λx H1=> ∃ c,x= .bl c/\if c=true then tb σ H1 Q else Q (.bl false) H1
noncomputable def Q4(ta tb:TE):TE:=fun σ H Q=>ta σ H λx H1=> ∃ c,x= .bl c/\if c=true then Q (.bl true) H1 else tb σ H1 Q
noncomputable def Jl(ta:TE):TE:=fun σ H Q=>ta σ H λx H1=> ∃ c,x= .bl c/\Q (.bl (!c)) H1
theorem JB{op}{t:TE}(h:PE X a t):PE X (.BoolOp op [a] pos) t:=λpins s σ H Q I hw=>BoolOp_one (h pins s σ H Q I hw)
theorem KH(ha:PE X a ta)(hb:PE X (.BoolOp .And (b::rest) pos) tb):PE X (.BoolOp .And (a::b::rest) pos) (Iz ta tb):=by
 intro pins s σ H Q I h;refine BoolOp_and (cC (ha pins s σ H _ I h) λv s1 ⟨x,H1,I1,r1,q1⟩=>?_);obtain⟨c,rfl,q1⟩:=q1;cases r1;refine VM ?_;cases c with
 | true=>exact hb pins s1 σ H1 Q I1 q1
 | false=>exact⟨.bl false,H1,I1,rfl,q1⟩
theorem Pp(ha:PE X a ta)(hb:PE X (.BoolOp .Or (b::rest) pos) tb):PE X (.BoolOp .Or (a::b::rest) pos) (Q4 ta tb):=by
 intro pins s σ H Q I h;refine BoolOp_or (cC (ha pins s σ H _ I h) λv s1 ⟨x,H1,I1,r1,q1⟩=>?_);obtain⟨c,rfl,q1⟩:=q1;cases r1;refine VM ?_;cases c with
 | false=>exact hb pins s1 σ H1 Q I1 q1
 | true=>exact⟨.bl true,H1,I1,rfl,q1⟩
theorem Ju(ha:PE X a ta):PE X (.UnaryOp .Not a pos) (Jl ta):=by
 intro pins s σ H Q I h;refine UnaryOp_ (cC (ha pins s σ H _ I h) λv s1 ⟨x,H1,I1,r1,q1⟩=>?_);obtain⟨c,rfl,q1⟩:=q1;cases r1;exact not_of (VM ⟨.bl (!c),H1,I1,rfl,q1⟩)
noncomputable def S8(t:TT)(ta tb:TE):TE:=fun σ H Q=>t σ H λc H1=>if c=true then ta σ H1 Q else tb σ H1 Q
theorem Eb{c:Expr}(hc:PT X c tA)(ha:PE X a ta)(hb:PE X b tb):PE X (.IfExp c a b pos) (S8 tA ta tb):=by
 intro pins s σ H Q I h;refine wpAny_IfExp (cC (hc pins s σ H _ I h) λd s1 ⟨H1,I1,q1⟩=>?_);cases d with
 | true=>exact ha pins s1 σ H1 Q I1 q1
 | false=>exact hb pins s1 σ H1 Q I1 q1
end
noncomputable def iF(K:TV)(H:Hp)(a:Addr)(xs:List V):Prop :=
 Rd H a (.lst xs) \/
  ∃(o:Obj)(ai:Array Value)(n:Nat),K.lookup a=some o/\o.cls= .type "list" /\o.dict=none/\o.data= .seq ai n/\ai.size<=sizeLine/\Vals xs ai.toList
noncomputable def fc(K:TV)(H:Hp)(a:Addr)(xs:List V):Prop :=
 Rd H a (.tup xs) \/
  ∃(o:Obj)(ai:Array Value)(n:Nat),K.lookup a=some o/\o.cls= .type "tuple" /\o.data= .seq ai n/\ai.size<=sizeLine/\Vals xs ai.toList
noncomputable def RS:Value->Option V
 | .none=>some .non
 | .bool b=>some (.bl b)
 | .int i _=>some (.int i)
 | .str x _=>some (.str x)
 | .bytes b _=>some (.byt b)
 | .float b _=>some (.flt b)
 | .ref a=>some (.ref a)
 | .type n=>some (.ty n)
 | _=>none
theorem RelV.abs{x:V}{u:Value}(r:RelV x u):RS u=some x:=by
 cases x with
 | non=>cases r;rfl
 | bl _=>cases r;rfl
 | int _=>obtain⟨t,rfl⟩:=r;rfl
 | str _=>obtain⟨t,rfl⟩:=r;rfl
 | byt _=>obtain⟨t,rfl⟩:=r;rfl
 | flt _=>obtain⟨t,rfl⟩:=r;rfl
 | ref _=>cases r;rfl
 | ty _=>cases r;rfl
theorem RelV.inj{x y:V}{u:Value}(r:RelV x u)(q:RelV y u):x=y:=U9 (r.abs.symm.trans q.abs)
theorem Vals.inj: ∀{xs ys:List V}{us:List Value},Vals xs us->Vals ys us->xs=ys
 | _,_,_,.nil,.nil=>rfl
 | _,_,_,.cons r t,.cons r' t'=>by rw[r.inj r',Vals.inj t t']
section
variable{X:Cx}{pins:List (Addr × Obj)}{σ :St}{H:Hp}{s:T7}{a:Addr}{xs ys:List V}
theorem iF.of{K:TV}(h:H a=some (.lst xs)):iF K H a xs:= .inl (.inl h)
theorem fc.of{K:TV}(h:H a=some (.tup xs)):fc K H a xs:= .inl (.inl h)
theorem Inv.list(I:Inv X pins σ H s)(h:iF X.K H a xs): ∃ ai:List Value,Vals xs ai/\PlainL s.heap a ai.toArray/\xs.length<=sizeLine:=by
 rcases h with h | ⟨o,ai,n,hk,hc,hd,hs,hz,r⟩
 . obtain⟨z,ai,n,r,e⟩:=h.ok I.bq;exact⟨ai,r,⟨_,n,e,rfl,rfl,rfl⟩,z⟩
 . refine⟨ai.toList,r,⟨o,n,I.lH a o hk,hc,hd,by simpa using hs⟩,?_⟩;have e:=r.length;simp only[VR] at e;omega
theorem Inv.tuple(I:Inv X pins σ H s)(h:fc X.K H a xs): ∃ ai:List Value,Vals xs ai/\IsTup s.heap a ai.toArray/\xs.length<=sizeLine:=by
 rcases h with h | ⟨o,ai,n,hk,hc,hs,hz,r⟩
 . obtain⟨z,ai,r,p⟩:=h.ok I.bq;exact⟨ai,r,p.tup,z⟩
 . refine⟨ai.toList,r,⟨o,I.lH a o hk,hc,n,by simpa using hs⟩,?_⟩;have e:=r.length;simp only[VR] at e;omega
theorem Inv.By(I:Inv X pins σ H s)(h:iF X.K H a xs)(h':iF X.K H a ys):xs=ys:=by
 obtain⟨ai,r,⟨o,n,e,_,_,d⟩,_⟩:=I.list h;obtain⟨its',r',⟨o',n',e',_,_,d'⟩,_⟩:=I.list h';rw[e] at e';cases e';rw[d] at d';injection d' with d1 _;have:ai=its':=by simpa using congrArg abx d1
 subst this;exact r.inj r'
theorem Inv.js(I:Inv X pins σ H s)(h:fc X.K H a xs)(h':fc X.K H a ys):xs=ys:=by
 obtain⟨ai,r,⟨o,e,_,n,d⟩,_⟩:=I.tuple h;obtain⟨its',r',⟨o',e',_,n',d'⟩,_⟩:=I.tuple h';rw[e] at e';cases e';rw[d] at d';injection d' with d1 _;have:ai=its':=by simpa using congrArg abx d1
 subst this;exact r.inj r'
end
abbrev Cx.nE(X:Cx)(E:Value->T7->Prop):Cx:={ X with xe:=E }
abbrev Cx.qa(X:Cx):Cx:=X.nE λ_ _=>False
theorem Cx.Ok.nE{X:Cx}(ok:X.Ok)(E:Value->T7->Prop):(X.nE E).Ok :=
 ⟨ok.mod,ok.kind,ok.glob,ok.blt,ok.above,ok.inj,ok.has,ok.NV,ok.hd,ok.frames,ok.Qu,ok.RJ,ok.bs,ok.ED,ok.Ao,ok.Ct,ok.mH,ok.Jb⟩
theorem Cx.Ok.gG{X:Cx}{E:Value->T7->Prop}(ok:(X.nE E).Ok):X.Ok :=
 ⟨ok.mod,ok.kind,ok.glob,ok.blt,ok.above,ok.inj,ok.has,ok.NV,ok.hd,ok.frames,ok.Qu,ok.RJ,ok.bs,ok.ED,ok.Ao,ok.Ct,ok.mH,ok.Jb⟩
section
variable{X:Cx}{pins:List (Addr × Obj)}{σ :St}{H:Hp}{s:T7}{E:Value->T7->Prop}
theorem Inv.nE(I:Inv X pins σ H s)(E:Value->T7->Prop):Inv (X.nE E) pins σ H s:=⟨I.ok.nE E,I.os,I.bare,I.base,I.loc,I.cell,I.free,I.jm,I.pin,I.bq,I.len⟩
theorem Inv.gG(I:Inv (X.nE E) pins σ H s):Inv X pins σ H s:=⟨I.ok.gG,I.os,I.bare,I.base,I.loc,I.cell,I.free,I.jm,I.pin,I.bq,I.len⟩
theorem SP.gG{D:Ends}{f:Flow}{s':T7}(h:SP (X.nE E) pins D f s'):SP X pins D f s':=by
 cases f with
 | next=>obtain ⟨σ',H',I,q⟩:=h;exact ⟨σ',H',I.gG,q⟩
 | brk=>obtain ⟨σ',H',I,q⟩:=h;exact ⟨σ',H',I.gG,q⟩
 | cont=>obtain ⟨σ',H',I,q⟩:=h;exact ⟨σ',H',I.gG,q⟩
 | ret u=>obtain ⟨v, σ',H',I,r,q⟩:=h;exact ⟨v, σ',H',I.gG,r,q⟩
theorem PE.qa {e:Expr} {t:TE} (h:PE X.qa e t):PE X e t:=λpins s σ H Q I hw =>
 UZ (h pins s σ H Q (I.nE _) hw) (λ_ _ ⟨v,H',I',r,q⟩=>⟨v,H',I'.gG,r,q⟩) λ_ _ z=>VN z
theorem PT.qa {e:Expr} {t:TT} (h:PT X.qa e t):PT X e t:=λpins s σ H Q I hw =>
 UZ (h pins s σ H Q (I.nE _) hw) (λ_ _ ⟨H',I',q⟩=>⟨H',I'.gG,q⟩) λ_ _ z=>VN z
theorem x6.qa{st:List Stmt}{t:TS}(h:x6 X.qa st t):x6 X st t:=λpins s σ H D I hw =>
 UZ (h pins s σ H D (I.nE _) hw) (λ_ _ q=>q.gG) λ_ _ z=>VN z
end
section
variable{X:Cx}{st:Stmt}{rest:List Stmt}{t u:TS}{e:Expr}{te:TE}{pos:Pos}
noncomputable def Ep:TS:=λD σ H=>D.nx σ H
noncomputable def JM(t u:TS):TS:=λD σ H=>t { D with nx:=u D } σ H
theorem HH:x6 X [] Ep:=λ_ _ σ H _ I h=>X6 ⟨σ,H,I,h⟩
theorem Ca(h1:PS X st t)(h2:x6 X rest u):x6 X (st::rest) (JM t u):=by
 intro pins s σ H D I h;refine wpAny_execs_cons (cC (h1 pins s σ H { D with nx:=u D } I h) λf s1 q=>?_);cases f with
 | next =>
  obtain⟨σ',H',I',q⟩:=q
  exact h2 pins s1 σ' H' D I' q
 | ret v=>exact q
 | brk=>exact q
 | cont=>exact q
theorem G9(h1:PS X st t):x6 X [st] t:=by
 intro pins s σ H D I h;refine wpAny_execs_cons (cC (h1 pins s σ H D I h) λf s1 q=>?_);cases f with
 | next=>exact X6 q
 | ret v=>exact q
 | brk=>exact q
 | cont=>exact q
theorem Inv.quiet{pins:List (Addr × Obj)}{σ :St}{H:Hp}{s:T7}(I:Inv X pins σ H s):interactive X.env=false:=by simp[interactive,I.ok.kind]
noncomputable def IE(te:TE):TS:=λD σ H=>te σ H λ_ H1=>D.nx σ H1
theorem Gi(he:PE X e te)(hs:WW e none pos.line X.env=pure false:=by rfl):PS X (.Expr e pos) (IE te):=by
 intro pins s σ H D I h;exact wpAny_Expr_any (cC (he pins s σ H _ I h) λv s1 ⟨x,H1,I1,r1,q1⟩=>⟨σ,H1,I1,q1⟩) I.quiet hs
noncomputable def Qw (te:TE):TS:=λD σ H=>te σ H D.rt
theorem Lp (he:PE X e te):PS X (.Return (some e) pos) (Qw te):=by
 intro pins s σ H D I h;exact wpAny_Return_some (cC (he pins s σ H _ I h) λv s1 ⟨x,H1,I1,r1,q1⟩=>⟨x, σ,H1,I1,r1,q1⟩)
noncomputable def Oi (c:TT) (t u:TS):TS:=λD σ H=>c σ H λb H1=>if b=true then t D σ H1 else u D σ H1
theorem Qv {c:Expr} {a b:List Stmt} {tc:TT} (hc:PT X c tc) (ha:x6 X a t) (hb:x6 X b u):PS X (.If c a b pos) (Oi tc t u):=by
 intro pins s σ H D I h;refine wpAny_If (cC (hc pins s σ H _ I h) λd s1 ⟨H1,I1,q1⟩=>?_);cases d with
 | true=>exact ha pins s1 σ H1 D I1 q1
 | false=>exact hb pins s1 σ H1 D I1 q1
noncomputable def Kl:TS:=λ_ _ _=>False
theorem B6:PS X st Kl:=λ_ _ _ _ _ _ h=>h.elim
end
abbrev TG:=V->St->Hp->(St->Hp->Prop)->Prop
abbrev t8:=List V->St->Hp->(St->Hp->Prop)->Prop
noncomputable def PG(X:Cx)(target:Expr)(t:TG):Prop :=
 ∀(pins:List (Addr × Obj))(s:T7)(σ :St)(H:Hp)(v:V)(u:Value)(Q:St->Hp->Prop),Inv X pins σ H s->RelV v u->t v σ H Q ->
  wpAny (model X.prog X.w) X.A (Xy target X.env u) (λ_ s'=> ∃ σ' H',Inv X pins σ' H' s'/\Q σ' H') X.xe s
noncomputable def Ob(X:Cx)(ts:List Expr)(t:t8):Prop :=
 ∀(pins:List (Addr × Obj))(s:T7)(σ :St)(H:Hp)(vs:List V)(us:List Value)(Q:St->Hp->Prop),Inv X pins σ H s->Vals vs us->t vs σ H Q ->
  wpAny (model X.prog X.w) X.A (assignInOrder ((Vn ts X.env).map (·.2)) us) (λ_ s'=> ∃ σ' H',Inv X pins σ' H' s'/\Q σ' H') X.xe s
abbrev Dk:=V->V->V->Hp->(Hp->Prop)->Prop
noncomputable def qI(X:Cx)(t:Dk):Prop :=
 ∀(pins:List (Addr × Obj))(s:T7)(σ :St)(H:Hp)(o i v:V)(ov iv u:Value)(Q:Hp->Prop),Inv X pins σ H s->RelV o ov->RelV i iv->RelV v u->t o i v H Q ->
  wpAny (model X.prog X.w) X.A (setItem ov iv u) (λ_ s'=> ∃ H',Inv X pins σ H' s'/\Q H') X.xe s
section
variable{X:Cx}{pos:Pos}
noncomputable def fQ(i:Nat):TG:=λv σ H Q=>Q (σ.set i (some v)) H
theorem HJ{i:Nat}{x:Str}(hN:X.N.Nodup)(hi:X.N[i]?=some x)(hx:Loc X.env.scope x)(hf:X.fn x=true\/X.env.scope.names.lookup x=some .local:=by first | exact .inl rfl | exact .inr rfl | assumption):PG X (.Name x pos) (fQ i):=by
 intro pins s σ H v u Q I r h;exact wpAny_assign_Name (vQ I hN hi hx r (λs' I'=>⟨_,H,I',h⟩) hf)
noncomputable def AZ:t8:=λvs σ H Q=>vs=[]/\Q σ H
noncomputable def m7(t:TG)(u:t8):t8:=λvs σ H Q=> ∃ v r,vs=v::r/\t v σ H fun σ' H'=>u r σ' H' Q
theorem GV:Ob X [] AZ:=by
 intro pins s σ H vs us Q I r h;obtain⟨e,h⟩:=h;subst e;cases r;exact assignInOrder_nil ⟨σ,H,I,h⟩
theorem Cb{e:Expr}{es:List Expr}{t:TG}{u:t8}(h1:PG X e t)(h2:Ob X es u)
  (hs:(Vn (e::es) X.env).map (·.2)=Xy e X.env::(Vn es X.env).map (·.2):=by rfl):Ob X (e::es) (m7 t u):=by
 intro pins s σ H vs us Q I r h;obtain⟨v,vr,e1,h⟩:=h;subst e1;cases r with
 | cons r rr =>
  rw[hs]
  refine assignInOrder_cons (cC (h1 pins s σ H _ _ _ I r h) λ_ s1 ⟨σ1,H1,I1,q1⟩=>?_)
  exact h2 pins s1 σ1 H1 _ _ Q I1 rr q1
noncomputable def v9(K:TV)(n:Nat)(t:t8):TG:=λv σ H Q=> ∃ a xs,v= .ref a/\fc K H a xs/\xs.length=n/\t xs σ H Q
theorem Kt{es:List Expr}{k:Nat}{t:t8}{n:Nat}(hc:X.calm=true)(h:Ob X es t)
  (hn:(Vn es X.env).length=n:=by rfl) (hst:(Vn es X.env).findIdx? (·.1)=none:=by rfl):PG X (.Tuple es k pos) (v9 X.K n t):=by
 intro pins s σ H v u Q I r hw;obtain⟨a,xs,e1,hq,hl,hw⟩:=hw;subst e1;cases r;obtain⟨ai,rv,ht,hz⟩:=I.tuple hq;refine assign_Tuple_tuple (I.ok.hd hc) ht (by simp[hn,<- hl,rv.length]) hst λh' hx=>?_;have I1:Inv X pins σ H { s with heap:=h' }:=I.kept (t':=s.toks) λb o e=>hx b o (Uw (Ug e)) e;exact h pins _ σ H xs _ Q I1 (by simpa using rv) hw
noncomputable def R7(to ti:TE)(t:Dk):TG:=λv σ H Q=>to σ H λo H1=>ti σ H1 λi H2=>t o i v H2 λH3=>Q σ H3
theorem Nw{o i:Expr}{to ti:TE}{t:Dk}(ho:PE X o to)(hi:PE X i ti)(hs:qI X t)
  (ha: ∀ v,Xy (.Subscript o i pos) X.env v=(do
   let ov <- Ye [v] (eval o X.env)
   let iv <- Ye [v,ov] (eval i X.env)
   abl pos
   Ye [v,ov,iv] (setItem ov iv v)
   release [v,ov,iv] []):=by intro _;rfl):PG X (.Subscript o i pos) (R7 to ti t):=by
 intro pins s σ H v u Q I r h;rw[ha];refine TY (VJ (cC (ho pins s σ H _ I h) λov s1 ⟨x,H1,I1,r1,q1⟩=>?_));refine TY (VJ (cC (hi pins s1 σ H1 _ I1 q1) λiv s2 ⟨y,H2,I2,r2,q2⟩=>?_));refine TY (aal (TY (VJ (cC (hs pins s2 σ H2 x y v ov iv u _ I2 r1 r2 r q2) λ_ s3 ⟨H3,I3,q3⟩=>?_))));exact wpAny_release ⟨σ,H3,I3,q3⟩
noncomputable def E9(te:TE)(g:TG):TS:=λD σ H=>te σ H λx H1=>g x σ H1 D.nx
theorem Kr{tg e:Expr}{te:TE}{g:TG}(he:PE X e te)(hg:PG X tg g)(hs:YQ [tg] e pos.line X.env=pure false:=by rfl)(hw:YR [tg] e X.env=pure none:=by rfl)
  (h1:(Vn [tg] X.env).map (·.2)=[Xy tg X.env]:=by rfl):PS X (.Assign [tg] e pos) (E9 te g):=by
 intro pins s σ H D I h;refine wpAny_Assign_stores (cC (he pins s σ H _ I h) λv s1 ⟨x,H1,I1,r1,q1⟩=>?_) hs hw;rw[h1];exact cC (hg pins s1 σ H1 x v _ I1 r1 q1) λ_ s2 q=>q
theorem NO{i:Nat}{x:Str}{e:Expr}{te:TE}{pos':Pos}(hN:X.N.Nodup)(hi:X.N[i]?=some x)(hx:Loc X.env.scope x)(he:PE X e te)(hs:WW e (some (.Name x pos')) pos.line X.env=pure false:=by rfl)(hf:X.fn x=true\/X.env.scope.names.lookup x=some .local:=by first | exact .inl rfl | exact .inr rfl | assumption) :
  PS X (.Assign [.Name x pos'] e pos) (E9 te (fQ i)):=by
 intro pins s σ H D I h;refine wpAny_Assign_Name (cC (he pins s σ H _ I h) λv s1 ⟨y,H1,I1,r1,q1⟩=>?_) hs;exact vQ I1 hN hi hx r1 (λs2 I2=>⟨_,H1,I2,q1⟩) hf
end
section
variable{X:Cx}{pos:Pos}
noncomputable def Cw(c:TT)(tb:TS):TS:=λD σ H=> ∃ W:Nat->St->Hp->Prop,(∃ m,W m σ H)/\ ∀ m σ H,W m σ H ->
 c σ H λb H1=>if b=true then ∃ N:St->Hp->Prop,(∀ σ' H',N σ' H'-> ∃ m',m' < m/\W m' σ' H')/\tb { D with nx:=N,ct:=N,bk:=D.nx } σ H1 else D.nx σ H1
theorem Eg{c:Expr}{body:List Stmt}{tc:TT}{tb:TS}(hp:Y5 (model X.prog X.w) X.A X.env X.xe)(hc:PT X c tc)(hb:x6 X body tb):PS X (.While c body [] pos) (Cw tc tb):=by
 intro pins s σ H D I h;obtain⟨W,⟨m0,w0⟩,turn⟩:=h;refine wpAny_While (codeAny_whileLoop (λn s'=> ∃ σ' H',Inv X pins σ' H' s'/\W n σ' H') ?_ m0 ⟨σ,H,I,w0⟩);rintro n s1 ⟨σ1,H1,I1,w1⟩;refine Wn hp (cC (hc pins s1 σ1 H1 _ I1 (turn n σ1 H1 w1)) λb s2 ⟨H2,I2,q2⟩=>?_);cases b with
 | true =>
  obtain⟨N,hN,q2⟩:=q2
  rw[if_pos rfl]
  refine Wn hp (cC (hb pins s2 σ1 H2 _ I2 q2) λf s3 q3=>?_)
  cases f with
  | next =>
   obtain ⟨σ3,H3,I3,n3⟩:=q3
   obtain ⟨m',hm,w3⟩:=hN σ3 H3 n3
   exact ⟨m',hm, σ3,H3,I3,w3⟩
  | cont =>
   obtain ⟨σ3,H3,I3,n3⟩:=q3
   obtain ⟨m',hm,w3⟩:=hN σ3 H3 n3
   exact ⟨m',hm, σ3,H3,I3,w3⟩
  | brk=>exact q3
  | ret v=>exact q3
 | false =>
  rw[if_neg Uu]
  exact X6 ⟨σ1,H2,I2,q2⟩
end
structure It where
 go:Nat->Hp->Prop
 Jk:Nat->Hp->V->Hp->Prop
 stop:Nat->Hp->Prop
noncomputable def nB(X:Cx)(pins:List (Addr × Obj))(H:Hp)(b:Addr):Prop :=
 H b=none/\b≠X.env.locals/\b ∉ X.fs/\(b∈X.ex\/X.s₀.heap.objs.size<=b)/\(∀ x c,X.env.cells.lookup x=some c->c≠b)/\ ∀ p∈X.pn++pins,p.1≠b
theorem Inv.HM{X:Cx}{pins:List (Addr × Obj)}{σ :St}{H H':Hp}{s:T7}{b:Addr}(I:Inv X pins σ H s)(hb:s.heap.objs.size<=b)(hn:H' b=none):nB X pins H' b:=by
 refine⟨hn,Ws (Up I.lt hb),I.Pz hb,.inr (UM I.sz hb),λx c e z=>?_,λp hp z=>?_⟩
 . obtain⟨v,q⟩:=I.cell x c e;exact absurd (Up q.lt (by rw[z];exact hb)) (Vk _)
 . exact absurd (Up (Ug (I.pin p hp).1) (by rw[z];exact hb)) (Vk _)
structure Turn(P:Uy)(w:World)(K:TV)(tg:Expr)(J:It)(fp:List Addr)(it:Addr)(tn:Nat->Heap->Prop):Prop where
 mem:it∈fp
 obj: ∀ i h,tn i h-> ∀ b∈fp,∃ o,h.get? b=some o/\ ∀ v,o.data≠ .cell v
 keep: ∀ i h h',tn i h->(∀ b∈fp,∀ o,h.get? b=some o->h'.get? b=some o)->tn i h'
 item: ∀(X:Cx),X.prog=P->X.w=w->X.K=K->X.calm=true-> ∀(i:Nat)(pins:List (Addr × Obj))(s:T7)(σ :St)(H:Hp)(E:Value->T7->Prop),Inv X pins σ H s->(∀ b∈fp,nB X pins H b)->tn i s.heap->J.go i H ->
  wpAny (model P w) X.A (aaW (.ref it)) (λr s1=> ∃ u,r=some u /\
   wpAny (model P w) X.A (X7 tg (.ref it) u) (λ_ s2=> ∃ x H',Inv X pins σ H' s2/\RelV x u/\J.Jk i H x H'/\tn (i+1) s2.heap/\ ∀ b∈fp,H' b=none) E s1) E s
 done: ∀(X:Cx),X.prog=P->X.w=w->X.K=K->X.calm=true-> ∀(i:Nat)(pins:List (Addr × Obj))(s:T7)(σ :St)(H:Hp)(E:Value->T7->Prop),Inv X pins σ H s->(∀ b∈fp,nB X pins H b)->tn i s.heap->J.stop i H ->
  wpAny (model P w) X.A (aaW (.ref it)) (λr s1=>r=none/\Inv X pins σ H s1) E s
 self: ∀(A:UW)(i:Nat)(s:T7)(Q:Value->T7->Prop)(E:Value->T7->Prop),tn i s.heap->Q (.ref it) s->wpAny (model P w) A (aaX (.ref it)) Q E s
abbrev TI:=St->Hp->(It->Hp->Prop)->Prop
noncomputable def Oe(X:Cx)(pins:List (Addr × Obj))(σ :St)(tg:Expr)(R:It->Hp->Prop)(itv:Value)(s2:T7):Prop :=
 ∃(it:Addr)(fp:List Addr)(tn:Nat->Heap->Prop)(J:It)(H':Hp),itv= .ref it/\Inv X pins σ H' s2/\Turn X.prog X.w X.K tg J fp it tn/\tn 0 s2.heap/\(∀ b∈fp,nB X pins H' b)/\R J H'
noncomputable def PI(X:Cx)(tg iter:Expr)(wi:TI):Prop :=
 ∀ (pins:List (Addr × Obj)) (s:T7) (σ :St) (H:Hp) (R:It->Hp->Prop),Inv X pins σ H s->wi σ H R ->
  wpAny (model X.prog X.w) X.A (eval iter X.env) (λv s1=>wpAny (model X.prog X.w) X.A (aaX v) (Oe X pins σ tg R) X.xe s1) X.xe s
theorem yd {M : Model} {A : UW} {E : Value -> T7 -> Prop} {s : T7} {tg : Expr} {it : Addr} {u : Value} {o : Obj} {n : String} {vs : Array Value} {Q : Unit -> T7 -> Prop} (ho : s.heap.get? it = some o) (hc : o.cls = .type n) (hd : o.data = .fields vs)
    (hn : ["enumerate", "zip", "dict_itemiterator", "dict_reverseitemiterator", "odict_iterator", "itertools.zip_longest", "itertools.pairwise"].contains n = false) (hQ : Q () s) : wpAny M A (X7 tg (.ref it) u) Q E s := by
  unfold X7;cases tg <;> first
    | exact Ud hQ
    | (cases u <;> first
        | exact Ud hQ
        | (refine TY (Ww ho ?_)
           rw [hc, hd]
           show wpAny M A (if (["enumerate", "zip", "dict_itemiterator", "dict_reverseitemiterator", "odict_iterator", "itertools.zip_longest", "itertools.pairwise"].contains n && vs[0]? == some (aat _)) = true then _ else _) Q E s
           rw [if_neg (by intro h; rw [hn, Xz] at h; cases h)]
           exact Ud hQ))
noncomputable def R8 (K:TV) (a:Addr):It :=
 ⟨λi H=> ∃ xs x,iF K H a xs∧xs[i]?=some x,λi H x H'=>H'=H∧ ∀ xs,iF K H a xs->xs[i]?=some x,λi H=> ∃ xs,iF K H a xs∧xs.length<=i⟩
noncomputable def CC(K:TV)(a:Addr):It :=
 ⟨λi H=> ∃ xs x,fc K H a xs/\xs[i]?=some x,λi H x H'=>H'=H/\ ∀ xs,fc K H a xs->xs[i]?=some x,λi H=> ∃ xs,fc K H a xs/\xs.length<=i⟩
noncomputable def Q7(lo:Int)(n:Nat):It:=⟨λi _=>i < n,λi H x H'=>H'=H/\x= .int (lo+i),λi _=>n<=i⟩
theorem Ax{P:Uy}{w:World}{K:TV}{tg:Expr}(a it:Addr):Turn P w K tg (R8 K a) [it] it (λi h=>h.IsListIter it a i) where
 mem:=by simp
 obj:=λi h st b hb=>by
  have e:b=it:=by simpa using hb
  subst e;obtain⟨o,e,c,d⟩:=st;exact⟨o,e,λv z=>by rw[d] at z;cases z⟩
 keep:=λi h h' st k=>st.at λo e=>k it (by simp) o e
 item:=by
  intro X hP hw hK hc i pins s σ H E I hf st hg;subst hP hw hK;obtain⟨xs,x,hq,hx⟩:=hg;obtain⟨ai,rv,p,hz⟩:=I.list hq;obtain⟨u,hu,ru⟩:=rv.get hx;obtain⟨f0,f1,f2,f3,f4,f5⟩:=hf it (by simp);refine wpAny_pyNext_list_item st p.isList (x:=u) (by simpa using hu) λh' st' sb=>?_;have I1:Inv X pins σ H { s with heap:=h' }:=I.turned (t':=s.toks) (λb o hb e=>(sb.2 b hb).trans e) f0 f1 f3 f4 f5;obtain⟨o,e,c,d⟩:=id st';exact⟨u,rfl,yd (s:={ s with heap:=h' }) e c d (by decide) ⟨x,H,I1,ru,⟨rfl,λys hy=>by rw[I.By hy hq];exact hx⟩,st',λb hb=>(hf b hb).1⟩⟩
 done:=by
  intro X hP hw hK hc i pins s σ H E I hf st hg;subst hP hw hK;obtain⟨xs,hq,hx⟩:=hg;obtain⟨ai,rv,p,hz⟩:=I.list hq;obtain⟨f0,f1,f2,f3,f4,f5⟩:=hf it (by simp);have hl:=rv.length;exact wpAny_pyNext_list_end (I.ok.hd hc) st p.isList (by simp;omega) λh' eb=>⟨rfl,I.turned (t':=s.toks) (λb o hb e=>eb b o hb e) f0 f1 f3 f4 f5⟩
 self:=λ_ _ _ _ _ st h=>wpAny_pyIter_listiter st h
theorem wD{P:Uy}{w:World}{K:TV}{tg:Expr}(a it:Addr):Turn P w K tg (CC K a) [it] it (λi h=>h.IsTupleIter it a i) where
 mem:=by simp
 obj:=λi h st b hb=>by
  have e:b=it:=by simpa using hb
  subst e;obtain⟨o,e,c,d⟩:=st;exact⟨o,e,λv z=>by rw[d] at z;cases z⟩
 keep:=λi h h' st k=>st.at λo e=>k it (by simp) o e
 item:=by
  intro X hP hw hK hc i pins s σ H E I hf st hg;subst hP hw hK;obtain⟨xs,x,hq,hx⟩:=hg;obtain⟨ai,rv,p,hz⟩:=I.tuple hq;obtain⟨u,hu,ru⟩:=rv.get hx;obtain⟨f0,f1,f2,f3,f4,f5⟩:=hf it (by simp);refine wpAny_pyNext_tuple_item st (show s.heap.IsTuple a ai.toArray from p) (x:=u) (by simpa using hu) λh' st' sb=>?_;have I1:Inv X pins σ H { s with heap:=h' }:=I.turned (t':=s.toks) (λb o hb e=>(sb.2 b hb).trans e) f0 f1 f3 f4 f5;obtain⟨o,e,c,d⟩:=id st';exact⟨u,rfl,yd (s:={ s with heap:=h' }) e c d (by decide) ⟨x,H,I1,ru,⟨rfl,λys hy=>by rw[I.js hy hq];exact hx⟩,st',λb hb=>(hf b hb).1⟩⟩
 done:=by
  intro X hP hw hK hc i pins s σ H E I hf st hg;subst hP hw hK;obtain⟨xs,hq,hx⟩:=hg;obtain⟨ai,rv,p,hz⟩:=I.tuple hq;obtain⟨f0,f1,f2,f3,f4,f5⟩:=hf it (by simp);have hl:=rv.length;exact wpAny_pyNext_tuple_end (I.ok.hd hc) st (show s.heap.IsTuple a ai.toArray from p) (by simp;omega) λh' eb=>⟨rfl,I.turned (t':=s.toks) (λb o hb e=>eb b o hb e) f0 f1 f3 f4 f5⟩
 self:=λ_ _ _ _ _ st h=>wpAny_pyIter_tupleiter st h
theorem xf{P:Uy}{w:World}{K:TV}{tg:Expr}(it:Addr)(lo:Int)(n:Nat):Turn P w K tg (Q7 lo n) [it] it (λi h=>IsRangeIter h it (lo+(i:Nat)*1) ((n:Int) - (i:Nat)) 1) where
 mem:=by simp
 obj:=λi h st b hb=>by
  have e:b=it:=by simpa using hb
  subst e;exact⟨_,st,λv z=>by
   have z':Data.fields _=Data.cell v:=z;cases z'⟩
 keep:=λi h h' st k=>k it (by simp) _ st
 item:=by
  intro X hP hw hK hc i pins s σ H E I hf st hg;subst hP hw hK;obtain⟨f0,f1,f2,f3,f4,f5⟩:=hf it (by simp);have W:=Walks.range (prog:=X.prog) (w:=X.w) (I.ok.hd hc) it lo 1 n;refine W.item i s _ _ hg st λv h' tk hv st' kk=>?_;obtain⟨t,rfl⟩:=hv;have I1:Inv X pins σ H { s with heap:=h',toks:=tk }:=I.turned (λb o hb e=>kk b o (by simpa using hb) e) f0 f1 f3 f4 f5;refine⟨_,rfl,yd (s:={ s with heap:=h',toks:=tk }) (n:= "range_iterator") st' rfl rfl (by decide) ⟨.int (lo+i),H,I1,⟨t,?_⟩,⟨rfl,rfl⟩,st',λb hb=>(hf b hb).1⟩⟩;rw[Int.mul_one]
 done:=by
  intro X hP hw hK hc i pins s σ H E I hf st hg;subst hP hw hK;obtain⟨f0,f1,f2,f3,f4,f5⟩:=hf it (by simp);exact wpAny_pyNext_range_end (I.ok.hd hc) st (by have:n<=i:=hg;omega) λh' eb=>⟨rfl,I.turned (t':=s.toks) (λb o hb e=>eb b o hb e) f0 f1 f3 f4 f5⟩
 self:=λ_ _ _ _ _ st h=>wpAny_pyIter_rangeiter st h
section
variable{X:Cx}{tg:Expr}
theorem CJ{pins:List (Addr × Obj)}{σ :St}{H:Hp}{s:T7}{R:It->Hp->Prop}{E:Value->T7->Prop}{lo hi:Int}{t u v:Tok}{tk:Nat}(I:Inv X pins σ H s)(h1: -(2 ^ 62)<=lo)(h2:lo < 2 ^ 62)(h3: -(2 ^ 62)<=hi)(h4:hi < 2 ^ 62)
  (q:R (Q7 lo (hi - lo).toNat) H):wpAny (model X.prog X.w) X.A (aaX (.ref s.heap.objs.size)) (Oe X pins σ tg R) E { s with heap:=s.heap.push { cls:= .type "range",data:= .fields #[.int lo t,.int hi u,.int 1 v] },toks:=tk }:=by
 refine wpAny_pyIter_range (abB ..) (small_one h1 h2 h3 h4) ?_;have I1:Inv X pins σ H { s with heap:=s.heap.push { cls:= .type "range",data:= .fields #[.int lo t,.int hi u,.int 1 v] },toks:=tk }:=I.kept λb o e=>T6 _ e;refine⟨(s.heap.push { cls:= .type "range",data:= .fields #[.int lo t,.int hi u,.int 1 v] }).objs.size,[(s.heap.push { cls:= .type "range",data:= .fields #[.int lo t,.int hi u,.int 1 v] }).objs.size],_,_,H,rfl,
  I1.kept (t':=tk) λb o e=>T6 _ e,xf _ lo (hi - lo).toNat,?_,λb hb=>?_,q⟩
 . have e1:lo+((0:Nat):Int)*1=lo:=by simp
   have e2:(((hi - lo).toNat:Nat):Int) - ((0:Nat):Int)=Y6 lo hi 1:=by rw[rangeSize_one];split<;>omega
   show IsRangeIter _ _ (lo+((0:Nat):Int)*1) ((((hi - lo).toNat:Nat):Int) - ((0:Nat):Int)) 1;rw[e1,e2];exact Um _ rfl
 . have e:b=(s.heap.push { cls:= .type "range",data:= .fields #[.int lo t,.int hi u,.int 1 v] }).objs.size:=by simpa using hb
   subst e;exact I1.HM (Ua _) (I1.bq.fresh (Ua _))
noncomputable def Ox(ta:TA):TI:=fun σ H R=>ta σ H λvs H1=> ∃ j:Int,vs=[.int j]/\ -(2 ^ 62)<=j/\j < 2 ^ 62/\R (Q7 0 j.toNat) H1
theorem Al{a:Expr}{ta:TA}{p pos:Pos}(hg:Gl X "range")(hm:X.mg "range" =none)(ha:PA X [a] ta)(hs:UY [a] X.env=[(false,eval a X.env)]:=by rfl):PI X tg (.Call (.Name "range" p) [a] [] pos) (Ox ta):=by
 intro pins s σ H R I h;refine Call_ (iR I hg hm boot_range (Vo (cC (ha pos pins s σ H _ I h) λus s1 ⟨vs,H1,I1,r1,q1⟩=>?_) hs rfl));obtain⟨j,e,q1,q2,q⟩:=q1;subst e;cases r1 with
 | cons r rr =>
  cases rr
  obtain⟨t,rfl⟩:=r
  exact call_range_1 (CJ I1 (by omega) (by omega) q1 q2 (by simpa using q))
noncomputable def Qa(wi:TI)(g:TG)(tb:TS):TS:=λD σ H=>wi σ H λJ H1=> ∃ W:Nat->Nat->St->Hp->Prop,(∃ m,W 0 m σ H1)/\ ∀ i m σ H,W i m σ H ->
 (J.stop i H/\D.nx σ H)\/(J.go i H/\ ∃ N:St->Hp->Prop,(∀ σ' H',N σ' H'-> ∃ m',m' < m/\W (i+1) m' σ' H')/\ ∀ x H',J.Jk i H x H'->g x σ H' fun σ2 H2=>tb { D with nx:=N,ct:=N,bk:=D.nx } σ2 H2)
noncomputable def sj(fp:List Addr)(h:Heap):List (Addr × Obj):=fp.filterMap λb=>(h.get? b).map λo=>(b,o)
theorem d7{fp:List Addr}{h:Heap}{b:Addr}{o:Obj}(hb:b∈fp)(e:h.get? b=some o):(b,o)∈sj fp h:=aau.mpr ⟨b,hb,by rw[e];rfl⟩
theorem Aq{fp:List Addr}{h:Heap}{p:Addr × Obj}(hp:p∈sj fp h):p.1∈fp/\h.get? p.1=some p.2:=by
 obtain⟨b,hb,e⟩:=aau.mp hp;cases q:h.get? b with
 | none=>rw[q] at e;cases e
 | some o =>
  rw[q] at e
  have e':(b,o)=p:=U9 e
  subst e'
  exact⟨hb,q⟩
theorem Inv.pinned{pins:List (Addr × Obj)}{σ :St}{H:Hp}{s:T7}{fp:List Addr}(I:Inv X pins σ H s)(hf: ∀ b∈fp,nB X pins H b)(ho: ∀ b∈fp,∃ o,s.heap.get? b=some o/\ ∀ v,o.data≠ .cell v):Inv X (pins++sj fp s.heap) σ H s :=
 I.jt λp hp=>(Va.mp hp).elim (λz=>I.pin p (UB _ z)) λz=>by
  obtain⟨hb,e⟩:=Aq z;obtain⟨f0,f1,f2,_⟩:=hf p.1 hb;obtain⟨o,e',d⟩:=ho p.1 hb;rw[e] at e';cases e';exact⟨e,f0,f1,f2,d⟩
theorem Inv.oN{pins pl:List (Addr × Obj)}{σ :St}{H:Hp}{s:T7}(I:Inv X (pins++pl) σ H s):Inv X pins σ H s:=I.jt λp hp=>I.pin p (UB _ (W4 _ hp))
theorem Nz{iter:Expr}{body:List Stmt}{wi:TI}{g:TG}{tb:TS}{pos:Pos}(hp:Y5 (model X.prog X.w) X.A X.env X.xe)(hc:X.calm=true)(hi:PI X tg iter wi)(hg:PG X tg g)(hb:x6 X body tb)
  (hs: ∀ x,U2 iter X.env x=pure x:=by intro _;rfl):PS X (.For tg iter body [] pos) (Qa wi g tb):=by
 intro pins s σ H D I h;refine wpAny_For (cC (hi pins s σ H _ I h) λv s1 h1=>cC h1 λitv s2 h2=>?_) hs;obtain ⟨it,fp,tn,J,H2,e,I2,T,st2,f2,W,⟨m0,w0⟩,turn⟩:=h2;subst e;have stat: ∀ {H':Hp},(∀ b∈fp,H' b=none)-> ∀ b∈fp,nB X pins H' b:=λhn b hb=>⟨hn b hb,(f2 b hb).2⟩
 refine codeAny_forLoop_any (λn s'=> ∃ i σ' H',Inv X pins σ' H' s'∧tn i s'.heap∧(∀ b∈fp,H' b=none)∧W i n σ' H') ?_ m0 ⟨0, σ,H2,I2,st2,λb hb=>(f2 b hb).1,w0⟩;rintro n s3 ⟨i, σ3,H3,I3,lG,fr3,w3⟩;rcases turn i n σ3 H3 w3 with ⟨stop,qn⟩ | ⟨go,N,hN,step⟩
 . refine Wn hp (cC (T.done X rfl rfl rfl hc i pins s3 σ3 H3 X.xe I3 (stat fr3) lG stop) λr s4 ⟨hr,I4⟩=>?_);subst hr;exact X6 ⟨σ3,H3,I4,qn⟩
 . refine Wn hp (cC (T.item X rfl rfl rfl hc i pins s3 σ3 H3 X.xe I3 (stat fr3) lG go) λr s4 ⟨u,hr,h4⟩=>?_);subst hr;refine Wn hp (cC h4 λ_ s5 ⟨x,H5,I5,r5,y5,st5,fr5⟩=>?_);have I5':=I5.pinned (stat fr5) (T.obj _ _ st5);refine Wn hp (cC (hg _ s5 σ3 H5 x u _ I5' r5 (step x H5 y5)) λ_ s6 ⟨σ6,H6,I6,q6⟩=>?_);refine Wn hp (cC (hb _ s6 σ6 H6 _ I6 q6) λf s7 q7=>?_);have again: ∀ {σ7:St} {H7:Hp},Inv X (pins++sj fp s5.heap) σ7 H7 s7->N σ7 H7-> ∃ m,m < n∧ ∃ i σ' H',Inv X pins σ' H' s7∧tn i s7.heap∧(∀ b∈fp,H' b=none)∧W i m σ' H':=λ{σ7 H7} I7 n7=>by
    obtain ⟨m',hm,w7⟩:=hN σ7 H7 n7;refine ⟨m',hm,i+1, σ7,H7,I7.oN,T.keep _ _ _ st5 λb hb o e=>(I7.pin (b,o) (UB _ (UB _ (d7 hb e)))).1,λb hb=>?_,w7⟩;obtain ⟨o,e,d⟩:=T.obj _ _ st5 b hb;exact (I7.pin (b,o) (UB _ (UB _ (d7 hb e)))).2.1
   cases f with
   | next=>obtain ⟨σ7,H7,I7,n7⟩:=q7;exact again I7 n7
   | cont=>obtain ⟨σ7,H7,I7,n7⟩:=q7;exact again I7 n7
   | brk=>obtain ⟨σ7,H7,I7,q7⟩:=q7;exact ⟨σ7,H7,I7.oN,q7⟩
   | ret v=>obtain ⟨x7, σ7,H7,I7,r7,q7⟩:=q7;exact ⟨x7, σ7,H7,I7.oN,r7,q7⟩
end
abbrev R2:=V->V->Hp->VK->Prop
noncomputable def cW(X:Cx)(f:Value->Value->Sem Value)(r:R2):Prop :=
 ∀(pins:List (Addr × Obj))(s:T7)(σ :St)(H:Hp)(x y:V)(v u:Value)(Q:VK),Inv X pins σ H s->RelV x v->RelV y u->r x y H Q ->
  wpAny (model X.prog X.w) X.A (f v u) (EP X pins σ Q) X.xe s
noncomputable def aQ(X:Cx)(f:Value)(r:List V->Hp->VK->Prop):Prop :=
 ∀(pins:List (Addr × Obj))(s:T7)(σ :St)(H:Hp)(xs:List V)(us:List Value)(Q:VK),Inv X pins σ H s->Vals xs us->r xs H Q ->
  wpAny (model X.prog X.w) X.A (call f us) (EP X pins σ Q) X.xe s
noncomputable def F9(r:R2)(ta tb:TE):TE:=fun σ H Q=>ta σ H λx H1=>tb σ H1 λy H2=>r x y H2 Q
noncomputable def rI(C:Int->Int->Prop)(g:Int->Int->V):R2:=λx y H Q=> ∃ i j,x= .int i/\y= .int j/\C i j/\Q (g i j) H
noncomputable def Ex(g:Int->Int->V):R2:=λx y H Q=> ∃ i j,x= .int i/\y= .int j/\Q (g i j) H
section
variable{X:Cx}{a b c:Expr}{ta tb tc:TE}{pos:Pos}
theorem KS(ha:PE X a ta)(hb:PE X b tb){pins:List (Addr × Obj)}{s:T7}{σ :St}{H:Hp}{R:V->V->Hp->Prop}(I:Inv X pins σ H s)
  (h:ta σ H λx H1=>tb σ H1 λy H2=>R x y H2) {Q:Value->T7->Prop} {f:Value->Value->Sem Value}
  (hf: ∀ v u s2 x y H2,Inv X pins σ H2 s2->RelV x v->RelV y u->R x y H2->wpAny (model X.prog X.w) X.A (f v u) Q X.xe s2) :
  wpAny (model X.prog X.w) X.A (eval a X.env) (λv s₁ =>wpAny (model X.prog X.w) X.A (eval b X.env) (λu s₂ =>wpAny (model X.prog X.w) X.A (f v u) Q X.xe s₂) X.xe s₁) X.xe s:=by
 refine cC (ha pins s σ H _ I h) λv s1 ⟨x,H1,I1,r1,q1⟩=>?_;refine cC (hb pins s1 σ H1 _ I1 q1) λu s2 ⟨y,H2,I2,r2,q2⟩=>?_;exact hf v u s2 x y H2 I2 r1 r2 q2
theorem Ov{op:Operator}{r:R2}(ho:cW X (Vw op) r)(ha:PE X a ta)(hb:PE X b tb):PE X (.BinOp a op b pos) (F9 r ta tb):=by
 intro pins s σ H Q I h;exact wpAny_BinOp (KS ha hb I h λv u s2 x y H2 I2 rx ry q=>ho pins s2 σ H2 x y v u Q I2 rx ry q)
theorem RD{f:Value->Value->Sem Value}{C:Int->Int->Prop}{g:Int->Int->Int}
  (rule: ∀(i j:Int)(t u:Tok)(s:T7)(Q:Value->T7->Prop)(E:Value->T7->Prop),C i j->Q (.int (g i j) s.toks) { s with toks:=s.toks+1 }->wpAny (model X.prog X.w) X.A (f (.int i t) (.int j u)) Q E s) :
  cW X f (rI C λi j=> .int (g i j)):=by
 intro pins s σ H x y v u Q I rx ry h;obtain⟨i,j,rfl,rfl,hc,q⟩:=h;obtain⟨t,rfl⟩:=rx;obtain⟨t',rfl⟩:=ry;exact rule i j t t' s _ _ hc ⟨.int (g i j),H,I.tok _,⟨_,rfl⟩,q⟩
theorem Oa{f:Value->Value->Sem Value}{g:Int->Int->Int}
  (rule: ∀(i j:Int)(t u:Tok)(s:T7)(Q:Value->T7->Prop)(E:Value->T7->Prop),Q (.int (g i j) s.toks) { s with toks:=s.toks+1 }->wpAny (model X.prog X.w) X.A (f (.int i t) (.int j u)) Q E s) :
  cW X f (Ex λi j=> .int (g i j)):=by
 intro pins s σ H x y v u Q I rx ry h;obtain⟨i,j,rfl,rfl,q⟩:=h;obtain⟨t,rfl⟩:=rx;obtain⟨t',rfl⟩:=ry;exact rule i j t t' s _ _ ⟨.int (g i j),H,I.tok _,⟨_,rfl⟩,q⟩
theorem Gg{f:Value->Value->Sem Value}{g:Int->Int->Bool}
  (rule: ∀(i j:Int)(t u:Tok)(s:T7)(Q:Value->T7->Prop)(E:Value->T7->Prop),Q (.bool (g i j)) s->wpAny (model X.prog X.w) X.A (f (.int i t) (.int j u)) Q E s) :
  cW X f (Ex λi j=> .bl (g i j)):=by
 intro pins s σ H x y v u Q I rx ry h;obtain⟨i,j,rfl,rfl,q⟩:=h;obtain⟨t,rfl⟩:=rx;obtain⟨t',rfl⟩:=ry;exact rule i j t t' s _ _ ⟨.bl (g i j),H,I,rfl,q⟩
noncomputable def Sk(i j:Int):Prop:=0 < j/\j < 1073741824
noncomputable def RL(i j:Int):Prop:=0<=j/\j<=1000000/\i.natAbs < 2 ^ 64
noncomputable def Jo(i j:Int):Prop:=(-(2 ^ 64) < i/\i < 2 ^ 64)\/(-(2 ^ 64) < j/\j < 2 ^ 64)
theorem Jo.ok{i j:Int}(h:Jo i j):IntMulOk i j:=by
 rcases h with⟨h1,h2⟩ | ⟨h1,h2⟩
 . exact .of_left (intBits_le_64 h1 h2)
 . exact .of_right (intBits_le_64 h1 h2)
theorem J6:cW X (Vw .Add) (Ex λi j=> .int (i+j)):=Oa λ_ _ _ _ _ _ _ q=>add_int q
theorem La:cW X (Vw .Sub) (Ex λi j=> .int (i - j)):=Oa λ_ _ _ _ _ _ _ q=>sub_int q
theorem JV:cW X (Vw .Mult) (rI Jo λi j=> .int (i*j)):=RD λ_ _ _ _ _ _ _ hc q=>mul_int q hc.ok
theorem Gu:cW X (Vw .FloorDiv) (rI Sk λi j=> .int (i / j)):=RD λi j _ _ _ _ _ hc q=>by
 have h1:(0:Int) < j:=hc.1;have h2:j < 1073741824:=hc.2;exact floordiv_int (by omega) (by rw[Int.fdiv_eq_ediv_of_nonneg i (by omega)];exact q) (.inl (PyProof.noPylong_small (by omega)))
theorem LJ:cW X (Vw .Mod) (rI (λ_ j=>0 < j) λi j=> .int (i % j)):=RD λi j _ _ _ _ _ hc q=>by
 have h1:(0:Int) < j:=hc;exact mod_int' (by omega) (by rw[Int.fmod_eq_emod_of_nonneg i (by omega)];exact q)
theorem Ky:cW X (Vw .Pow) (rI RL λi j=> .int (i ^ j.toNat)):=RD λ_ _ _ _ _ _ _ hc q=>pow_int_small hc.1 hc.2.1 hc.2.2 q
end
noncomputable def CN:V->V->Bool
 | .non,.non=>true | .non,.int _=>true | .int _,.non=>true | .non,.bl _=>true | .bl _,.non=>true | .non,.str _=>true | .str _,.non=>true
 | .int _,.int _=>true | .bl _,.bl _=>true | .str _,.str _=>true | .byt _,.byt _=>true
 | .int _,.str _=>true | .str _,.int _=>true | .bl _,.str _=>true | .str _,.bl _=>true
 | _,_=>false
noncomputable def TJ:R2:=λx y H Q=>CN x y=true/\Q (.bl (decide (x=y))) H
noncomputable def TR:R2:=λx y H Q=>CN x y=true/\Q (.bl (!decide (x=y))) H
theorem yj{i j:Int}:decide (V.int i=V.int j)=(i == j):=by
 rw[Wo];simp
theorem Cs{i j:Bool}:decide (V.bl i=V.bl j)=(i == j):=by
 rw[Wo];simp
theorem yZ{i j:Str}:decide (V.str i=V.str j)=(i == j):=by
 rw[Wo];simp
theorem yx{i j:Array UInt8}:decide (V.byt i=V.byt j)=(i.toList == j.toList):=by
 rw[Wo];cases i;cases j;simp
section
variable{X:Cx}{a b c:Expr}{ta tb tc:TE}{pos:Pos}
theorem aS{pins:List (Addr × Obj)}{σ :St}{H:Hp}{s:T7}{Q:VK}{k k':Bool}(I:Inv X pins σ H s)(q:Q (.bl k) H)(e:k=k'):EP X pins σ Q (.bool k') s:=by
 subst e;exact⟨.bl k,H,I,rfl,q⟩
theorem QB:cW X (UK .Eq) TJ:=by
 intro pins s σ H x y v u Q I rx ry h;obtain⟨hs,q⟩:=h;cases x with
 | non =>
  cases rx
  cases y with
  | non=>cases ry;exact PySem.EqNone.eq_none_none (aS I q (by simp))
  | bl j=>cases ry;exact PySem.EqNone.eq_none_bool (aS I q (by simp))
  | int j=>obtain⟨t',rfl⟩:=ry;exact PySem.EqNone.eq_none_int (aS I q (by simp))
  | str j=>obtain⟨t',rfl⟩:=ry;exact PySem.EqNone.eq_none_str (aS I q (by simp))
  | _=>exact absurd (show false=true from hs) Uu
 | bl i =>
  cases rx
  cases y with
  | non=>cases ry;exact PySem.EqNone.eq_bool_none (aS I q (by simp))
  | bl j=>cases ry;exact eq_bool (aS I q Cs)
  | str j=>obtain⟨t',rfl⟩:=ry;exact PySem.EqMixed.eq_bool_str (aS I q (by simp))
  | _=>exact absurd (show false=true from hs) Uu
 | int i =>
  obtain⟨t,rfl⟩:=rx
  cases y with
  | non=>cases ry;exact PySem.EqNone.eq_int_none (aS I q (by simp))
  | int j=>obtain⟨t',rfl⟩:=ry;exact eq_int (aS I q yj)
  | str j=>obtain⟨t',rfl⟩:=ry;exact PySem.EqMixed.eq_int_str (aS I q (by simp))
  | _=>exact absurd (show false=true from hs) Uu
 | str i =>
  obtain⟨t,rfl⟩:=rx
  cases y with
  | non=>cases ry;exact PySem.EqNone.eq_str_none (aS I q (by simp))
  | bl j=>cases ry;exact PySem.EqMixed.eq_str_bool (aS I q (by simp))
  | int j=>obtain⟨t',rfl⟩:=ry;exact PySem.EqMixed.eq_str_int (aS I q (by simp))
  | str j=>obtain⟨t',rfl⟩:=ry;exact eq_str (aS I q yZ)
  | _=>exact absurd (show false=true from hs) Uu
 | byt i =>
  obtain⟨t,rfl⟩:=rx
  cases y with
  | byt j=>obtain⟨t',rfl⟩:=ry;exact PySem.W.eq_bytes (aS I q yx)
  | _=>exact absurd (show false=true from hs) Uu
 | _=>cases y<;>exact absurd (show false=true from hs) Uu
theorem OV:cW X (UK .NotEq) TR:=by
 intro pins s σ H x y v u Q I rx ry h;obtain⟨hs,q⟩:=h;cases x with
 | non =>
  cases rx
  cases y with
  | non=>cases ry;exact PySem.EqNone.ne_none_none (aS I q (by simp))
  | bl j=>cases ry;exact PySem.EqNone.ne_none_bool (aS I q (by simp))
  | int j=>obtain⟨t',rfl⟩:=ry;exact PySem.EqNone.ne_none_int (aS I q (by simp))
  | str j=>obtain⟨t',rfl⟩:=ry;exact PySem.EqNone.ne_none_str (aS I q (by simp))
  | _=>exact absurd (show false=true from hs) Uu
 | bl i =>
  cases rx
  cases y with
  | non=>cases ry;exact PySem.EqNone.ne_bool_none (aS I q (by simp))
  | bl j=>cases ry;exact ne_bool (aS I q (congrArg not Cs))
  | str j=>obtain⟨t',rfl⟩:=ry;exact PySem.EqMixed.ne_bool_str (aS I q (by simp))
  | _=>exact absurd (show false=true from hs) Uu
 | int i =>
  obtain⟨t,rfl⟩:=rx
  cases y with
  | non=>cases ry;exact PySem.EqNone.ne_int_none (aS I q (by simp))
  | int j=>obtain⟨t',rfl⟩:=ry;exact ne_int (aS I q (congrArg not yj))
  | str j=>obtain⟨t',rfl⟩:=ry;exact PySem.EqMixed.ne_int_str (aS I q (by simp))
  | _=>exact absurd (show false=true from hs) Uu
 | str i =>
  obtain⟨t,rfl⟩:=rx
  cases y with
  | non=>cases ry;exact PySem.EqNone.ne_str_none (aS I q (by simp))
  | bl j=>cases ry;exact PySem.EqMixed.ne_str_bool (aS I q (by simp))
  | int j=>obtain⟨t',rfl⟩:=ry;exact PySem.EqMixed.ne_str_int (aS I q (by simp))
  | str j=>obtain⟨t',rfl⟩:=ry;exact ne_str (aS I q (congrArg not yZ))
  | _=>exact absurd (show false=true from hs) Uu
 | byt i =>
  obtain⟨t,rfl⟩:=rx
  cases y with
  | byt j=>obtain⟨t',rfl⟩:=ry;exact PySem.W.ne_bytes (aS I q (congrArg not yx))
  | _=>exact absurd (show false=true from hs) Uu
 | _=>cases y<;>exact absurd (show false=true from hs) Uu
theorem Pj:cW X (UK .Lt) (Ex λi j=> .bl (decide (i < j))):=Gg λ_ _ _ _ _ _ _ q=>lt_int q
theorem N6:cW X (UK .LtE) (Ex λi j=> .bl (decide (i<=j))):=Gg λ_ _ _ _ _ _ _ q=>le_int q
theorem QM:cW X (UK .Gt) (Ex λi j=> .bl (decide (j < i))):=Gg λ_ _ _ _ _ _ _ q=>gt_int q
theorem P9:cW X (UK .GtE) (Ex λi j=> .bl (decide (j<=i))):=Gg λ_ _ _ _ _ _ _ q=>ge_int q
theorem AS:cW X (UK .In) (λx y H Q=> ∃ i j,x= .str i/\y= .str j/\Q (.bl (!(WD j i 0 j.length 1).isEmpty)) H):=by
 intro pins s σ H x y v u Q I rx ry h;obtain⟨i,j,rfl,rfl,q⟩:=h;obtain⟨t,rfl⟩:=rx;obtain⟨t',rfl⟩:=ry;exact in_str (aS I q rfl)
theorem cW.or{f:Value->Value->Sem Value}{r r':R2}(h:cW X f r)(h':cW X f r'):cW X f (λx y H Q=>r x y H Q\/r' x y H Q):=by
 intro pins s σ H x y v u Q I rx ry q;rcases q with q | q
 . exact h pins s σ H x y v u Q I rx ry q
 . exact h' pins s σ H x y v u Q I rx ry q
theorem BQ(b:Expr){op:CmpOp}(h:op≠ .In:=by decide)(h2:op≠ .NotIn:=by decide):VC op b=false:=by
 have e1:(op == CmpOp.In)=false:=by cases op<;>first | rfl | exact absurd rfl h
 have e2:(op == CmpOp.NotIn)=false:=by cases op<;>first | rfl | exact absurd rfl h2
 cases b<;>simp[VC,e1,e2]
theorem Fp{op:CmpOp}{r:R2}(ho:cW X (UK op) r)(ha:PE X a ta)(hb:PE X b tb)(hm:VC op b=false):PE X (.Compare a [op] [b] pos) (F9 r ta tb):=by
 intro pins s σ H Q I h;exact wpAny_Compare1 (KS ha hb I h λv u s2 x y H2 I2 rx ry q=>ho pins s2 σ H2 x y v u Q I2 rx ry q) hm
noncomputable def Ef(t:TE):TT:=fun σ H Q=>t σ H λx H'=> ∃ k,x= .bl k/\Q k H'
theorem E3{op:CmpOp}{r:R2}(ho:cW X (UK op) r)(ha:PE X a ta)(hb:PE X b tb)(hm:VC op b=false):PT X (.Compare a [op] [b] pos) (Ef (F9 r ta tb)):=by
 intro pins s σ H Q I h;refine ZI (cC (ha pins s σ H _ I h) λv s1 ⟨x,H1,I1,r1,q1⟩=>cC (hb pins s1 σ H1 _ I1 q1) λu s2 ⟨y,H2,I2,r2,q2⟩ =>
  cC (ho pins s2 σ H2 x y v u _ I2 r1 r2 q2) λc s3 ⟨z,H3,I3,r3,k,e,q3⟩=>?_) hm
 subst e;cases r3;exact VM ⟨H3,I3,q3⟩
noncomputable def xa(r r':R2)(ta tb tc:TE):TE:=fun σ H Q=>ta σ H λx H1=>tb σ H1 λy H2=>r x y H2 λz H3=> ∃ k,z= .bl k /\
 (if k=true then tc σ H3 λw' H4=>r' y w' H4 Q else Q (.bl false) H3)
theorem Et{op op':CmpOp}{r r':R2}(ho:cW X (UK op) r)(ho':cW X (UK op') r')(ha:PE X a ta)(hb:PE X b tb)(hc:PE X c tc)
  (hm:lastMarks [op,op'] [b,c]=false:=by with_unfolding_all rfl):PE X (.Compare a [op,op'] [b,c] pos) (xa r r' ta tb tc):=by
 intro pins s σ H Q I h;refine Compare_chain (cC (ha pins s σ H _ I h) λv s1 ⟨x,H1,I1,r1,q1⟩=>chain_link (cC (hb pins s1 σ H1 _ I1 q1) λu s2 ⟨y,H2,I2,r2,q2⟩ =>
  cC (ho pins s2 σ H2 x y v u _ I2 r1 r2 q2) λd s3 ⟨z,H3,I3,r3,k,e,q3⟩=>?_)) hm
 subst e;cases r3;refine VM ?_;cases k with
 | false=>exact ite_ff ⟨.bl false,H3,I3,rfl,q3⟩
 | true=>exact ite_tt (chain_last (cC (hc pins s3 σ H3 _ I3 q3) λw' s4 ⟨z',H4,I4,r4,q4⟩=>ho' pins s4 σ H4 y z' u w' Q I4 r2 r4 q4))
theorem lP:(sizeLine:Nat) < 2 ^ 63:=by rw[aa8];decide
theorem vals1{x:V}{us:List Value}(r:Vals [x] us): ∃ u,us=[u]/\RelV x u:=by
 cases r with
 | cons r1 r2=>cases r2;exact⟨_,rfl,r1⟩
theorem vals2{x y:V}{us:List Value}(r:Vals [x,y] us): ∃ u w',us=[u,w']/\RelV x u/\RelV y w':=by
 cases r with
 | cons r1 r2 =>
  cases r2 with
  | cons r3 r4=>cases r4;exact⟨_,_,rfl,r1,r3⟩
theorem AW:aQ X (.type "int") (λxs H Q=>(∃ i,xs=[.int i]/\Q (.int i) H)\/ ∃ k,xs=[.bl k]/\Q (.int (if k then 1 else 0)) H):=by
 intro pins s σ H xs us Q I r h;rcases h with⟨i,rfl,q⟩ | ⟨k,rfl,q⟩
 . obtain⟨u,rfl,t,rfl⟩:=vals1 r;exact call_int_int ⟨.int i,H,I,⟨_,rfl⟩,q⟩
 . obtain⟨u,rfl,r1⟩:=vals1 r;cases r1;exact call_int_bool ⟨.int (if k then 1 else 0),H,I.tok _,⟨_,rfl⟩,q⟩
end
structure MM(h:Heap)(x dx C:Addr)(mA:Str->Option Value):Prop where
 obj:h.get? x=some (Wm C dx)
 ns:h.Ns1 dx mA
 ne:dx≠x
theorem Ap{h:Heap}{dx:Addr}{mA:Str->Option Value}(n:h.Ns1 dx mA): ∃ od,h.get? dx=some od/\ ∀ name,ZU name od=some (mA name):=by
 obtain⟨o,es,ep,ho,hd,hk,_,hm⟩:=n;refine⟨o,ho,λname=>?_⟩;have e:=hm name;unfold nsFind findBy at e;rw[<- Array.find?_toList] at e;unfold ZU;rw[hd];dsimp only;split
 . rename_i y q;rw[q] at e;exact congrArg some e
 . rename_i q;rw[q] at e;have a:es.toList.any (·.refKey)=false:=by
    rw[List.any_eq_false];intro y hy;obtain⟨z,t,hkey⟩:=hk y (Array.mem_toList_iff.mp hy);simp[DictEntry.refKey,hkey]
   have a': ¬ es.toList.any (·.refKey)=true:=by rw[a];exact Uu
   rw[if_neg a'];exact congrArg some e
theorem MM.look{h:Heap}{x dx C:Addr}{mA:Str->Option Value}(I:MM h x dx C mA): ∃ od,PySem.W.InstAt h x (Wm C dx) C (some od)/\ ∀ name,ZU name od=some (mA name) :=
 let ⟨od,ho,hl⟩:=Ap I.ns
 ⟨od,⟨I.obj,rfl,rfl,ho⟩,hl⟩
theorem lu.some_of{v:V}{o:Option Value}(r:lu (some v) o): ∃ u,o=some u/\RelV v u:=by
 cases o with
 | none=>exact(show False from r).elim
 | some u=>exact⟨u,rfl,r⟩
section
variable{P:Uy}{w:World}{H H':Hp}{h h':Heap}{a C dx:Addr}{fs fs':List (Str × V)}
theorem GR(bq:jK P w H h)(e:H a=some (.ins C dx fs)): ∃ mA,MM h a dx C mA/\(∀ f,lu (fs.lookup f) (mA f))/\abw mA (fs.map (·.1))/\fs.length<=1000/\H dx=some (.own a):=by
 obtain⟨d,z,ne,ob,mA,n,r,q⟩:=(show aT P w H h a (.ins C dx fs) from bq a _ e)
 exact⟨mA,⟨ob,n,ne⟩,r,q,z,d⟩
end
structure Su(K:TV)(C:Addr):Prop where
 pg:aaY K C Str.empty=true
 hd:PySem.W.hasDictIn K C=true
 po:PySem.W.plainOver K C=true
 sa:XA K (.ref C) "__setattr__" =some (some (.builtin "object.__setattr__"))
theorem Su.get{K:TV}{C:Addr}(c:Su K C)(f:Str):aaY K C f=true:=c.pg
structure TU(K:TV)(C:Addr)(f:Str)(v:V)(u:Value):Prop where
 at_:XA K (.ref C) f=some (some u)
 rel:RelV v u
 get:aaF K u "__get__" =some none
 cp:PySem.W.copiedNames.contains f=false
structure Meth(K:TV)(C:Addr)(m:Str)(f:Addr):Prop where
 at_:XA K (.ref C) m=some (some (.ref f))
 fn:aby K (.ref f)=true
 kp:WE K (.ref f)=true
section
variable{X:Cx}{pins:List (Addr × Obj)}{σ :St}{H:Hp}{s:T7}{a C dx:Addr}{fs:List (Str × V)}{f:Str}{v:V}{A:UW}{E:Value->T7->Prop}
theorem Inv.made(I:Inv X pins σ H s):Inv X pins σ (upd (upd H s.heap.objs.size (.own (s.heap.objs.size+1))) (s.heap.objs.size+1) (.ins C s.heap.objs.size []))
  { s with heap:=(s.heap.push VO).push (Wm C s.heap.objs.size) }:=by
 have e1:(s.heap.push VO).get? s.heap.objs.size=some VO:=Um s.heap rfl;have e2:((s.heap.push VO).push (Wm C s.heap.objs.size)).get? (s.heap.objs.size+1)=some (Wm C s.heap.objs.size):=by
  have:=Um (s.heap.push VO) (o:=Wm C s.heap.objs.size) rfl
  rwa [Vr] at this
 have e3:(s.heap.push VO).Ns s.heap.objs.size (λ_=>none):=⟨VO, #[],_,e1,rfl,(λe he=>absurd he (by simp)),λ_=>rfl⟩
 have I1:=I.laid (a:=s.heap.objs.size) (o:= .own (s.heap.objs.size+1)) (h':=s.heap.push VO) (t':=s.toks) (λb u q=>T6 _ q) (Ua _) ⟨_,e1⟩;refine I1.laid (a:=s.heap.objs.size+1) (o:= .ins C s.heap.objs.size []) (t':=s.toks) (λb u q=>T6 _ q) (Nat.le_of_eq (Vr _ _)) ?_;have ne:s.heap.objs.size≠s.heap.objs.size+1:=Uw (XM _);refine⟨by rw[aA ne,ba],UQ _,ne,e2,λ_=>none,(Heap.Ns1.of_empty e3).at λo q=>T6 _ q,λ_=>We,λy hy=>absurd rfl hy⟩
end
section
variable{X:Cx}{pins:List (Addr × Obj)}{σ :St}{H:Hp}{s:T7}{A:UW}{E:Value->T7->Prop}{Q:Value->T7->Prop}{c:Value}{b:Bool}
inductive jF(K:TV)(H:Hp):V->Value->Prop where
 | non:jF K H .non (.type "NoneType")
 | bl (x:Bool):jF K H (.bl x) (.type "bool")
 | int (i:Int):jF K H (.int i) (.type "int")
 | str (x:Str):jF K H (.str x) (.type "str")
 | flt (x:UInt64):jF K H (.flt x) (.type "float")
 | lst {a:Addr} {xs:List V} (e:H a=some (.lst xs)):jF K H (.ref a) (.type "list")
 | jP {a:Addr} {o:Obj} {xs:List V} (e:H a=some (.jP o (.lst xs))):jF K H (.ref a) (.type "list")
 | tup {a:Addr} {xs:List V} (e:H a=some (.tup xs)):jF K H (.ref a) (.type "tuple")
 | dK {a:Addr} {kvs:List (Key × V)} (e:H a=some (.dK kvs)):jF K H (.ref a) (.type "dict")
 | dT {a:Addr} {kvs:List (List Key × V)} (e:H a=some (.dT kvs)):jF K H (.ref a) (.type "dict")
 | ins {a C dx:Addr} {fs:List (Str × V)} (e:H a=some (.ins C dx fs)) (cl:Su K C) (ha:XA K (.ref C) "__class__" =some (some (.builtin "object.__class__")))
   (hn:aaF K (.builtin "object.__class__") "__get__" =some (some (.builtin "getset_descriptor.__get__"))) (htk:PySem.W.takesIn K (.builtin "object.__class__")=some true)
   (hm:PySem.W.mroIn K C (.type "object")=some true):jF K H (.ref a) (.ref C)
theorem AM{x:V}{u t:Value}(I:Inv X pins σ H s)(rx:RelV x u)(ty:jF X.K H x t)(e:Yo X.K t c=some b)(h: ∀ tk,Q (.bool b) { s with toks:=tk }) :
  wpAny (model X.prog X.w) A (call (.builtin "isinstance") [u,c]) Q E s:=by
 cases ty with
 | non=>cases(show u=Wc from rx);exact Vs PySem.W.kitx_none I.lH We e (λz=>nomatch z) h
 | bl y=>cases(show u=XJ y from rx);exact Vs PySem.W.kitx_bool I.lH We e (λz=>nomatch z) h
 | int i=>obtain⟨t,q⟩:=(show ∃ t,u=W7 i t from rx);cases q;exact Vs PySem.W.kitx_int I.lH We e (λz=>nomatch z) h
 | str y=>obtain⟨t,q⟩:=(show ∃ t,u=XI y t from rx);cases q;exact Vs PySem.W.kitx_str I.lH We e (λz=>nomatch z) h
 | flt y=>obtain⟨t,q⟩:=(show ∃ t,u=aa7 y t from rx);cases q;exact Vs abn I.lH We e (λz=>nomatch z) h
 | @lst a xs ea =>
  cases(show u=Ux a from rx)
  obtain⟨_,_,n,_,h1⟩:=(show aT X.prog X.w H s.heap a (.lst xs) from I.bq a _ ea)
  exact Vs YS I.lH ⟨_,h1,rfl⟩ e (λz=>nomatch z) h
 | @jP a ob xs ea =>
  cases(show u=Ux a from rx)
  obtain⟨_,_,_,n,_,h1⟩:=(show aT X.prog X.w H s.heap a (.jP ob (.lst xs)) from I.bq a _ ea)
  exact Vs YS I.lH ⟨_,h1,rfl⟩ e (λz=>nomatch z) h
 | @tup a xs ea =>
  cases(show u=Ux a from rx)
  obtain⟨_,_,_,p⟩:=(show aT X.prog X.w H s.heap a (.tup xs) from I.bq a _ ea)
  obtain⟨o,h1,h2,_⟩:=p
  exact Vs abo I.lH ⟨o,h1,h2⟩ e (λz=>nomatch z) h
 | @dK a kvs ea =>
  cases(show u=Ux a from rx)
  obtain⟨_,_,vs,_,p⟩:=(show aT X.prog X.w H s.heap a (.dK kvs) from I.bq a _ ea)
  obtain⟨o,es,ep,h1,h2,_⟩:=p
  exact Vs YT I.lH ⟨o,h1,h2.1⟩ e (λz=>nomatch z) h
 | @dT a kvs ea =>
  cases(show u=Ux a from rx)
  obtain⟨_,_,xs,_,o,es,ep,h1,h2,_⟩:=(show aT X.prog X.w H s.heap a (.dT kvs) from I.bq a _ ea)
  exact Vs YT I.lH ⟨o,h1,h2.1⟩ e (λz=>nomatch z) h
 | @ins a C dx fs ea cl ha hn htk hm =>
  cases(show u=Ux a from rx)
  obtain⟨mA,O,_⟩:=GR I.bq ea
  obtain⟨od,J,_⟩:=O.look
  exact Vs (PySem.W.kitx_own (cl.get _) cl.hd ha hn htk hm) I.lH J e (λz=>nomatch z) h
end
structure dE(k:Nat)(A:UW):Prop where
 hd:A.handled=none
 dp:A.depth+3*k+5 < recursionLimit
 un:A.units+16*k+200 < cLine
 gd:A.guards=some []
theorem dE.mono{j k:Nat}{A:UW}(r:dE k A)(h:j<=k):dE j A:=⟨r.hd,by have:=r.dp;omega,by have:=r.un;omega,r.gd⟩
theorem dE.deeper{k:Nat}{A:UW}(r:dE (k+1) A)(env:Env):dE k (A.deeper env) :=
 ⟨r.hd,by have:=r.dp;show A.depth+1+3*k+5 < _;omega,by have:=r.un;show A.units+3+16*k+200 < _;omega,r.gd⟩
theorem dE.in1{k:Nat}{A:UW}(r:dE (k+1) A):dE k A.in1 :=
 ⟨r.hd,by have:=r.dp;show A.depth+3*k+5 < _;omega,by have:=r.un;show A.units+1+16*k+200 < _;omega,r.gd⟩
theorem dE.depth{k:Nat}{A:UW}(r:dE k A):A.depth < recursionLimit:=by have:=r.dp;omega
theorem dE.units{k:Nat}{A:UW}(r:dE k A):A.units+64 < cLine:=by have:=r.un;omega
theorem dE.NH{k:Nat}{A:UW}(r:dE k A):A.units < cLine:=by have:=r.un;omega
noncomputable def Od:TA:=λ_ H Q=>Q [] H
noncomputable def Bp(ta:TE)(tr:TA):TA:=fun σ H Q=>ta σ H λx H1=>tr σ H1 λxs H2=>Q (x::xs) H2
section
variable{X:Cx}{e:Expr}{es:List Expr}{te:TE}{t:TA}{pos:Pos}
theorem MC:PA X [] Od:=λ_ _ _ _ H Q I h=>YE ⟨[],H,I,.nil,h⟩
theorem GN(ha:PE X e te)(hr:PA X es t)(hs:UY (e::es) X.env=(false,eval e X.env)::UY es X.env:=by rfl):PA X (e::es) (Bp te t):=by
 intro pos pins s σ H Q I h;rw[hs];show wpAny _ _ (spliced ((false,eval e X.env)::Xx pos (UY es X.env))) _ _ s;refine Xp (cC (ha pins s σ H _ I h) λu s1 ⟨x,H1,I1,r1,q1⟩=>?_);exact cC (hr pos pins s1 σ H1 _ I1 q1) λus s2 ⟨xs,H2,I2,r2,q2⟩=>⟨x::xs,H2,I2,.cons r1 r2,q2⟩
noncomputable def OJ(t:TA):TE:=fun σ H Q=>t σ H λxs H1=>xs.length<=sizeLine/\ ∀ p,H1 p=none->Q (.ref p) (upd H1 p (.tup xs))
noncomputable def QD(t:TA):TE:=fun σ H Q=>t σ H λxs H1=>xs.length<=sizeLine/\ ∀ p,H1 p=none->Q (.ref p) (upd H1 p (.lst xs))
theorem Le{x1}(h:PA X es t):PE X (.Tuple es x1 pos) (OJ t):=by
 intro pins s σ H Q I hq;refine wpAny_Tuple_spliced (cC (h pos pins s σ H _ I hq) λus s1 ⟨xs,H1,I1,r,z,q⟩=>⟨by rw[<- r.length];exact z,?_⟩);have hf:H1 s1.heap.objs.size=none:=I1.bq.fresh (Ua _);refine⟨.ref s1.heap.objs.size,upd H1 s1.heap.objs.size (.tup xs),I1.laid (t':=s1.toks) (λb u e=>T6 _ e) (Ua _) ?_,rfl,q _ hf⟩;exact⟨z,us,r,⟨_,Um _ rfl,rfl,_,rfl,rfl⟩⟩
theorem J0(h:PA X es t):PE X (.List es pos) (QD t):=by
 intro pins s σ H Q I hq;refine wpAny_List_spliced (cC (h pos pins s σ H _ I hq) λus s1 ⟨xs,H1,I1,r,z,q⟩=>⟨by rw[<- r.length];exact z,?_⟩);have hf:H1 s1.heap.objs.size=none:=I1.bq.fresh (Ua _);refine⟨.ref s1.heap.objs.size,upd H1 s1.heap.objs.size (.lst xs),I1.laid (t':=s1.toks) (λb u e=>T6 _ e) (Ua _) ?_,rfl,q _ hf⟩;exact⟨z,us,0,r,Um _ rfl⟩
end
abbrev Sp:=List V->Hp->VK->XK->Prop
abbrev Bh:=List Env->Hp->T7->XK->Value->T7->Prop
structure wI(P:Uy)(w:World)(K:TV)(mg:Str->Option Value)(base:Heap)(A:UW)(outer:List Env)(s:T7)(H:Hp):Prop where
 frames:A.frames=some outer
 mod:Mod K mg base
 bs: ∀ b o,base.get? b=some o->s.heap.get? b=some o/\H b=none
 ED:base.objs.size<=s.heap.objs.size
 mH:s.heap.FunFrames base outer
 Jb: ∀ b∈Bk outer,H b=none
 bq:jK P w H s.heap
 bare:YD s.gens
noncomputable def CE(outer:List Env)(P:Uy)(w:World)(H:Hp)(s:T7)(Q:VK)(u:Value)(s':T7):Prop :=
 ∃ v H',s'.os=s.os/\YD s'.gens/\Un (Bk outer) [] H H' s.heap s'.heap/\jK P w H' s'.heap/\RelV v u/\Q v H'
noncomputable def CR(CX:Bh)(outer:List Env)(P:Uy)(w:World)(H:Hp)(s:T7)(Q:VK)(E:XK)(r:Result)(s':T7):Prop :=
 match r with
 | .ok (.ret u)=>CE outer P w H s Q u s'
 | .ok _=>False
 | .error e=>CX outer H s E e s'
structure k8(P:Uy)(w:World)(K:TV)(mg:Str->Option Value)(base:Heap)(CX:Bh)(k:Nat)(f:Addr)(fd:VU)(ps:List Str)(sp:Sp):Prop where
 len: ∀ vs H Q E,sp vs H Q E->vs.length=ps.length
 run: ∀(A:UW)(outer:List Env)(s:T7)(H:Hp)(args:Args)(us:List Value)(vs:List V)(Q:VK)(E:XK),dE k A->wI P w K mg base A outer s H->Zj s fd args (ps.zip us)->Vals vs us->sp vs H Q E ->
  Zk (model P w) A (.call (.ref f) args) (CR CX outer P w H s Q E) s
theorem k8.imp{P:Uy}{w:World}{K:TV}{mg:Str->Option Value}{base:Heap}{CX:Bh}{k:Nat}{f:Addr}{fd:VU}{ps:List Str}{sp sp':Sp}(F:k8 P w K mg base CX k f fd ps sp)
  (h: ∀ vs H Q E,sp' vs H Q E->sp vs H Q E):k8 P w K mg base CX k f fd ps sp' :=
 ⟨λvs H Q E q=>F.len vs H Q E (h _ _ _ _ q),λA outer s H args us vs Q E hr he hb hv hs=>F.run A outer s H args us vs Q E hr he hb hv (h _ _ _ _ hs)⟩
theorem wI.in1{P:Uy}{w:World}{K:TV}{mg:Str->Option Value}{base:Heap}{A:UW}{outer:List Env}{s:T7}{H:Hp}(e:wI P w K mg base A outer s H) :
  wI P w K mg base A.in1 outer s H:=⟨e.frames,e.mod,e.bs,e.ED,e.mH,e.Jb,e.bq,e.bare⟩
section
variable{X:Cx}{pins:List (Addr × Obj)}{σ :St}{H:Hp}{s s':T7}
theorem Inv.RN(I:Inv X pins σ H s):wI X.prog X.w X.K X.mg X.base X.A X.stack s H :=
 ⟨I.ok.frames,I.ok.mod,I.bs,UM I.ok.ED I.sz,I.stack,I.y8,I.bq,I.bare⟩
theorem Inv.after{Q:VK}{u:Value}(I:Inv X pins σ H s)(h:CE X.stack X.prog X.w H s Q u s'):EP X pins σ Q u s':=by
 obtain⟨v,H',os,bare,un,bq,r,q⟩:=h;obtain⟨hh,g,d,t,os'⟩:=s';obtain rfl:os'=s.os:=os;exact⟨v,H',I.call (h':=hh) (g':=g) (d':=d) (t':=t) (ch:=[]) un bq bare (λb z=>absurd z (by simp)),r,q⟩
end
noncomputable def yD(sp:Sp)(Ey:List V)(E:XK)(t:TA):TE:=fun σ H Q=>t σ H λvs H1=>sp (vs++Ey) H1 Q E
noncomputable def Binds(K:TV)(fd:VU)(ps:List Str)(ds:List Value):Prop :=
 ∀(s:T7)(us:List Value),K.In s.heap->(us++ds).length=ps.length->Zj s fd ⟨us,[]⟩ (ps.zip (us++ds))
theorem Binds.all{K:TV}{fd:VU}{ps:List Str}(h: ∀ us:List Value,us.length=ps.length->WQ fd ⟨us,[]⟩=pure (ps.zip us)):Binds K fd ps []:=λs us _ hl=>by
 rw[Vd] at hl ⊢;exact .of_eq (h us hl)
noncomputable def Passes(CX:Bh)(X:Cx)(E:XK):Prop:= ∀(pins:List (Addr × Obj))(σ :St)(H:Hp)(s:T7)(e:Value)(s':T7),Inv X pins σ H s->CX X.stack H s E e s'->X.xe e s'
section
variable{X:Cx}{CX:Bh}{k:Nat}{f C:Addr}{fd:VU}{ps:List Str}{sp:Sp}{Ey:List V}{ds:List Value}{E:XK}{x m:Str}{p pos apos:Pos}{e o:Expr}{es:List Expr}{ta:TE}{t:TA}
theorem K6{pins:List (Addr × Obj)}{σ :St}{H:Hp}{s:T7}{Q:VK}{us:List Value}{vs:List V}(F:k8 X.prog X.w X.K X.mg X.base CX k f fd ps sp)(hr:dE k X.A)(hb:Binds X.K fd ps ds)(hd:Vals Ey ds)(hx:Passes CX X E)
  (I:Inv X pins σ H s) (r:Vals vs us) (h:sp (vs++Ey) H Q E):wpAny (model X.prog X.w) X.A (call (.ref f) us) (EP X pins σ Q) X.xe s:=by
 have r2:Vals (vs++Ey) (us++ds):=r.append hd;have hl:(us++ds).length=ps.length:=by rw[<- r2.length];exact F.len _ _ _ _ h
 refine wpAny_call (aaG (F.run X.A X.stack s H ⟨us,[]⟩ (us++ds) (vs++Ey) Q E hr I.RN (hb s us I.lH hl) r2 h) λr s' hq=>?_);cases r with
 | error e=>exact hx pins σ H s e s' I hq
 | ok fl =>
  cases fl with
  | ret u=>exact I.after hq
  | next=>exact VN hq
  | brk=>exact VN hq
  | cont=>exact VN hq
theorem Gm(F:k8 X.prog X.w X.K X.mg X.base CX k f fd ps sp)(hr:dE k X.A)(hg:Gl X x)(hm:X.mg x=some (.ref f))(hk:WE X.K (.ref f)=true)(hb:Binds X.K fd ps ds)(hd:Vals Ey ds)(hx:Passes CX X E)
  (ha:PA X (e::es) t) (hdb:(x == ("__debug__" :Str))=false:=by decide) (he:UY (e::es) X.env=(false,eval e X.env)::UY es X.env:=by rfl) (hpl:(Xx pos (UY es X.env)).any (·.1)=false:=by rfl) :
  PE X (.Call (.Name x p) (e::es) [] pos) (yD sp Ey E t):=by
 intro pins s σ H Q I h;refine Yp (yG I hg hm ?_ hdb);refine PySem.W.callWith_K (h₀ :=X.base) I.ok.mod.RO hk (cC (ha pos pins s σ H _ I h) λus s1 ⟨vs,H1,I1,r,q⟩=>⟨I1.lH,?_⟩) he hpl;exact K6 F hr hb hd hx I1 r q
structure Mk(K:TV)(C f:Addr):Prop where
 makes:PySem.W.makesIn K C=true
 init:XA K (.ref C) "__init__" =some (some (.ref f))
 fn:aby K (.ref f)=true
 kp:WE K (.ref C)=true
end
section
variable{X:Cx}{CX:Bh}{k:Nat}{f C:Addr}{fd:VU}{ps ks:List Str}{sp:Sp}{E:XK}{x m:Str}{p pos apos kpos:Pos}{e o:Expr}{es:List Expr}{kws:List Z9}{te ta:TE}{t tk:TA}{nm:Option Str}
structure Sq(K:TV)(fd:VU)(ps ks:List Str)(g:List Value->List Value->List Value)(gV:List V->List V->List V):Prop where
 to: ∀(s:T7)(us ws:List Value),K.In s.heap->(g us ws).length=ps.length->Zj s fd ⟨us,ks.zip ws⟩ (ps.zip (g us ws))
 rel: ∀{vs:List V}{us:List Value}{zs:List V}{ws:List Value},Vals vs us->Vals zs ws->Vals (gV vs zs) (g us ws)
variable{g:List Value->List Value->List Value}{gV:List V->List V->List V}
end
structure dO(N P:List Str)(sc:Scope):Prop where
 kind:sc.kind= .function
 co:sc.isCoroutine=false
 gen:sc.isGenerator=false
 nd:N.Nodup
 pre:N.take P.length=P
 par: ∀ x∈P,sc.names.lookup x=some .local\/sc.names.lookup x=some .cell
 Lg: ∀ y∈sc.names,y.2≠ .free
theorem q9{kindOf:Str->Option Xi}{x:Str}: ∀{binds:List (Str × Value)}{m:Str->Option Value},(∀ v,(x,v) ∉ binds)->bindL kindOf binds m x=m x
 | [],_,_=>rfl
 | (n,v)::r,m,h=>by
  unfold bindL;rw[q9 λw hw=>h w (Uo _ hw)];split
  . have:x≠n:=by rintro rfl;exact h v Uk
    simp[this]
  . rfl
theorem qU{kindOf:Str->Option Xi}{x:Str}: ∀{binds:List (Str × Value)}{m:Str->Option Value},(∀ v,(x,v) ∉ binds)->bindC kindOf binds m x=m x
 | [],_,_=>rfl
 | (n,v)::r,m,h=>by
  unfold bindC;rw[qU λw hw=>h w (Uo _ hw)];split
  . rfl
  . have:x≠n:=by rintro rfl;exact h v Uk
    simp[this]
theorem rL{kindOf:Str->Option Xi}{x:Str}{v:Value}: ∀{P:List Str}{vs:List Value}{i:Nat}{m:Str->Option Value},P.Nodup->P[i]?=some x->vs[i]?=some v->kindOf x=some .local ->
  bindL kindOf (P.zip vs) m x=some v
 | [],_,_,_,_,h,_,_=>by simp at h
 | _::_,[],_,_,_,_,h,_=>by simp at h
 | p::P,w::vs,0,m,nd,h1,h2,hk=>by
  simp at h1 h2;subst h1;subst h2;show bindL kindOf ((p,w)::P.zip vs) m p=_;unfold bindL;rw[q9 λv hv=>(Wq.mp nd).1 (ZD hv).1,if_pos hk];simp
 | p::P,w::vs,i+1,m,nd,h1,h2,hk=>by
  show bindL kindOf ((p,w)::P.zip vs) m x=_;unfold bindL;exact rL (i:=i) (Wq.mp nd).2 (by simpa using h1) (by simpa using h2) hk
theorem qW{kindOf:Str->Option Xi}{x:Str}{v:Value}: ∀{P:List Str}{vs:List Value}{i:Nat}{m:Str->Option Value},P.Nodup->P[i]?=some x->vs[i]?=some v->kindOf x≠some .local ->
  bindC kindOf (P.zip vs) m x=some v
 | [],_,_,_,_,h,_,_=>by simp at h
 | _::_,[],_,_,_,_,h,_=>by simp at h
 | p::P,w::vs,0,m,nd,h1,h2,hk=>by
  simp at h1 h2;subst h1;subst h2;show bindC kindOf ((p,w)::P.zip vs) m p=_;unfold bindC;rw[qU λv hv=>(Wq.mp nd).1 (ZD hv).1,if_neg hk];simp
 | p::P,w::vs,i+1,m,nd,h1,h2,hk=>by
  show bindC kindOf ((p,w)::P.zip vs) m x=_;unfold bindC;exact qW (i:=i) (Wq.mp nd).2 (by simpa using h1) (by simpa using h2) hk
noncomputable def start(N:List Str)(vs:List V):St:=vs.map some++Uc (N.length - vs.length) none
noncomputable def jH(CX:Bh)(P:Uy)(w:World)(K:TV)(mg:Str->Option Value)(base:Heap)(N:List Str)(qual:Str)(scope:Scope)(f:Addr)(cd:Value)(A:UW)(outer:List Env)(s:T7)(H:Hp)(E:XK):Cx where
 prog:=P
 w:=w
 K:=K
 mg:=mg
 base:=base
 A:=A.deeper (Yq qual scope s.heap.objs.size f cd)
 N:=N
 s₀ :=s
 H₀ :=H
 env:=Yq qual scope s.heap.objs.size f cd
 outer:=outer
 stack:=Yq qual scope s.heap.objs.size f cd::outer
 ex:=[]
 calm:=true
 fn:=λ_=>true
 pn:=[]
 xe:=λe s'=>wpAny (model P w) (A.deeper (Yq qual scope s.heap.objs.size f cd)) (leaving (Yq qual scope s.heap.objs.size f cd) e) (λ_ s''=>CX outer H s E e s'') (λe' s''=>CX outer H s E e' s'') s'
theorem uW{sc:Scope}{n:Nat}{x:Str}(h:sc.names.lookup x=some .cell): ∃ c,(cellsFrom n sc.names []).lookup x=some c:=by
 have q:=Zl sc.names n [] (.inl h);exact Option.isSome_iff_exists.mp q
theorem AB{CX:Bh}{P:Uy}{w:World}{K:TV}{mg:Str->Option Value}{base:Heap}{N ps:List Str}{qual:Str}{scope:Scope}{f:Addr}{cd:Value}{A:UW}{outer:List Env}{s s1:T7}{H:Hp}{E:XK}{us:List Value}{vs:List V}
  (S:dO N ps scope) (hd:A.handled=none) (e0:wI P w K mg base A outer s H) (hl:vs.length=ps.length) (r:Vals vs us)
  (x:InCallC s s.heap.objs.size (bindL (Yq qual scope s.heap.objs.size f cd).kindOf (ps.zip us) λ_=>none) (cellsFrom (s.heap.objs.size+1) scope.names []) (bindC (Yq qual scope s.heap.objs.size f cd).kindOf (ps.zip us) λ_=>none) s1) :
  Inv (jH CX P w K mg base N qual scope f cd A outer s H E) [] (start N vs) H s1:=by
 have hpl:ps.length<=N.length:=by have:=congrArg aa9 S.pre;rw[Ve] at this;omega
 obtain⟨h1,tk,rfl,hk⟩:=x.done;have noA: ∀ b:Addr,b ∉ (jH CX P w K mg base N qual scope f cd A outer s H E).ex:=λb z=>absurd (show b∈([]:List Addr) from z) (by simp);refine⟨⟨e0.mod,S.kind,rfl,rfl,Ua _,λy z c h1 h2=>?_,λy hy=>?_,λy c _ h=>?_,λ_=>hd,Around.frames_deeper e0.frames,.inr ⟨rfl,rfl⟩,λb z=>absurd z (noA b),e0.bs,e0.ED,λb _ _=>noA b,λb z=>absurd z (noA b),e0.mH,e0.Jb⟩,
  rfl,e0.bare,Un.kept hk,⟨_,x.toInCall.ns,λi y v h1 h2 h3=>?_⟩,λy c h=>⟨_,x.cell y c h⟩,e0.bq.fresh (Ua _),λy c h=>?_,λp hp=>absurd (show p∈([]:List (Addr × Obj)) from hp) (by simp),e0.bq.kept hk,?_⟩
 . exact name_of_addr x.apart (WC h1) (WC h2)
 . have hy:scope.names.lookup y=some .cell\/scope.names.lookup y=some .free:=hy;rcases hy with hy | hy
   . exact uW hy
   . exact absurd rfl (S.Lg _ (WC hy))
 . exact Wr (x.above y c (WC h))
 . have hi:i < vs.length:=by
    unfold start at h2;by_cases hi:i < vs.length
    . exact hi
    . rw[UD (by simpa using hi)] at h2;rw[WG] at h2;split at h2<;>cases h2
   have ha:vs[i]?=some v:=by
    unfold start at h2;rw[UT (by simpa using hi),Uq] at h2;cases e:vs[i]? with
    | none=>rw[e] at h2;cases h2
    | some a=>rw[e] at h2;cases h2;rfl
   obtain⟨u,hu,rv⟩:=r.get ha;have hp:ps[i]?=some y:=by
    rw[<- S.pre,List.getElem?_take_of_lt (by omega)];exact h1
   have ndP:ps.Nodup:=by rw[<- S.pre];exact S.nd.sublist (List.take_sublist _ _)
   refine⟨u,rv,?_⟩;rcases S.par y (Ue hp) with k | k
   . exact .inl ⟨k,rL ndP hp hu k⟩
   . obtain⟨c,e⟩:=uW (n:=s.heap.objs.size+1) k;refine .inr ⟨.inl k,c,e,?_⟩;have q:=x.cell y c e;rw[qW ndP hp hu (by show scope.names.lookup y≠_;rw[k];decide)] at q;exact q
 . exact e0.bq.fresh (Wr (x.above y c (WC h)))
 . unfold start;show _=N.length;rw[Ur,TZ,ZJ];omega
theorem O6{CX:Bh}{P:Uy}{w:World}{K:TV}{mg:Str->Option Value}{base:Heap}{k:Nat}{f:Addr}{name qual:Str}{params:Arguments}{body:List Stmt}{scope:Scope}{dV kV doc pm cdv ct oc:Value}{an od:Option Addr}
  {osl:Array (Option Value)} {N ps:List Str} {sp:Sp} (lk:K.lookup f=some ⟨oc,od,.func (Vi name qual params body scope dV kV doc pm an cdv ct),osl⟩) (hcd:X8 K cdv qual=true) (S:dO N ps scope)
  (len: ∀ vs H Q E,sp vs H Q E->vs.length=ps.length)
  (hbody: ∀(A:UW)(outer:List Env)(s:T7)(H:Hp)(vs:List V)(Q:VK)(E:XK),dE k (A.deeper (Yq qual scope s.heap.objs.size f cdv))->sp vs H Q E ->
   ∃ t,x6 (jH CX P w K mg base N qual scope f cdv A outer s H E) body t/\t { nx:=λ_ H'=>Q .non H',rt:=Q } (start N vs) H) :
  k8 P w K mg base CX (k+1) f (Vi name qual params body scope dV kV doc pm an cdv ct) ps sp:=by
 refine⟨len,λA outer s H args us vs Q E hr e0 hb r hsp=>?_⟩;have hl:=len _ _ _ _ hsp;have KX:K.In s.heap:=e0.mod.RO.keeps λb o e=>(e0.bs b o e).1;have lim:s.heap.NoLimit:=e0.mod.nolimit.keeps λb o e=>(e0.bs b o e).1;have hkind: ∀ y∈ps.zip us,scope.names.lookup y.1=some .local\/(scope.names.lookup y.1=some .cell/\((cellsFrom (s.heap.objs.size+1) scope.names []).lookup y.1).isSome=true):=λ⟨n,v⟩ hy=>by
  rcases S.par n (ZD hy).1 with q | q
  . exact .inl q
  . exact .inr ⟨q,Zl _ _ _ (.inl q)⟩
 refine codeAny_call_function hr.depth (KX _ _ lk) rfl S.co S.gen rfl (PySem.W.codeRec_of KX hcd) (hb _ _ _ _ ?_);refine wpAny_newFunctionEnv_cells S.kind hkind λenv he s1 x=>?_;subst he;refine⟨lim.keeps x.toInCall.keep,codeAny_func ?_⟩;obtain⟨t,ht,hq⟩:=hbody A outer s H vs Q E (hr.deeper _) hsp;have I:Inv (jH CX P w K mg base N qual scope f cdv A outer s H E) [] (start N vs) H s1:=AB S hr.hd e0 hl r x;refine UZ (ht [] s1 (start N vs) H _ I hq) (λfl s' hs=>?_) λe s' hs=>hs;have fin: ∀{σ':St}{H':Hp}{v:V}{u:Value},Inv (jH CX P w K mg base N qual scope f cdv A outer s H E) [] σ' H' s'->RelV v u->Q v H'->CE outer P w H s Q u s' :=
  λ{σ' H' v u} J rv q=>⟨v,H',J.os,J.bare,J.base,J.bq,rv,q⟩
 cases fl with
 | ret u =>
  obtain ⟨v, σ',H',J,rv,q⟩:=hs
  exact fin J rv q
 | next =>
  obtain ⟨σ',H',J,q⟩:=hs
  exact fin (v:=V.non) (u:=Wc) J rfl q
 | brk =>
  obtain⟨_,_,_,q⟩:=hs
  exact VN q
 | cont =>
  obtain⟨_,_,_,q⟩:=hs
  exact VN q
section
variable{X:Cx}{x:Str}{p pos:Pos}{e:Expr}{es:List Expr}{t:TA}{id T:String}{r:List V->Hp->VK->Prop}
noncomputable def NB(r:List V->Hp->VK->Prop)(t:TA):TE:=fun σ H Q=>t σ H λvs H1=>r vs H1 Q
theorem BS(hc:aQ X (.builtin id) r)(hg:Gl X x)(hm:X.mg x=none)(hv:Vu x=some (.builtin id))(ha:PA X (e::es) t)(hn:x≠ "__name__" :=by decide)(hdb:(x == ("__debug__" :Str))=false:=by decide)
  (he:UY (e::es) X.env=(false,eval e X.env)::UY es X.env:=by rfl) (hpl:(Xx pos (UY es X.env)).any (·.1)=false:=by rfl):PE X (.Call (.Name x p) (e::es) [] pos) (NB r t):=by
 intro pins s σ H Q I h;refine Yp (iR I hg hm hv ?_ hn hdb);exact PyProof.Rows.callWith_builtin1 (cC (ha pos pins s σ H _ I h) λus s1 ⟨vs,H1,I1,r1,q1⟩=>hc pins s1 σ H1 vs us Q I1 r1 q1) he hpl
theorem zX(hc:aQ X (.type T) r)(hg:Gl X x)(hm:X.mg x=none)(hv:Vu x=some (.type T))(ha:PA X (e::es) t)(hn:x≠ "__name__" :=by decide)(hdb:(x == ("__debug__" :Str))=false:=by decide)
  (he:UY (e::es) X.env=(false,eval e X.env)::UY es X.env:=by rfl) (hpl:(Xx pos (UY es X.env)).any (·.1)=false:=by rfl):PE X (.Call (.Name x p) (e::es) [] pos) (NB r t):=by
 intro pins s σ H Q I h;refine Yp (iR I hg hm hv ?_ hn hdb);exact Vo (cC (ha pos pins s σ H _ I h) λus s1 ⟨vs,H1,I1,r1,q1⟩=>hc pins s1 σ H1 vs us Q I1 r1 q1) he hpl
end
end L2
namespace HT
open PySem PyProof.Rows
section
variable{prog:Uy}{w:World}{A:UW}{E:Value->T7->Prop}{s:T7}
theorem GW{t b:Addr}{vs ws:List Value}{Q:Value->T7->Prop}(ht:IsTup s.heap t vs.toArray)(hb:IsTup s.heap b ws.toArray)(hv:vs≠[])
  (h1:ws=[]->Q (.ref t) s) (h2:ws≠[]->Q (.ref s.heap.objs.size) { s with heap:=s.heap.push { cls:= .type "tuple",data:= .seq (vs++ws).toArray } })
  (hsz:vs.length+ws.length<=sizeLine):wpAny (model prog w) A (Vw .Add (.ref t) (.ref b)) Q E s:=by
 obtain⟨⟨cls,dd,data,sl⟩,ho,hc,n,hd⟩:=id ht;obtain⟨⟨cls2,dd2,data2,sl2⟩,ho2,hc2,n2,hd2⟩:=id hb;simp only at hc hd hc2 hd2;subst hc hd hc2 hd2;have e:vs.toArray++ws.toArray=(vs++ws).toArray:=by simp
 by_cases hw:ws=[]
 . exact aaH ⟨_,ho,rfl⟩ ⟨_,ho2,rfl⟩ Y7 aam XB Xr (Xj _ _)
    (tuple_addW1 t b vs.toArray ws.toArray n n2 dd dd2 sl sl2 (by simpa using hv) (by simp[hw])) ⟨ho,ho2,h1 hw⟩
 . refine aaH ⟨_,ho,rfl⟩ ⟨_,ho2,rfl⟩ Y7 aam XB Xr (Xj _ _)
    (tuple_addW2 t b vs.toArray ws.toArray n n2 dd dd2 sl sl2 (by simpa using hv) (by simpa using hw) (by rw[Uh,Uh];exact hsz)) ⟨ho,ho2,?_⟩
   rw[e];exact h2 hw
noncomputable def cQ(n d:Nat):Option Int->Nat
 | none=>d
 | some v=>if v < 0 then(v+(n:Int)).toNat else min v.toNat n
theorem kX(n d:Nat):cQ n d none=d:=rfl
theorem nK(n d k:Nat):cQ n d (some (k:Int))=min k n:=by
 show(if (k:Int) < 0 then((k:Int)+(n:Int)).toNat else min (k:Int).toNat n)=min k n;rw[if_neg (by omega),Vc]
theorem Md(n d:Nat)(hd:d<=n)(o:Option Int):cQ n d o<=n:=by
 cases o with
 | none=>exact hd
 | some v =>
  show(if v < 0 then(v+(n:Int)).toNat else min v.toNat n)<=n
  by_cases hv:v < 0
  . rw[if_pos hv];omega
  . rw[if_neg hv];exact XN _ _
theorem yi(v:Int)(n d:Nat):(if v < 0 then max (v+(n:Int)) 0 else min v (n:Int))=((cQ n d (some v):Nat):Int):=by
 show(if v < 0 then max (v+(n:Int)) 0 else min v (n:Int))=(((if v < 0 then(v+(n:Int)).toNat else min v.toNat n):Nat):Int)
 by_cases hv:v < 0
 . simp only[if_pos hv];omega
 . simp only[if_neg hv];omega
theorem x9(lo hi:Option Int)(n:Nat):Xa lo hi 1 (n:Int)=(((cQ n 0 lo:Nat):Int),((cQ n n hi:Nat):Int)):=by
 have h1: ¬ ((1:Int) < 0):=by omega
 unfold Xa;simp only[h1,if_false];refine Prod.ext ?_ ?_
 . cases lo with
   | none=>rfl
   | some v=>exact yi v n 0
 . cases hi with
   | none=>rfl
   | some v=>exact yi v n n
theorem xv(i j:Nat):Wl (i:Int) (j:Int) 1=j - i:=by
 unfold Wl;have h1:(1:Int) > 0:=by omega
 simp only[h1,if_true,Int.ediv_one];split<;>omega
theorem pW{v:Value}{o:Option Int}{Q:Option Int->T7->Prop}(p:Zm v o)(h:Q o s):wpAny (model prog w) A (Builtin.Slice.slicePartIndex v) Q E s:=by
 cases p with
 | none=>exact slicePart_none h
 | int i t=>exact slicePart_int h
theorem gX{sl:Addr}{vl vu:Value}{lo hi:Option Int}{n:Nat}{Q:Int × Int × Nat->T7->Prop}(hs:s.heap.IsSliceOf sl vl vu .none)(pl:Zm vl lo)(pu:Zm vu hi)
  (h:Q (((cQ n 0 lo:Nat):Int),1,cQ n n hi - cQ n 0 lo) s):wpAny (model prog w) A (Yr (.ref sl) (pure (n:Int))) Q E s:=by
 obtain⟨os,hos,hcs,hds⟩:=id hs;unfold Yr Builtin.Slice.sliceFields;refine TY (TY (Vy hos hds (x:=vl) rfl (TY (Vy hos hds (x:=vu) rfl (TY (Vy hos hds (x:= .none) rfl (Ud ?_)))))));refine TY (slicePart_none ?_);show wpAny _ _ (if ((1:Int) == 0)=true then _ else _) _ _ s;rw[if_neg (by decide)];refine TY (pW pl (TY (pW pu (TY (Ud ?_)))));show wpAny _ _ (match Xa lo hi 1 (n:Int) with | (lo,hi)=>pure (lo,(1:Int),Wl lo hi 1)) _ _ s;rw[x9 lo hi n];show wpAny _ _ (pure (((cQ n 0 lo:Nat):Int),(1:Int),Wl ((cQ n 0 lo:Nat):Int) ((cQ n n hi:Nat):Int) 1)) _ _ s;rw[xv];exact Ud h
theorem BH(xs:Array Value)(i k:Nat):((UR k).filterMap λ(m:Nat)=>xs[((i:Int)+(m:Int)*1).toNat]?).toArray=((xs.toList.drop i).take k).toArray:=by
 have e:(λ(m:Nat)=>xs[((i:Int)+(m:Int)*1).toNat]?)=λm=>xs[i+m]?:=by
  funext m
  have:((i:Int)+(m:Int)*1).toNat=i+m:=by omega
  rw[this]
 rw[e];have:=pick_run xs i k;rw[List.filterMap_map] at this;have e2:((λx=>xs[x]?) ∘ λx=>i+x)=λm=>xs[i+m]?:=rfl;rw[e2] at this;rw [this]
theorem lh {t sl : Addr} {items : Array Value} {vl vu : Value} {lo hi : Option Int} {Q : Value -> T7 -> Prop} (ht : IsTup s.heap t items) (hs : s.heap.IsSliceOf sl vl vu .none) (pl : Zm vl lo) (pu : Zm vu hi)
    (hw : ¬ (cQ items.size 0 lo = 0 /\ cQ items.size items.size hi = items.size))
    (h : Q (.ref s.heap.objs.size) { s with heap := s.heap.push { cls := .type "tuple", data := .seq ((items.toList.drop (cQ items.size 0 lo)).take (cQ items.size items.size hi - cQ items.size 0 lo)).toArray } })
    (hsz : items.size <= sizeLine) : wpAny (model prog w) A (Yf (.ref t) (.ref sl)) Q E s := by
  have htake : sizeOk (.seq ((items.toList.drop (cQ items.size 0 lo)).take (cQ items.size items.size hi - cQ items.size 0 lo)).toArray) := by
    show ((items.toList.drop (cQ items.size 0 lo)).take (cQ items.size items.size hi - cQ items.size 0 lo)).toArray.size <= sizeLine;rw [Uh, Ve, VW, VR];omega
  have hj : cQ items.size items.size hi <= items.size := Md _ _ (Ua _) hi;obtain ⟨os, hos, hcs, hds⟩ := id hs;have hTs : s.TypeIs (.ref sl) "slice" := ⟨os, hos, hcs⟩
  unfold Yf
  try with_reducible refine VJ ?_
  first | refine TY (Ud ?_) | skip
  refine TY (wpAny_sequenceKey ht.typeIs (by decide) ?_);refine TY (VH (name := Ul "__getitem__") ht.typeIs U4
    (VX U4 ht.typeIs aad ?_ (aav _ _)))
  show wpAny _ _ (Ys (.ref t) >>= _) _ _ s;refine TY (tupleItemsOf_ ht ?_);refine TY (W8 hTs ?_);rw [if_pos (by decide)];refine TY (gX hs pl pu ?_);have hno : ¬ ((((cQ items.size 0 lo : Nat) : Int) == 0 && (1 : Int) == 1 && (cQ items.size items.size hi - cQ items.size 0 lo) == items.size) = true) := by
    intro q;rw [Ut, Ut] at q;have q1 : ((cQ items.size 0 lo : Nat) : Int) = 0 := eq_of_beq q.1.1;have q2 : cQ items.size items.size hi - cQ items.size 0 lo = items.size := eq_of_beq q.2;exact hw ⟨by omega, by omega⟩
  show wpAny _ _ (if (((cQ items.size 0 lo : Nat) : Int) == 0 && (1 : Int) == 1 && (cQ items.size items.size hi - cQ items.size 0 lo) == items.size) = true then _ else _) _ _ s;rw [if_neg hno, BH]
  first
    | exact TY (m := VD _) (Vz (Ud ⟨_, rfl, Ud h⟩) htake)
    | exact TY (m := VD _) (Vz (TY (Ud (Ud ⟨_, rfl, Ud h⟩))) htake)
    | exact TY (TY (m := VD _) (Vz (Ud (Ud ⟨_, rfl, Ud h⟩)) htake))
    | exact TY (TY (m := VD _) (Vz (Ud ⟨_, rfl, Ud h⟩) htake))
end
end HT
namespace L2
open PySem PySem.Spec PyProof.Rows
abbrev TO:=St->Hp->(Option Int->Hp->Prop)->Prop
noncomputable def PO(X:Cx)(e:Option Expr)(t:TO):Prop :=
 ∀(pins:List (Addr × Obj))(s:T7)(σ :St)(H:Hp)(Q:Option Int->Hp->Prop),Inv X pins σ H s->t σ H Q ->
  wpAny (model X.prog X.w) X.A (evalPart e X.env) (λu s'=> ∃ o H',Inv X pins σ H' s'/\Zm u o/\Q o H') X.xe s
noncomputable def yB:TO:=λ_ H Q=>Q none H
noncomputable def IH(t:TE):TO:=fun σ H Q=>t σ H λx H1=> ∃ i,x= .int i/\Q (some i) H1
section
variable{X:Cx}{e:Expr}{te:TE}{lo hi:Option Expr}{tl th:TO}{pos p2:Pos}
theorem Ht:PO X none yB:=by
 intro pins s σ H Q I h;rw[evalPart_none];exact Ud ⟨none,H,I,.none,h⟩
theorem Hg(h:PE X e te):PO X (some e) (IH te):=by
 intro pins s σ H Q I hw;rw[evalPart_some];refine cC (h pins s σ H _ I hw) λu s1 ⟨x,H1,I1,r1,q1⟩=>?_;obtain⟨i,rfl,q⟩:=q1;obtain⟨t,rfl⟩:=r1;exact⟨some i,H1,I1,.int i t,q⟩
noncomputable def EA(X:Cx)(r:V->Option Int->Option Int->Hp->VK->Prop):Prop :=
 ∀(pins:List (Addr × Obj))(s:T7)(σ :St)(H:Hp)(x:V)(v vl vu:Value)(lo hi:Option Int)(sl:Addr)(Q:VK),Inv X pins σ H s->RelV x v->s.heap.IsSliceOf sl vl vu .none->Zm vl lo->Zm vu hi->r x lo hi H Q ->
  ∃ T id,typeLookup (.type T) "__getitem__" =pure (some (.builtin id))/\s.TypeIs v T/\wpAny (model X.prog X.w) X.A (Yf v (.ref sl)) (EP X pins σ Q) X.xe s
theorem EA.or{r r':V->Option Int->Option Int->Hp->VK->Prop}(h:EA X r)(h':EA X r'):EA X (λx lo hi H Q=>r x lo hi H Q\/r' x lo hi H Q):=by
 intro pins s σ H x v vl vu lo hi sl Q I rx hs pl pu q;rcases q with q | q
 . exact h pins s σ H x v vl vu lo hi sl Q I rx hs pl pu q
 . exact h' pins s σ H x v vl vu lo hi sl Q I rx hs pl pu q
noncomputable def Tn(r:V->Option Int->Option Int->Hp->VK->Prop)(te:TE)(tl th:TO):TE:=fun σ H Q=>te σ H λx H1=>tl σ H1 λl H2=>th σ H2 λu H3=>r x l u H3 Q
theorem Cc{r:V->Option Int->Option Int->Hp->VK->Prop}(hr:EA X r)(he:PE X e te)(hl:PO X lo tl)(hu:PO X hi th):PE X (.Subscript e (.Slice lo hi none p2) pos) (Tn r te tl th):=by
 intro pins s σ H Q I h;refine Subscript_ (cC (he pins s σ H _ I h) λv s1 ⟨x,H1,I1,r1,q1⟩=>?_);refine wpAny_Slice (cC (hl pins s1 σ H1 _ I1 q1) λvl s2 ⟨l,H2,I2,pl,q2⟩=>cC (hu pins s2 σ H2 _ I2 q2) λvu s3 ⟨u,H3,I3,pu,q3⟩=>?_);rw[evalPart_none];refine Ud ?_;have I4:Inv X pins σ H3 { s3 with heap:=s3.heap.push { cls:= .type "slice",data:= .fields #[vl,vu,.none] } }:=I3.kept (t':=s3.toks) λb ob q=>T6 _ q;obtain⟨T,id,hT,ht,hg⟩:=hr pins { s3 with heap:=s3.heap.push { cls:= .type "slice",data:= .fields #[vl,vu,.none] } } σ H3 x v vl vu l u s3.heap.objs.size Q I4 r1 (abF ..) pl pu q3;show wpAny (model X.prog X.w) X.A (YU e (.Slice lo hi none p2) v (.ref s3.heap.objs.size)) (EP X pins σ Q) X.xe { s3 with heap:=s3.heap.push { cls:= .type "slice",data:= .fields #[vl,vu,.none] } };exact tail_any (ops:=[.ref s3.heap.objs.size,v]) ht hT hg (by with_unfolding_all rfl)
noncomputable def nG(xs:List V)(lo hi:Option Int):List V:=(xs.drop (HT.cQ xs.length 0 lo)).take (HT.cQ xs.length xs.length hi - HT.cQ xs.length 0 lo)
theorem nc(xs:List V)(lo hi:Option Int):(nG xs lo hi).length<=xs.length:=by
 unfold nG;rw[Ve,VW];omega
noncomputable def Qn(K:TV):V->Option Int->Option Int->Hp->VK->Prop:=λx lo hi H Q=> ∃ a xs,x= .ref a/\fc K H a xs /\
 ¬ (HT.cQ xs.length 0 lo=0/\HT.cQ xs.length xs.length hi=xs.length)/\ ∀ p,H p=none->Q (.ref p) (upd H p (.tup (nG xs lo hi)))
theorem Mh:EA X (Qn X.K):=by
 intro pins s σ H x v vl vu lo hi sl Q I rx hs pl pu h;obtain⟨a,xs,rfl,hx,hw,q⟩:=h;cases rx;obtain⟨ai,r,ht,hz⟩:=I.tuple hx;have hlen:ai.toArray.size=xs.length:=by rw[Uh];exact r.length.symm
 refine⟨"tuple",_,U4.lookup,ht.typeIs,?_⟩;refine HT.lh ht hs pl pu (by rw[hlen];exact hw) ?_ (by rw[hlen];exact hz);rw[hlen];refine⟨.ref s.heap.objs.size,_,I.laid (t':=s.toks) (o:= .tup (nG xs lo hi)) (λb ob q=>T6 _ q) (Ua _) ?_,rfl,q _ (I.bq.fresh (Ua _))⟩;exact⟨UM (nc xs lo hi) hz,_,(r.drop (HT.cQ xs.length 0 lo)).take (HT.cQ xs.length xs.length hi - HT.cQ xs.length 0 lo),qp.new _ _⟩
noncomputable def IT(K:TV):R2:=λx y H Q=> ∃ a b xs ys,x= .ref a/\y= .ref b/\fc K H a xs/\fc K H b ys/\xs≠[]/\xs.length+ys.length<=sizeLine /\
 (ys=[]->Q (.ref a) H)/\(ys≠[]-> ∀ p,H p=none->Q (.ref p) (upd H p (.tup (xs++ys))))
theorem Vals.nO{xs:List V}{us:List Value}(r:Vals xs us):us=[]↔xs=[]:=by
 cases r with
 | nil=>simp
 | cons _ _=>simp
theorem Fq:cW X (Vw .Add) (IT X.K):=by
 intro pins s σ H x y v u Q I rx ry h;obtain⟨a,b,xs,ys,rfl,rfl,ha,hb,hx,hz,q1,q2⟩:=h;cases rx;cases ry;obtain⟨ai,r1,p1,_⟩:=I.tuple ha;obtain⟨its2,r2,p2,_⟩:=I.tuple hb;refine HT.GW p1 p2 (λz=>hx (r1.nO.mp z)) (λz=>⟨.ref a,H,I,rfl,q1 (r2.nO.mp z)⟩) (λz=>?_) (by rw[<- r1.length,<- r2.length];exact hz);refine⟨.ref s.heap.objs.size,_,I.laid (t':=s.toks) (o:= .tup (xs++ys)) (λb ob q=>T6 _ q) (Ua _) ?_,rfl,q2 (λw=>z (r2.nO.mpr w)) _ (I.bq.fresh (Ua _))⟩;exact⟨by rw[Ur];exact hz,_,r1.append r2,qp.new _ _⟩
end
noncomputable def oM(n:Nat)(i:Int):Option Nat:=if 0<=i then(if i < n then some i.toNat else none) else if -(n:Int)<=i then some (i+n).toNat else none
noncomputable def dC{α :Type}(xs:List α)(i:Int):Option α :=(oM xs.length i).bind λj=>xs[j]?
theorem yN{n:Nat}{i:Int}{j:Nat}(h:oM n i=some j):seqIndex? i n=some j/\j < n/\ -(n:Int)<=i/\i < n:=by
 unfold oM at h;by_cases h0:0<=i
 . rw[if_pos h0] at h;by_cases h1:i < n
   . rw[if_pos h1] at h;have e:i.toNat=j:=U9 h;exact⟨by rw[aba h0 h1,e],by omega,by omega,h1⟩
   . rw[if_neg h1] at h;cases h
 . rw[if_neg h0] at h;by_cases h1: -(n:Int)<=i
   . rw[if_pos h1] at h;have e:(i+n).toNat=j:=U9 h;exact⟨by rw[aaI (by omega) h1,e],by omega,h1,by omega⟩
   . rw[if_neg h1] at h;cases h
theorem tO{α :Type}{xs:List α}{i:Int}{v: α}(h:dC xs i=some v): ∃ j,seqIndex? i xs.length=some j/\xs[j]?=some v/\j < xs.length/\ -(xs.length:Int)<=i/\i < xs.length:=by
 unfold dC at h;cases e:oM xs.length i with
 | none=>rw[e] at h;cases h
 | some j =>
  rw[e] at h
  obtain⟨h1,h2,h3,h4⟩:=yN e
  exact⟨j,h1,h,h2,h3,h4⟩
theorem eE{α :Type}{xs:List α}{j:Nat}{v: α}(h:xs[j]?=some v):dC xs (j:Int)=some v:=by
 have hj:j < xs.length:=(T1.mp h).1;have e:oM xs.length (j:Int)=some j:=by
  unfold oM;rw[if_pos (by omega),if_pos (by omega)];simp
 unfold dC;rw[e];exact h
noncomputable def sQ(b:Expr):Prop:= ∀ o i,YF b false o i=operate [o,i] (Yf o i)
noncomputable def AA(X:Cx)(r:R2):Prop :=
 ∀(value slice:Expr)(pins:List (Addr × Obj))(s:T7)(σ :St)(H:Hp)(x y:V)(v u:Value)(Q:VK),Inv X pins σ H s->RelV x v->RelV y u->r x y H Q ->
  YF slice false v u=operate [v,u] (Yf v u)->wpAny (model X.prog X.w) X.A (YU value slice v u) (EP X pins σ Q) X.xe s
noncomputable def IG(X:Cx)(id:String)(r:V->List V->Hp->VK->Prop):Prop :=
 ∀(pins:List (Addr × Obj))(s:T7)(σ :St)(H:Hp)(x:V)(xs:List V)(v:Value)(us:List Value)(Q:VK),Inv X pins σ H s->RelV x v->Vals xs us->r x xs H Q ->
  wpAny (model X.prog X.w) X.A (call (.builtin id) (v::us)) (EP X pins σ Q) X.xe s
section
variable{X:Cx}{a b:Expr}{ta tb:TE}{pos:Pos}
theorem AA.or{r r':R2}(h:AA X r)(h':AA X r'):AA X (λx y H Q=>r x y H Q\/r' x y H Q):=by
 intro value slice pins s σ H x y v u Q I rx ry q hs;rcases q with q | q
 . exact h value slice pins s σ H x y v u Q I rx ry q hs
 . exact h' value slice pins s σ H x y v u Q I rx ry q hs
theorem OQ{r:R2}(hr:AA X r)(ha:PE X a ta)(hb:PE X b tb)(hs:sQ b):PE X (.Subscript a b pos) (F9 r ta tb):=by
 intro pins s σ H Q I h;exact Subscript_ (KS ha hb I h λv u s2 x y H2 I2 rx ry q=>hr a b pins s2 σ H2 x y v u Q I2 rx ry q (hs _ _))
noncomputable def Q2(K:TV):R2:=λx y H Q=> ∃ p xs i v,x= .ref p/\y= .int i/\iF K H p xs/\dC xs i=some v/\Q v H
noncomputable def O4(K:TV):R2:=λx y H Q=> ∃ p xs i v,x= .ref p/\y= .int i/\fc K H p xs/\dC xs i=some v/\Q v H
noncomputable def Px:R2:=λx y H Q=> ∃ z i c,x= .str z/\y= .int i/\z.length<=sizeLine/\dC z.cps.toList i=some c/\Q (.str ⟨#[c]⟩) H
theorem Ho:AA X (Q2 X.K):=by
 intro value slice pins s σ H x y v u Q I rx ry h hs;obtain⟨p,xs,i,z,rfl,rfl,hq,he,q⟩:=h;cases rx;obtain⟨t,rfl⟩:=ry;obtain⟨ai,r,pl,hz⟩:=I.list hq;obtain⟨j,h1,h2,h3,h4,h5⟩:=tO he;obtain⟨w,ew,rw'⟩:=r.get h2;have hl:=r.length;have hn:=lP;have fin:EP X pins σ Q w s:=⟨z,H,I,rw',q⟩
 by_cases h0:0<=i
 . have hj:i.toNat=j:=by
    rw[aba h0 h5] at h1;exact U9 h1
   exact item_listR pl.isList h0 (by omega) (by rw[hj];simpa using ew) fin hs
 . have hj:(i+(ai.toArray.size:Int)).toNat=j:=by
    rw[aaI (by omega) h4] at h1;rw[Uh,<- hl];exact U9 h1
   exact Zn (x:=w) pl.isList.typeIs slot_list_getitem.lookup
    (wpAny_getItem_list_neg (Q:=λr s'=>r=w/\EP X pins σ Q r s') pl.isList (by omega) (by rw[Uh]<;>omega) (by omega) (by rw[hj];simpa using ew) ⟨rfl,fin⟩) hs
theorem Jq:AA X (O4 X.K):=by
 intro value slice pins s σ H x y v u Q I rx ry h hs;obtain⟨p,xs,i,z,rfl,rfl,hq,he,q⟩:=h;cases rx;obtain⟨t,rfl⟩:=ry;obtain⟨ai,r,pl,hz⟩:=I.tuple hq;obtain⟨j,h1,h2,h3,h4,h5⟩:=tO he;obtain⟨w,ew,rw'⟩:=r.get h2;have hl:=r.length;have hn:=lP;have fin:EP X pins σ Q w s:=⟨z,H,I,rw',q⟩
 exact Zn (x:=w) pl.typeIs U4.lookup
  (getItem_tuple (j:=j) (Q:=λr s'=>r=w/\EP X pins σ Q r s') pl (by omega) (by omega) (by rw[Uh,<- hl];exact h1) (by simpa using ew) ⟨rfl,fin⟩) hs
theorem K8:AA X Px:=by
 intro value slice pins s σ H x y v u Q I rx ry h hs;obtain⟨z,i,c,rfl,rfl,hz,he,q⟩:=h;obtain⟨t,rfl⟩:=rx;obtain⟨t',rfl⟩:=ry;obtain⟨j,h1,h2,h3,h4,h5⟩:=tO he;have hl:z.cps.toList.length=z.length:=by simp[Str.length]
 rw[hl] at h1 h4 h5;have hn:=lP;exact tail_any (aaw s z t) slot_str_getitem.lookup (getItem_str (c:=c) (by
  have e1:decide (i < -(2 ^ 63:Int))=false:=decide_eq_false (by omega);have e2:decide (i ≥ 2 ^ 63)=false:=decide_eq_false (by omega);rw[e1,e2,Bool.or_false]) (by rw[h1];simpa using h2) ⟨.str ⟨#[c]⟩,H,I.tok _,⟨_,rfl⟩,q⟩) hs
noncomputable def TM(K:TV):R2:=λx y H Q=>Q2 K x y H Q\/O4 K x y H Q\/Px x y H Q
theorem NF:AA X (TM X.K):=Ho.or (Jq.or K8)
theorem wu(ai:List Value)(n j:Nat)(u:Value):Wf (·.setIfInBounds j u) { cls:= .type "list",data:= .seq ai.toArray n }={ cls:= .type "list",data:= .seq (ai.set j u).toArray n }:=by
 simp[Wf]
theorem Inv.lst{pins:List (Addr × Obj)}{σ :St}{H:Hp}{s:T7}{p:Addr}{xs:List V}(I:Inv X pins σ H s)(h:H p=some (.lst xs)) :
  ∃(ai:List Value)(n:Nat),Vals xs ai/\s.heap.get? p=some { cls:= .type "list",data:= .seq ai.toArray n }/\xs.length<=sizeLine:=by
 obtain⟨z,ai,n,r,e⟩:=I.bq p _ h;exact⟨ai,n,r,e,z⟩
theorem Inv.MR{pins:List (Addr × Obj)}{σ :St}{H:Hp}{s:T7}{p:Addr}{xs ys:List V}{ai its':List Value}{n n':Nat}{f:Obj->Obj}(I:Inv X pins σ H s)(h:H p=some (.lst xs))
  (ho:s.heap.get? p=some { cls:= .type "list",data:= .seq ai.toArray n }) (hf:f { cls:= .type "list",data:= .seq ai.toArray n }={ cls:= .type "list",data:= .seq its'.toArray n' }) (r:Vals ys its') (hz:ys.length<=sizeLine) (t:Nat) :
  Inv X pins σ (upd H p (.lst ys)) { s with heap:=s.heap.update p f,toks:=t }:=by
 have e:(s.heap.update p f).get? p=some { cls:= .type "list",data:= .seq its'.toArray n' }:=by
  rw[ZK f ho (by rw[hf]<;>rfl),hf]
 refine I.write (x:=p) (e:=p) (by rw[h];trivial) (.inl rfl) (λb u hb q=>(Zo _ _ (WB hb)).trans q) ⟨_,e⟩ ?_;exact⟨hz,its',n',r,e⟩
noncomputable def P0:V->V->V->Hp->(Hp->Prop)->Prop:=λo i v H Q=> ∃ p xs k j,o= .ref p/\i= .int k/\H p=some (.lst xs)/\oM xs.length k=some j/\Q (upd H p (.lst (xs.set j v)))
theorem set_list:qI X P0:=by
 intro pins s σ H o i v ov iv u Q I ro ri rv h;obtain⟨p,xs,k,j,rfl,rfl,hp,hj,q⟩:=h;cases ro;obtain⟨t,rfl⟩:=ri;obtain⟨ai,n,r,ho,hz⟩:=I.lst hp;obtain⟨h1,h2,h3,h4⟩:=yN hj;have hl:=r.length;have hn:=lP;have I':Inv X pins σ (upd H p (.lst (xs.set j v))) { s with heap:=s.heap.update p (Wf (·.setIfInBounds j u)) } :=
  I.MR hp ho (wu ai n j u) (r.set rv j) (by rw[UI];exact hz) s.toks
 by_cases h0:0<=k
 . have hk:k.toNat=j:=by
    rw[aba h0 h4] at h1;exact U9 h1
   exact PySem.W.ki_setAt ho h0 (by omega) (by rw[Uh,<- hl];exact h4) (by rw[hk];exact⟨_,I',q⟩)
 . have hk:(k+(ai.toArray.size:Int)).toNat=j:=by
    rw[aaI (by omega) h3] at h1;rw[Uh,<- hl];exact U9 h1
   exact PySem.W.ki_setBack ho (by omega) (by rw[Uh,<- hl];exact h3) (by omega) (by rw[hk];exact⟨_,I',q⟩)
theorem sy(lo hi:Option Int)(n:Nat):(Xs lo hi none n).1=((HT.cQ n 0 lo:Nat):Int)/\(Xs lo hi none n).2.1=((HT.cQ n n hi:Nat):Int)/\(Xs lo hi none n).2.2=1:=by
 refine⟨?_,?_,rfl⟩
 . cases lo with
   | none=>simp[Xs,HT.cQ]
   | some i =>
    simp only[Xs,HT.cQ,aaZ,show(1:Int) > 0 by decide,if_true]
    by_cases h:i < 0
    . simp only[h,if_true]<;>omega
    . simp only[h,if_false]<;>omega
 . cases hi with
   | none=>simp[Xs,HT.cQ]
   | some i =>
    simp only[Xs,HT.cQ,aaZ,show(1:Int) > 0 by decide,if_true]
    by_cases h:i < 0
    . simp only[h,if_true]<;>omega
    . simp only[h,if_false]<;>omega
theorem qL(ai:List Value)(lo hi:Option Int):slicePick ai.toArray lo hi none=((ai.drop (HT.cQ ai.length 0 lo)).take (HT.cQ ai.length ai.length hi - HT.cQ ai.length 0 lo)).toArray:=by
 obtain⟨h1,h2,h3⟩:=sy lo hi ai.toArray.size;unfold slicePick;rw[h1,h2,h3];simp only[sliceRange_one,pick_run,Uh]<;>rfl
noncomputable def Qz(K:TV):V->Option Int->Option Int->Hp->VK->Prop:=λx lo hi H Q=> ∃ a xs,x= .ref a/\iF K H a xs/\ ∀ p,H p=none->Q (.ref p) (upd H p (.lst (nG xs lo hi)))
theorem HE:EA X (Qz X.K):=by
 intro pins s σ H x v vl vu lo hi sl Q I rx hs pl pu h;obtain⟨a,xs,rfl,hx,q⟩:=h;cases rx;obtain⟨ai,r,ht,hz⟩:=I.list hx;have hlen:=r.length;refine⟨"list",_,slot_list_getitem.lookup,ht.isList.typeIs,?_⟩;refine wpAny_getItem_list_slice ht.isList hs pl pu .none (by simp) ?_ (by rw[Uh]<;>omega);rw[qL,<- hlen];refine⟨.ref s.heap.objs.size,_,I.laid (t':=s.toks) (o:= .lst (nG xs lo hi)) (λb ob q=>T6 _ q) (Ua _) ?_,rfl,q _ (I.bq.fresh (Ua _))⟩;exact⟨UM (nc xs lo hi) hz,_,0,(r.drop (HT.cQ xs.length 0 lo)).take (HT.cQ xs.length xs.length hi - HT.cQ xs.length 0 lo),Um _ rfl⟩
noncomputable def iJ:V->Bool
 | .non=>true
 | .bl _=>true
 | .int _=>true
 | .str _=>true
 | _=>false
noncomputable def GJ:V->V->Bool
 | .non,.non=>true
 | .bl a,.bl b=>a == b
 | .bl a,.int b=>(if a then 1 else 0) == b
 | .int a,.bl b=>a == (if b then 1 else 0)
 | .int a,.int b=>a == b
 | .str a,.str b=>a == b
 | _,_=>false
theorem Kn{A:UW}{s:T7}{y x:V}{u v:Value}(ry:RelV y u)(rx:RelV x v)(fy:iJ y=true)(fx:iJ x=true):SeqAt.EqAt A s u v (GJ y x):=by
 cases y with
 | non =>
  cases ry
  cases x with
  | non=>cases rx;exact SeqAt.EqAt.same _
  | bl b=>cases rx;exact SeqAt.EqAt.none_bool b
  | int b=>obtain⟨t,rfl⟩:=rx;exact SeqAt.EqAt.none_int b t
  | str b=>obtain⟨t,rfl⟩:=rx;exact SeqAt.EqAt.none_str b t
  | _=>exact absurd (show false=true from fx) Uu
 | bl a =>
  cases ry
  cases x with
  | non=>cases rx;exact SeqAt.EqAt.bool_none a
  | bl b=>cases rx;exact SeqAt.EqAt.bool_bool a b
  | int b=>obtain⟨t,rfl⟩:=rx;exact SeqAt.EqAt.bool_int a b t
  | str b=>obtain⟨t,rfl⟩:=rx;exact SeqAt.EqAt.bool_str a b t
  | _=>exact absurd (show false=true from fx) Uu
 | int a =>
  obtain⟨t',rfl⟩:=ry
  cases x with
  | non=>cases rx;exact SeqAt.EqAt.int_none a t'
  | bl b=>cases rx;exact SeqAt.EqAt.int_bool a t' b
  | int b=>obtain⟨t,rfl⟩:=rx;exact SeqAt.EqAt.int_int a t' b t
  | str b=>obtain⟨t,rfl⟩:=rx;exact aaq a t' b t
  | _=>exact absurd (show false=true from fx) Uu
 | str a =>
  obtain⟨t',rfl⟩:=ry
  cases x with
  | non=>cases rx;exact SeqAt.EqAt.str_none a t'
  | bl b=>cases rx;exact SeqAt.EqAt.str_bool a t' b
  | int b=>obtain⟨t,rfl⟩:=rx;exact aar a t' b t
  | str b=>obtain⟨t,rfl⟩:=rx;exact aax a t' b t
  | _=>exact absurd (show false=true from fx) Uu
 | _=>exact absurd (show false=true from fy) Uu
noncomputable def wC(x:V)(u:Value):Bool:=match u with
 | .none=>GJ .non x
 | .bool b=>GJ (.bl b) x
 | .int i _=>GJ (.int i) x
 | .str z _=>GJ (.str z) x
 | _=>false
theorem B5{x y:V}{u:Value}(r:RelV y u)(f:iJ y=true):wC x u=GJ y x:=by
 cases y with
 | non=>cases r;rfl
 | bl b=>cases r;rfl
 | int i=>obtain⟨t,rfl⟩:=r;rfl
 | str z=>obtain⟨t,rfl⟩:=r;rfl
 | _=>exact absurd (show false=true from f) Uu
theorem lA{x:V}: ∀{xs:List V}{us:List Value},Vals xs us->xs.all iJ=true->us.any (wC x)=xs.any λy=>GJ y x
 | _,_,.nil,_=>rfl
 | y::xs,u::us,.cons r t,f=>by
  rw[WX,Ut] at f;rw[Vl,Vl,B5 r f.1,lA t f.2]
theorem iZ{A:UW}{s:T7}{x:V}{v:Value}(rx:RelV x v)(fx:iJ x=true): ∀{xs:List V}{us:List Value},Vals xs us->xs.all iJ=true-> ∀ u∈us,SeqAt.EqAt A s u v (wC x u)
 | _,_,.nil,_=>λu hu=>by cases hu
 | y::xs,u::us,.cons r t,f=>λu' hu=>by
  rw[WX,Ut] at f;rcases Ui.mp hu with rfl | hu
  . rw[B5 r f.1];exact Kn r rx f.1 fx
  . exact iZ rx fx t f.2 u' hu
noncomputable def gU(x:V)(xs:List V):Bool:=xs.any λy=>GJ y x
noncomputable def Th(K:TV)(neg:Bool):R2:=λx y H Q=> ∃ p xs,y= .ref p/\(iF K H p xs\/fc K H p xs)/\iJ x=true/\xs.all iJ=true/\Q (.bl (if neg then !gU x xs else gU x xs)) H
theorem Ae:cW X (UK .In) (Th X.K false):=by
 intro pins s σ H x y v u Q I rx ry h;obtain⟨p,xs,rfl,hq,fx,fs,q⟩:=h;cases ry;rcases hq with hq | hq
 . obtain⟨ai,r,pl,hz⟩:=I.list hq;refine SeqAt.in_listAt (wC x) pl.isList (λw hw=>iZ rx fx r fs w (by simpa using hw)) ⟨.bl _,H,I,rfl,?_⟩;rw[show ai.toArray.any (wC x)=ai.any (wC x) by simp,lA r fs];exact q
 . obtain⟨ai,r,pl,hz⟩:=I.tuple hq;refine SeqAt.in_tupleAt (wC x) pl (λw hw=>iZ rx fx r fs w (by simpa using hw)) ⟨.bl _,H,I,rfl,?_⟩;rw[show ai.toArray.any (wC x)=ai.any (wC x) by simp,lA r fs];exact q
theorem tj:cW X (UK .NotIn) (Th X.K true):=by
 intro pins s σ H x y v u Q I rx ry h;obtain⟨p,xs,rfl,hq,fx,fs,q⟩:=h;cases ry;rcases hq with hq | hq
 . obtain⟨ai,r,pl,hz⟩:=I.list hq;refine SeqAt.notIn_listAt (wC x) pl.isList (λw hw=>iZ rx fx r fs w (by simpa using hw)) ⟨.bl _,H,I,rfl,?_⟩;rw[show ai.toArray.any (wC x)=ai.any (wC x) by simp,lA r fs];exact q
 . obtain⟨ai,r,pl,hz⟩:=I.tuple hq;refine SeqAt.notIn_tupleAt (wC x) pl (λw hw=>iZ rx fx r fs w (by simpa using hw)) ⟨.bl _,H,I,rfl,?_⟩;rw[show ai.toArray.any (wC x)=ai.any (wC x) by simp,lA r fs];exact q
theorem sW:cW X (UK .NotIn) (λx y H Q=> ∃ i j,x= .str i/\y= .str j/\Q (.bl (!(!(WD j i 0 j.length 1).isEmpty))) H):=by
 intro pins s σ H x y v u Q I rx ry h;obtain⟨i,j,rfl,rfl,q⟩:=h;obtain⟨t,rfl⟩:=rx;obtain⟨t',rfl⟩:=ry;exact notIn_str ⟨.bl _,H,I,rfl,q⟩
theorem t7:aQ X (.builtin "len") (λxs H Q=> ∃ p ys,xs=[.ref p]/\(iF X.K H p ys\/fc X.K H p ys)/\Q (.int ys.length) H):=by
 intro pins s σ H xs us Q I r h;obtain⟨p,ys,rfl,hq,q⟩:=h;obtain⟨u,rfl,rx⟩:=vals1 r;cases rx;have hn:=lP;rcases hq with hq | hq
 . obtain⟨ai,r',pl,hz⟩:=I.list hq;have hlen:=r'.length;exact Calls.call_len_list pl.isList (by simp only[Uh]<;>omega) ⟨.int ys.length,H,I.tok _,⟨s.toks+1,by rw[Uh,hlen]⟩,q⟩
 . obtain⟨ai,r',pl,hz⟩:=I.tuple hq;have hlen:=r'.length;exact len_tuple pl (by simp only[Uh]<;>omega) ⟨.int ys.length,H,I.tok _,⟨s.toks+1,by rw[Uh,hlen]⟩,q⟩
theorem tV:aQ X (.builtin "len") (λxs H Q=> ∃ z,xs=[.str z]/\z.length<=sizeLine/\Q (.int z.length) H):=by
 intro pins s σ H xs us Q I r h;obtain⟨z,rfl,hz,q⟩:=h;obtain⟨u,rfl,t,rfl⟩:=vals1 r;have hn:=lP;exact len_str (by omega) ⟨.int z.length,H,I.tok _,⟨_,rfl⟩,q⟩
theorem aQ.or{f:Value}{r r':List V->Hp->VK->Prop}(h:aQ X f r)(h':aQ X f r'):aQ X f (λxs H Q=>r xs H Q\/r' xs H Q):=by
 intro pins s σ H xs us Q I rs q;rcases q with q | q
 . exact h pins s σ H xs us Q I rs q
 . exact h' pins s σ H xs us Q I rs q
theorem sP:aQ X (.type "list") (λxs H Q=> ∃ p ys,xs=[.ref p]/\(iF X.K H p ys\/fc X.K H p ys)/\ ∀ l,H l=none->Q (.ref l) (upd H l (.lst ys))):=by
 intro pins s σ H xs us Q I r h;obtain⟨p,ys,rfl,hq,q⟩:=h;obtain⟨u,rfl,rx⟩:=vals1 r;cases rx;have fin: ∀(ai:List Value),Vals ys ai->ys.length<=sizeLine-> ∀(h':Heap)(c':Nat),(∀ b o',s.heap.get? b=some o'->h'.get? b=some o') ->
   h'.get? s.heap.objs.size=some { cls:= .type "list",dict:=none,data:= .seq ai.toArray c',slots:= #[] }->EP X pins σ Q (.ref s.heap.objs.size) { s with heap:=h' }:=λai r' hz h' c' kp e =>
  ⟨.ref s.heap.objs.size,_,I.laid (t':=s.toks) kp (Ua _) (show aT X.prog X.w _ h' _ (.lst ys) from⟨hz,ai,c',r',e⟩),rfl,q _ (I.bq.fresh (Ua _))⟩
 rcases hq with hq | hq
 . obtain⟨ai,r',pl,hz⟩:=I.list hq;have hlen:=r'.length;obtain⟨o,ho,hc,n,hd⟩:=pl.isList;exact call_list_seq p (.inl rfl) ho hc hd (λh' c' kp e=>fin ai r' hz h' c' kp e) (by simp only[Uh]<;>omega)
 . obtain⟨ai,r',pl,hz⟩:=I.tuple hq;have hlen:=r'.length;obtain⟨o,ho,hc,n,hd⟩:=pl;exact call_list_seq p (.inr rfl) ho hc hd (λh' c' kp e=>fin ai r' hz h' c' kp e) (by simp only[Uh]<;>omega)
theorem qG:aQ X (.type "tuple") (λxs H Q=> ∃ p ys,xs=[.ref p]/\((iF X.K H p ys/\ ∀ l,H l=none->Q (.ref l) (upd H l (.tup ys)))\/(fc X.K H p ys/\Q (.ref p) H))):=by
 intro pins s σ H xs us Q I r h;obtain⟨p,ys,rfl,h⟩:=h;obtain⟨u,rfl,rx⟩:=vals1 r;cases rx;rcases h with⟨hq,q⟩ | ⟨hq,q⟩
 . obtain⟨ai,r',pl,hz⟩:=I.list hq;have hlen:=r'.length;refine call_tuple_list pl.isList (λh' kp=>?_) (by simp only[Uh]<;>omega);have I1:Inv X pins σ H { s with heap:=h' }:=I.kept (t':=s.toks) kp;have I2:Inv X pins σ (upd H h'.objs.size (.tup ys)) { s with heap:=h'.push { cls:= .type "tuple",data:= .seq ai.toArray } } :=
    I1.laid (t':=s.toks) (λb o e=>T6 _ e) (Ua _) (show aT X.prog X.w _ _ _ (.tup ys) from⟨hz,ai,r',qp.new _ _⟩)
   exact⟨.ref h'.objs.size,_,I2,rfl,q _ (I1.bq.fresh (Ua _))⟩
 . obtain⟨ai,r',pl,hz⟩:=I.tuple hq;exact call_tuple_same pl ⟨.ref p,H,I,rfl,q⟩
noncomputable def Ry(K:TV)(T:String)(x:V)(H:Hp):Prop:=match x with
 | .str _=>T= "str"
 | .int _=>T= "int"
 | .ref p=>(T= "list" /\ ∃ xs,iF K H p xs)\/(T= "tuple" /\ ∃ o,K.lookup p=some o/\o.cls= .type "tuple" /\o.dict=none) \/
   (T= "dict" /\((∃ kvs,H p=some (.dK kvs))\/ ∃ kvs,H p=some (.dT kvs)))\/(T= "set" /\ ∃ S n,H p=some (.set S n))
 | _=>False
theorem NQ{pins:List (Addr × Obj)}{σ :St}{H:Hp}{s:T7}{T:String}{x:V}{v:Value}(I:Inv X pins σ H s)(r:RelV x v)(ty:Ry X.K T x H) :
  s.TypeIs v T/\ ∀ a,v= .ref a-> ∃ ob,s.heap.get? a=some ob/\ob.dict=none:=by
 cases x with
 | str z =>
  obtain⟨t,rfl⟩:=r
  cases(show T= "str" from ty)
  exact⟨aaw s z t,λ_ e=>nomatch e⟩
 | int i =>
  obtain⟨t,rfl⟩:=r
  cases(show T= "int" from ty)
  exact⟨Zp s i t,λ_ e=>nomatch e⟩
 | ref p =>
  cases r
  rcases ty with⟨rfl,xs,hq⟩ | ⟨rfl,o,hk,hc,hd⟩ | ⟨rfl,hk⟩ | ⟨rfl,S,n,hk⟩
  . obtain⟨ai,_,pl,_⟩:=I.list hq;refine⟨pl.isList.typeIs,λa e=>?_⟩;cases e;obtain⟨o,n,e,c,hd,_⟩:=pl;exact⟨o,e,hd⟩
  . refine⟨⟨o,I.lH p o hk,hc⟩,λa e=>?_⟩;cases e;exact⟨o,I.lH _ o hk,hd⟩
  . have z: ∃ o,s.heap.get? p=some o/\o.ExactDict:=by
     rcases hk with⟨kvs,hk⟩ | ⟨kvs,hk⟩
     . obtain⟨_,_,_,_,o,_,_,e,ex,_⟩:=I.bq p _ hk;exact⟨o,e,ex⟩
     . obtain⟨_,_,_,_,o,_,_,e,ex,_⟩:=I.bq p _ hk;exact⟨o,e,ex⟩
    obtain⟨o,e,ex⟩:=z;refine⟨⟨o,e,ex.1⟩,λa e2=>?_⟩;cases e2;exact⟨o,e,ex.2.1⟩
  . obtain⟨o,_,_,_,e,ex,_⟩:=I.bq p _ hk;refine⟨⟨o,e,ex.1⟩,λa e2=>?_⟩;cases e2;exact⟨o,e,ex.2.1⟩
 | _=>exact VN ty
noncomputable def SO(K:TV)(T:String)(r:V->List V->Hp->VK->Prop)(to:TE)(t:TA):TE:=fun σ H Q=>to σ H λx H1=>Ry K T x H1/\t σ H1 λxs H2=>r x xs H2 Q
variable{o e:Expr}{es:List Expr}{to:TE}{t:TA}{name:Str}{apos cpos:Pos}{T id:String}{r:V->List V->Hp->VK->Prop}
theorem OL(pa:aay T)(slot:Slot T name id)(hty:typeOf (.builtin id)=pure (.type "method_descriptor"))(hm:IG X id r)(ho:PE X o to)(ha:PA X (e::es) t)
  (hbase:Wx o name X.env (eval o X.env)=eval o X.env:=by rfl)
  (hfew:((Xx cpos (UY (e::es) X.env)).all (λx=> !x.1)&&(backToKw cpos (abb [] X.env)).all (λx=>x.1.isSome)
   && decide ((e::es).length+([]:List Z9).length+(if ([]:List Z9).isEmpty then 0 else 1) < 30))=true:=by rfl)
  (hline:(apos.endLine == cpos.line)=true:=by rfl) (hs:UY (e::es) X.env=(false,eval e X.env)::UY es X.env:=by rfl) (hplain:(Xx cpos (UY es X.env)).any (·.1)=false:=by rfl) :
  PE X (.Call (.Attribute o name apos) (e::es) [] cpos) (SO X.K T r to t):=by
 intro pins s σ H Q I h;refine Zq hbase hfew hline rfl (cC (ho pins s σ H _ I h) λv s1 ⟨x,H1,I1,r1,ty,q1⟩=>?_);obtain⟨h1,h2⟩:=NQ I1 r1 ty;refine⟨T,id,pa,slot,hty,h1,h2,?_⟩;have hA:=ha cpos pins s1 σ H1 _ I1 q1;rw[hs] at hA ⊢;refine XC (by show(false||(Xx cpos (UY es X.env)).any (·.1))=false;rw[hplain]<;>rfl) (XY ?_)
 exact cC hA λus s2 ⟨vs,H2,I2,r2,q2⟩=>hm pins s2 σ H2 x vs v us Q I2 r1 r2 q2
/- xs.append(e),list.index on a module's tuple .. are IG facts of 06m -/
end
noncomputable def Rk(X:Cx)(id:String)(r:V->List V->Hp->VK->Prop):Prop :=
 ∀(pins:List (Addr × Obj))(s:T7)(σ :St)(H:Hp)(x:V)(xs:List V)(v:Value)(us:List Value)(Q:VK),Inv X pins σ H s->RelV x v->Vals xs us->r x xs H Q ->
  wpAny (model X.prog X.w) X.A (call (.builtin id) (v::us)) (EP X pins σ Q) X.xe s
theorem Vals.one: ∀{x:V}{us:List Value},Vals [x] us-> ∃ u,us=[u]/\RelV x u
 | _,_,.cons r .nil=>⟨_,rfl,r⟩
theorem Vals.zero: ∀{us:List Value},Vals [] us->us=[]
 | _,.nil=>rfl
theorem Vals.eraseIdx: ∀{xs:List V}{us:List Value}(i:Nat),Vals xs us->Vals (xs.eraseIdx i) (us.eraseIdx i)
 | _,_,_,.nil=> .nil
 | _,_,0,.cons _ t=>t
 | _,_,i+1,.cons r t=> .cons r (Vals.eraseIdx i t)
theorem Vals.rep{xs:List V}{us:List Value}(h:Vals xs us): ∀ k:Nat,Vals (Uc k xs).flatten (Uc k us).flatten
 | 0=> .nil
 | k+1=>by
  rw[VS,VS,Wt,Wt];exact Vals.append h (Vals.rep h k)
theorem rS{α :Type}: ∀(l:List α)(i:Nat),(l.eraseIdx i).length<=l.length
 | [],_=>Ua _
 | _::_,0=>YG _
 | _::r,i+1=>aa0 (rS r i)
theorem foldl_rep(ai:List Value): ∀(k:Nat)(acc:List Value),
  aaz (λx1 x2=>x1++x2) acc.toArray (Uc k ai.toArray)=(acc++(Uc k ai).flatten).toArray
 | 0,acc=>by simp
 | k+1,acc=>by
  have e:acc.toArray++ai.toArray=(acc++ai).toArray:=by simp
  have e2:(acc++ai)++(Uc k ai).flatten=acc++(Uc (k+1) ai).flatten:=by
   rw[VS,Wt,UA]
  rw[<- e2,<- foldl_rep ai k (acc++ai),<- e,VS,List.foldl_cons]
section
variable{X:Cx}{pins:List (Addr × Obj)}{σ :St}{H:Hp}{s:T7}{l b:Addr}{xs ys zs:List V}
theorem Inv.OR{ai its':List Value}{n:Nat}{f:Array Value->Array Value}{t':Nat}(I:Inv X pins σ H s)(hH:H l=some (.lst xs))
  (e:s.heap.get? l=some { cls:= .type "list",data:= .seq ai.toArray n }) (hf:f ai.toArray=its'.toArray) (hv:Vals ys its') (hz:ys.length<=sizeLine) :
  Inv X pins σ (upd H l (.lst ys)) { s with heap:=s.heap.update l (Wf f),toks:=t' }:=by
 have q:=PySem.IsL.update e f;rw[hf] at q;refine I.write (x:=l) (e:=l) (by rw[hH];exact trivial) (.inl rfl) (λb' u hb hu=>(Zo s.heap (Wf f) (WB hb)).trans hu) ⟨_,q⟩ ?_;exact⟨hz,its',_,hv,q⟩
theorem Inv.OM{ai:List Value}{t':Nat}(I:Inv X pins σ H s)(hv:Vals ys ai)(hz:ys.length<=sizeLine) :
  Inv X pins σ (upd H s.heap.objs.size (.lst ys)) { s with heap:=s.heap.push { cls:= .type "list",data:= .seq ai.toArray },toks:=t' } :=
 I.laid (λ_ _ q=>T6 _ q) (Ua _) ⟨hz,ai,0,hv,Um _ rfl⟩
theorem Inv.fresh(I:Inv X pins σ H s):H s.heap.objs.size=none:=I.bq.fresh (Ua _)
theorem Inv.AN(I:Inv X pins σ H s)(hH:H l=some (.lst xs)):xs.length<=sizeLine/\ ∃(ai:List Value)(n:Nat),Vals xs ai/\xs.length=ai.length/\s.heap.get? l=some { cls:= .type "list",data:= .seq ai.toArray n }:=by
 obtain⟨z,ai,n,r,e⟩:=I.bq l _ hH;exact⟨z,ai,n,r,r.length,e⟩
theorem Eu{n:Nat}(h:n<=sizeLine):Xk n=false:=by
 unfold Xk;exact decide_eq_false (by omega)
end
section
variable{X:Cx}
noncomputable def Gj:V->List V->Hp->VK->Prop:=λx vs H Q=> ∃ l xs y,x= .ref l/\vs=[y]/\H l=some (.lst xs)/\xs.length < sizeLine/\Q .non (upd H l (.lst (xs++[y])))
theorem Ab:Rk X "list.append" Gj:=by
 intro pins s σ H x vs v us Q I rx rv h;obtain⟨l,xs,y,rfl,rfl,hH,hz,q⟩:=h;cases rx;obtain⟨u,rfl,ru⟩:=rv.one;obtain⟨z,ai,n,r,hl,e⟩:=I.AN hH;refine V2 F.slot_list_append ⟨_,e,rfl⟩ F.entry_list_append (F.args_list_append_2 _ _) (PySem.list_append l ai.toArray n u (by rw[Uh];omega)) ⟨e,?_⟩;refine⟨.non,_,I.OR (its':=ai++[u]) hH e (by simp) (r.append (.cons ru .nil)) ?_,rfl,q⟩;rw[Ur,ZL];omega
noncomputable def Oo:R2:=λx y H Q=> ∃ l b xs zs,x= .ref l/\y= .ref b/\H l=some (.lst xs)/\H b=some (.lst zs)/\xs.length+zs.length<=sizeLine/\ ∀ p,H p=none->Q (.ref p) (upd H p (.lst (xs++zs)))
theorem K0:cW X (Vw .Add) Oo:=by
 intro pins s σ H x y v u Q I rx ry h;obtain⟨l,b,xs,zs,rfl,rfl,hH,hB,hz,q⟩:=h;cases rx;cases ry;obtain⟨z,ai,n,r,hl,e⟩:=I.AN hH;obtain⟨z2,its2,n2,r2,hl2,e2⟩:=I.AN hB;refine PySem.P.add_list e e2 ?_ (by rw[Uh,Uh];omega);have ea:ai.toArray++its2.toArray=(ai++its2).toArray:=by simp
 rw[ea];exact⟨.ref _,_,I.OM (t':=s.toks) (r.append r2) (by rw[Ur];omega),rfl,q _ I.fresh⟩
noncomputable def Sz:R2:=λx y H Q=> ∃ l k xs,x= .ref l/\y= .int k/\H l=some (.lst xs)/\ -(2 ^ 63)<=k/\k < 2 ^ 63/\xs.length*k.toNat<=sizeLine /\
 ∀ p,H p=none->Q (.ref p) (upd H p (.lst (Uc k.toNat xs).flatten))
theorem len_rep{α :Type}(xs:List α)(k:Nat):(Uc k xs).flatten.length=k*xs.length:=by
 induction k with
 | zero=>simp
 | succ k ih=>rw[VS,Wt,Ur,ih,Nat.succ_mul,Nat.add_comm]
theorem Mc:cW X (Vw .Mult) Sz:=by
 intro pins s σ H x y v u Q I rx ry h;obtain⟨l,k,xs,rfl,rfl,hH,h1,h2,hz,q⟩:=h;cases rx;obtain⟨t,rfl⟩:=ry;obtain⟨z,ai,n,r,hl,e⟩:=I.AN hH;have hlen:ai.toArray.size*k.toNat<=sizeLine:=by rw[Uh,<- hl];exact hz
 have hcap: ¬ ai.toArray.size*k.toNat > (2 ^ 63 - 1) / 8:=by
  have:(sizeLine:Nat)<=(2 ^ 63 - 1) / 8:=by decide
  omega
 have hfit: ¬ (!Builtin.List.listFitsIndex k)=true:=by
  rw[fitsIndex_both h1 h2];exact Uu
 have hlong: ¬ Xk (ai.toArray.size*k.toNat)=true:=by
  rw[Eu hlen];exact Uu
 have hnew:aaz (λx1 x2=>x1++x2) #[] (Uc (if ai.toArray.isEmpty=true then 0 else k.toNat) ai.toArray)=(Uc k.toNat ai).flatten.toArray:=by
  have f0: ∀ m:Nat,aaz (λx1 x2=>x1++x2) #[] (Uc m ai.toArray)=(Uc m ai).flatten.toArray:=λm=>by
   have:=foldl_rep ai m [];rw[UL] at this;exact this
  rw[f0];cases ai with
  | nil=>simp
  | cons a r'=>rw[if_neg (by simp)]
 refine Yz (T:= "list") (U:= "int") (by decide) ⟨_,e,rfl⟩ (λs'=>Zp s' k t) noFill_list_mul F.fills_int_mul F.slot_int_rmul repeat_list F.slot_int_index.lookup
  (V2 F.slot_int_rmul (Zp s k t) F.entry_int_rmul (F.args_int_rmul_2 _ _) (int___rmul___int_list k t l ai.toArray n)
   ⟨e,rfl,⟨_,e,rfl⟩,V2 F.slot_list_mul ⟨_,e,rfl⟩ F.entry_list_mul (F.args_list_mul_2 _ _) (AutoListH.list___mul___list_int_3 l ai.toArray n k t hfit hcap hlong) ⟨e,?_⟩⟩)
 rw[hnew];exact⟨.ref _,_,I.OM (t':=s.toks) (r.rep k.toNat) (by rw[len_rep,aaJ];exact hz),rfl,q _ I.fresh⟩
end
end L2
namespace Att
open PySem PySem.W PySem.Calls PyProof.Rows
theorem nz{P:Params}{h:Heap}: ∀(ns:List Int)(vs:List Value),WellAll P h vs (ns.map WData.int)->abm vs ns:=by
 intro ns
 induction ns with
 | nil =>
  intro vs w
  rw[UN] at w
  cases w
  exact .nil
 | cons n ns ih =>
  intro vs w
  rw[T9] at w
  cases w with
  | cons a b =>
   cases a
   exact .cons _ _ (ih _ b)
theorem zY {l : XZ} {n : Nat} (hn : l.most = some n) {P : Params} {h : Heap} {args : List WData} {vals : List Value}
    (hpre : l.row.toRowW.claim.pre args = true) (hwl : WellAll P h vals args) :
    ∃ a vs ns, vals = [Ux a] /\ args = [WData.list (ns.map WData.int)] /\ h.get? a = some { cls := .type "list", data := .seq vs.toArray } /\ abm vs ns /\ ns.length <= n := by
  have hsh : WShape.hasAll [] args [.list .int] = true := (pre_splitW hpre).1;have hc : l.pre.holds [] { args := args } = true := (pre_splitW hpre).2;obtain ⟨d, r, rfl, h1, h2⟩ := hasAllW_cons hsh;obtain rfl := hasAllW_nil h2;obtain ⟨xs, rfl, h3⟩ := hasW_list h1;obtain ⟨ns, rfl⟩ := items_int h3;have hlen : ns.length <= n := by
    unfold OpenLaw.pre at hc;have h4 : (WTm.not (.lt (.lit (.int (n : Int))) (.len (.arg 0)))).holds [] { args := [.list (ns.map .int)] } = true := by
      have h4 := (holds_andW hc).1;rw [hn] at h4;exact h4
    have h5 := condW_of h4 (w_not (w_lt w_lit (w_len_list (w_arg rfl))));rw [TZ] at h5;refine Nat.le_of_not_lt λq => ?_;have q' : (n : Int) < ((ns.length : Nat) : Int) := by omega
    first
      | (rw [decide_eq_true q'] at h5; exact absurd h5 (by decide))
      | (simp at h5; omega)
  cases hwl with
  | cons w1 w2 =>
    cases w2
    cases w1 with
    | list ho hall => exact ⟨_, _, ns, rfl, rfl, ho, nz ns _ hall, hlen⟩
theorem zC (l:XZ) (args:List WData):l.row.toRowW.claim.post args (.bool true) args=true :=
 postW_of (r:=l.row.toRowW) (X:=(true == true))
  (show WShape.has [] (.bool true) .bool=true by first | rfl | decide | simp [WShape.has,WShape.arms,WShape.armsAll])
  (show(WTm.eq .res (.lit (.bool true))).value [] { args:=args,res:=some (.bool true),after:=args }=some (.bool (true == true)) from w_eq_bool (w_res rfl) w_lit) rfl
theorem uw{l:XZ}{n:Nat}{q:Uy}{loose:List Str}{XP:(Str->Option Value)->Heap->Prop}{YP:World->Heap->Prop}{d:DefRec}
  (hn:l.most=some n) (hdf:d.params.defaults=[])
  (call: ∀(w:World)(s₀ s₁ :T7)(mg mb:Str->Option Value)(fa:Addr)(o:Obj)(pm cd doc:Value)(a:Addr)(vs:List Value)(ns:List Int),
   Ground q loose [] XP w s₀ mg mb s₁.heap->YP w s₁.heap ->
   s₁.heap.get? fa=some o->o.data= .func (docDef d.name d.params d.body d.scope pm cd doc)->s₁.heap.CodeRec cd d.name->mg d.name=some (.ref fa) ->
   s₁.heap.get? a=some { cls:= .type "list",data:= .seq vs.toArray }->abm vs ns->ns.length<=n->s₁.gens= #[] ->
   Zk (model l.prog w) aaa (.call (.ref fa) ⟨[.ref a],[]⟩) (λr s'=>r= .ok (.ret (.bool true))/\OldK s₁.heap s'.heap/\s'.os=s₁.os/\YD s'.gens) s₁) :
  WalkO q loose XP YP l.row.toRowW d [] (λf vs=>abp f vs):=by
 intro w s₀ s₁ mg mb G Y fa o pm cd doc dV kV ho hd hcd hD hmg hg args vals as hpre hlay hrd hwl hlo;obtain rfl:dV= .none:=Dflts.none hD hdf;obtain rfl:kV= .none:=Dflts.noKw hD;obtain⟨a,vs,ns,rfl,rfl,hobj,hints,hlen⟩:=zY hn hpre hwl;refine enter_call (aaG (call w s₀ s₁ mg mb fa o pm cd doc a vs ns G Y ho (fd_plain hd) hcd hmg hobj hints hlen hg) λr s' hq=>?_);obtain⟨rfl,h2,h3,h4⟩:=hq;exact⟨.inl ⟨.bool true,.bool true,[],rfl,λ_=>rfl,.bool true,zC l _,λ_=>⟨List.Pairwise.nil,λ_ hm=>(nomatch hm)⟩⟩,h2,h3,h4⟩
section
variable{prog:Uy}{w:World}{A:UW}{E:Value->T7->Prop}{s:T7}{K:Frag}
noncomputable def ledger(h:Heap)(L d:Addr):List (Addr × Obj):=(UR h.objs.size).filterMap λa=>if a=L\/a=d then none else(h.get? a).map λo=>(a,o)
end
end Att
namespace L2
open PySem PySem.Spec PyProof.Rows
theorem rH: ∀{vs:List Value}{ns:List Int},abm vs ns->Vals (ns.map V.int) vs
 | _,_,.nil=> .nil
 | _,_,.cons n t h=> .cons ⟨t,rfl⟩ (rH h)
noncomputable def CU(H:Hp):Prop:= ∀ b,H b=none\/ ∃ o xs,H b=some (.jP o (.lst xs))
theorem CG{P:Uy}{w:World}{K:TV}{mg mb:Str->Option Value}{CX:Bh}{k:Nat}{fa a:Addr}{fd:VU}{x:Str}{sp:Sp}{s₁ :T7}{vs:List Value}{ns:List Int}
  (KX:K.In s₁.heap) (hns:s₁.heap.Ns Uv mg) (hb:s₁.heap.Ns builtinsNs mb) (hbb: ∀ x:Str,x≠ "__name__" ->mb x=Vu x) (hlim:s₁.heap.NoLimit) (hg:s₁.gens= #[])
  (ha:s₁.heap.get? a=some { cls:= .type "list",data:= .seq vs.toArray }) (hi:abm vs ns) (hl:ns.length<=sizeLine) (hr:dE k aaa)
  (F: ∀ base:Heap,K.In base->base.Ns Uv mg->k8 P w K mg base CX k fa fd [x] sp) (hbind: ∀(s:T7)(u:Value),Zj s fd ⟨[u],[]⟩ [(x,u)])
  (hsp: ∀ H:Hp,CU H->iF K H a (ns.map V.int)->sp [.ref a] H (λv _=>v= .bl true) λ_ _ _=>False)
  (hCX: ∀ H e s',CX [] H s₁ (λ_ _ _=>False) e s'->False) :
  Zk (model P w) aaa (.call (.ref fa) ⟨[.ref a],[]⟩) (λr s'=>r= .ok (.ret (.bool true))/\OldK s₁.heap s'.heap/\s'.os=s₁.os/\YD s'.gens) s₁ :=by
 have rv:=rH hi;have lenV:=hi.length;have core: ∀ H:Hp,CU H->iF K H a (ns.map V.int)->jK P w H s₁.heap->(∀ b,H b≠none->b=a)->(H a≠none->K.lookup a=none) ->
   Zk (model P w) aaa (.call (.ref fa) ⟨[.ref a],[]⟩) (λr s'=>r= .ok (.ret (.bool true))/\OldK s₁.heap s'.heap/\s'.os=s₁.os/\YD s'.gens) s₁ :=by
  intro H hO hS bq hA hK;have base_of: ∀{b:Addr}{o:Obj},s₁.heap.get? b=some o->H b=none->(rX s₁.heap H).get? b=some o:=λe n=>B8 e n;have noA: ∀{b:Addr}{o:Obj}{es:Array aab}{ep:Nat},s₁.heap.get? b=some o->o.data= .dict es ep->H b=none:=λ{b o es ep} e d=>by
   cases q:H b with
   | none=>rfl
   | some u =>
    have e':b=a:=hA b (by rw[q];simp)
    subst e'
    rw[ha] at e;cases e
    have d':Data.seq vs.toArray _=Data.dict es ep:=d
    cases d'
  have nsK: ∀{b:Addr}{m:Str->Option Value},s₁.heap.Ns b m->(rX s₁.heap H).Ns b m:=λ{b m} ⟨o,es,ep,e,d,r⟩=>⟨o,es,ep,base_of e (noA e d),d,r⟩
  have hKb:K.In (rX s₁.heap H):=λb o e=>base_of (KX b o e) (by
   cases q:H b with
   | none=>rfl
   | some u =>
    have e':b=a:=hA b (by rw[q];simp)
    subst e'
    rw[hK (by rw[q];simp)] at e;cases e)
  have hM:Mod K mg (rX s₁.heap H):=⟨hKb,nsK hns,⟨mb,nsK hb,hbb⟩,let ⟨mc,h1,h2⟩:=hlim;⟨mc,nsK h1,h2⟩⟩
  have e0:wI P w K mg (rX s₁.heap H) aaa [] s₁ H:=⟨rfl,hM,λb o e=>HZ e,Nat.le_of_eq (AL _ _),trivial,λb hb=>absurd (show b∈([]:List Addr) from hb) (by simp),bq,.of_eq hg⟩
  refine aaG ((F _ hKb (nsK hns)).run aaa [] s₁ H ⟨[.ref a],[]⟩ [.ref a] [.ref a] _ _ hr e0 (hbind s₁ (.ref a)) (.cons rfl .nil) (hsp H hO hS)) λr s' h=>?_;cases r with
  | error e=>exact(hCX H e s' h).elim
  | ok fl =>
   cases fl with
   | next=>exact VN h
   | brk=>exact VN h
   | cont=>exact VN h
   | ret u =>
    obtain⟨v,H',os,bare,un,hok',r',q⟩:=h
    have q':v= .bl true:=q
    subst q'
    obtain rfl:u=XJ true:=r'
    refine⟨rfl,OldK.of_keep λb o e=>?_,os,bare⟩
    cases q:H b with
    | none=>exact un.keep b o e q (by intro z;exact absurd (show b∈([]:List Addr) from z) (by simp)) (by simp)
    | some u =>
     rcases hO b with z | ⟨ob,xs,z⟩
     . rw[q] at z;cases z
     . have z2:=un.kW b ob _ z;obtain⟨e1,_⟩:=bq b _ z;obtain⟨e2,_⟩:=hok' b _ z2;rw[e] at e1;cases e1;exact e2
 cases hk:K.lookup a with
 | some o =>
  have e:=KX a o hk
  rw[ha] at e
  cases e
  refine core (λ_=>none) (λ_=> .inl rfl) (.inr ⟨_,vs.toArray,_,hk,rfl,rfl,rfl,by rw[Uh,lenV];exact hl,by simpa using rv⟩) (λb u z=>by have z':(none:Option HO)=some u:=z;cases z') (λb z=>absurd rfl z) λz=>absurd rfl z
 | none =>
  refine core (λb=>if b=a then some (.jP { cls:= .type "list",data:= .seq vs.toArray } (.lst (ns.map V.int))) else none) (λb=>?_) (.inl (.inr ⟨{ cls:= .type "list",data:= .seq vs.toArray },if_pos rfl⟩)) (λb u z=>?_) (λb z=>?_) λ_=>hk
  . by_cases hb:b=a
    . exact .inr ⟨_,_,if_pos hb⟩
    . exact .inl (if_neg hb)
  . by_cases hb:b=a
    . have z':=(if_pos hb).symm.trans z;cases z';subst hb;exact⟨ha,by rw[TZ];exact hl,vs,_,rv,ha⟩
    . have z':=(if_neg hb).symm.trans z;cases z'
  . by_cases hb:b=a
    . exact hb
    . exact absurd (if_neg hb) z
theorem Gk{l:XZ}{n k:Nat}{q:Uy}{loose:List Str}{XP:(Str->Option Value)->Heap->Prop}{YP:World->Heap->Prop}{d:DefRec}{K:Params->TV}{CX:World->Bh}{sp:World->Sp}{x:Str}
  (hn:l.most=some n) (hn2:n<=sizeLine) (hdf:d.params.defaults=[]) (hr:dE k aaa)
  (hY: ∀(w:World)(h:Heap),YP w h->(K w.params).In h)
  (F: ∀(w:World)(mg:Str->Option Value)(fa:Addr)(h:Heap),(K w.params).In h->h.Ns Uv mg->mg d.name=some (.ref fa) ->
   ∃ fd:VU,(∀(s:T7)(u:Value),Zj s fd ⟨[u],[]⟩ [(x,u)]) /\
    ∀ base:Heap,(K w.params).In base->base.Ns Uv mg->k8 l.prog w (K w.params) mg base (CX w) k fa fd [x] (sp w))
  (hsp: ∀(w:World)(H:Hp)(a:Addr)(ns:List Int),ns.length<=n->CU H->iF (K w.params) H a (ns.map V.int)->sp w [.ref a] H (λv _=>v= .bl true) λ_ _ _=>False)
  (hCX: ∀(w:World)(H:Hp)(s:T7)(e:Value)(s':T7),CX w [] H s (λ_ _ _=>False) e s'->False) :
  abu q loose XP YP l.row.toRowW d [] (λf vs=>abp f vs):=by
 refine Att.uw hn hdf λw s₀ s₁ mg mb fa o pm cd doc a vs ns G Y ho hd hcd hmg hobj hints hlen hg=>?_;have KX:=hY w _ Y;obtain ⟨fd,hb,hF⟩:=F w mg fa _ KX G.T.g hmg;exact CG KX G.T.g G.T.b G.T.builtins G.T.nolimit hg hobj hints (UM hlen hn2) hr hF hb (λH hO hS=>hsp w H a ns hlen hO hS) λH e s'=>hCX w H s₁ e s'
end L2
/- THE LAST THEOREM (shape; LID, My.* are yours):
   My.Adr: a structure of the addresses that your layer names (classes, functions); My.Txt K t: a structure (Prop) of the equations over K;
   My.txt_mk : {K} {implicit addresses ..} (e1 : nsIn K Uv "law" = some (some (.ref f))) (e2 : K.lookup f = some ⟨oc, od, .func (fnOf "law" "law" params body scope dV kV doc pm an cdv ct), sl⟩) (e3 : X8 K cdv "law" = true) .. : ∃ t, My.Txt K t
set_option maxRecDepth 100000 in
(the tactic k_is has no namespace:write k_is) -/
namespace L2
open PySem PySem.Spec PyProof.Rows
noncomputable def cG(s:Stmt):Arguments:=match s with
 | .FunctionDef _ a _ _ _ _ _ _ _ _=>a
 | _=>{ posonlyargs:=[],args:=[],vararg:=none,kwonlyargs:=[],kw_defaults:=[],kwarg:=none,defaults:=[] }
noncomputable def aZ(s:Stmt):List Stmt:=match s with
 | .FunctionDef _ _ b _ _ _ _ _ _ _=>b
 | _=>[]
noncomputable def av(s:Stmt):Scope:=match s with
 | .FunctionDef _ _ _ _ _ _ sc _ _ _=>sc
 | _=>{ kind:= .function,names:=[],isGenerator:=false,isCoroutine:=false }
abbrev sd:Bh:=λ_ _ _ _ _ _=>False
abbrev E0:XK:=λ_ _ _=>False
theorem Ow{X:Cx}:Passes sd X E0:=λ_ _ _ _ _ _ _ h=>h.elim
structure Bi(K:TV)(x qual:Str)(st:Stmt)(f:Addr)(fd:VU):Prop where
 ex: ∃(oc:Value)(od:Option Addr)(kV doc pm:Value)(an:Option Addr)(cdv ct:Value)(osl:Array (Option Value)),
  fd=Vi x qual (cG st) (aZ st) (av st) .none kV doc pm an cdv ct/\K.lookup f=some ⟨oc,od,.func fd,osl⟩/\X8 K cdv qual=true
 kp:WE K (.ref f)=true
section
variable{P:Uy}{w:World}{K:TV}{mg:Str->Option Value}{base:Heap}
theorem Bi.ok{x qual:Str}{st:Stmt}{f:Addr}{fd:VU}{N ps:List Str}{k:Nat}{sp:Sp}(F:Bi K x qual st f fd)(S:dO N ps (av st))(len: ∀ vs H Q E,sp vs H Q E->vs.length=ps.length)
  (hbody: ∀(cdv:Value)(A:UW)(outer:List Env)(s:T7)(H:Hp)(vs:List V)(Q:VK)(E:XK),dE k (A.deeper (Yq qual (av st) s.heap.objs.size f cdv))->sp vs H Q E ->
   ∃ t,x6 (jH sd P w K mg base N qual (av st) f cdv A outer s H E).qa (aZ st) t/\t { nx:=λ_ H'=>Q .non H',rt:=Q } (start N vs) H):k8 P w K mg base sd (k+1) f fd ps sp:=by
 obtain⟨oc,od,kV,doc,pm,an,cdv,ct,osl,rfl,lk,hcd⟩:=F.ex;refine O6 lk hcd S len λA outer s H vs Q E hr hsp=>?_;obtain⟨t,h,q⟩:=hbody cdv A outer s H vs Q E hr hsp;exact⟨t,h.qa,q⟩
theorem Bi.binds{x qual:Str}{st:Stmt}{f:Addr}{fd:VU}{ps:List Str}(F:Bi K x qual st f fd)
  (h: ∀(kV doc pm:Value)(an:Option Addr)(cdv ct:Value)(us:List Value),us.length=ps.length->WQ (Vi x qual (cG st) (aZ st) (av st) .none kV doc pm an cdv ct) ⟨us,[]⟩=pure (ps.zip us)):Binds K fd ps []:=by
 obtain⟨oc,od,kV,doc,pm,an,cdv,ct,osl,rfl,lk,hcd⟩:=F.ex;exact .all (h kV doc pm an cdv ct)
theorem LH{x qual:Str}{st:Stmt}{f:Addr}{oc:Value}{od an:Option Addr}{osl:Array (Option Value)}{kV doc pm cdv ct:Value}(l:K.lookup f=some ⟨oc,od,.func (Vi x qual (cG st) (aZ st) (av st) .none kV doc pm an cdv ct),osl⟩)
  (c:X8 K cdv qual=true) (k:WE K (.ref f)=true):Bi K x qual st f (Vi x qual (cG st) (aZ st) (av st) .none kV doc pm an cdv ct):=⟨⟨oc,od,kV,doc,pm,an,cdv,ct,osl,rfl,l,c⟩,k⟩
end
theorem Om{A:UW}{k:Nat}(hr:dE k A):A.units+1 < cLine:=WL (Nat.add_le_add_left (by decide:1<=64) _) hr.units
noncomputable def qb(H H':Hp):Prop:= ∀ b o,H b=some o->H' b=some o
theorem qb.trans{H H1 H2:Hp}(a:qb H H1)(b:qb H1 H2):qb H H2:=λc o h=>b c o (a c o h)
theorem qb.free{H H':Hp}(e:qb H H'){l:Addr}(h:H' l=abC):H l=abC:=by
 cases q:H l with
 | none=>rfl
 | some o =>
  rw[e l o q] at h
  cases h
open PySem PySem.W PyProof.Rows
section
variable{κ :Type}[DecidableEq κ]
noncomputable def gQ(kvs:List (κ × V))(k: κ):Option V:=(kvs.find? λkv=>decide (kv.1=k)).map (·.2)
noncomputable def putK(kvs:List (κ × V))(k: κ)(v:V):List (κ × V) :=
 if (kvs.any λkv=>decide (kv.1=k))=true then kvs.map (λkv=>if kv.1=k then(kv.1,v) else kv) else kvs++[(k,v)]
theorem nY{p: κ × V}{r:List (κ × V)}{k: κ}(e:p.1=k):gQ (p::r) k=some p.2:=by simp[gQ,V3,e]
theorem pC{p: κ × V}{r:List (κ × V)}{k: κ}(e: ¬ p.1=k):gQ (p::r) k=gQ r k:=by simp[gQ,V3,e]
theorem u6(k: κ): ∀ kvs:List (κ × V),(kvs.any λkv=>decide (kv.1=k))=(gQ kvs k).isSome
 | []=>rfl
 | p::r=>by
  rw[Vl];by_cases e:p.1=k
  . simp only[nY e,decide_eq_true e,Bool.true_or,Option.isSome_some]
  . rw[pC e,decide_eq_false e,aan];exact u6 k r
theorem iS(kvs:List (κ × V))(k: κ)(v:V):(putK kvs k v).length<=kvs.length+1:=by
 unfold putK;split
 . rw[TZ];omega
 . rw[Ur,Ub,UE];omega
theorem lu.gS{o:Option V}{u:Option Value}(r:lu o u):o.isSome=u.isSome:=by
 cases o with
 | none=>cases u with
  | none=>rfl
  | some _=>exact(show False from r).elim
 | some _=>cases u with
  | none=>exact(show False from r).elim
  | some _=>rfl
theorem lu.getD{o:Option V}{u:Option Value}{d:V}{d':Value}(r:lu o u)(rd:RelV d d'):RelV (o.getD d) (u.getD d'):=by
 cases o with
 | none=>cases u with
  | none=>exact rd
  | some _=>exact(show False from r).elim
 | some _=>cases u with
  | none=>exact(show False from r).elim
  | some _=>exact r
theorem KV.val{kvs:List (κ × V)}{vs:List (κ × Value)}(r:KV kvs vs)(k: κ):lu (gQ kvs k) (Zr vs k):=by
 unfold KV at r
 induction r with
 | nil=>exact We
 | @cons p q ps qs h t ih =>
  obtain⟨h1,h2⟩:=h
  by_cases e:p.1=k
  . have e':q.1=k:=h1.symm.trans e;have b:Zr (q::qs) k=some q.2:=by simp[Zr,V3,e']
    rw[nY e,b];exact h2
  . have e': ¬ q.1=k:=λz=>e (h1.trans z);have b:Zr (q::qs) k=Zr qs k:=by simp[Zr,V3,e']
    rw[pC e,b];exact ih
theorem KV.any{kvs:List (κ × V)}{vs:List (κ × Value)}(r:KV kvs vs)(k: κ):(kvs.any λkv=>decide (kv.1=k))=vs.any λkv=>decide (kv.1=k):=by
 unfold KV at r
 induction r with
 | nil=>rfl
 | cons h t ih=>rw[Vl,Vl,ih,h.1]
theorem KV.NL{kvs:List (κ × V)}{vs:List (κ × Value)}(r:KV kvs vs)(k: κ){y:V}{u:Value}(ry:RelV y u) :
  KV (kvs.map λkv=>if kv.1=k then(kv.1,y) else kv) (vs.map λkv=>if kv.1=k then(kv.1,u) else kv):=by
 unfold KV at r ⊢
 induction r with
 | nil=>exact .nil
 | @cons p q ps qs h t ih =>
  rw[T9,T9]
  refine .cons ?_ ih
  obtain⟨h1,h2⟩:=h
  by_cases e:p.1=k
  . rw[if_pos e,if_pos (h1.symm.trans e)];exact⟨h1,ry⟩
  . rw[if_neg e,if_neg (λz=>e (h1.trans z))];exact⟨h1,h2⟩
theorem KV.put{kvs:List (κ × V)}{vs:List (κ × Value)}(r:KV kvs vs)(k: κ){y:V}{u:Value}(ry:RelV y u):KV (putK kvs k y) (stored vs k u):=by
 unfold putK stored;rw[r.any k];by_cases e:(vs.any λkv=>decide (kv.1=k))=true
 . rw[if_pos e,if_pos e];exact r.NL k ry
 . rw[if_neg e,if_neg e];exact abD r ⟨rfl,ry⟩
theorem KV.keys{kvs:List (κ × V)}{vs:List (κ × Value)}(r:KV kvs vs):kvs.map (·.1)=vs.map (·.1):=by
 unfold KV at r
 induction r with
 | nil=>rfl
 | cons h t ih=>rw[T9,T9,ih,h.1]
theorem KV.length{kvs:List (κ × V)}{vs:List (κ × Value)}(r:KV kvs vs):kvs.length=vs.length:=Xh r
end
theorem kY{P:Uy}{w:World}{k:Key}{u:Value}(r:RelV (kV k) u):(aH P w).is k u=true:=by
 cases k with
 | inl i=>obtain⟨t,e⟩:=(show ∃ t,u=W7 i t from r);subst e;exact uB P w i t
 | inr x=>obtain⟨t,e⟩:=(show ∃ t,u=XI x t from r);subst e;exact vN P w x t
theorem qX{P:Uy}{w:World}: ∀{ks:List Key}{us:List Value},Vals (ks.map kV) us->ItemsAre (aH P w) ks us
 | [],_,r=>by rw[UN] at r;cases r;exact .nil
 | k::ks,_,r=>by
  rw[T9] at r;cases r with
  | cons h t=>exact .cons (kY h) (qX t)
abbrev KT(H:Hp):List (List Key × V)->List (List Key × Addr × Value)->Prop:=Vh λp q=>p.1=q.1/\H q.2.1=some (.tup (p.1.map kV))/\RelV p.2 q.2.2
theorem KT.val{H:Hp}{kvs:List (List Key × V)}{xs:List (List Key × Addr × Value)}(r:KT H kvs xs)(k:List Key):lu (gQ kvs k) ((atKey xs k).map (·.2)):=by
 induction r with
 | nil=>exact We
 | @cons p q ps qs h t ih =>
  obtain⟨h1,_,h2⟩:=h
  by_cases e:p.1=k
  . have e':q.1=k:=h1.symm.trans e;have b:atKey (q::qs) k=some q.2:=by simp[atKey,V3,e']
    rw[nY e,b];exact h2
  . have e': ¬ q.1=k:=λz=>e (h1.trans z);have b:atKey (q::qs) k=atKey qs k:=by simp[atKey,V3,e']
    rw[pC e,b];exact ih
theorem KT.NL{H:Hp}{kvs:List (List Key × V)}{xs:List (List Key × Addr × Value)}(r:KT H kvs xs)(k:List Key){y:V}{u:Value}(ry:RelV y u) :
  KT H (kvs.map λkv=>if kv.1=k then(kv.1,y) else kv) (xs.map (putAt k u)):=by
 induction r with
 | nil=>exact .nil
 | @cons p q ps qs h t ih =>
  rw[T9,T9]
  refine .cons ?_ ih
  obtain⟨h1,h2,h3⟩:=h
  unfold putAt
  by_cases e:p.1=k
  . rw[if_pos e,if_pos (h1.symm.trans e)];exact⟨h1,h2,ry⟩
  . rw[if_neg e,if_neg (λz=>e (h1.trans z))];exact⟨h1,h2,h3⟩
theorem KT.put{H:Hp}{kvs:List (List Key × V)}{xs:List (List Key × Addr × Value)}(r:KT H kvs xs)(k:List Key){b:Addr}{y:V}{u:Value}(hb:H b=some (.tup (k.map kV)))(ry:RelV y u) :
  KT H (putK kvs k y) (storedH xs k b u):=by
 have e:(kvs.any λkv=>decide (kv.1=k))=(atKey xs k).isSome:=by
  rw[u6,(r.val k).gS,YH]
 unfold putK storedH;rw[e];by_cases q:(atKey xs k).isSome=true
 . rw[if_pos q,if_pos q];exact r.NL k ry
 . rw[if_neg q,if_neg q];exact abD r ⟨rfl,hb,ry⟩
theorem KT.keeps{H H':Hp}{kvs:List (List Key × V)}{xs:List (List Key × Addr × Value)}(r:KT H kvs xs)(ht: ∀ b ys,H b=some (.tup ys)->H' b=some (.tup ys)):KT H' kvs xs :=
 Paired.Aw r λ_ _ z=>⟨z.1,ht _ _ z.2.1,z.2.2⟩
section
variable{P:Uy}{w:World}{H:Hp}{h:Heap}{a:Addr}
theorem IB{u:HO}(ok:jK P w H h)(e:Rd H a u):aT P w H h a u:=e.ok ok
theorem m4{kvs:List (Key × V)}(ok:jK P w H h)(e:Rd H a (.dK kvs)):kvs.length<=sizeLine/\(a == Vq)=false/\ ∃ vs,KV kvs vs/\h.DictOf (aH P w) a vs :=
 show aT P w H h a (.dK kvs) from IB ok e
theorem vo{kvs:List (Key × V)}(ok:jK P w H h)(e:H a=some (.dK kvs)):kvs.length<=sizeLine/\(a == Vq)=false/\ ∃ vs,KV kvs vs/\h.DictOf (aH P w) a vs:=m4 ok (.inl e)
theorem mF{ks:List Key}(ok:jK P w H h)(e:H a=some (.tup (ks.map kV))):(Y4 (aH P w)).is h ks a:=by
 obtain⟨_,ai,r,o,h1,h2,n,h3,_⟩:=(show aT P w H h a (.tup (ks.map kV)) from ok a _ e)
 exact⟨o,ai.toArray,n,h1,h2,h3,by simpa using qX r⟩
theorem oD{kvs:List (List Key × V)}(ok:jK P w H h)(e:Rd H a (.dT kvs)):kvs.length<=sizeLine/\(a == Vq)=false /\
  ∃ xs,KT H kvs xs/\h.DictOfH (Y4 (aH P w)) a xs:=by
 obtain⟨z,y,xs,r,o,es,ep,h1,h2,h3,h4,h5⟩:=(show aT P w H h a (.dT kvs) from IB ok e)
 refine⟨z,y,xs,r,o,es,ep,h1,h2,h3,h4,λx hx=>?_,h5⟩;have all: ∀{l:List (List Key × V)}{m:List (List Key × Addr × Value)},KT H l m-> ∀ x∈m,(Y4 (aH P w)).is h x.1 x.2.1:=by
  intro l m q
  induction q with
  | nil=>intro x hx;exact nomatch hx
  | @cons p q ps qs hq t ih =>
   intro x hx
   rcases Ui.mp hx with e | hx
   . subst e;exact mF ok (by rw[<- hq.1];exact hq.2.1)
   . exact ih x hx
 exact all r x hx
theorem Q5{kvs:List (List Key × V)}(ok:jK P w H h)(e:H a=some (.dT kvs)):kvs.length<=sizeLine/\(a == Vq)=false /\
  ∃ xs,KT H kvs xs/\h.DictOfH (Y4 (aH P w)) a xs:=oD ok (.inl e)
end
noncomputable def jE(H:Hp)(a:Addr)(y:V)(r:Option V):Prop :=
 (∃ kvs k,Rd H a (.dK kvs)/\y=kV k/\r=gQ kvs k)\/ ∃ kvs k b,Rd H a (.dT kvs)/\y= .ref b/\H b=some (.tup (k.map kV))/\r=gQ kvs k
noncomputable def w9(H:Hp)(a:Addr)(y v:V)(H':Hp):Prop :=
 (∃ kvs k,H a=some (.dK kvs)/\y=kV k/\kvs.length < sizeLine/\H'=upd H a (.dK (putK kvs k v))) \/
 ∃ kvs k b,H a=some (.dT kvs)/\y= .ref b/\H b=some (.tup (k.map kV))/\kvs.length < sizeLine/\H'=upd H a (.dT (putK kvs k v))
theorem jE.k{H:Hp}{a:Addr}{kvs:List (Key × V)}{k:Key}(e:H a=some (.dK kvs)):jE H a (kV k) (gQ kvs k):= .inl ⟨kvs,k,.inl e,rfl,rfl⟩
theorem jE.t{H:Hp}{a b:Addr}{kvs:List (List Key × V)}{k:List Key}(e:H a=some (.dT kvs))(eb:H b=some (.tup (k.map kV))):jE H a (.ref b) (gQ kvs k):= .inr ⟨kvs,k,b,.inl e,rfl,eb,rfl⟩
theorem w9.k{H:Hp}{a:Addr}{kvs:List (Key × V)}{k:Key}{v:V}(e:H a=some (.dK kvs))(hl:kvs.length < sizeLine):w9 H a (kV k) v (upd H a (.dK (putK kvs k v))):= .inl ⟨kvs,k,e,rfl,hl,rfl⟩
theorem w9.t{H:Hp}{a b:Addr}{kvs:List (List Key × V)}{k:List Key}{v:V}(e:H a=some (.dT kvs))(eb:H b=some (.tup (k.map kV)))(hl:kvs.length < sizeLine) :
  w9 H a (.ref b) v (upd H a (.dT (putK kvs k v))):= .inr ⟨kvs,k,b,e,rfl,eb,hl,rfl⟩
section
variable{X:Cx}{pins:List (Addr × Obj)}{σ :St}{H:Hp}{s:T7}{a:Addr}{y v:V}{u r:Value}{o:Option V}{A:UW}{E:Value->T7->Prop}
theorem Inv.big(I:Inv X pins σ H s):Vq < s.heap.objs.size:=by
 have h:Uv < s.heap.objs.size:=(I.mod.glob.keeps I.bk).lt;exact Yg (by decide) h
theorem AQ{Q:Value->T7->Prop}(hu:A.units+1 < cLine)(I:Inv X pins σ H s)(g:jE H a y (some v))(ry:RelV y u)(h: ∀ w' s',Inv X pins σ H s'->RelV v w'->Q w' s') :
  wpAny (model X.prog X.w) A (Yf (.ref a) u) Q E s:=by
 rcases g with⟨kvs,k,e,ey,l⟩ | ⟨kvs,k,b,e,ey,eb,l⟩
 . subst ey;obtain⟨z,hd,vs,rel,dd⟩:=m4 I.bq e;obtain⟨w',hw,rw'⟩:=lu.some_of (v:=v) (o:=Zr vs k) (by rw[l];exact rel.val k);exact wpAny_getItem_of (kY ry) dd.mapOf hw (h w' _ (I.tok _) rw')
 . subst ey;cases(show u=Ux b from ry);obtain⟨z,hd,xs,rel,dd⟩:=oD I.bq e;obtain⟨w',hw,rw'⟩:=lu.some_of (v:=v) (o:=(atKey xs k).map (·.2)) (by rw[l];exact rel.val k)
   obtain⟨p,hp,hp2⟩:=Option.map_eq_some_iff.mp hw;refine wpAny_getItem_heap (WM hu) (mF I.bq eb) dd hp ?_;rw[hp2];exact h w' _ (I.tok _) rw'
theorem RH{Q:Value->T7->Prop}(hu:A.units+1 < cLine)(I:Inv X pins σ H s)(g:jE H a y o)(ry:RelV y u)(h: ∀ s',Inv X pins σ H s'->Q (.bool o.isSome) s') :
  wpAny (model X.prog X.w) A (UK .In u (.ref a)) Q E s:=by
 rcases g with⟨kvs,k,e,ey,l⟩ | ⟨kvs,k,b,e,ey,eb,l⟩
 . subst ey;obtain⟨z,hd,vs,rel,dd⟩:=m4 I.bq e;refine wpAny_in_of (kY ry) hd dd.mapOf ?_;rw[<- (rel.val k).gS,<- l];exact h _ (I.tok _)
 . subst ey;cases(show u=Ux b from ry);obtain⟨z,hd,xs,rel,dd⟩:=oD I.bq e;refine wpAny_in_heap (WM hu) (mF I.bq eb) hd dd ?_;have q:=(rel.val k).gS;rw[YH] at q;rw[<- q,<- l];exact h _ (I.tok _)
theorem Fb{Q:Value->T7->Prop}(hu:A.units+1 < cLine)(I:Inv X pins σ H s)(g:jE H a y o)(ry:RelV y u)(h: ∀ s',Inv X pins σ H s'->Q (.bool (!o.isSome)) s') :
  wpAny (model X.prog X.w) A (UK .NotIn u (.ref a)) Q E s:=by
 rcases g with⟨kvs,k,e,ey,l⟩ | ⟨kvs,k,b,e,ey,eb,l⟩
 . subst ey;obtain⟨z,hd,vs,rel,dd⟩:=m4 I.bq e;refine wpAny_notIn_of (kY ry) hd dd.mapOf ?_;rw[<- (rel.val k).gS,<- l];exact h _ (I.tok _)
 . subst ey;cases(show u=Ux b from ry);obtain⟨z,hd,xs,rel,dd⟩:=oD I.bq e;refine wpAny_notIn_heap (WM hu) (mF I.bq eb) hd dd ?_;have q:=(rel.val k).gS;rw[YH] at q;rw[<- q,<- l];exact h _ (I.tok _)
theorem sF{h':Heap}{t':Nat}{ob:HO}(I:Inv X pins σ H s)(mu:Qx (H a))(hs:Zi a s.heap h')(he: ∃ q,h'.get? a=some q)(new:aT X.prog X.w (upd H a ob) h' a ob) :
  Inv X pins σ (upd H a ob) { s with heap:=h',toks:=t' } :=
 I.write (x:=a) (e:=a) mu (.inl rfl) (λb q hb z=>(hs.2 b hb).trans z) he new
theorem tN{P:Uy}{w:World}{H':Hp}{h':Heap}{kvs:List (Key × V)}{vs:List (Key × Value)}(z:kvs.length<=sizeLine)(hd:(a == Vq)=false)(rel:KV kvs vs)(dd:h'.DictOf (aH P w) a vs) :
  aT P w H' h' a (.dK kvs):=⟨z,hd,vs,rel,dd⟩
theorem zp{H':Hp}{Q:Unit->T7->Prop}(hu:A.units+1 < cLine)(I:Inv X pins σ H s)(g:w9 H a y v H')(ry:RelV y u)(rv:RelV v r)(h: ∀ s',Inv X pins σ H' s'->Q () s') :
  wpAny (model X.prog X.w) A (setItem (.ref a) u r) Q E s:=by
 rcases g with⟨kvs,k,e,ey,l,eH⟩ | ⟨kvs,k,b,e,ey,eb,l,eH⟩
 . subst ey eH;obtain⟨z,hd,vs,rel,dd⟩:=vo I.bq e;have hz:vs.length<=sizeLine:=by rw[<- rel.length];exact z
   have hl:(putK kvs k v).length<=sizeLine:=by have:=iS kvs k v;omega
   refine wpAny_setItem_pairs (hsz:=hz) (kY ry) dd λh' dd' hs=>h _ ?_;have he: ∃ q,h'.get? a=some q:=let ⟨q,_,_,hq,_⟩:=dd';⟨q,hq⟩
   exact sF I (by rw[e];exact We) hs he (tN hl hd (rel.put k rv) dd')
 . subst ey eH;cases(show u=Ux b from ry);obtain⟨z,hd,xs,rel,dd⟩:=Q5 I.bq e;have hz:xs.length<=sizeLine:=by rw[<- Xh rel];exact z
   have hl:(putK kvs k v).length<=sizeLine:=by have:=iS kvs k v;omega
   refine wpAny_setItem_heap (hsz:=hz) (WM hu) (mF I.bq eb) dd λh' dd' hs=>h _ ?_;obtain⟨q,es,ep,hq,h2,h3,h4,_,h5⟩:=dd';refine sF I (by rw[e];exact We) hs ⟨q,hq⟩ ⟨hl,hd,_,(rel.put k eb rv).keeps λc ys ec=>?_,q,es,ep,hq,h2,h3,h4,h5⟩;rw[aA (qY ec e (λz=>nomatch z))];exact ec
end
section
variable{X:Cx}{pins:List (Addr × Obj)}{σ :St}{H:Hp}{s:T7}{a:Addr}{kvs:List (Key × V)}{k:Key}{u:Value}{A:UW}{E:Value->T7->Prop}
theorem Pq{Q:Value->T7->Prop}(I:Inv X pins σ H s)(e:Rd H a (.dK kvs))(h: ∀ t s',Inv X pins σ H s'->Q (.int kvs.length t) s'):wpAny (model X.prog X.w) A (call (.builtin "len") [.ref a]) Q E s:=by
 obtain⟨z,hd,vs,rel,dd⟩:=m4 I.bq e;refine call_len_dict hd dd (by rw[<- rel.length];rw[aa8] at z;omega) ?_;rw[<- rel.length];exact h _ _ (I.tok _)
end
noncomputable def Ib (i:Expr):Prop:= ∀ ov iv,YF i false ov iv=operate [ov,iv] (Yf ov iv)
theorem Fz {prog : Uy} {w : World} {A : UW} {E : Value -> T7 -> Prop} {s : T7} {env : Env} {value slice : Expr} {pos : Pos} {T id : String} {Q : Value -> T7 -> Prop}
    (hl : typeLookup (.type T) "__getitem__" = pure (some (.builtin id))) (hs : Ib slice)
    (h : wpAny (model prog w) A (eval value env) (λo s₁ => wpAny (model prog w) A (eval slice env) (λi s₂ => s₂.TypeIs o T /\ wpAny (model prog w) A (Yf o i) Q E s₂) E s₁) E s) :
    wpAny (model prog w) A (eval (.Subscript value slice pos) env) Q E s := by
  refine Subscript_ (UZ h (λo s₁ h₁ => UZ h₁ (λi s₂ h₂ => ?_) λ_ _ x => x) λ_ _ x => x);obtain ⟨hT, h₂⟩ := h₂;unfold YU;refine TY ?_;rw [ZM hT.not_modules];refine TY (ZE hT hl ?_);have fin : wpAny (model prog w) A (YF slice false o i) (λr s₃ => wpAny (model prog w) A (letTemporaryGo value o r >>= λ_ => pure r) Q E s₃) E s₂ := by
    rw [hs o i];exact wpAny_operating (UZ h₂ (λr s₃ h₃ => TY (ZV (Ud h₃))) λ_ _ x => x)
  first
    | exact Ud (TY fin)
    | exact TY (Ud (TY fin))
    | exact TY fin
theorem vw{X:Cx}{pins:List (Addr × Obj)}{σ :St}{H:Hp}{s:T7}{a:Addr}{y:V}{o:Option V}(I:Inv X pins σ H s)(g:jE H a y o):s.TypeIs (.ref a) "dict" :=by
 rcases g with⟨kvs,k,e,_,_⟩ | ⟨kvs,k,b,e,_,_,_⟩
 . obtain⟨_,_,vs,_,dd⟩:=m4 I.bq e;exact dd.typeIs
 . obtain⟨_,_,xs,_,dd⟩:=oD I.bq e;exact dd.typeIs
theorem uJ{P:Uy}{w:World}{H:Hp}(h:Heap)(hb:Vq < h.objs.size):aT P w H (h.push { cls:= .type "dict",data:= .dict #[] }) h.objs.size (.dK []) :=
 ⟨UQ _,beq_eq_false_iff_ne.mpr (WB (Uw hb)),[],.nil,ZF h⟩
noncomputable def Dt:TE:=λ_ H Q=> ∀ p,H p=none->Q (.ref p) (upd H p (.dK []))
section
variable{X:Cx}{pos:Pos}
theorem Ds:PE X (.Dict [] [] pos) Dt:=λpins s σ H Q I h =>
 wpAny_Dict_empty ⟨.ref s.heap.objs.size,_,I.laid (a:=s.heap.objs.size) (o:= .dK []) (t':=s.toks) (λ_ _ q=>T6 _ q) (Ua _) (uJ s.heap I.big),rfl,h _ (I.bq.fresh (Ua _))⟩
end
noncomputable def lU:List (TE × TE)->St->Hp->(List (V × V)->Hp->Prop)->Prop
 | [],_,H,Q=>Q [] H
 | (tk,tv)::r, σ,H,Q=>tk σ H λx H1=>tv σ H1 λy H2=>lU r σ H2 λps H3=>Q ((x,y)::ps) H3
abbrev VV:List (V × V)->List (Value × Value)->Prop:=Vh λp q=>RelV p.1 q.1∧RelV p.2 q.2
noncomputable def PX (X:Cx) (pos:Pos) (keys:List (Option Expr)) (values:List Expr) (trs:List (TE × TE)):Prop :=
 ∀ (pins:List (Addr × Obj)) (s:T7) (σ :St) (H:Hp) (Q:List (V × V)->Hp->Prop),Inv X pins σ H s->lU trs σ H Q ->
  wpAny (model X.prog X.w) X.A (evalPairs (pairTrees keys values X.env pos)) (λvs s'=> ∃ ps H',Inv X pins σ H' s'/\VV ps vs/\Q ps H') X.xe s
theorem HL{X:Cx}{pos:Pos}:PX X pos [] [] []:=λpins s σ H Q I h=>pairTrees_nil_walk ⟨[],H,I,.nil,h⟩
theorem BI{X:Cx}{pos:Pos}{k v:Expr}{ks:List (Option Expr)}{vs:List Expr}{tk tv:TE}{trs:List (TE × TE)}(hk:PE X k tk)(hv:PE X v tv)(hr:PX X pos ks vs trs) :
  PX X pos (some k::ks) (v::vs) ((tk,tv)::trs):=λpins s σ H Q I h =>
 pairTrees_cons_walk (cC (hk pins s σ H _ I h) λu s1 ⟨x,H1,I1,rx,q1⟩=>cC (hv pins s1 σ H1 _ I1 q1) λw2 s2 ⟨y,H2,I2,ry,q2⟩ =>
  cC (hr pins s2 σ H2 _ I2 q2) λws s3 ⟨ps,H3,I3,rel,q3⟩=>⟨(x,y)::ps,H3,I3,.cons ⟨rx,ry⟩ rel,q3⟩)
noncomputable def cT(kvs more:List (Key × V)):List (Key × V):=more.foldl (λacc kv=>putK acc kv.1 kv.2) kvs
theorem KV.merge: ∀{more:List (Key × V)}{rs:List (Key × Value)}{kvs:List (Key × V)}{vs:List (Key × Value)},KV more rs->KV kvs vs->KV (cT kvs more) (merged vs rs):=by
 intro more rs kvs vs r;unfold KV at r
 induction r generalizing kvs vs with
 | nil=>intro q;exact q
 | @cons p q ps qs h t ih =>
  intro r0
  have e:KV (putK kvs p.1 p.2) (stored vs q.1 q.2):=by
   have:=r0.put p.1 h.2;rw[<- h.1];exact this
  exact ih e
theorem eK: ∀(more kvs:List (Key × V)),(cT kvs more).length<=kvs.length+more.length
 | [],kvs=>by show kvs.length<=kvs.length+0;omega
 | p::r,kvs=>by
  have h1:=eK r (putK kvs p.1 p.2);have h2:=iS kvs p.1 p.2;show(cT (putK kvs p.1 p.2) r).length<=_;rw[Ub];omega
theorem pO{P:Uy}{w:World}: ∀{kvs:List (Key × V)}{ws:List (Value × Value)},VV (kvs.map λkv=>(kV kv.1,kv.2)) ws-> ∃ rs,Carries (aH P w) ws rs/\KV kvs rs
 | [],_,r=>by rw[UN] at r;cases r;exact⟨[],We,.nil⟩
 | p::kvs,_,r=>by
  rw[T9] at r;cases r with
  | @cons a b as bs h t =>
   obtain⟨rs,c,q⟩:=pO (P:=P) (w:=w) t
   obtain⟨b1,b2⟩:=b
   exact⟨(p.1,b2)::rs,⟨kY h.1,rfl,c⟩,.cons ⟨rfl,h.2⟩ q⟩
noncomputable def Iw(trs:List (TE × TE)):TE:=fun σ H Q=> ∀ p,H p=none->lU trs σ (upd H p (.dK [])) λps H2=>H2 p=some (.dK [])/\ ∃ kvs:List (Key × V),ps=kvs.map (λkv=>(kV kv.1,kv.2))/\kvs.length<=15/\Q (.ref p) (upd H2 p (.dK (cT [] kvs)))
theorem EU{X:Cx}{pos:Pos}{keys:List (Option Expr)}{values:List Expr}{trs:List (TE × TE)}(h:PX X pos keys values trs)(hall:keys.all (·.isSome)=true)(hl:keys.length=values.length)(h0:keys≠[])
  (h15:keys.length<=15):PE X (.Dict keys values pos) (Iw trs):=by
 intro pins s σ H Q I q;have hn:=I.bq.fresh (Ua s.heap.objs.size);have I1:=I.laid (a:=s.heap.objs.size) (o:= .dK []) (h':=s.heap.push { cls:= .type "dict",data:= .dict #[] }) (t':=s.toks) (λ_ _ q=>T6 _ q) (Ua _) (uJ s.heap I.big);refine wpAny_Dict_walk (knd:=aH X.prog X.w) hall hl h0 h15 (cC (h pins _ σ _ _ I1 (q _ hn)) λws s2 ⟨ps,H2,I2,rel,e,kvs,ep,lk,q2⟩=>?_);subst ep;obtain⟨rs,c,rk⟩:=pO (P:=X.prog) (w:=X.w) rel;obtain⟨z,hd,vs0,r0,dd⟩:=vo I2.bq e;cases r0;refine⟨rs,c,dd,λh' dd' hs=>⟨.ref s.heap.objs.size,_,?_,rfl,q2⟩⟩;have hz:(cT [] kvs).length<=sizeLine:=by
  have h1:=eK kvs [];rw[UE] at h1;rw[aa8];omega
 have he: ∃ q,h'.get? s.heap.objs.size=some q:=let ⟨q,_,_,hq,_⟩:=dd';⟨q,hq⟩
 exact sF I2 (by rw[e];exact We) hs he (tN hz hd (rk.merge .nil) dd')
structure M1(X:Cx)(o:Expr)(m:Str)(apos:Pos)(e:Expr)(cpos:Pos):Prop where
 base:Wx o m X.env (eval o X.env)=eval o X.env
 lI:((Xx cpos (UY [e] X.env)).all (λx=> !x.1)&&(backToKw cpos (abb [] X.env)).all (λx=>x.1.isSome)
  && decide (([e]:List Expr).length+([]:List Z9).length+(if ([]:List Z9).isEmpty then 0 else 1) < 30))=true
 line:(apos.endLine == cpos.line)=true
 trees:Xx cpos (UY [e] X.env)=[(false,eval e X.env)]
structure M2(X:Cx)(o:Expr)(m:Str)(apos:Pos)(e f:Expr)(cpos:Pos):Prop where
 base:Wx o m X.env (eval o X.env)=eval o X.env
 lI:((Xx cpos (UY [e,f] X.env)).all (λx=> !x.1)&&(backToKw cpos (abb [] X.env)).all (λx=>x.1.isSome)
  && decide (([e,f]:List Expr).length+([]:List Z9).length+(if ([]:List Z9).isEmpty then 0 else 1) < 30))=true
 line:(apos.endLine == cpos.line)=true
 trees:Xx cpos (UY [e,f] X.env)=[(false,eval e X.env),(false,eval f X.env)]
noncomputable def SQ(H:Hp)(a:Addr):Prop:=(∃ kvs,Rd H a (.dK kvs))\/ ∃ kvs,Rd H a (.dT kvs)
theorem NU{X:Cx}{pins:List (Addr × Obj)}{σ :St}{H:Hp}{s:T7}{a:Addr}(I:Inv X pins σ H s)(d:SQ H a) :
  s.TypeIs (.ref a) "dict" /\(∀ b,Ux a= .ref b-> ∃ ob,s.heap.get? b=some ob/\ob.dict=none)/\(a == Vq)=false:=by
 rcases d with⟨kvs,e⟩ | ⟨kvs,e⟩
 . obtain⟨_,hd,vs,_,dd⟩:=m4 I.bq e;refine⟨dd.typeIs,λb q=>?_,hd⟩;cases q;obtain⟨ob,_,_,h1,h2,_⟩:=dd;exact⟨ob,h1,h2.2.1⟩
 . obtain⟨_,hd,xs,_,dd⟩:=oD I.bq e;refine⟨dd.typeIs,λb q=>?_,hd⟩;cases q;obtain⟨ob,_,_,h1,h2,_⟩:=dd;exact⟨ob,h1,h2.2.1⟩
section
variable{X:Cx}{pins:List (Addr × Obj)}{σ :St}{H:Hp}{s:T7}{a:Addr}{y d:V}{u r:Value}{o:Option V}{A:UW}{E:Value->T7->Prop}
theorem MY{Q:Value->T7->Prop}(hu:A.units+1 < cLine)(I:Inv X pins σ H s)(g:jE H a y o)(ry:RelV y u)(rd:RelV d r)(h: ∀ w' s',Inv X pins σ H s'->RelV (o.getD d) w'->Q w' s') :
  wpAny (model X.prog X.w) A (call (.builtin "dict.get") [.ref a,u,r]) Q E s:=by
 rcases g with⟨kvs,k,e,ey,l⟩ | ⟨kvs,k,b,e,ey,eb,l⟩
 . subst ey;obtain⟨z,hd,vs,rel,dd⟩:=m4 I.bq e;refine call_meetsIn XG dd.typeIs Zs (Y8 _ _ _) (meets_dict_get_default (aH X.prog X.w) a (kY ry) hd r) ⟨_,dd.mapOf,h _ _ (I.tok _) ?_⟩;rw[l];exact(rel.val k).getD rd
 . subst ey;cases(show u=Ux b from ry);obtain⟨z,hd,xs,rel,dd⟩:=oD I.bq e;refine call_meetsIn XG dd.typeIs Zs (Y8 _ _ _) (meetsH_dict_get_default (Y4 (aH X.prog X.w)) a b hd r) ⟨WM hu,k,xs,mF I.bq eb,dd,h _ _ (I.tok _) ?_⟩;rw[l];exact(rel.val k).getD rd
end
noncomputable def Cf(td ty tx:TE):TE:=fun σ H Q=>td σ H λx H1=> ∃ a,x= .ref a/\SQ H1 a/\ty σ H1 λy H2=>tx σ H2 λz H3=> ∃ o,jE H3 a y o/\Q (o.getD z) H3
section
variable{X:Cx}{o e f:Expr}{apos cpos:Pos}{td ty tx:TE}
theorem Cv(hu:X.A.units+1 < cLine)(ho:PE X o td)(he:PE X e ty)(hf:PE X f tx)(m:M2 X o "get" apos e f cpos):PE X (.Call (.Attribute o "get" apos) [e,f] [] cpos) (Cf td ty tx):=by
 intro pins s σ H Q I h;refine wpAny_Call_method m.base m.lI m.line PySem.F.plainAttrs_dict XG PySem.F.type_dict_get (cC (ho pins s σ H _ I h) λu s1 ⟨x,H1,I1,rx,a,ex,d,q1⟩=>?_);subst ex;obtain rfl:u=Ux a:=rx;obtain⟨t1,t2,_⟩:=NU I1 d;refine⟨t1,t2,?_⟩;rw[m.trees];refine XC rfl (XY (Xp (cC (he pins s1 σ H1 _ I1 q1) λiv s2 ⟨y,H2,I2,ry,q2⟩ =>
  Xp (cC (hf pins s2 σ H2 _ I2 q2) λfv s3 ⟨z,H3,I3,rz,ov,g,q3⟩=>YE ?_))))
 exact MY hu I3 g ry rz λw' s4 I4 rw'=>⟨_,H3,I4,rw',q3⟩
end
section
variable{X:Cx}
theorem zr:aQ X (.builtin "len") (λxs H Q=> ∃ a kvs,xs=[V.ref a]/\H a=some (.dK kvs)/\Q (.int kvs.length) H):=by
 intro pins s σ H xs us Q I r h;obtain⟨a,kvs,rfl,ha,q⟩:=h;obtain⟨u,rfl,ru⟩:=vals1 r;cases ru;exact Pq I (.inl ha) λt s' I'=>⟨.int kvs.length,H,I',⟨t,rfl⟩,q⟩
end
noncomputable def mask(n:Str):Str:=⟨n.cps.push 0⟩
noncomputable def iL(sc fn:List (Str × Xi))(N vars:List Str):Bool :=
 sc.all (λp=>p.2 != .cell&&(p.2 != .free||(fn.lookup p.1 == some .cell||fn.lookup p.1 == some .free))&&(p.2 != .local||sc.lookup p.1 == some .local)) &&
 N.all (λn=>vars.contains n||sc.lookup n !=some .local)&&vars.all (λv=>sc.lookup (mask v) == none)
noncomputable def ny (N vars:List Str):List Str:=N.map (λn=>if vars.contains n then mask n else n)++vars
noncomputable def fj (X:Cx) (vars:List Str) (scope:Scope) (cl:List (Str × Addr)) (C:Addr) (s₀ :T7) (H₀ :Hp) (ex:List Addr) (pn:List (Addr × Obj)):Cx :=
 { X with N:=ny X.N vars,env:=V6 scope cl C X.env,s₀ :=s₀,H₀ :=H₀,outer:=X.stack,ex:=ex,fn:=λ_=>false,pn:=pn }
theorem jI (f : Str -> Xi -> Xi) (x : Str) : ∀ names : List (Str × Xi), (names.map λp => (p.1, f p.1 p.2)).lookup x = (names.lookup x).map (f x)
  | [] => rfl
  | p :: r => by
    have ih := jI f x r;rw [T9, W9, W9, ih];cases q : x == p.1 with
    | true => obtain rfl : x = p.1 := by simpa using q
              rfl
    | false => rfl
theorem iV {env:Env} {names:List (Str × Xi)} {x:Str} :
  (names.map λ(n,k)=>if (k == Wb&&env.scope.kind == .function&&env.kindOf n == some .cell) then (n,XT) else (n,k)).lookup x =
   (names.lookup x).map λk=>if (k == Wb&&env.scope.kind == .function&&env.kindOf x == some .cell) then XT else k:=by
 rw[<- jI (λn k=>if (k == Wb&&env.scope.kind == .function&&env.kindOf n == some .cell) then XT else k) x names];congr 2
 funext p
 obtain⟨n,k⟩:=p;show(if _ then _ else _)=_;split<;>rename_i z<;>simp[z]
theorem lookup_mem{β :Type}{x:Str}{c: β}: ∀{l:List (Str × β)},l.lookup x=some c->(x,c)∈l
 | [],h=>by simp at h
 | p::r,h=>by
  rw[W9] at h;cases q:x == p.1 with
  | true =>
   rw[q] at h
   obtain rfl:x=p.1:=by simpa using q
   obtain rfl:p.2=c:=by simpa using h
   exact Uk
  | false=>rw[q] at h;exact Uo _ (lookup_mem h)
theorem gj{β :Type}{x:Str}{c: β}: ∀{l:List (Str × β)},(x,c)∈l-> ∃ d,l.lookup x=some d
 | [],h=>nomatch h
 | (n,k)::r,h=>by
  cases hx:x == n with
  | true=>exact⟨k,by simp only[W9,hx]⟩
  | false =>
   have h':(x,c)∈r:=by
    rcases Ui.mp h with e | e
    . cases e;simp at hx
    . exact e
   obtain⟨d,q⟩:=gj h'
   exact⟨d,by simp only[W9,hx];exact q⟩
theorem jZ{env:Env}: ∀(names:List (Str × Xi))(acc:List (Str × Addr)),(∀ p∈names,p.2= .free-> ∃ c,env.cells.lookup p.1=some c) ->
  ∃ cl,(forIn names acc λ(x:Str × Xi) (r:List (Str × Addr))=>(match x with | (name,kind)=>if (kind == Wb)=true then do let a <- cellOf env name;pure (WR ((name,a)::r)) else pure (WR r):Sem (ForInStep (List (Str × Addr)))))=pure cl /\
   (∀ p∈cl,p∈acc\/env.cells.lookup p.1=some p.2)/\(∀ p∈acc,p∈cl)/\ ∀ p∈names,p.2= .free-> ∃ c,(p.1,c)∈cl
 | [],acc,_=>⟨acc,rfl,λp h=> .inl h,λp h=>h,λp h=>nomatch h⟩
 | (n,k)::r,acc,h=>by
  by_cases hk:(k == Wb)=true
  . obtain⟨c,hc⟩:=h (n,k) Uk (by simpa using hk);obtain⟨cl,e,h1,h2,h3⟩:=jZ r ((n,c)::acc) λp hp=>h p (Uo _ hp);refine⟨cl,?_,λp hp=>?_,λp hp=>h2 p (Uo _ hp),λp hp hf=>?_⟩
    . rw[WS];have z:cellOf env n=pure c:=by unfold cellOf;have hc':env.cells.lookup n=some c:=hc;rw[hc']
      simp only[hk,if_true,z];exact e
    . rcases h1 p hp with q | q
      . rcases Ui.mp q with q | q
        . exact .inr (by rw[q];exact hc)
        . exact .inl q
      . exact .inr q
    . rcases Ui.mp hp with q | q
      . exact⟨c,by rw[q];exact h2 _ Uk⟩
      . exact h3 p q hf
  . obtain⟨cl,e,h1,h2,h3⟩:=jZ r acc λp hp=>h p (Uo _ hp);refine⟨cl,?_,h1,h2,λp hp hf=>?_⟩
    . rw[WS];simp only[if_neg hk];exact e
    . rcases Ui.mp hp with q | q
      . rw[q] at hf;exact absurd (by simpa using hf) hk
      . exact h3 p q hf
theorem pZ{env:Env}{scope:Scope}(h: ∀ p∈scope.names,p.2= .free-> ∃ c,env.cells.lookup p.1=some c) :
  ∃ cl,closureFor scope env=pure cl/\(∀ x c,cl.lookup x=some c->env.cells.lookup x=some c)/\ ∀ x,scope.names.lookup x=some .free-> ∃ c,cl.lookup x=some c:=by
 obtain⟨cl,e,h1,_,h3⟩:=jZ scope.names [] h;refine⟨cl,?_,λx c q=>?_,λx q=>?_⟩
 . unfold closureFor;show(forIn scope.names ([]:List (Str × Addr)) _ >>= λr=>pure r)=_
   erw [e]
   rfl
 . rcases h1 _ (lookup_mem q) with z | z
   . cases z
   . exact z
 . obtain⟨c,q'⟩:=h3 _ (lookup_mem q) rfl;exact gj q'
noncomputable def Ie(cs:List Expr)(v:Env):Sem Bool :=
 forIn cs true λc r=>if r=true then(aaV c v (eval c v) >>= λok=>pure (WR ok)) else pure (WR r)
noncomputable def xA(M:Model)(A:UW)(v:Env)(e:Expr)(acc:Value)(X:Value->T7->Prop)(D:T7->Prop):Bool->T7->Prop:=λok u=>if ok=true then
  wpAny M A (eval e v) (λx u1=>wpAny M A (call (.builtin "list.append") [acc,x]) (λ_ u2=>D u2) X u1) X u
 else D u
noncomputable def Ms(M:Model)(A:UW)(v:Env)(tg e:Expr)(cs:List Expr)(it acc:Value)(X:Value->T7->Prop)(D:T7->Prop)(i:Value)(u:T7):Prop :=
 wpAny M A (X7 tg it i) (λ_ u1=>wpAny M A (Xy tg v i) (λ_ u2=>wpAny M A (Ie cs v) (xA M A v e acc X D) X u2) X u1) X u
theorem pe{prog:Uy}{w:World}{A:UW}{R:Result->T7->Prop}{s:T7}{elt target iter:Expr}{ifs:List Expr}{scope:Scope}{pos:Pos}{it acc:Value}{env:Env}(I:Nat->T7->Prop)
  (turn: ∀ k u,I k u->wpAny (model prog w) A (aaW it) (λr u1=>match r with
   | none=>R (.ok .next) u1
   | some i=>Ms (model prog w) A env target elt ifs it acc (notedBy (model prog w) A env λe s'=>R (.error e) s') (λu2=> ∃ m,m < k/\I m u2) i u1) (notedBy (model prog w) A env λe s'=>R (.error e) s') u)
  (n:Nat) (h:I n s):Zk (model prog w) A (.compLoop (.ListComp elt [⟨target,iter,ifs,0⟩] scope pos) 0 it acc env) R s:=by
 refine codeAny_loop rfl I (λk u hu=>wpAny_noted (m:=compTurn (.ListComp elt [⟨target,iter,ifs,0⟩] scope pos) 0 it acc env) ?_) n h;rw[compTurn_list];refine TY (aal (TY (UZ (turn k u hu) (λr u1 g=>?_) λ_ _ z=>z)))
 match r,g with
 | none,g=>exact Ud g
 | some i,g =>
  refine TY (UZ g (λ_ _ g=>TY (UZ g (λ_ _ g=>TY (UZ g (λok u4 g=>?_) λ_ _ z=>z)) λ_ _ z=>z)) λ_ _ z=>z)
  match ok,g with
  | false,g=>exact Ud (aa1 rfl g)
  | true,g=>exact TY (TY (UZ g (λ_ _ g=>TY (UZ g (λ_ _ g=>Ud (Ud (aa1 rfl g))) λ_ _ z=>z)) λ_ _ z=>z))
noncomputable def PF(X:Cx)(ifs:List Expr)(t:TT):Prop :=
 ∀(pins:List (Addr × Obj))(s:T7)(σ :St)(H:Hp)(Q:Bool->Hp->Prop),Inv X pins σ H s->t σ H Q ->
  wpAny (model X.prog X.w) X.A (forIn ifs true λc r=>if r=true then do let ok <- aaV c X.env (eval c X.env);pure (WR ok) else pure (WR r)) (TP X pins σ Q) X.xe s
noncomputable def Jf:TT:=λ_ H Q=>Q true H
theorem K9{X:Cx}:PF X [] Jf:=λ_ _ σ H Q I h=>wpAny_tests_nil ⟨H,I,h⟩
theorem LB{X:Cx}{c:Expr}{t:TT}(h:PT X c t):PF X [c] t:=λpins s σ H Q I q=>wpAny_tests_one (h pins s σ H Q I q)
noncomputable def Rj(k:Nat)(wi:TI)(g:TG)(tt:TT)(te:TE):TE:=fun σ H Q=>wi σ H λJ H1=> ∃ W:Nat->Nat->List V->Hp->Prop,(∃ m,W 0 m [] H1)/\ ∀ i m ys H,W i m ys H ->
 (J.stop i H/\ ∀ p,H p=none->Q (.ref p) (upd H p (.lst ys))) \/
 (J.go i H/\ys.length < sizeLine/\ ∀ x H',J.Jk i H x H'->g x (σ ++Uc k none) H' fun σ2 H2=>tt σ2 H2 λb H3 =>
  if b=true then te σ2 H3 λy H4=> ∃ m',m' < m/\W (i+1) m' (ys++[y]) H4 else ∃ m',m' < m/\W (i+1) m' ys H3)
section
variable{X:Cx}{pins:List (Addr × Obj)}{σ :St}{H:Hp}{s:T7}{scope:Scope}{vars:List Str}{cl:List (Str × Addr)}
theorem iH(h:iL scope.names X.env.scope.names X.N vars=true): ∀ p∈scope.names,p.2≠ .cell/\(p.2= .free->X.env.kindOf p.1=some .cell\/X.env.kindOf p.1=some .free)/\(p.2= .local->scope.names.lookup p.1=some .local):=by
 intro p hp;unfold iL at h;simp only[Ut,XO] at h;obtain⟨⟨h1,_⟩,_⟩:=h;have q:=h1 p hp;simp only[WT,bne_iff_ne,ne_eq,beq_iff_eq] at q;obtain⟨⟨q1,q2⟩,q3⟩:=q;refine⟨q1,λe=>?_,λe=>?_⟩
 . rcases q2 with z | z
   . exact absurd e z
   . exact z
 . rcases q3 with z | z
   . exact absurd e z
   . exact z
theorem NG(h:iL scope.names X.env.scope.names X.N vars=true): ∀ n∈X.N,¬ n∈vars->scope.names.lookup n≠some .local:=by
 intro n hn hv;unfold iL at h;simp only[Ut,XO] at h;obtain⟨⟨_,h2⟩,_⟩:=h;have q:=h2 n hn;simp only[WT,bne_iff_ne,ne_eq,List.contains_iff_mem] at q;exact q.resolve_left hv
theorem zL(h:iL scope.names X.env.scope.names X.N vars=true): ∀ n∈vars,scope.names.lookup (mask n)=none:=by
 intro n hn;unfold iL at h;simp only[Ut,XO] at h;simpa using h.2 n hn
theorem Inv.fj{C:Addr}{h':Heap}{t':Nat}{m':Str->Option Value}{fp:List Addr}(I:Inv X pins σ H s)(hkind:scope.kind= .function)(hlc:iL scope.names X.env.scope.names X.N vars=true)
  (hc1: ∀ x c,cl.lookup x=some c->X.env.cells.lookup x=some c) (hc2: ∀ x,scope.names.lookup x=some .free-> ∃ c,cl.lookup x=some c)
  (hfp: ∀ b∈fp,nB X pins H b) (hfo: ∀ b∈fp,∃ o,s.heap.get? b=some o) (hC:s.heap.objs.size<=C) (hn:h'.Ns C m') (k: ∀ b o,s.heap.get? b=some o->h'.get? b=some o) :
  Inv (fj X vars scope cl C s H fp (X.pn++pins)) [] (σ ++Uc vars.length none) H { s with heap:=h',toks:=t' }:=by
 have hHC:H C=none:=I.bq.fresh hC;have cellOf: ∀ x c,cl.lookup x=some c->c < s.heap.objs.size:=λx c e=>by
  obtain⟨v,q⟩:=I.cell x c (hc1 x c e);exact q.lt
 refine⟨?ok,rfl,I.bare,Un.kept k,⟨m',hn,?loc⟩,λx c e=>?cell,hHC,λx c e=>I.jm x c (hc1 x c e),?pin,I.bq.kept k,?len⟩
 case ok =>
  refine{ mod:=I.ok.mod,kind:=?_,glob:=I.ok.glob,blt:=I.ok.blt,above:=hC,inj:=?_,has:=?_,NV:=(λ_ _ e=>by cases e),hd:=I.ok.hd,frames:=I.ok.frames,Qu:= .inl rfl,RJ:=?_,bs:=I.bs,ED:=UM I.ok.ED I.sz,Ao:=?_,Ct:=?_,mH:=I.stack,Jb:=I.y8 }
  . exact hkind
  . exact λx y c e1 e2=>I.ok.inj x y c (hc1 x c e1) (hc1 y c e2)
  . intro x hx;have hx':(V6 scope cl C X.env).kindOf x=some .cell\/(V6 scope cl C X.env).kindOf x=some .free:=hx;have e:(V6 scope cl C X.env).kindOf x=(scope.names.lookup x).map λk=>if (k == Wb&&X.env.scope.kind == .function&&X.env.kindOf x == some .cell) then XT else k:=iV
    rw[e] at hx';cases q:scope.names.lookup x with
    | none=>rw[q] at hx';simp at hx'
    | some kd =>
     have hm:=iH (X:=X) hlc _ (lookup_mem q)
     by_cases hf:kd= .free
     . subst hf;exact hc2 x q
     . rw[q] at hx';have hf':(kd == Wb)=false:=by simpa using hf
       simp only[V4,hf',Xz,VG,if_false,W0] at hx';rcases hx' with z | z
       . exact absurd z hm.1
       . exact absurd z hf
  . intro b hb;have f:=hfp b hb;obtain⟨o,e⟩:=hfo b hb;exact⟨Uw (Up (Ug e) hC),λx c e=>f.2.2.2.2.1 x c (hc1 x c e)⟩
  . intro b o e hb;have f:=hfp b hb;rcases f.2.2.2.1 with z | z
    . exact I.ok.Ao b o e z
    . exact absurd (Up (Ug (I.ok.bs b o e).1) z) (Vk _)
  . intro b hb z;have f:=hfp b hb;rcases Ui.mp (I.lO b z) with q | q
    . exact f.2.1 q
    . exact f.2.2.1 q
 case loc =>
  intro i x v e1 e2 e3
  have e1':(ny X.N vars)[i]?=some x:=e1
  have e:(V6 scope cl C X.env).scope.names.lookup x=(scope.names.lookup x).map λk=>if (k == Wb&&X.env.scope.kind == .function&&X.env.kindOf x == some .cell) then XT else k:=iV
  by_cases hi:i < σ.length
  . rw[UT hi] at e2;unfold ny at e1';rw[UT (by rw[TZ,<- I.len];exact hi),Uq] at e1';cases q:X.N[i]? with
    | none=>rw[q] at e1';cases e1'
    | some n =>
     rw[q] at e1'
     have e1'':(if vars.contains n=true then mask n else n)=x:=U9 e1'
     have vis:(scope.names.lookup x).isSome=true:=by
      unfold NW at e3;have e3':(V6 scope cl C X.env).scope.names.lookup x=some .local\/(V6 scope cl C X.env).scope.names.lookup x=some .cell\/(V6 scope cl C X.env).scope.names.lookup x=some .free:=e3;rw[e] at e3';cases z:scope.names.lookup x with
      | none=>rw[z] at e3';simp at e3'
      | some _=>rfl
     by_cases hv:n∈vars
     . rw[if_pos (by simpa using hv)] at e1'';have:=zL (X:=X) hlc n hv;rw[e1''] at this;rw[this] at vis;cases vis
     . rw[if_neg (by simpa using hv)] at e1'';subst e1'';have nl:=NG (X:=X) hlc n (Ue q) hv;cases z:scope.names.lookup n with
       | none=>rw[z] at vis;cases vis
       | some kd =>
        have hm:=iH (X:=X) hlc _ (lookup_mem z)
        have hkd:kd= .free:=by
         unfold NW at e3;have e3':(V6 scope cl C X.env).scope.names.lookup n=some .local\/(V6 scope cl C X.env).scope.names.lookup n=some .cell\/(V6 scope cl C X.env).scope.names.lookup n=some .free:=e3;rw[e,z] at e3';by_cases hf:kd= .free
         . exact hf
         . have hf':(kd == Wb)=false:=by simpa using hf
           simp only[V4,hf',Xz,VG,if_false,W0] at e3';rcases e3' with y | y | y
           . rw[y] at z;exact absurd z nl
           . exact absurd y hm.1
           . exact y
        subst hkd
        have kk:=hm.2.1 rfl
        obtain⟨m,_,hl⟩:=I.loc
        obtain⟨u,r,look⟩:=hl i n v q e2 (.inr kk)
        obtain⟨c,hcl⟩:=hc2 n z
        have look': ∃ c,X.env.cells.lookup n=some c/\s.heap.IsCell c (some u):=by
         rcases look with⟨y,_⟩ | ⟨_,y⟩
         . rcases kk with w | w<;>(rw[w] at y;cases y)
         . exact y
        obtain⟨c',hc',⟨o,ho,hd⟩⟩:=look'
        have ec:c=c':=U9 ((hc1 n c hcl).symm.trans hc')
        subst ec
        refine⟨u,r,.inr ⟨?_,c,hcl,o,k c o ho,hd⟩⟩
        show(V6 scope cl C X.env).scope.names.lookup n=some .cell\/(V6 scope cl C X.env).scope.names.lookup n=some .free
        rw[e,z]
        simp only[V4]
        split
        . exact .inl rfl
        . exact .inr rfl
  . rw[UD (aaA.mp hi),WG] at e2;split at e2<;>cases e2
 case cell =>
  obtain⟨v,o,ho,hd⟩:=I.cell x c (hc1 x c e)
  exact⟨v,o,k c o ho,hd⟩
 case pin =>
  intro p hp
  have hp':p∈X.pn++pins:=by simpa [L2.fj] using hp
  obtain⟨e,n,ne,nf,d⟩:=I.pin p hp'
  refine⟨k _ _ e,n,Uw (Up (Ug e) hC),λz=>?_,d⟩
  rcases Ui.mp (I.lO p.1 z) with q | q
  . exact ne q
  . exact nf q
 case len =>
  show(σ ++Uc vars.length none).length=(ny X.N vars).length
  unfold ny
  rw[Ur,Ur,TZ,ZJ,I.len]
end
noncomputable def GK(n:Nat)(g:TG):Prop:= ∀ x σ H Q,g x σ H Q->g x σ H fun σ2 H2=>Q σ2 H2/\ ∀ j,j < n-> σ2[j]?= σ[j]?
noncomputable def Pc(n:Nat)(g:t8):Prop:= ∀ xs σ H Q,g xs σ H Q->g xs σ H fun σ2 H2=>Q σ2 H2/\ ∀ j,j < n-> σ2[j]?= σ[j]?
noncomputable def sE(g:TG):Prop:= ∀ x σ H Q Q',(∀ σ2 H2,Q σ2 H2->Q' σ2 H2)->g x σ H Q->g x σ H Q'
theorem FA{n i:Nat}(h:n<=i):GK n (fQ i):=λx σ H Q q=>⟨q,λj hj=>Vb (by omega)⟩
theorem wU{i:Nat}:sE (fQ i):=λx σ H Q Q' f q=>f _ _ q
theorem KR{n:Nat}:Pc n AZ:=λxs σ H Q q=>⟨q.1,q.2,λ_ _=>rfl⟩
theorem FO{n:Nat}{g:TG}{gs:t8}(h:GK n g)(hm:sE g)(hs:Pc n gs):Pc n (m7 g gs):=λxs σ H Q q=>by
 obtain⟨v,r,e,z⟩:=q;refine⟨v,r,e,hm _ _ _ _ _ (fun σ2 H2 y=>?_) (h _ _ _ _ z)⟩;have y':=hs _ _ _ _ y.1;have:(fun σ3 H3=>(Q σ3 H3/\ ∀ j,j < n-> σ3[j]?= σ2[j]?))=fun σ3 H3=>(Q σ3 H3/\ ∀ j,j < n-> σ3[j]?= σ[j]?):=by
  funext σ3 H3
  exact propext ⟨λw=>⟨w.1,λj hj=>(w.2 j hj).trans (y.2 j hj)⟩,λw=>⟨w.1,λj hj=>(w.2 j hj).trans (y.2 j hj).symm⟩⟩
 rw[this] at y';exact y'
theorem Mp{K:TV}{n m:Nat}{gs:t8}(hs:Pc n gs):GK n (v9 K m gs):=λx σ H Q q=>by
 obtain⟨a,xs,e,h1,h2,h3⟩:=q;exact⟨a,xs,e,h1,h2,hs _ _ _ _ h3⟩
section
variable{X:Cx}{scope:Scope}{vars:List Str}{elt tg iter:Expr}{ifs:List Expr}{pos:Pos}{wi:TI}{g:TG}{tt:TT}{te:TE}
theorem oX{pins:List (Addr × Obj)}{σ :St}{H2:Hp}{s2:T7}{cl:List (Str × Addr)}{it:Addr}{fp:List Addr}{tn:Nat->Heap->Prop}{J:It}{RR:Value->Addr->Result->T7->Prop}{Q:VK}{E:Value->T7->Prop}
  (hc:X.calm=true) (hx: ∀ v s,¬ X.xe v s) (hkind:scope.kind= .function) (hlc:iL scope.names X.env.scope.names X.N vars=true)
  (hb: ∀ cl C s₀ H₀ ex pn,PG (fj X vars scope cl C s₀ H₀ ex pn) tg g/\PF (fj X vars scope cl C s₀ H₀ ex pn) ifs tt/\PE (fj X vars scope cl C s₀ H₀ ex pn) elt te) (hgk:GK X.N.length g)
  (hc1: ∀ x c,cl.lookup x=some c->X.env.cells.lookup x=some c) (hc2: ∀ x,scope.names.lookup x=some .free-> ∃ c,cl.lookup x=some c)
  (I2:Inv X pins σ H2 s2) (T:Turn X.prog X.w X.K tg J fp it tn) (st2:tn 0 s2.heap) (f2: ∀ b∈fp,nB X pins H2 b)
  {W:Nat->Nat->List V->Hp->Prop} {m0:Nat} (w0:W 0 m0 [] H2)
  (turn: ∀ i m ys H,W i m ys H->(J.stop i H/\ ∀ p,H p=none->Q (.ref p) (upd H p (.lst ys))) \/
   (J.go i H/\ys.length < sizeLine/\ ∀ x H',J.Jk i H x H'->g x (σ ++Uc vars.length none) H' fun σ2 H2=>tt σ2 H2 λb H3 =>
    if b=true then te σ2 H3 λy H4=> ∃ m',m' < m/\W (i+1) m' (ys++[y]) H4 else ∃ m',m' < m/\W (i+1) m' ys H3))
  (hRR: ∀ D C s4 H4 ys m,Inv X pins σ (upd H4 D (.lst ys)) s4->s4.heap.Ns C m->H4 D=none->(upd H4 D (.lst ys)) C=none->C≠X.env.locals->X.s₀.heap.objs.size<=C->(∀ x c,X.env.cells.lookup x=some c->c≠C)->(∀ p∈X.pn++pins,p.1≠C) ->
   Q (.ref D) (upd H4 D (.lst ys))->RR (.ref D) C (.ok .next) s4) :
  wpAny (model X.prog X.w) X.A (newList []) (λacc s₃ =>wpAny (model X.prog X.w) X.A (newFunctionEnv scope X.env.globals cl [] X.env.qual none .none (some X.env)) (λcenv s₄ =>
   Zk (model X.prog X.w) X.A (.compStart (.ListComp elt [⟨tg,iter,ifs,0⟩] scope pos) 0 (.ref it) acc { cenv with scope:=relabel scope X.env }) (RR acc cenv.locals) s₄) E s₃) E s2:=by
 have hcell: ∀ y∈scope.names,y.2≠ .cell:=λy hy=>(iH (X:=X) hlc y hy).1;refine Vz (wpAny_newFunctionEnv hcell (λy hy=>absurd hy (by simp)) (λh₁ hns₁ hsb₁ =>?_) hkind);dsimp only at hns₁ hsb₁ ⊢;generalize hH2:s2.heap.push { cls:= .type "list",dict:=none,data:= .seq ([]:List Value).toArray }=P2 at hns₁ hsb₁ ⊢;have hC:P2.objs.size=s2.heap.objs.size+1:=by rw[<- hH2,Vr]
 have hDC:s2.heap.objs.size≠P2.objs.size:=by rw[hC];exact Uw (XM _)
 have hCle:s2.heap.objs.size<=P2.objs.size:=by rw[hC];exact YG _
 have below: ∀ b,b < s2.heap.objs.size->b≠P2.objs.size/\b≠s2.heap.objs.size:=λb hb=>⟨by rw[hC];exact Uw (Wu hb),Uw hb⟩
 have old: ∀ b o,s2.heap.get? b=some o->h₁.get? b=some o:=λb o e=>hsb₁.extBut b o (below b (Ug e)).1 (T6 _ (hH2 ▸ T6 _ e));have hacc:h₁.get? s2.heap.objs.size=some { cls:= .type "list",data:= .seq ([]:List Value).toArray 0 }:=hsb₁.extBut _ _ hDC (T6 _ (hH2 ▸ Um _ rfl));generalize hDe:s2.heap.objs.size=D at *;generalize hCe:P2.objs.size=C at *;have fo: ∀ b∈fp,∃ o,s2.heap.get? b=some o:=λb hb=>let ⟨o,e,_⟩:=T.obj _ _ st2 b hb;⟨o,e⟩
 have fpD: ∀ b∈fp,b < D:=λb hb=>by obtain⟨o,e⟩:=fo b hb;rw[<- hDe];exact Ug e
 have pnlt: ∀ p∈X.pn++pins,p.1 < D:=λp hp=>by rw[<- hDe];exact Ug (I2.pin p hp).1
 have cllt: ∀ x c,X.env.cells.lookup x=some c->c < D:=λx c e=>by obtain⟨v,q⟩:=I2.cell x c e;rw[<- hDe];exact q.lt
 have hLD:X.env.locals < D:=by rw[<- hDe];exact I2.lt
 have hD0:X.s₀.heap.objs.size<=D:=by rw[<- hDe];exact I2.sz
 have IY0:Inv (fj X vars scope cl C s2 H2 fp (X.pn++pins)) [] (σ ++Uc vars.length none) H2 { s2 with heap:=h₁,toks:=s2.toks+([]:List (Str × Value)).length } :=
  I2.fj hkind hlc hc1 hc2 f2 fo (by rw[hDe];exact hCle) hns₁ old
 have st1:tn 0 h₁ :=T.keep _ _ _ st2 λb _ o e=>old b o e;obtain⟨hg,hf,he⟩:=hb cl C s2 H2 fp (X.pn++pins);generalize hY:fj X vars scope cl C s2 H2 fp (X.pn++pins)=Y at *;have Yprog:Y.prog=X.prog:=by rw[<- hY];rfl
 have Yw:Y.w=X.w:=by rw[<- hY];rfl
 have YK:Y.K=X.K:=by rw[<- hY];rfl
 have YA:Y.A=X.A:=by rw[<- hY];rfl
 have Ycalm:Y.calm=true:=by rw[<- hY];exact hc
 have Yenv:Y.env=V6 scope cl C X.env:=by rw[<- hY];rfl
 have Yloc:Y.env.locals=C:=by rw[Yenv];rfl
 have Yex:Y.ex=fp:=by rw[<- hY];rfl
 have Yfs:Y.fs=Bk X.stack:=by rw[<- hY];rfl
 have Ys0:Y.s₀ =s2:=by rw[<- hY];rfl
 have YH0:Y.H₀ =H2:=by rw[<- hY];rfl
 have Ypn:Y.pn=X.pn++pins:=by rw[<- hY];rfl
 have YN:Y.N=ny X.N vars:=by rw[<- hY];rfl
 have Yxe: ∀ v s,¬ Y.xe v s:=by rw[<- hY];exact hx
 have noE: ∀{E':Value->T7->Prop}{v:Value}{s:T7},Y.xe v s->E' v s:=λh=>absurd h (Yxe _ _);have Ycell: ∀ x c,Y.env.cells.lookup x=some c->c < D:=λx c e=>by rw[Yenv] at e;exact cllt x c (hc1 x c e)
 have fpY: ∀{H':Hp}{pl:List (Addr × Obj)},(∀ b∈fp,H' b=none)->(∀ p∈pl,D<=p.1)-> ∀ b∈fp,nB Y pl H' b:=λ{H' pl} hn hp b hb=>by
  refine⟨hn b hb,?_,?_,.inl (by rw[Yex];exact hb),?_,?_⟩
  . rw[Yloc];exact Uw (Up (fpD b hb) hCle)
  . rw[Yfs];intro z;rcases Ui.mp (I2.lO b z) with q | q
    . exact(f2 b hb).2.1 q
    . exact(f2 b hb).2.2.1 q
  . intro x c e z;rw[Yenv] at e;exact(f2 b hb).2.2.2.2.1 x c (hc1 x c e) z
  . intro p hp';rcases Va.mp hp' with q | q
    . rw[Ypn] at q;exact(f2 b hb).2.2.2.2.2 p q
    . intro z;have:=hp p q;rw[z] at this;exact absurd (Up (fpD b hb) this) (Vk _)
 have Dfs:D ∉ Y.fs:=by
  rw[Yfs];intro z;rcases Ui.mp (I2.lO D z) with q | q
  . exact absurd hLD (by rw[q];exact Vk _)
  . exact I2.Pz (by rw[hDe];exact Ua _) q
 have loop:Zk (model X.prog X.w) X.A (.compLoop (.ListComp elt [⟨tg,iter,ifs,0⟩] scope pos) 0 (.ref it) (.ref D) (V6 scope cl C X.env)) (RR (.ref D) C) { s2 with heap:=h₁,toks:=s2.toks+([]:List (Str × Value)).length }:=by
  refine pe (λn s'=> ∃ i ys H' ai k,Inv Y [(D,{ cls:= .type "list",data:= .seq ai k })] (σ ++Uc vars.length none) H' s'/\tn i s'.heap/\(∀ b∈fp,H' b=none)/\W i n ys H'/\Vals ys ai.toList/\ys.length<=sizeLine) ?_ m0
   ⟨0,[],H2,_,0,IY0.jt (λp hp=>?_),st1,λb hb=>(f2 b hb).1,w0,.nil,UQ _⟩
  . rintro n s3 ⟨i,ys,H3,ai,k,I3,lG,fr3,w3,hv,hlen⟩;rcases turn i n ys H3 w3 with⟨stop,q⟩ | ⟨go,hlt,step⟩
    . have d:=T.done Y Yprog Yw YK Ycalm i _ s3 _ H3 (notedBy (model X.prog X.w) X.A (V6 scope cl C X.env) λe s'=>RR (.ref D) C (.error e) s') I3 (fpY fr3 (by intro p hp;rw[UX.mp hp];exact Ua _)) lG stop;rw[YA] at d;refine UZ d (λr s4 hr=>?_) λ_ _ z=>z;obtain⟨rfl,I4⟩:=hr;obtain⟨eD,nD,_,_,_⟩:=I4.pin (D,_) (UB _ Uk);dsimp only at eD nD;obtain⟨m,hnC,_⟩:=I4.loc;rw[Yloc] at hnC;have hb4:=I4.base;rw[Yfs,Yex,YH0,Ys0] at hb4;have hok4:=I4.bq;rw[Yprog,Yw] at hok4;have hCf:=I4.free;rw[Yloc] at hCf;have neD: ∀ b o,s2.heap.get? b=some o->b≠D:=λb o e=>by rw[<- hDe];exact Uw (Ug e)
      have IX:Inv X pins σ (upd H3 D (.lst ys)) s4:=by
       refine I2.ON (ch:=fp) (I4.os.trans (by rw[Ys0])) ⟨hb4.keep,hb4.slot,λb o e n hx'=>?_,hb4.there,λb xs e=>?_,λb o u e=>?_,λb ps e=>?_⟩ (λb u e=>?_) I4.bare (λb hb'=>?_)
       . rw[aA (neD b o e)];exact hb4.free b o e n hx'
       . rw[aA (aB (hb4.lY b xs e) nD)];exact hb4.lY b xs e
       . rw[aA (aB (hb4.kW b o u e) nD)];exact hb4.kW b o u e
       . obtain⟨more,e'⟩:=hb4.nv b ps e;exact⟨more,by rw[aA (aB e' nD)];exact e'⟩
       . by_cases hbD:b=D
         . subst hbD;rw[ba] at e;cases e;exact⟨hlen,ai.toList,k,hv,by simpa using eD⟩
         . rw[aA hbD] at e;exact(hok4 b u e).sU (λc v _ z=>z) (λc z=>by rw[aA (aB z nD)];exact z) λc xs z=>by rw[aA (aB z nD)];exact z
       . have f:=f2 b hb';exact⟨f.2.2.2.1,f.2.1,f.2.2.2.2.1,f.2.2.2.2.2⟩
      refine hRR D C s4 H3 ys m IX hnC nD (by rw[aA (WB hDC)];exact hCf) (Ws (Up hLD hCle)) (UM hD0 hCle) (λx c e=>Uw (Up (cllt x c e) hCle)) (λp hp=>Uw (Up (pnlt p hp) hCle)) (q D nD)
    . have d:=T.item Y Yprog Yw YK Ycalm i _ s3 _ H3 (notedBy (model X.prog X.w) X.A (V6 scope cl C X.env) λe s'=>RR (.ref D) C (.error e) s') I3 (fpY fr3 (by intro p hp;rw[UX.mp hp];exact Ua _)) lG go;rw[YA] at d;refine UZ d (λr s4 hr=>?_) λ_ _ z=>z;obtain⟨u,rfl,h4⟩:=hr;refine UZ h4 (λ_ s5 h5=>?_) λ_ _ z=>z;obtain⟨x,H5,I5,r5,y5,st5,fr5⟩:=h5;have I5':=I5.pinned (fpY fr5 (by intro p hp;rw[UX.mp hp];exact Ua _)) (T.obj _ _ st5);have a1:=hg _ s5 _ H5 x u _ I5' r5 (hgk _ _ _ _ (step x H5 y5));rw[Yprog,Yw,YA,Yenv] at a1;refine UZ a1 (λ_ s6 h6=>?_) λ_ _ z=>noE z;obtain⟨σ6,H6,I6,q6,k6⟩:=h6;have a2:=hf _ s6 σ6 H6 _ I6 q6;rw[Yprog,Yw,YA,Yenv] at a2;have back: ∀{pl:List (Addr × Obj)}{H':Hp}{s':T7},Inv Y pl σ6 H' s'->Inv Y pl (σ ++Uc vars.length none) H' s':=λ{pl H' s'} I'=>by
       refine I'.weak ?_ λj v e=>?_
       . rw[I'.len,<- I3.len]
       . by_cases hj:j < σ.length
         . rw[k6 j (by rw[<- I2.len];exact hj)];exact e
         . rw[UD (aaA.mp hj),WG] at e;split at e<;>cases e
      refine UZ a2 (λok s7 h7=>?_) λ_ _ z=>noE z;obtain⟨H7,I7,q7⟩:=h7;cases ok with
      | false =>
       rw[if_neg Uu] at q7
       unfold xA
       rw[if_neg (show ¬ false=true from Uu)]
       obtain⟨m',hm',w7⟩:=q7
       refine⟨m',hm',i+1,ys,H7,ai,k,(back I7).jt (λp hp=>I7.pin p (UB _ (W4 _ hp))),T.keep _ _ _ st5 λb hb' o e=>(I7.pin (b,o) (UB _ (UB _ (d7 hb' e)))).1,λb hb'=>?_,w7,hv,hlen⟩
       obtain⟨o,e,_⟩:=T.obj _ _ st5 b hb'
       exact(I7.pin (b,o) (UB _ (UB _ (d7 hb' e)))).2.1
      | true =>
       rw[if_pos rfl] at q7
       unfold xA
       rw[if_pos (show true=true from rfl)]
       have a3:=he _ s7 σ6 H7 _ I7 q7
       rw[Yprog,Yw,YA,Yenv] at a3
       refine UZ a3 (λy s8 h8=>?_) λ_ _ z=>noE z
       obtain⟨v,H8,I8,r8,m',hm',w8⟩:=h8
       obtain⟨eD,nD,neL,nfD,dD⟩:=I8.pin (D,_) (UB _ (W4 _ Uk))
       dsimp only at eD nD neL nfD dD
       refine append_at (hsz:=by have:=hv.length;simp at this;omega) eD λh9 hs9 e9=>?_
       have st8:tn (i+1) s8.heap:=T.keep _ _ _ st5 λb hb' o e=>(I8.pin (b,o) (UB _ (UB _ (d7 hb' e)))).1
       have fr8: ∀ b∈fp,H8 b=none:=λb hb'=>by
        obtain⟨o,e,_⟩:=T.obj _ _ st5 b hb';exact(I8.pin (b,o) (UB _ (UB _ (d7 hb' e)))).2.1
       have I8':Inv Y [] (σ ++Uc vars.length none) H8 s8:=(back I8).jt λp hp=>nomatch hp
       have I9:=I8'.turned (it:=D) (h':=h9) (t':=s8.toks) (λb o hb' e=>hs9.extBut b o hb' e) nD neL (.inr (by rw[Ys0,hDe];exact Ua _)) (λx c e=>Uw (Ycell x c e)) (λp hp=>by
        rw[Vd,Ypn] at hp;exact Uw (pnlt p hp))
       refine⟨m',hm',i+1,ys++[v],H8,ai.push y,k+1,I9.jt (λp hp=>?_),T.keep _ _ _ st8 λb hb' o e=>hs9.extBut b o (Uw (fpD b hb')) e,fr8,w8,?_,?_⟩
       . obtain rfl:=UX.mp hp;exact⟨e9,nD,neL,nfD,λv=>by simp⟩
       . rw[Array.toList_push];exact Vals.append hv (.cons r8 .nil)
       . rw[Ur,ZL];exact hlt
  . obtain rfl:=UX.mp hp;refine⟨hacc,I2.bq.fresh (by rw[hDe];exact Ua _),?_,Dfs,λv=>by simp⟩;rw[Yloc];exact hDC
 exact codeAny_compStart_list loop (T.self _ 0 _ _ _ st1 loop)
end
section
variable{X:Cx}{scope:Scope}{vars:List Str}{elt tg iter:Expr}{ifs:List Expr}{pos spos py:Pos}{wi:TI}{g:TG}{tt:TT}{te:TE}{i:Nat}{y:Str}
theorem Cj(vars:List Str)(hc:X.calm=true)(hx: ∀ v s,¬ X.xe v s)(hkind:scope.kind= .function)(hlc:iL scope.names X.env.scope.names X.N vars=true)(hi:PI X tg iter wi)
  (hb: ∀ cl C s₀ H₀ ex pn,PG (fj X vars scope cl C s₀ H₀ ex pn) tg g/\PF (fj X vars scope cl C s₀ H₀ ex pn) ifs tt/\PE (fj X vars scope cl C s₀ H₀ ex pn) elt te) (hgk:GK X.N.length g)
  (hs: ∀ x,U2 iter X.env x=pure x:=by intro _;rfl):PE X (.ListComp elt [⟨tg,iter,ifs,0⟩] scope pos) (Rj vars.length wi g tt te):=by
 intro pins s σ H Q I h;obtain⟨cl,hcl,hc1,hc2⟩:=pZ (env:=X.env) (scope:=scope) λp hp hf=>I.ok.has p.1 ((iH (X:=X) hlc p hp).2.1 hf);rw[eval_ListComp];refine YV (use:=none) rfl hs hcl hkind (λp hp=>(iH (X:=X) hlc p hp).2.2) ?_;refine UZ (hi pins s σ H _ I h) (λv s1 h1=>UZ h1 (λitv s2 h2=>?_) λ_ _ z=>z) λ_ _ z=>z;obtain⟨it,fp,tn,J,H2,rfl,I2,T,st2,f2,W,⟨m0,w0⟩,turn⟩:=h2;refine oX (Q:=Q) (RR:=λacc C=>compPost (model X.prog X.w) X.A X.xe none (EP X pins σ Q) acc C) hc hx hkind hlc hb hgk hc1 hc2 I2 T st2 f2 w0 turn ?_;intro D C s4 H4 ys m I4 hn nD nC neL hsz hcell hpin q;refine⟨m,hn,λh' hs'=>⟨.ref D,_,I4.turned (it:=C) (t':=s4.toks) (λb o hb e=>hs'.extBut b o hb e) nC neL (.inr hsz) hcell hpin,rfl,q⟩⟩
noncomputable def CB(k i:Nat)(wi:TI)(g:TG)(tt:TT)(te:TE):TS:=λD σ H=>Rj k wi g tt te σ H λv H1=>D.nx (σ.set i (some v)) H1
theorem CZ(vars:List Str)(i:Nat)(hc:X.calm=true)(hx: ∀ v s,¬ X.xe v s)(hkind:scope.kind= .function)(hlc:iL scope.names X.env.scope.names X.N vars=true)(hN:X.N.Nodup)(hiy:X.N[i]?=some y)(hy:Loc X.env.scope y)
  (hi:PI X tg iter wi)
  (hb: ∀ cl C s₀ H₀ ex pn,PG (fj X vars scope cl C s₀ H₀ ex pn) tg g/\PF (fj X vars scope cl C s₀ H₀ ex pn) ifs tt/\PE (fj X vars scope cl C s₀ H₀ ex pn) elt te) (hgk:GK X.N.length g)
  (hsw:WW (.ListComp elt [⟨tg,iter,ifs,0⟩] scope pos) (some (.Name y py)) spos.line X.env=pure true:=by rfl)
  (hs: ∀ x,U2 iter X.env x=pure x:=by intro _;rfl)
  (hf:X.fn y=true\/X.env.scope.names.lookup y=some .local:=by first | exact .inl rfl | exact .inr rfl | assumption) :
  PS X (.Assign [.Name y py] (.ListComp elt [⟨tg,iter,ifs,0⟩] scope pos) spos) (CB vars.length i wi g tt te):=by
 intro pins s σ H Dn I h;obtain⟨cl,hcl,hc1,hc2⟩:=pZ (env:=X.env) (scope:=scope) λp hp hf=>I.ok.has p.1 ((iH (X:=X) hlc p hp).2.1 hf);rw[exec_Assign_Name_used _ _ _ _ hsw];refine TY (aal (TY ?_));show wpAny _ X.A (do let _ <- comprehension (.ListComp elt [⟨tg,iter,ifs,0⟩] scope pos) scope X.env _ (newList []) false (eval iter X.env) (some (Xy (.Name y py) X.env))) _ _ s;refine TY (UZ (YV (use:=some (Xy (.Name y py) X.env)) (Q:=λ_ s'=>SP X pins Dn .next s') rfl hs hcl hkind (λp hp=>(iH (X:=X) hlc p hp).2.2) ?_) (λ_ s' hq=>Ud (Ud hq)) λ_ _ e=>e);refine UZ (hi pins s σ H _ I h) (λv s1 h1=>UZ h1 (λitv s2 h2=>?_) λ_ _ z=>z) λ_ _ z=>z;obtain⟨it,fp,tn,J,H2,rfl,I2,T,st2,f2,W,⟨m0,w0⟩,turn⟩:=h2;refine oX (Q:=λv H1=>Dn.nx (σ.set i (some v)) H1) (RR:=λacc C=>compPost (model X.prog X.w) X.A X.xe (some (Xy (.Name y py) X.env)) (λ_ s'=>SP X pins Dn .next s') acc C) hc hx hkind hlc hb hgk hc1 hc2 I2 T st2 f2 w0 turn ?_;intro D C s4 H4 ys m I4 hn nD nC neL hsz hcell hpin q;show wpAny _ X.A (Xy (.Name y py) X.env (.ref D)) _ _ s4;refine wpAny_assign_Name (rN I4 hN hiy hy (v:= .ref D) rfl (λs5 I5 ⟨a,hsb,ha⟩=>?_) hf);have hCa:C≠a:=by
  rcases ha with z | z
  . rw[z];exact neL
  . exact WB (hcell _ _ z)
 refine⟨m,hn.sameBut hsb hCa,λh' hs'=>?_⟩;exact⟨_,_,I5.turned (it:=C) (t':=s5.toks) (λb o hb e=>hs'.extBut b o hb e) nC neL (.inr hsz) hcell hpin,q⟩
end
theorem Li{K:TV}{a:Addr}{xs:List V}{k:Nat}{g:TG}{tt:TT}{te:TE}{σ :St}{H:Hp}{Q:VK}(Pv:Nat->List V->Hp->Prop)(h0:Pv 0 [] H)(hl: ∀ i ys H,i<=xs.length->Pv i ys H->fc K H a xs/\ys.length<=i)(hz:xs.length<=sizeLine)
  (hs: ∀ i x ys H,xs[i]?=some x->Pv i ys H->g x (σ ++Uc k none) H fun σ2 H2=>tt σ2 H2 λb H3=>if b=true then te σ2 H3 λy H4=>Pv (i+1) (ys++[y]) H4 else Pv (i+1) ys H3)
  (hd: ∀ ys H,Pv xs.length ys H-> ∀ p,H p=none->Q (.ref p) (upd H p (.lst ys)))
  (gm:sE g) (tm: ∀ σ H Q Q',(∀ b H1,Q b H1->Q' b H1)->tt σ H Q->tt σ H Q') (em: ∀ σ H Q Q',(∀ b H1,Q b H1->Q' b H1)->te σ H Q->te σ H Q') :
  ∃ W:Nat->Nat->List V->Hp->Prop,(∃ m,W 0 m [] H)/\ ∀ i m ys H,W i m ys H ->
 ((CC K a).stop i H/\ ∀ p,H p=none->Q (.ref p) (upd H p (.lst ys))) \/
 ((CC K a).go i H/\ys.length < sizeLine/\ ∀ x H',(CC K a).Jk i H x H'->g x (σ ++Uc k none) H' fun σ2 H2=>tt σ2 H2 λb H3 =>
  if b=true then te σ2 H3 λy H4=> ∃ m',m' < m/\W (i+1) m' (ys++[y]) H4 else ∃ m',m' < m/\W (i+1) m' ys H3):=by
 refine⟨λi m ys H=>m=xs.length - i/\i<=xs.length/\Pv i ys H,⟨xs.length,by simp,UQ _,h0⟩,?_⟩
 rintro i m ys H ⟨rfl,hi,p⟩
 obtain⟨q,hy⟩:=hl i ys H hi p
 by_cases hlt:i < xs.length
 . refine .inr ⟨⟨xs,xs[i],q,by simp[hlt]⟩,by omega,λx H' y=>?_⟩;obtain⟨e,y⟩:=y;subst e;refine gm _ _ _ _ _ (fun σ2 H2 z=>tm _ _ _ _ (λb H3 z=>?_) z) (hs i x ys _ (y xs q) p);cases b with
   | true =>
    rw[if_pos rfl] at z ⊢
    exact em _ _ _ _ (λv H4 w=>⟨xs.length - (i+1),by omega,rfl,hlt,w⟩) z
   | false =>
    rw[if_neg Uu] at z ⊢
    exact⟨xs.length - (i+1),by omega,rfl,hlt,z⟩
 . have e:i=xs.length:=by omega
   subst e;exact .inl ⟨⟨xs,q,Ua _⟩,hd ys H p⟩
theorem vU{X:Cx}:aQ X (.builtin "isinstance") (λxs H Q=> ∃ x T t b,xs=[x,.ty T]/\jF X.K H x t/\Yo X.K t (.type T)=some b/\Q (.bl b) H):=by
 intro pins s σ H xs us Q I r h;obtain⟨x,T,t,b,rfl,ty,k,q⟩:=h;obtain⟨u,c,rfl,ru,rc⟩:=vals2 r;cases(show c=W3 T from rc);exact AM I ru ty k λtk=>⟨.bl b,H,I.tok tk,rfl,q⟩
theorem aT.get{P:Uy}{w:World}{H:Hp}{h:Heap}{a:Addr}{o:HO}(x:aT P w H h a o): ∃ ob,h.get? a=some ob:=by
 induction o with
 | lst xs=>obtain⟨_,ai,n,_,e⟩:=x;exact⟨_,e⟩
 | tup xs=>obtain⟨_,ai,_,ob,e,_⟩:=x;exact⟨_,e⟩
 | dK kvs=>obtain⟨_,_,vs,_,ob,es,ep,e,_⟩:=x;exact⟨_,e⟩
 | dT kvs=>obtain⟨_,_,xs,_,ob,es,ep,e,_⟩:=x;exact⟨_,e⟩
 | set S n=>obtain⟨ob,es,ep,t,e,_⟩:=x;exact⟨_,e⟩
 | ins C dx fs=>obtain⟨_,_,_,e,_⟩:=x;exact⟨_,e⟩
 | own y=>exact x
 | xd fs=>obtain⟨mA,⟨od,es,ep,e,_⟩,_⟩:=x;exact⟨_,e⟩
 | Bb lo hi=>obtain⟨t,u,v,e⟩:=x;exact⟨_,e⟩
 | jP ob u ih=>obtain⟨e,_⟩:=x;exact⟨_,e⟩
 | tbl ps=>exact⟨_,x⟩
 | met f y=>exact⟨_,x⟩
 | ext φ =>obtain⟨_,e,_⟩:=x;exact e
theorem Inv.mK{X:Cx}{pins:List (Addr × Obj)}{σ :St}{H:Hp}{s:T7}{h':Heap}{a:Addr}{o:HO}{t':Nat}(I:Inv X pins σ H s)(k: ∀ b u,s.heap.get? b=some u->h'.get? b=some u)(hp:s.heap.get? a=none)(new:aT X.prog X.w (upd H a o) h' a o) :
  H a=none/\Inv X pins σ (upd H a o) { s with heap:=h',toks:=t' }:=by
 have hn:H a=none:=by
  cases q:H a with
  | none=>rfl
  | some u =>
   obtain⟨ob,e⟩:=(I.bq a u q).get
   rw[hp] at e;cases e
 have ne: ∀ b u,s.heap.get? b=some u->b≠a:=λb u e z=>by rw[z,hp] at e;cases e
 refine⟨hn,I.un ⟨λb u q _ _ _=>k b u q,λb u q _ _ _=>⟨u.slots,k b u q⟩,λb u q n _=>?_,λb u q _=>⟨u,k b u q⟩,λb xs q=>?_,λb u xs q=>?_,λb ps q=>?_⟩ λb u e=>?_⟩
 . rw[aA (ne b u q)];exact n
 . rw[aA (aB q hn)];exact q
 . rw[aA (aB q hn)];exact q
 . exact⟨#[],by rw[aA (aB q hn),q];simp⟩
 . by_cases hb:b=a
   . subst hb;rw[ba] at e;cases e;exact new
   . rw[aA hb] at e;exact(I.bq b u e).sU (λc v _ q=>k c v q) (λc q=>by rw[aA (aB q hn)];exact q) λc xs q=>by rw[aA (aB q hn)];exact q
theorem l9{h h':Heap}(k: ∀ b o,h.get? b=some o->h'.get? b=some o):h.get? h'.objs.size=none:=by
 cases q:h.get? h'.objs.size with
 | none=>rfl
 | some o=>exact absurd (Ug (k _ _ q)) (Vk _)
section
variable{prog:Uy}{w:World}{A:UW}{E:Value->T7->Prop}{s:T7}
theorem lC{a:Addr}{vs:List Value}{ss:List Str}{n:Nat}{Q:Value->T7->Prop}(ho:s.heap.get? a=some (WN "list" vs.toArray n))(hS:Yh vs ss)(h64:vs.length < 64)
  (h: ∀(out:Array Value)(ss':List Str),Yh out.toList ss'->ss'.Perm ss->YI ss'=true->Q .none { s with heap:=Zt s.heap a vs out }) :
  wpAny (model prog w) A (call (.builtin "list.sort") [.ref a]) Q E s:=by
 refine VX ZR ⟨_,ho,rfl⟩ ZG (list_sort_treeK strKind_oneLt ho hS.keysOf (λv₁ v₂ rest e=>keyKind_strs (by rw[<- e];exact hS)) h64 λst' hp hs=>⟨_,rfl,?_⟩) (ZS _);have z:=sorted_out_str hS hp hs;exact h _ z.choose z.choose_spec.1 z.choose_spec.2.1 z.choose_spec.2.2
theorem xi{T:String}{r d:Addr}{n:Nat}{P:Nat->Value->Prop}{OK:Heap->Prop}{Q:Value->T7->Prop}(K:PySem.W.KdlSrc prog w T r d n P OK)(hh:A.handled=none)(bq:OK s.heap)(hn:n<=sizeLine)
  (h: ∀(D:Addr)(h':Heap)(tk:Nat)(vs:List Value),(∀ b o,s.heap.get? b=some o->h'.get? b=some o)->h'.get? D=some (WN "list" vs.toArray 0)->s.heap.get? D=none->vs.length=n->(∀(j:Nat)(v:Value),vs[j]?=some v->P j v) ->
   wpAny (model prog w) A.in1 (call (.builtin "list.sort") [.ref D]) (λ_ z=>Q (.ref D) z) E { s with heap:=h',toks:=tk }):wpAny (model prog w) A (call (.builtin "sorted") [.ref r]) Q E s:=by
 refine Xb abc aaK aaL (aaM (.ref r)) ?_;unfold WO.«sorted»;refine TY (m:=checkCount "sorted" 1 1 [Ux r].length) (Ud (TY (PySem.W.kdu_collect (A:=A.in1) K hh bq hn λh' tk acc hk hacc=>?_)));have many:acc.toList.length=n:=VR.trans hacc.1;refine TY (XU (TY (VJ (UZ (h h'.objs.size (h'.push { cls:= .type "list",data:= .seq acc.toList.toArray }) tk acc.toList (λb o e=>T6 _ (hk b o e)) (Um _ rfl) (l9 hk) many
  λj v e=>hacc.2 j v (WY ▸ e)) (λ_ z q=>Ud (abz _ (aa1 rfl q))) λ_ _ e=>e))) (many ▸ hn))
end
theorem fW{ss:List Str}: ∀{us:List Value},Vals (ss.map V.str) us->Yh us ss:=by
 induction ss with
 | nil=>intro us h;cases h;exact .nil
 | cons x r ih =>
  intro us h
  cases h with
  | cons hx ht =>
   obtain⟨t,rfl⟩:=hx
   exact .cons x t (ih ht)
theorem jw: ∀{us:List Value}{ss:List Str},Yh us ss->Vals (ss.map V.str) us
 | _,_,.nil=> .nil
 | _,_,.cons x t h=> .cons ⟨t,rfl⟩ (jw h)
theorem yb{P:Nat->Value->Prop}: ∀{ss:List Str}{vs:List Value},vs.length=ss.length->(∀(j:Nat)(v:Value)(x:Str),vs[j]?=some v->ss[j]?=some x-> ∃ t,v=XI x t)->Yh vs ss
 | [],[],_,_=> .nil
 | x::r,v::vs,hl,h=>by
  obtain⟨t,rfl⟩:=h 0 v x rfl rfl;exact .cons x t (yb (P:=P) (by simpa using hl) λj v y e1 e2=>h (j+1) v y (by simpa using e1) (by simpa using e2))
section
variable{X:Cx}
theorem my:aQ X (.builtin "sorted") (λxs H Q=> ∃ p ss,xs=[.ref p]/\iF X.K H p (ss.map V.str)/\ss.length < 64/\ ∀ l ss',H l=none->ss'.Perm ss->YI ss'=true->Q (.ref l) (upd H l (.lst (ss'.map V.str)))):=by
 intro pins s σ H xs us Q I r h;obtain⟨p,ss,rfl,hS,h64,q⟩:=h;obtain⟨u,rfl,ru⟩:=vals1 r;cases(show u=Ux p from ru);obtain⟨ai,hv,hl,hz⟩:=I.list hS;have sa:=fW hv;refine sorted_strs hl.isList sa (by rw[sa.length];exact h64) λout ss' a1 a2 a3=>?_;obtain⟨e,he⟩:=aaN s.heap ai out;have hlen:(ss'.map V.str).length<=sizeLine:=by rw[TZ,a2.length_eq];exact Wr (Up h64 (by decide))
 obtain⟨hn,I'⟩:=I.mK (a:=s.heap.objs.size+1) (o:= .lst (ss'.map V.str)) (t':=s.toks) (λb o e=>aao e) (VZ (YG _)) ⟨hlen,out.toList,e,jw a1,by simpa [WN] using he⟩;exact⟨.ref _,_,I',rfl,q _ ss' hn a2 a3⟩
theorem mT(hc:X.calm=true):aQ X (.builtin "sorted") (λxs H Q=> ∃ d kvs ss,xs=[.ref d]/\H d=some (.dK kvs)/\kvs.map (·.1)=ss.map VT/\ss.length < 64/\ ∀ l ss',H l=none->ss'.Perm ss->YI ss'=true->Q (.ref l) (upd H l (.lst (ss'.map V.str)))):=by
 intro pins s σ H xs us Q I r h;obtain⟨d,kvs,ss,rfl,hd,hk,h64,q⟩:=h;obtain⟨u,rfl,ru⟩:=vals1 r;cases(show u=Ux d from ru);obtain⟨z,lo,vs,rel,dd⟩:=vo I.bq hd;obtain⟨ep,da⟩:=dd.dictAt;have hlen:vs.length=ss.length:=by
  have e1:=rel.length;have e2:(kvs.map (·.1)).length=(ss.map (VT (α :=Int))).length:=by rw[hk]
  rw[TZ,TZ] at e2;omega
 refine xi (PySem.W.kdl_dict (knd:=aH X.prog X.w) (kvs:=vs) (ep:=ep) lo) (I.ok.hd hc) da (by rw[hlen];exact Wr (Up h64 (by decide))) λD h' tk ws keep hD hDn hl hP=>?_;have sa:Yh ws ss:=by
  refine yb (P:=λ_ _=>True) (by rw[hl,hlen]) λj v x e1 e2=>?_;obtain⟨k,y,e3,hk'⟩:=hP j v e1;have e4:(kvs.map (·.1))[j]?=some k:=by
   have e5:=rel.keys;rw[e5,Uq,e3];rfl
  rw[hk,Uq,e2] at e4;have e6:(VT x:Key)=k:=U9 e4;subst e6;rcases bN (show oI (VT x) v=true from hk') with⟨i,t,z,_⟩ | ⟨x',t,z,e⟩
  . cases z
  . cases z;exact⟨t,e⟩
 refine lC (n:=0) hD sa (by rw[hl,hlen];exact h64) λout ss' a1 a2 a3=>?_;obtain⟨e,he⟩:=sortedHeap_at (out:=out) hD;have hle:(ss'.map V.str).length<=sizeLine:=by rw[TZ,a2.length_eq];exact Wr (Up h64 (by decide))
 have keep': ∀ b o,s.heap.get? b=some o->(Zt h' D ws out).get? b=some o:=λb o e=>by
  rw[sortedHeap_old (λz=>by rw[z,hDn] at e;cases e) (Ug (keep b o e))];exact keep b o e
 obtain⟨hn,I'⟩:=I.mK (a:=D) (o:= .lst (ss'.map V.str)) (t':=tk) keep' hDn ⟨hle,out.toList,e,jw a1,by simpa [WN] using he⟩;exact⟨.ref _,_,I',rfl,q _ ss' hn a2 a3⟩
end
section
variable{prog:Uy}{w:World}{A:UW}{E:Value->T7->Prop}{s:T7}
theorem qw:typeLookup (.type "tuple") "keys" =pure none:=am_miss_of_fast (by decide +kernel)
set_option maxHeartbeats 4500000 in
set_option maxRecDepth 9000 in
theorem qH{a:Addr}{o:Obj}{xs:Array Value}{k:Nat}{Q:Option Value->T7->Prop}
  (hx:s.heap.get? a=some o) (hc:o.cls= .type "tuple") (hdat:o.data= .seq xs k) (hd:o.dict=none) (hA:A.handled=none)
  (h: ∀ h' tk,(∀ b o,s.heap.get? b=some o->h'.get? b=some o)->Q none { s with heap:=h',toks:=tk }):wpAny (model prog w) A (getAttr? (.ref a) "keys") Q E s:=by
 obtain⟨c,dct,dat,sl⟩:=o;simp only at hc hdat hd;subst hc hdat hd;obtain⟨h0,gs,dr,t0,o0⟩:=s;have hT: ∀ k,(Shared.mk h0 gs dr k o0).TypeIs (.ref a) "tuple" :=λ_=>abz _ (aa1 hx rfl);have f1:=sub_AttributeError;have f3:=F.slot_tuple_getattribute.lookup;have f4:=F.slot_tuple_getattribute.bind (.ref a);have f5:=am_tuple_getattr_none;unfold getAttr?;unfold getAttrBy?;unfold getAttrBy
 repeat (any_goals (first | assumption | exact hT _ | ((with_reducible show wpAny _ _ (call (Value.builtin "tuple.__getattribute__") _ _) _ _ _);refine V2 F.slot_tuple_getattribute (hT _) am_entry_tuple_getattribute (F.args_tuple_getattribute_2 _ _) (meets_getattribute_miss_tuple a xs k sl "keys" _ qw (by decide +kernel)) ⟨hx,hA,λh' tk' e hx'=>?_⟩) | wp_step))
 obtain⟨_,_,he⟩:=hx'.there
 with_reducible_and_instances unfold getattributeRaised
 repeat (any_goals (first | exact he | assumption | wp_step))
 exact h _ _ λb o e=>hx'.keeps b o e
end
section
variable{prog:Uy}{w:World}{A:UW}{E:Value->T7->Prop}{s:T7}
theorem gz:entryFor table "dict.update.loop" =some WO.«dict.update.loop» :=entryFor_of_tree (by kernel_rfl)
theorem cE:plainId "dict.update.loop" =true:=by decide +kernel
theorem Rp{c:Prop}[Decidable c]{m m':Sem α}{M:Model}{Q: α ->T7->Prop}(hc:c)(h:wpAny M A m Q E s):wpAny M A (if c then m else m') Q E s:=by rw[if_pos hc];exact h
noncomputable def lS(prog:Uy)(w:World)(h:Heap)(v:Value)(kv:Key × Value):Prop:= ∃ b o kx n,v= .ref b/\h.get? b=some o/\o.cls= .type "tuple" /\o.data= .seq #[kx,kv.2] n/\(aH prog w).is kv.1 kx=true
theorem lS.keeps{h h':Heap}{v:Value}{kv:Key × Value}(x:lS prog w h v kv)(k: ∀ b o,h.get? b=some o->o.cls= .type "tuple" ->h'.get? b=some o):lS prog w h' v kv :=
 let ⟨b,o,kx,n,e,g,c,d,r⟩:=x;⟨b,o,kx,n,e,k b o g c,c,d,r⟩
theorem uz{R:Result->T7->Prop}{it tp d:Addr}{items:Array Value}{kvs:List (Key × Value)}{res:Value}(hh:A.handled=none)(hne:tp≠it)(hdi:d≠it)(hdt:d≠tp)(hl:kvs.length=items.size)(hz:items.size < sizeLine) :
  ∀(k i:Nat)(ii:Int)(s:T7)(acc:List (Key × Value)),items.size - i=k->i<=items.size->acc.length<=i->s.heap.IsTupleIter it tp i->s.heap.IsTuple tp items->s.heap.DictOf (aH prog w) d acc->(∃ od,s.heap.get? d=some od/\od.cls= .type "dict")->(∃ oi,s.heap.get? it=some oi/\oi.cls= .type "tuple_iterator") ->
   (∀(j:Nat)(v:Value)(kv:Key × Value),items[j]?=some v->kvs[j]?=some kv->lS prog w s.heap v kv) ->
   (∀ s' ,s'.heap.DictOf (aH prog w) d (merged acc (kvs.drop i))->(∃ h' tk,s'={ s with heap:=h',toks:=tk })->(∀ b o,b≠d->b≠it->s.heap.get? b=some o->s'.heap.get? b=some o)->R (.ok (.ret res)) s') ->
   Zk (model prog w) A (.builtin "dict.update.loop" ⟨[.ref d,.ref it,.int ii 0,res],[]⟩) R s:=by
 have W:=Walks.tuple (prog:=prog) (w:=w) (A:=A.in1) hh it tp hne items;intro k
 induction k with
 | zero =>
  intro i ii s acc hk hi hac hit htp hd hdc hic hP hR
  obtain rfl:i=items.size:=Nat.le_antisymm hi (by omega)
  refine X9 gz ?_
  rw[ZW cE _]
  show wpAny _ A.in1 (aaW (.ref it) >>= _) _ _ s
  refine TY (W.done s _ _ ⟨hit,htp⟩ λh' tk keep=>?_)
  refine TY (m:=YW d []) (Ud ?_)
  refine Ud (hR _ ?_ ⟨h',tk,rfl⟩ λb o _ hb e=>keep b o (by simpa using hb) e)
  rw[Vv (by omega)]
  exact hd.at λo e=>keep d o (by simpa using hdi) e
 | succ k ih =>
  intro i ii s acc hk hi hac hit htp hd hdc hic hP hR
  have hlt:i < items.size:=Nat.lt_of_le_of_ne hi (by omega)
  refine X9 gz ?_
  rw[ZW cE _]
  show wpAny _ A.in1 (aaW (.ref it) >>= _) _ _ s
  refine TY (W.item i s _ _ hlt ⟨hit,htp⟩ λv h' tk hv hst keep=>?_)
  have hkv:i < kvs.length:=by omega
  obtain⟨b,o,kx,n,rfl,hb,hc,hdat,his⟩:=hP i v kvs[i] hv (by simp[hkv])
  have hbi:b≠it:=λz=>by
   obtain⟨oi,e1,e2⟩:=hic;rw[z,e1] at hb;cases hb;rw[e2] at hc;exact absurd hc (by decide)
  have hb':h'.get? b=some o:=keep b o (by simpa using hbi) hb
  have hT:(({ s with heap:=h',toks:=tk }:T7)).TypeIs (.ref b) "tuple" :=⟨o,hb',hc⟩
  have hd':h'.DictOf (aH prog w) d acc:=hd.at λo e=>keep d o (by simpa using hdi) e
  dsimp only
  refine TY (VJ (TY (wpAny_tryCatch ?_)))
  unfold Builtin.Dict.pairItems
  refine TY (W8 hT (Rp (by decide) (TY (V0 hb' hdat (Ud ?_)))))
  show wpAny _ _ (Ye [kx,kvs[i].2] (dictSet d kx kvs[i].2)) _ _ _
  refine VJ (wpAny_dictSet_pairs (hsz:=by omega) his hd' λh'' dd hs=>?_)
  obtain⟨od,hod,hodc⟩:=hdc
  have hbd:b≠d:=λz=>by rw[z,hod] at hb;cases hb;rw[hodc] at hc;exact absurd hc (by decide)
  have keep2: ∀ b o,b≠d->b≠it->s.heap.get? b=some o->h''.get? b=some o:=λb o h1 h2 e=>(hs.2 b h1).trans (keep b o (by simpa using h2) e)
  refine Ud ⟨plainId_quiet cE _,?_⟩
  refine ih (i+1) (ii+1) _ (stored acc kvs[i].1 kvs[i].2) (by omega) hlt (UM (stored_length_le _ _ _) (by omega)) (hst.1.at λo e=>(hs.2 it (WB hdi)).trans e) (htp.at λo e=>keep2 tp o (WB hdt) hne e) dd ?_ ?_ ?_ ?_
  . obtain⟨q,es,ep,e1,e2,_⟩:=dd;exact⟨q,e1,e2.1⟩
  . obtain⟨oi,e1,e2,_⟩:=hst.1;exact⟨oi,(hs.2 it (WB hdi)).trans e1,e2⟩
  . intro j v kv e1 e2;refine(hP j v kv e1 e2).keeps λb' o' e3 e4=>keep2 b' o' (λz=>?_) (λz=>?_) e3
    . rw[z,hod] at e3;cases e3;rw[hodc] at e4;exact absurd e4 (by decide)
    . obtain⟨oi,f1,f2⟩:=hic;rw[z,f1] at e3;cases e3;rw[f2] at e4;exact absurd e4 (by decide)
  . rintro s' dd' ⟨h3,tk3,rfl⟩ keep3;refine hR _ ?_ ⟨h3,tk3,rfl⟩ λb o h1 h2 e=>keep3 b o h1 h2 (keep2 b o h1 h2 e);have e:kvs.drop i=kvs[i]::kvs.drop (i+1):=Xc hkv;rw[e];exact dd'
theorem qz{p:Addr}{o:Obj}{items:Array Value}{n:Nat}{kvs:List (Key × Value)}{Q:Value->T7->Prop}(hh:A.handled=none)(hb:Vq < s.heap.objs.size)(hp:s.heap.get? p=some o)(hc:o.cls= .type "tuple")(hdt:o.data= .seq items n)(hdn:o.dict=none)
  (hl:kvs.length=items.size) (hz:items.size < sizeLine) (hP: ∀(j:Nat)(v:Value)(kv:Key × Value),items[j]?=some v->kvs[j]?=some kv->lS prog w s.heap v kv)
  (h: ∀ h' tk,h'.DictOf (aH prog w) s.heap.objs.size (merged [] kvs)->(∀ b o,s.heap.get? b=some o->h'.get? b=some o)->Q (.ref s.heap.objs.size) { s with heap:=h',toks:=tk }) :
  wpAny (model prog w) A (call (.type "dict") [.ref p]) Q E s:=by
 refine callType_codes (Q₁ :=λz u=>z= .ref s.heap.objs.size/\u={ s with heap:=s.heap.push { cls:= .type "dict",data:= .dict #[] } }) F.kt_called_dict (F.kt_typeCall_dict_1 _) F.entry_dict_init (kt_code_dict_new _ ⟨rfl,rfl⟩) ?_;rintro obj s₁ ⟨rfl,rfl⟩;have up: ∀ b o,s.heap.get? b=some o->(s.heap.push { cls:= .type "dict",data:= .dict #[] }).get? b=some o:=λb o e=>T6 _ e;have hnew:(s.heap.push { cls:= .type "dict",data:= .dict #[] }).DictOf (aH prog w) s.heap.objs.size []:=ZF s.heap;have hp1:=up _ _ hp;refine⟨hnew.typeIs,F.args_dict_init_2 (.ref s.heap.objs.size) (.ref p),?_⟩
 with_unfolding_all refine TY (m:=YX _ _) (TY (ZN hnew.typeIs (Ud ?_)))
 show wpAny _ _ (WH "dict.__init__" s.heap.objs.size (.ref p) [] .none) _ _ _;unfold WH;refine TY (W8 (T:= "tuple") ⟨o,hp1,hc⟩ ?_);rw[if_pos (by decide)];refine TY (qH hp1 hc hdt hdn hh λh1 tk1 k1=>?_);simp only[Option.isNone_none,if_true];refine TY (Zu ?_);have htp1:h1.IsTuple p items:=⟨o,k1 _ _ hp1,hc,n,hdt⟩
 refine TY (VY htp1 ?_);have up2: ∀ b o,h1.get? b=some o->(h1.push { cls:= .type "tuple_iterator",data:= .fields #[.ref p,.int 0 0] }).get? b=some o:=λb o e=>T6 _ e;have hd1:h1.get? s.heap.objs.size=some { cls:= .type "dict",data:= .dict #[] }:=k1 _ _ (Um _ rfl);have hpl:p < h1.objs.size:=Ug (k1 _ _ hp1);have hdl:s.heap.objs.size < h1.objs.size:=Ug hd1;have hps:p < s.heap.objs.size:=Ug hp;refine Ud ⟨plainId_quiet cE _,?_⟩;refine uz (A:=A.in1) (it:=h1.objs.size) (tp:=p) (kvs:=kvs) hh (Uw hpl) (Uw hdl) (Ws hps) hl hz items.size 0 0 _ [] rfl (UQ _) (Ua _) ⟨_,Um _ rfl,rfl,rfl⟩ (htp1.push _) ?_ ⟨_,up2 _ _ hd1,rfl⟩ ⟨_,Um _ rfl,rfl⟩ ?_ ?_
 . exact(hnew.at λo e=>up2 _ o (k1 _ o e))
 . exact λj v kv e1 e2=>(hP j v kv e1 e2).keeps λb o e _=>up2 b o (k1 b o (up b o e))
 . rintro s' dd ⟨h3,tk3,rfl⟩ keep3;refine⟨rfl,h h3 tk3 (by simpa using dd) λb o e=>keep3 b o (Uw (Ug e)) (Uw (Ug (k1 _ _ (up _ _ e)))) (up2 _ _ (k1 _ _ (up _ _ e)))⟩
end
section
variable{X:Cx}
noncomputable def rD(H:Hp)(y:V)(kv:Key × V):Prop:= ∃ b,y= .ref b/\H b=some (.tup [kV kv.1,kv.2])
theorem rG{P:Uy}{w:World}{H:Hp}{h:Heap}(ok:jK P w H h): ∀{ys:List V}{kvs:List (Key × V)}{ai:List Value},Vh (rD H) ys kvs->Vals ys ai-> ∃ vs:List (Key × Value),KV kvs vs/\vs.length=ai.length /\
  ∀(j:Nat)(v:Value)(kv:Key × Value),ai[j]?=some v->vs[j]?=some kv->lS P w h v kv
 | _,_,_,.nil,.nil=>⟨[],.nil,rfl,λj v kv e=>by simp at e⟩
 | _,_,_,.cons (b:=kv0) hp hr,.cons hv hrv=>by
  obtain⟨vs,h1,h2,h3⟩:=rG ok hr hrv;obtain⟨b,rfl,hb⟩:=hp;obtain⟨_,its0,r0,o,e1,e2,n,e3,_⟩:=(show aT P w H h b (.tup [kV kv0.1,kv0.2]) from ok b _ hb)
  obtain⟨u1,u2,rfl,r1,r2⟩:=vals2 r0;cases(show _=Ux b from hv);refine⟨(kv0.1,u2)::vs,.cons ⟨rfl,r2⟩ h1,by simp[h2],λj v kv f1 f2=>?_⟩;cases j with
  | zero =>
   simp only[Y9,W0] at f1 f2
   subst f1 f2
   exact⟨b,o,u1,n,rfl,e1,e2,e3,kY r1⟩
  | succ j=>exact h3 j v kv (by simpa using f1) (by simpa using f2)
theorem KV.vk{kvs:List (Key × V)}{vs:List (Key × Value)}(r:KV kvs vs):KV (cT [] kvs) (merged [] vs):=KV.merge r .nil
theorem nA(hc:X.calm=true):aQ X (.type "dict") (λxs H Q=> ∃ p ys kvs,xs=[.ref p]/\H p=some (.tup ys)/\Vh (rD H) ys kvs/\ys.length < sizeLine/\ ∀ d,H d=none->Q (.ref d) (upd H d (.dK (cT [] kvs)))):=by
 intro pins s σ H xs us Q I r h;obtain⟨p,ys,kvs,rfl,hp,hP,hz,q⟩:=h;obtain⟨u,rfl,ru⟩:=vals1 r;cases(show u=Ux p from ru);obtain⟨_,ai,r0,o,e1,e2,n,e3,e4⟩:=(show aT X.prog X.w H s.heap p (.tup ys) from I.bq p _ hp)
 obtain⟨vs,h1,h2,h3⟩:=rG I.bq hP r0;have hlen:=r0.length;have hk:=Xh hP;refine qz (kvs:=vs) (I.ok.hd hc) I.big e1 e2 e3 e4 (by simpa using h2) (by simp;omega) (λj v kv f1 f2=>h3 j v kv (by simpa using f1) f2) λh' tk dd keep=>?_;have hle:(cT [] kvs).length<=sizeLine:=by have:=eK kvs [];simp at this;omega
 obtain⟨hn,I'⟩:=I.mK (a:=s.heap.objs.size) (o:= .dK (cT [] kvs)) (t':=tk) keep (VZ (Ua _)) (tN hle (beq_eq_false_iff_ne.mpr (WB (Uw I.big))) (KV.vk h1) dd);exact⟨.ref _,_,I',rfl,q _ hn⟩
end
noncomputable def nj(P:Uy)(w:World)(K:TV)(mg:Str->Option Value)(base:Heap)(x:Str)(k:Nat)(ps:List Str)(sp:Sp):Prop :=
 ∃(f:Addr)(fd:VU),k8 P w K mg base sd k f fd ps sp/\mg x=some (.ref f)/\WE K (.ref f)=true/\Binds K fd ps []/\ ∀ us:List Value,us.length=ps.length->WQ fd ⟨us,[]⟩=pure (ps.zip us)
theorem Bi.args{K:TV}{x qual:Str}{st:Stmt}{f:Addr}{fd:VU}{ps:List Str}(F:Bi K x qual st f fd)
  (h: ∀(kV doc pm:Value)(an:Option Addr)(cdv ct:Value)(us:List Value),us.length=ps.length->WQ (Vi x qual (cG st) (aZ st) (av st) .none kV doc pm an cdv ct) ⟨us,[]⟩=pure (ps.zip us)): ∀ us:List Value,us.length=ps.length->WQ fd ⟨us,[]⟩=pure (ps.zip us):=by
 obtain⟨oc,od,kV,doc,pm,an,cdv,ct,osl,rfl,lk,hcd⟩:=F.ex;exact h kV doc pm an cdv ct
noncomputable def At(K:TV)(mg:Str->Option Value)(x:Str)(st:Stmt):Prop:= ∃(f:Addr)(fd:VU),Bi K x x st f fd/\mg x=some (.ref f)
section
variable{P:Uy}{w:World}{K:TV}{mg:Str->Option Value}{base:Heap}
theorem At.ok{x:Str}{st:Stmt}{N ps:List Str}{k:Nat}{sp:Sp}(a:At K mg x st)(S:dO N ps (av st))
  (hb: ∀(kV doc pm:Value)(an:Option Addr)(cdv ct:Value)(us:List Value),us.length=ps.length->WQ (Vi x x (cG st) (aZ st) (av st) .none kV doc pm an cdv ct) ⟨us,[]⟩=pure (ps.zip us))
  (len: ∀ vs H Q E,sp vs H Q E->vs.length=ps.length)
  (hbody: ∀(f:Addr)(cdv:Value)(A:UW)(outer:List Env)(s:T7)(H:Hp)(vs:List V)(Q:VK)(E:XK),dE k (A.deeper (Yq x (av st) s.heap.objs.size f cdv))->sp vs H Q E ->
   ∃ t,x6 (jH sd P w K mg base N x (av st) f cdv A outer s H E).qa (aZ st) t/\t { nx:=λ_ H'=>Q .non H',rt:=Q } (start N vs) H):nj P w K mg base x (k+1) ps sp:=by
 obtain⟨f,fd,F,hm⟩:=a;exact⟨f,fd,F.ok S len λcdv A outer s H vs Q E=>hbody f cdv A outer s H vs Q E,hm,F.kp,F.binds hb,F.args hb⟩
theorem At.zT{x:Str}{st:Stmt}{ps:List Str}{sp:Sp}(a:At K mg x st)(hb: ∀(kV doc pm:Value)(an:Option Addr)(cdv ct:Value)(us:List Value),us.length=ps.length->WQ (Vi x x (cG st) (aZ st) (av st) .none kV doc pm an cdv ct) ⟨us,[]⟩=pure (ps.zip us))
  (no: ∀ vs H Q E,¬ sp vs H Q E):nj P w K mg base x 0 ps sp:=by
 obtain⟨f,fd,F,hm⟩:=a;exact⟨f,fd,⟨λvs H Q E h=>absurd h (no vs H Q E),λA outer s H args us vs Q E _ _ _ _ h=>absurd h (no vs H Q E)⟩,hm,F.kp,F.binds hb,F.args hb⟩
end
section
variable{X:Cx}{x:Str}{k j:Nat}{ps:List Str}{sp:Sp}{e:Expr}{es:List Expr}{t:TA}{p pos:Pos}
theorem Sr(D:nj X.prog X.w X.K X.mg X.base x j ps sp)(hr:dE k X.A)(hg:Gl X x)(hj:j<=k)(ha:PA X (e::es) t)(hdb:(x == ("__debug__" :Str))=false:=by decide)
  (he:UY (e::es) X.env=(false,eval e X.env)::UY es X.env:=by rfl) (hpl:(Xx pos (UY es X.env)).any (·.1)=false:=by rfl):PE X (.Call (.Name x p) (e::es) [] pos) (yD sp [] E0 t):=by
 obtain⟨f,fd,F,hm,kp,bd,_⟩:=D;exact Gm F (hr.mono hj) hg hm kp bd .nil Ow ha hdb he hpl
end
theorem aM{K:TV}{mg:Str->Option Value}{h:Heap}{x:Str}{st:Stmt}{f:Addr}{oc:Value}{od an:Option Addr}{osl:Array (Option Value)}{kV doc pm cdv ct:Value}(X:K.In h)(G:h.Ns Uv mg)
  (a:UG K Uv x=some (some (.ref f))) (l:K.lookup f=some ⟨oc,od,.func (Vi x x (cG st) (aZ st) (av st) .none kV doc pm an cdv ct),osl⟩) (c:X8 K cdv x=true) (k:WE K (.ref f)=true):At K mg x st :=
 ⟨f,_,LH l c k,VL X G a⟩
structure Bl(mg:Str->Option Value):Prop where
 len:mg "len" =none
 range:mg "range" =none
 isinstance:mg "isinstance" =none
 int:mg "int" =none
 bool:mg "bool" =none
 tuple:mg "tuple" =none
 dict:mg "dict" =none
 sorted:mg "sorted" =none
 min:mg "min" =none
 max:mg "max" =none
 abs:mg "abs" =none
noncomputable def Kp(a:Addr)(H H':Hp):Prop:= ∀ b o,b≠a->H b=some o->H' b=some o
theorem Kp.trans{a:Addr}{H H1 H2:Hp}(x:Kp a H H1)(y:Kp a H1 H2):Kp a H H2:=λb o n h=>y b o n (x b o n h)
theorem qb.kp{a:Addr}{H H':Hp}(x:qb H H'):Kp a H H':=λb o _ h=>x b o h
theorem Kp.st{a:Addr}{H:Hp}{o:HO}:Kp a H (upd H a o):=λb u n q=>by rw[aA n];exact q
theorem Kp.lst{a b:Addr}{H H':Hp}{K:TV}{xs:List V}{kvs:List (Key × V)}(x:Kp a H H')(ha:H a=some (.dK kvs))(h:iF K H b xs):iF K H' b xs:=by
 rcases h with(h | ⟨o,h⟩) | h
 . exact .inl (.inl (x _ _ (qY h ha (by intro z;cases z)) h))
 . exact .inl (.inr ⟨o,x _ _ (qY h ha (by intro z;cases z)) h⟩)
 . exact .inr h
theorem Kp.tup{a b:Addr}{H H':Hp}{xs:List V}{kvs:List (Key × V)}(x:Kp a H H')(ha:H a=some (.dK kvs))(h:H b=some (.tup xs)):H' b=some (.tup xs):=x _ _ (qY h ha (by intro z;cases z)) h
class uC (t:TE):Prop where
 m: ∀ σ H Q Q',(∀ x H1,Q x H1->Q' x H1)->t σ H Q->t σ H Q'
class vW (t:TT):Prop where
 m: ∀ σ H Q Q',(∀ x H1,Q x H1->Q' x H1)->t σ H Q->t σ H Q'
class Tr (t:TA):Prop where
 m: ∀ σ H Q Q',(∀ x H1,Q x H1->Q' x H1)->t σ H Q->t σ H Q'
class S6 (t:TO):Prop where
 m: ∀ σ H Q Q',(∀ x H1,Q x H1->Q' x H1)->t σ H Q->t σ H Q'
class Tu (t:TI):Prop where
 m: ∀ σ H Q Q',(∀ x H1,Q x H1->Q' x H1)->t σ H Q->t σ H Q'
class Tg (r:R2):Prop where
 m: ∀ x y H Q Q',(∀ x H1,Q x H1->Q' x H1)->r x y H Q->r x y H Q'
class S7 (r:V->Hp->VK->Prop):Prop where
 m: ∀ x H Q Q',(∀ x H1,Q x H1->Q' x H1)->r x H Q->r x H Q'
class Tj (r:List V->Hp->VK->Prop):Prop where
 m: ∀ x H Q Q',(∀ x H1,Q x H1->Q' x H1)->r x H Q->r x H Q'
class Tv (r:V->List V->Hp->VK->Prop):Prop where
 m: ∀ x xs H Q Q',(∀ x H1,Q x H1->Q' x H1)->r x xs H Q->r x xs H Q'
class SW (r:V->Option Int->Option Int->Hp->VK->Prop):Prop where
 m: ∀ x l u H Q Q',(∀ x H1,Q x H1->Q' x H1)->r x l u H Q->r x l u H Q'
class RQ (sp:Sp):Prop where
 m: ∀ vs H Q Q' E,(∀ x H1,Q x H1->Q' x H1)->sp vs H Q E->sp vs H Q' E
section
variable{X:Cx}
noncomputable def Qp(K:TV):List V->Hp->VK->Prop:=λxs H Q=> ∃ p ys,xs=[.ref p]/\(iF K H p ys\/fc K H p ys)/\Q (.int ys.length) H
noncomputable def OO:List V->Hp->VK->Prop:=λxs H Q=> ∃ z,xs=[.str z]/\z.length<=sizeLine/\Q (.int z.length) H
theorem GA:aQ X (.builtin "len") (λxs H Q=>Qp X.K xs H Q\/OO xs H Q):=t7.or tV
noncomputable def OZ(K:TV):List V->Hp->VK->Prop:=λxs H Q=> ∃ x T t b,xs=[x,.ty T]/\jF K H x t/\Yo K t (.type T)=some b/\Q (.bl b) H
theorem EZ:aQ X (.builtin "isinstance") (OZ X.K):=vU
noncomputable def Dl(K:TV):List V->Hp->VK->Prop:=λxs H Q=> ∃ p ss,xs=[.ref p]/\iF K H p (ss.map V.str)/\ss.length < 64/\ ∀ l ss',H l=none->ss'.Perm ss->YI ss'=true->Q (.ref l) (upd H l (.lst (ss'.map V.str)))
noncomputable def DE:List V->Hp->VK->Prop:=λxs H Q=> ∃ d kvs ss,xs=[.ref d]/\H d=some (.dK kvs)/\kvs.map (·.1)=ss.map VT/\ss.length < 64/\ ∀ l ss',H l=none->ss'.Perm ss->YI ss'=true->Q (.ref l) (upd H l (.lst (ss'.map V.str)))
noncomputable def M4:List V->Hp->VK->Prop:=λxs H Q=> ∃ p ys kvs,xs=[.ref p]/\H p=some (.tup ys)/\Vh (rD H) ys kvs/\ys.length < sizeLine/\ ∀ d,H d=none->Q (.ref d) (upd H d (.dK (cT [] kvs)))
theorem DR(hc:X.calm=true):aQ X (.type "dict") M4:=nA hc
noncomputable def O7:List V->Hp->VK->Prop:=λxs H Q=>(∃ i,xs=[.int i]/\Q (.int i) H)\/ ∃ k,xs=[.bl k]/\Q (.int (if k then 1 else 0)) H
noncomputable def LQ(K:TV):List V->Hp->VK->Prop:=λxs H Q=> ∃ p ys,xs=[.ref p]/\((iF K H p ys/\ ∀ l,H l=none->Q (.ref l) (upd H l (.tup ys)))\/(fc K H p ys/\Q (.ref p) H))
theorem Fj:aQ X (.type "int") O7:=AW
theorem Fu:aQ X (.type "tuple") (LQ X.K):=qG
end
structure LS(D D':Ends):Prop where
 nx: ∀ σ H,D.nx σ H->D'.nx σ H
 rt: ∀ v H,D.rt v H->D'.rt v H
 bk: ∀ σ H,D.bk σ H->D'.bk σ H
 ct: ∀ σ H,D.ct σ H->D'.ct σ H
class Td (t:TS):Prop where
 m: ∀ D D' σ H,LS D D'->t D σ H->t D' σ H
class vC (g:TG):Prop where
 m: ∀ x σ H Q Q',(∀ σ2 H2,Q σ2 H2->Q' σ2 H2)->g x σ H Q->g x σ H Q'
class Sb (g:t8):Prop where
 m: ∀ x σ H Q Q',(∀ σ2 H2,Q σ2 H2->Q' σ2 H2)->g x σ H Q->g x σ H Q'
theorem O5{K:TV}{a:Addr}{xs:List V}{k:Nat}{g:TG}{tt:TT}{te:TE}[vC g][vW tt][uC te]{σ :St}{H:Hp}{Q:VK}(Pv:Nat->List V->Hp->Prop)(h0:Pv 0 [] H)(hl: ∀ i ys H,i<=xs.length->Pv i ys H->fc K H a xs/\ys.length<=i)(hz:xs.length<=sizeLine)
  (hs: ∀ i x ys H,xs[i]?=some x->Pv i ys H->g x (σ ++Uc k none) H fun σ2 H2=>tt σ2 H2 λb H3=>if b=true then te σ2 H3 λy H4=>Pv (i+1) (ys++[y]) H4 else Pv (i+1) ys H3)
  (hd: ∀ ys H,Pv xs.length ys H-> ∀ p,H p=none->Q (.ref p) (upd H p (.lst ys))) :
  ∃ W:Nat->Nat->List V->Hp->Prop,(∃ m,W 0 m [] H)∧ ∀ i m ys H,W i m ys H->((CC K a).stop i H∧ ∀ p,H p=none->Q (.ref p) (upd H p (.lst ys))) ∨
   ((CC K a).go i H∧ys.length < sizeLine∧ ∀ x H',(CC K a).Jk i H x H'->g x (σ ++Uc k none) H' fun σ2 H2=>tt σ2 H2 λb H3=>if b=true then te σ2 H3 λy H4=> ∃ m',m' < m∧W (i+1) m' (ys++[y]) H4 else ∃ m',m' < m∧W (i+1) m' ys H3):=Li (K:=K) (a:=a) (k:=k) (g:=g) (tt:=tt) (te:=te) (σ := σ) (Q:=Q) Pv h0 hl hz hs hd (λx σ H Q Q' f h=>vC.m (g:=g) x σ H Q Q' f h) (vW.m (t:=tt)) (uC.m (t:=te))
noncomputable def stK(a:Addr)(k:Int)(l:Option Int):List (Key × V):=match l with
 | none=>[(.inr "script",.ref a),(.inr "k",.int k)]
 | some l=>[(.inr "script",.ref a),(.inr "k",.int k),(.inr "left",.int l)]
noncomputable def ye(K:TV)(H:Hp)(a:Addr)(xs:List V):Prop:=(∃ o,H a=some (.jP o (.lst xs))) \/
 ∃(o:Obj)(ai:Array Value)(n:Nat),K.lookup a=some o/\o.cls= .type "list" /\o.dict=none/\o.data= .seq ai n/\ai.size<=sizeLine/\Vals xs ai.toList
theorem ye.sq{K:TV}{H:Hp}{a:Addr}{xs:List V}(h:ye K H a xs):iF K H a xs:=by
 rcases h with⟨o,h⟩ | h
 . exact .inl (.inr ⟨o,h⟩)
 . exact .inr h
theorem ye.upd{K:TV}{H:Hp}{a c:Addr}{xs:List V}{u o':HO}(h:ye K H a xs)(hc:H c=some u)(hu: ∀ o w,u≠ .jP o w):ye K (upd H c o') a xs:=by
 rcases h with⟨o,h⟩ | h
 . exact .inl ⟨o,by rw[aA (qY h hc λz=>hu _ _ z.symm)];exact h⟩
 . exact .inr h
theorem Kp.jP{st a:Addr}{H H':Hp}{K:TV}{xs:List V}{kvs:List (Key × V)}(x:Kp st H H')(ha:H st=some (.dK kvs))(h:ye K H a xs):ye K H' a xs:=by
 rcases h with⟨o,h⟩ | h
 . exact .inl ⟨o,x _ _ (qY h ha (by intro z;cases z)) h⟩
 . exact .inr h
theorem qb.jP{a:Addr}{H H':Hp}{K:TV}{xs:List V}(x:qb H H')(h:ye K H a xs):ye K H' a xs:=by
 rcases h with⟨o,h⟩ | h
 . exact .inl ⟨o,x _ _ h⟩
 . exact .inr h
noncomputable def qh(K:TV)(H:Hp)(st:Addr)(k:Int)(l:Option Int):Prop:= ∃(a:Addr)(ns:List Int),H st=some (.dK (stK a k l))/\ye K H a (ns.map V.int)/\ns.length<=63/\0<=k
theorem qh.keep{K:TV}{H H':Hp}{st:Addr}{k:Int}{l:Option Int}(x:qh K H st k l)(y:Kp st H H')(e:H' st=H st):qh K H' st k l :=
 let ⟨a,ns,h1,h2,h3,h4⟩:=x;⟨a,ns,e.trans h1,y.jP h1 h2,h3,h4⟩
theorem qh.upd{K:TV}{H:Hp}{st c:Addr}{k:Int}{l:Option Int}{u o:HO}(x:qh K H st k l)(hc:H c=some u)(hu: ∀ o w,u≠ .jP o w)(hn:c≠st):qh K (upd H c o) st k l :=
 let ⟨a,ns,h1,h2,h3,h4⟩:=x;⟨a,ns,by rw[aA (WB hn)];exact h1,h2.upd hc hu,h3,h4⟩
theorem qh.at{K:TV}{H:Hp}{st:Addr}{k:Int}{l:Option Int}(x:qh K H st k l): ∃ kvs,H st=some (.dK kvs):=let ⟨a,ns,h1,_⟩:=x;⟨_,h1⟩
theorem qh.pos{K:TV}{H:Hp}{st:Addr}{k:Int}{l:Option Int}(x:qh K H st k l):0<=k:=let ⟨a,ns,h1,_,_,h⟩:=x;h
noncomputable def noStar:Expr->Bool
 | .Starred _ _=>false
 | _=>true
theorem bX{e:Expr}{es:List Expr}{env:Env}(h:noStar e=true):UY (e::es) env=(false,eval e env)::UY es env:=by
 cases e<;>first | rfl | cases h
theorem kC{pos:Pos}{env:Env}: ∀{es:List Expr},es.all noStar=true->(Xx pos (UY es env)).any (·.1)=false
 | [],_=>rfl
 | e::es,h=>by
  have h:=Bool.and_eq_true_iff.mp (WX ▸ h);rw[bX h.1];have:=kC (pos:=pos) (env:=env) h.2;unfold Xx at this ⊢;simp only[T9,Vl,aan];exact this
section
variable{X:Cx}{e:Expr}{es:List Expr}{te:TE}{t:TA}
theorem pk(ha:PE X e te)(hr:PA X es t)(hs:noStar e=true:=by rfl):PA X (e::es) (Bp te t):=GN ha hr (bX hs)
variable{x:Str}{k j:Nat}{ps:List Str}{sp:Sp}{p pos:Pos}{id T:String}{r:List V->Hp->VK->Prop}
theorem kd(D:nj X.prog X.w X.K X.mg X.base x j ps sp)(hr:dE k X.A)(hg:Gl X x)(hj:j<=k)(ha:PA X (e::es) t)(hdb:(x == ("__debug__" :Str))=false:=by decide)(he:noStar e=true:=by rfl)(hpl:es.all noStar=true:=by rfl) :
  PE X (.Call (.Name x p) (e::es) [] pos) (yD sp [] E0 t):=Sr D hr hg hj ha hdb (bX he) (kC hpl)
theorem kB(hc:aQ X (.builtin id) r)(hg:Gl X x)(hm:X.mg x=none)(hv:Vu x=some (.builtin id))(ha:PA X (e::es) t)(hn:x≠ "__name__" :=by decide)(hdb:(x == ("__debug__" :Str))=false:=by decide)(he:noStar e=true:=by rfl)(hpl:es.all noStar=true:=by rfl) :
  PE X (.Call (.Name x p) (e::es) [] pos) (NB r t):=BS hc hg hm hv ha hn hdb (bX he) (kC hpl)
theorem kT(hc:aQ X (.type T) r)(hg:Gl X x)(hm:X.mg x=none)(hv:Vu x=some (.type T))(ha:PA X (e::es) t)(hn:x≠ "__name__" :=by decide)(hdb:(x == ("__debug__" :Str))=false:=by decide)(he:noStar e=true:=by rfl)(hpl:es.all noStar=true:=by rfl) :
  PE X (.Call (.Name x p) (e::es) [] pos) (NB r t):=zX hc hg hm hv ha hn hdb (bX he) (kC hpl)
end
structure QE(X:Cx)(e:Expr)(t:TE):Prop where h:PE X e t
structure QT(X:Cx)(e:Expr)(t:TT):Prop where h:PT X e t
structure QW(X:Cx)(e:Expr)(t:TT):Prop where h:PW X e t
structure QA(X:Cx)(es:List Expr)(t:TA):Prop where h:PA X es t
structure QO(X:Cx)(e:Option Expr)(t:TO):Prop where h:PO X e t
structure QS(X:Cx)(s:Stmt)(t:TS):Prop where h:PS X s t
structure D9(X:Cx)(s:List Stmt)(t:TS):Prop where h:x6 X s t
structure QG(X:Cx)(e:Expr)(t:TG):Prop where h:PG X e t
structure KI(X:Cx)(e:List Expr)(t:t8):Prop where h:Ob X e t
structure QI(X:Cx)(tg e:Expr)(t:TI):Prop where h:PI X tg e t
structure QF(X:Cx)(es:List Expr)(t:TT):Prop where h:PF X es t
structure QP(X:Cx)(pos:Pos)(ks:List (Option Expr))(vs:List Expr)(t:List (TE × TE)):Prop where h:PX X pos ks vs t
section
variable{X:Cx}{a b c e o i:Expr}{es:List Expr}{ta tb tc te td ty tx tv to ti:TE}{t t':TT}{tr:TA}{pos p p2 pos' apos cpos:Pos}{x y:Str}
theorem qv(i:Nat){x:Str}{pos:Pos}(hN:X.N[i]?=some x:=by rfl)(hv:NW X.env.scope x:=by first | exact ZX rfl | exact YY (ZX rfl) | exact YY (YY rfl))(hd:(x == ("__debug__" :Str))=false:=by decide)
  (hcd:(x == ("__classdict__" :Str))=false:=by decide):QE X (.Name x pos) (Qj i):=⟨NT hN hv hd hcd⟩
theorem MD{n:Int}{j:Nat}:QE X (.Constant (.int n) j pos) (tC (.int n)):=⟨LD⟩
theorem O0{n:Bool}{j:Nat}:QE X (.Constant (.bool n) j pos) (tC (.bl n)):=⟨O2⟩
theorem L9{j:Nat}:QE X (.Constant .none j pos) (tC .non):=⟨LX⟩
theorem Jz{n:Str}{j:Nat}:QE X (.Constant (.str n) j pos) (tC (.str n)):=⟨MJ⟩
theorem ym{v:V}{u:Value}(hg:Gl X x)(hm:X.mg x=some u)(r:RelV v u)(hd:(x == ("__debug__" :Str))=false:=by decide):QE X (.Name x pos) (tC v):=⟨yV hg hm r hd⟩
theorem FW{v:V}{u:Value}(hg:Gl X x)(hm:X.mg x=none)(hv:Vu x=some u)(r:RelV v u)(hn:x≠ "__name__" :=by decide)(hd:(x == ("__debug__" :Str))=false:=by decide):QE X (.Name x pos) (tC v):=⟨FX hg hm hv r hn hd⟩
theorem OB{op:Operator}{r:R2}(ho:cW X (Vw op) r)(ha:QE X a ta)(hb:QE X b tb):QE X (.BinOp a op b pos) (F9 r ta tb):=⟨Ov ho ha.h hb.h⟩
theorem Kf(ha:QE X a ta):QE X (.UnaryOp .Not a pos) (Jl ta):=⟨Ju ha.h⟩
theorem KW{op:BoolOp}(h:QE X a ta):QE X (.BoolOp op [a] pos) ta:=⟨JB h.h⟩
theorem Ny{rest:List Expr}(ha:QE X a ta)(hb:QE X (.BoolOp .And (b::rest) pos) tb):QE X (.BoolOp .And (a::b::rest) pos) (Iz ta tb):=⟨KH ha.h hb.h⟩
theorem PU{rest:List Expr}(ha:QE X a ta)(hb:QE X (.BoolOp .Or (b::rest) pos) tb):QE X (.BoolOp .Or (a::b::rest) pos) (Q4 ta tb):=⟨Pp ha.h hb.h⟩
theorem DJ(hc:QT X c t)(ha:QE X a ta)(hb:QE X b tb):QE X (.IfExp c a b pos) (S8 t ta tb):=⟨Eb hc.h ha.h hb.h⟩
theorem Jr{x1}(h:QA X es tr):QE X (.Tuple es x1 pos) (OJ tr):=⟨Le h.h⟩
theorem Js(h:QA X es tr):QE X (.List es pos) (QD tr):=⟨J0 h.h⟩
theorem C7:QE X (.Dict [] [] pos) Dt:=⟨Ds⟩
theorem EM:QP X pos [] [] []:=⟨HL⟩
theorem De{k v:Expr}{ks:List (Option Expr)}{vs:List Expr}{tk:TE}{trs:List (TE × TE)}(hk:QE X k tk)(hv:QE X v tv)(hr:QP X pos ks vs trs):QP X pos (some k::ks) (v::vs) ((tk,tv)::trs):=⟨BI hk.h hv.h hr.h⟩
theorem F6{ks:List (Option Expr)}{vs:List Expr}{trs:List (TE × TE)}(h:QP X pos ks vs trs)(hall:ks.all (·.isSome)=true)(hl:ks.length=vs.length)(h0:ks≠[])(h15:ks.length<=15):QE X (.Dict ks vs pos) (Iw trs):=⟨EU h.h hall hl h0 h15⟩
theorem GL:QO X none yB:=⟨Ht⟩
theorem Hh(h:QE X e te):QO X (some e) (IH te):=⟨Hg h.h⟩
theorem DM{r:V->Option Int->Option Int->Hp->VK->Prop}{lo hi:Option Expr}{tl th:TO}(hr:EA X r)(he:QE X e te)(hl:QO X lo tl)(hu:QO X hi th):QE X (.Subscript e (.Slice lo hi none p2) pos) (Tn r te tl th):=⟨Cc hr he.h hl.h hu.h⟩
theorem P6{r:R2}(hr:AA X r)(ha:QE X a ta)(hb:QE X b tb)(hs:sQ b):QE X (.Subscript a b pos) (F9 r ta tb):=⟨OQ hr ha.h hb.h hs⟩
theorem CY{f:Expr}(hu:X.A.units+1 < cLine)(ho:QE X o td)(he:QE X e ty)(hf:QE X f tx)(m:M2 X o "get" apos e f cpos):QE X (.Call (.Attribute o "get" apos) [e,f] [] cpos) (Cf td ty tx):=⟨Cv hu ho.h he.h hf.h m⟩
theorem xu:QA X [] Od:=⟨MC⟩
theorem qk(ha:QE X e te)(hr:QA X es tr)(hs:noStar e=true:=by rfl):QA X (e::es) (Bp te tr):=⟨pk ha.h hr.h hs⟩
variable{k j:Nat}{ps:List Str}{sp:Sp}{id T:String}{r:List V->Hp->VK->Prop}
theorem qd(D:nj X.prog X.w X.K X.mg X.base x j ps sp)(hr:dE k X.A)(hg:Gl X x)(hj:j<=k)(ha:QA X (e::es) tr)(hdb:(x == ("__debug__" :Str))=false:=by decide)(he:noStar e=true:=by rfl)(hpl:es.all noStar=true:=by rfl) :
  QE X (.Call (.Name x p) (e::es) [] pos) (yD sp [] E0 tr):=⟨kd D hr hg hj ha.h hdb he hpl⟩
theorem qB(hc:aQ X (.builtin id) r)(hg:Gl X x)(hm:X.mg x=none)(hv:Vu x=some (.builtin id))(ha:QA X (e::es) tr)(hn:x≠ "__name__" :=by decide)(hdb:(x == ("__debug__" :Str))=false:=by decide)(he:noStar e=true:=by rfl)(hpl:es.all noStar=true:=by rfl) :
  QE X (.Call (.Name x p) (e::es) [] pos) (NB r tr):=⟨kB hc hg hm hv ha.h hn hdb he hpl⟩
theorem qT(hc:aQ X (.type T) r)(hg:Gl X x)(hm:X.mg x=none)(hv:Vu x=some (.type T))(ha:QA X (e::es) tr)(hn:x≠ "__name__" :=by decide)(hdb:(x == ("__debug__" :Str))=false:=by decide)(he:noStar e=true:=by rfl)(hpl:es.all noStar=true:=by rfl) :
  QE X (.Call (.Name x p) (e::es) [] pos) (NB r tr):=⟨kT hc hg hm hv ha.h hn hdb he hpl⟩
theorem Iu{name:Str}{rm:V->List V->Hp->VK->Prop}(pa:aay T)(slot:Slot T name id)(hty:typeOf (.builtin id)=pure (.type "method_descriptor"))(hm:IG X id rm)(ho:QE X o to)(ha:QA X [e] tr)
  (hbase:Wx o name X.env (eval o X.env)=eval o X.env:=by rfl) (hline:(apos.endLine == cpos.line)=true:=by rfl) (hs:noStar e=true:=by rfl) :
  QE X (.Call (.Attribute o name apos) [e] [] cpos) (SO X.K T rm to tr):=⟨OL pa slot hty hm ho.h ha.h hbase (by rw[bX hs];rfl) hline (bX hs) rfl⟩
theorem HK{op:CmpOp}{r:R2}(ho:cW X (UK op) r)(ha:QE X a ta)(hb:QE X b tb)(hm:VC op b=false):QE X (.Compare a [op] [b] pos) (F9 r ta tb):=⟨Fp ho ha.h hb.h hm⟩
theorem FQ{op:CmpOp}{r:R2}(ho:cW X (UK op) r)(ha:QE X a ta)(hb:QE X b tb)(hm:VC op b=false):QT X (.Compare a [op] [b] pos) (Ef (F9 r ta tb)):=⟨E3 ho ha.h hb.h hm⟩
theorem D3{op op':CmpOp}{r r':R2}(ho:cW X (UK op) r)(ho':cW X (UK op') r')(ha:QE X a ta)(hb:QE X b tb)(hc:QE X c tc)(hm:lastMarks [op,op'] [b,c]=false:=by with_unfolding_all rfl):QE X (.Compare a [op,op'] [b,c] pos) (xa r r' ta tb tc):=⟨Et ho ho' ha.h hb.h hc.h hm⟩
theorem MK{j:Nat}(ha:QE X a ta):QE X (.Compare a [.Is] [.Constant .none j pos'] pos) (J9 ta):=⟨JN (CA ha.h)⟩
theorem LI{j:Nat}(ha:QE X a ta):QT X (.Compare a [.Is] [.Constant .none j pos'] pos) (tB (J9 ta)):=⟨D6 (CA ha.h)⟩
theorem FC{j:Nat}(ha:QE X a ta):QT X (.Compare a [.IsNot] [.Constant .none j pos'] pos) (tB (IV ta)):=⟨D6 (FJ ha.h)⟩
theorem EJ(ha:QT X a t):QW X (.BoolOp .And [a] pos) t:=⟨pw_and1 ha.h⟩
theorem Kk(ha:QT X a t):QW X (.BoolOp .Or [a] pos) t:=⟨pw_or1 ha.h⟩
theorem Nl{rest:List Expr}(ha:QT X a t)(hb:QW X (.BoolOp .And (b::rest) pos) t'):QW X (.BoolOp .And (a::b::rest) pos) (OT t t'):=⟨pw_and ha.h hb.h⟩
theorem Qg{rest:List Expr}(ha:QT X a t)(hb:QW X (.BoolOp .Or (b::rest) pos) t'):QW X (.BoolOp .Or (a::b::rest) pos) (SJ t t'):=⟨pw_or ha.h hb.h⟩
theorem QW.pt(h:QW X e t):QT X e t:=⟨h.h.pt⟩
theorem L0(ha:QT X a t):QT X (.UnaryOp .Not a pos) (Oc t):=⟨LL ha.h⟩
theorem MZ(h:QE X e te)(he: ∀ whole,aaV e X.env whole=(do let v <- whole;abl e.pos;Ye [v] (truthy v)):=by intro _;rfl):QT X e (tB te):=⟨Mi h.h he⟩
theorem y0{i:Nat}(hN:X.N.Nodup)(hi:X.N[i]?=some x)(hx:Loc X.env.scope x)(hf:X.fn x=true\/X.env.scope.names.lookup x=some .local:=by first | exact .inl rfl | exact .inr rfl | assumption):QG X (.Name x pos) (fQ i):=⟨HJ hN hi hx hf⟩
theorem yt:KI X [] AZ:=⟨GV⟩
theorem uk{t:TG}{u:t8}(h1:QG X e t)(h2:KI X es u)(hs:(Vn (e::es) X.env).map (·.2)=Xy e X.env::(Vn es X.env).map (·.2):=by rfl):KI X (e::es) (m7 t u):=⟨Cb h1.h h2.h hs⟩
theorem DD{k:Nat}{t:t8}{n:Nat}(hc:X.calm=true)(h:KI X es t)(hn:(Vn es X.env).length=n:=by rfl)(hst:(Vn es X.env).findIdx? (·.1)=none:=by rfl):QG X (.Tuple es k pos) (v9 X.K n t):=⟨Kt hc h.h hn hst⟩
variable{tg iter l:Expr}{wi:TI}{g:TG}{ta':TA}
theorem Me:QF X [] Jf:=⟨K9⟩
theorem MX(h:QT X c t):QF X [c] t:=⟨LB h.h⟩
variable{scope:Scope}{ifs:List Expr}{body rest:List Stmt}{spos py:Pos}{tb' ts us:TS}{st:Stmt}
theorem C6(vars:List Str)(hc:X.calm=true)(hx: ∀ v s,¬ X.xe v s)(hkind:scope.kind= .function)(hlc:iL scope.names X.env.scope.names X.N vars=true)(hi:QI X tg iter wi)
  (hb: ∀ cl C s₀ H₀ ex pn,QG (fj X vars scope cl C s₀ H₀ ex pn) tg g/\QF (fj X vars scope cl C s₀ H₀ ex pn) ifs t/\QE (fj X vars scope cl C s₀ H₀ ex pn) e te) (hgk:GK X.N.length g)
  (hs: ∀ x,U2 iter X.env x=pure x:=by intro _;rfl):QE X (.ListComp e [⟨tg,iter,ifs,0⟩] scope pos) (Rj vars.length wi g t te) :=
 ⟨Cj vars hc hx hkind hlc hi.h (λcl C s₀ H₀ ex pn=>let ⟨h1,h2,h3⟩:=hb cl C s₀ H₀ ex pn;⟨h1.h,h2.h,h3.h⟩) hgk hs⟩
theorem BK(vars:List Str)(i:Nat)(hc:X.calm=true)(hx: ∀ v s,¬ X.xe v s)(hkind:scope.kind= .function)(hlc:iL scope.names X.env.scope.names X.N vars=true)(hN:X.N.Nodup)(hiy:X.N[i]?=some y)(hy:Loc X.env.scope y)(hi:QI X tg iter wi)
  (hb: ∀ cl C s₀ H₀ ex pn,QG (fj X vars scope cl C s₀ H₀ ex pn) tg g/\QF (fj X vars scope cl C s₀ H₀ ex pn) ifs t/\QE (fj X vars scope cl C s₀ H₀ ex pn) e te) (hgk:GK X.N.length g)
  (hsw:WW (.ListComp e [⟨tg,iter,ifs,0⟩] scope pos) (some (.Name y py)) spos.line X.env=pure true:=by rfl) (hs: ∀ x,U2 iter X.env x=pure x:=by intro _;rfl)
  (hf:X.fn y=true\/X.env.scope.names.lookup y=some .local:=by first | exact .inl rfl | exact .inr rfl | assumption) :
  QS X (.Assign [.Name y py] (.ListComp e [⟨tg,iter,ifs,0⟩] scope pos) spos) (CB vars.length i wi g t te) :=
 ⟨CZ vars i hc hx hkind hlc hN hiy hy hi.h (λcl C s₀ H₀ ex pn=>let ⟨h1,h2,h3⟩:=hb cl C s₀ H₀ ex pn;⟨h1.h,h2.h,h3.h⟩) hgk hsw hs hf⟩
theorem Mw{i:Nat}(hN:X.N.Nodup)(hi:X.N[i]?=some x)(hx:Loc X.env.scope x)(he:QE X e te)(hs:WW e (some (.Name x pos')) pos.line X.env=pure false:=by rfl)(hf:X.fn x=true\/X.env.scope.names.lookup x=some .local:=by first | exact .inl rfl | exact .inr rfl | assumption) :
  QS X (.Assign [.Name x pos'] e pos) (E9 te (fQ i)):=⟨NO hN hi hx he.h hs hf⟩
theorem BX(he:QE X e te)(hg:QG X tg g)(hs:YQ [tg] e pos.line X.env=pure false:=by rfl)(hw:YR [tg] e X.env=pure none:=by rfl)(h1:(Vn [tg] X.env).map (·.2)=[Xy tg X.env]:=by rfl):QS X (.Assign [tg] e pos) (E9 te g):=⟨Kr he.h hg.h hs hw h1⟩
theorem PJ{A B:List Stmt}(hc:QT X c t)(ha:D9 X A ts)(hb:D9 X B us):QS X (.If c A B pos) (Oi t ts us):=⟨Qv hc.h ha.h hb.h⟩
theorem NC(hp:Y5 (model X.prog X.w) X.A X.env X.xe)(hc:X.calm=true)(hi:QI X tg iter wi)(hg:QG X tg g)(hb:D9 X body tb')(hs: ∀ x,U2 iter X.env x=pure x:=by intro _;rfl):QS X (.For tg iter body [] pos) (Qa wi g tb'):=⟨Nz hp hc hi.h hg.h hb.h hs⟩
theorem B1(hp:Y5 (model X.prog X.w) X.A X.env X.xe)(hc:QT X c t)(hb:D9 X body tb'):QS X (.While c body [] pos) (Cw t tb'):=⟨Eg hp hc.h hb.h⟩
theorem Hf(he:QE X e te)(hs:WW e none pos.line X.env=pure false:=by rfl):QS X (.Expr e pos) (IE te):=⟨Gi he.h hs⟩
theorem LF(he:QE X e te):QS X (.Return (some e) pos) (Qw te):=⟨Lp he.h⟩
theorem HV:D9 X [] Ep:=⟨HH⟩
theorem CK(h1:QS X st ts)(h2:D9 X rest us):D9 X (st::rest) (JM ts us):=⟨Ca h1.h h2.h⟩
theorem G2(h1:QS X st ts):D9 X [st] ts:=⟨G9 h1.h⟩
end
theorem At.Sf{P:Uy}{w:World}{K:TV}{mg:Str->Option Value}{base:Heap}{x:Str}{st:Stmt}{N ps:List Str}{k:Nat}{sp:Sp}(a:At K mg x st)(S:dO N ps (av st))
  (hb: ∀(kV doc pm:Value)(an:Option Addr)(cdv ct:Value)(us:List Value),us.length=ps.length->WQ (Vi x x (cG st) (aZ st) (av st) .none kV doc pm an cdv ct) ⟨us,[]⟩=pure (ps.zip us))
  (len: ∀ vs H Q E,sp vs H Q E->vs.length=ps.length)
  (hbody: ∀(f:Addr)(cdv:Value)(A:UW)(outer:List Env)(s:T7)(H:Hp)(vs:List V)(Q:VK)(E:XK),dE k (A.deeper (Yq x (av st) s.heap.objs.size f cdv))->sp vs H Q E ->
   ∃ t,D9 (jH sd P w K mg base N x (av st) f cdv A outer s H E).qa (aZ st) t/\t { nx:=λ_ H'=>Q .non H',rt:=Q } (start N vs) H):nj P w K mg base x (k+1) ps sp :=
 a.ok S hb len λf cdv A outer s H vs Q E hr h=>let ⟨t,q,z⟩:=hbody f cdv A outer s H vs Q E hr h;⟨t,q.h,z⟩
theorem lD{xs:List V}{r:Int}(h:0<=r):nG xs (some r) none=xs.drop r.toNat:=by
 have e:r=((r.toNat:Nat):Int):=by omega
 unfold nG;rw[e,HT.nK,HT.kX];simp only[Vc];rcases Zv r.toNat xs.length with z | z
 . rw[Xo z];exact VP (by rw[VW];omega)
 . rw[XQ z,Vv (Ua _),Vv z];simp
theorem tQ{xs:List V}{r:Int}(h:0<=r):nG xs none (some r)=xs.take r.toNat:=by
 have e:r=((r.toNat:Nat):Int):=by omega
 unfold nG;rw[e,HT.nK,HT.kX];simp only[Vc,ZY,aaO];rcases Zv r.toNat xs.length with z | z
 . rw[Xo z]
 . rw[XQ z,VP (Ua _),VP z]
theorem Tz{c A B:Prop}[Decidable c](hc: ¬ c)(h:B):if c then A else B:=by rw[if_neg hc];exact h
noncomputable def SH(k:Nat)(g:TG)(tt:TT)(te:TE)(σ :St)(Q:VK)(J:It)(H1:Hp):Prop:= ∃ W:Nat->Nat->List V->Hp->Prop,(∃ m,W 0 m [] H1)/\ ∀ i m ys H,W i m ys H ->
 (J.stop i H/\ ∀ p,H p=none->Q (.ref p) (upd H p (.lst ys))) \/
 (J.go i H/\ys.length < sizeLine/\ ∀ x H',J.Jk i H x H'->g x (σ ++Uc k none) H' fun σ2 H2=>tt σ2 H2 λb H3 =>
  if b=true then te σ2 H3 λy H4=> ∃ m',m' < m/\W (i+1) m' (ys++[y]) H4 else ∃ m',m' < m/\W (i+1) m' ys H3)
theorem IM{K:TV}{a:Addr}{xs:List V}{k:Nat}{g:TG}{tt:TT}{te:TE}[vC g][vW tt][uC te]{σ :St}{H:Hp}{Q:VK}(Pv:Nat->List V->Hp->Prop)(h0:Pv 0 [] H)(hl: ∀ i ys H,i<=xs.length->Pv i ys H->fc K H a xs/\ys.length<=i)(hz:xs.length<=sizeLine)
  (hs: ∀ i x ys H,xs[i]?=some x->Pv i ys H->g x (σ ++Uc k none) H fun σ2 H2=>tt σ2 H2 λb H3=>if b=true then te σ2 H3 λy H4=>Pv (i+1) (ys++[y]) H4 else Pv (i+1) ys H3)
  (hd: ∀ ys H,Pv xs.length ys H-> ∀ p,H p=none->Q (.ref p) (upd H p (.lst ys))):SH k g tt te σ Q (CC K a) H:=O5 Pv h0 hl hz hs hd
class SD (trs:List (TE × TE)):Prop where
 m: ∀ σ H Q Q',(∀ ps H1,Q ps H1->Q' ps H1)->lU trs σ H Q->lU trs σ H Q'
theorem Bi.Sf{P:Uy}{w:World}{K:TV}{mg:Str->Option Value}{base:Heap}{x:Str}{st:Stmt}{f:Addr}{fd:VU}{N ps:List Str}{k:Nat}{sp:Sp}(F:Bi K x x st f fd)(S:dO N ps (av st))(len: ∀ vs H Q E,sp vs H Q E->vs.length=ps.length)
  (hbody: ∀(f:Addr)(cdv:Value)(A:UW)(outer:List Env)(s:T7)(H:Hp)(vs:List V)(Q:VK)(E:XK),dE k (A.deeper (Yq x (av st) s.heap.objs.size f cdv))->sp vs H Q E ->
   ∃ t,D9 (jH sd P w K mg base N x (av st) f cdv A outer s H E).qa (aZ st) t/\t { nx:=λ_ H'=>Q .non H',rt:=Q } (start N vs) H):k8 P w K mg base sd (k+1) f fd ps sp :=
 F.ok S len λcdv A outer s H vs Q E hr h=>let ⟨t,q,z⟩:=hbody f cdv A outer s H vs Q E hr h;⟨t,q.h,z⟩
theorem Km{K:TV}{H:Hp}{a:Addr}{xs:List V}(o:CU H)(h:iF K H a xs):ye K H a xs:=by
 rcases h with(h | ⟨u,h⟩) | h
 . rcases o a with z | ⟨u,ys,z⟩<;>(rw[h] at z;cases z)
 . exact .inl ⟨u,h⟩
 . exact .inr h
noncomputable def KD(P:Uy)(w:World)(K:TV)(a:Addr)(kvs:List (Key × V)):Prop:=(a == Vq)=false /\
 ∃(o:Obj)(es:Array aab)(ep:Nat)(vs:List (Key × Value)),K.lookup a=some o/\o.ExactDict/\o.data= .dict es ep/\PySem.KeysOf (aH P w) es/\Pairs (aH P w) es.toList vs/\(vs.map (·.1)).Nodup/\KV kvs vs
theorem Inv.kd{X:Cx}{pins:List (Addr × Obj)}{σ :St}{H:Hp}{s:T7}{a:Addr}{kvs:List (Key × V)}(I:Inv X pins σ H s)(h:KD X.prog X.w X.K a kvs): ∃ vs,KV kvs vs/\s.heap.DictOf (aH X.prog X.w) a vs:=by
 obtain⟨_,o,es,ep,vs,h1,h2,h3,h4,h5,h6,h7⟩:=h;exact⟨vs,h7,o,es,ep,I.lH a o h1,h2,h3,h4,h5,h6⟩
noncomputable def Ja(kvs:List (Key × V))(ty:TE):TE:=fun σ H Q=>ty σ H λy H2=> ∃ k v,y=kV k/\gQ kvs k=some v/\Q v H2
section
variable{X:Cx}{o i:Expr}{pos:Pos}{ty:TE}{a:Addr}{kvs:List (Key × V)}
theorem Ik(hk:KD X.prog X.w X.K a kvs)(ho:PE X o (tC (.ref a)))(hi:PE X i ty)(hs:Ib i):PE X (.Subscript o i pos) (Ja kvs ty):=by
 intro pins s σ H Q I h;refine Fz YB.lookup hs (cC (ho pins s σ H (λx H1=>x= .ref a/\H1=H) I ⟨rfl,rfl⟩) λu s1 ⟨x,H1,I1,rx,ex,eH⟩=>?_);subst ex eH;obtain rfl:u=Ux a:=rx;refine cC (hi pins s1 σ H1 _ I1 h) λiv s2 ⟨y,H2,I2,ry,k,v,ey,l,q2⟩=>?_;subst ey;obtain⟨vs,rel,dd⟩:=I2.kd hk;obtain⟨w',hw,rw'⟩:=lu.some_of (v:=v) (o:=Zr vs k) (by rw[<- l];exact rel.val k);exact⟨dd.typeIs,wpAny_getItem_of (kY ry) dd.mapOf hw ⟨v,H2,I2.tok _,rw',q2⟩⟩
theorem F2(hk:KD X.prog X.w X.K a kvs)(ho:QE X o (tC (.ref a)))(hi:QE X i ty)(hs:Ib i):QE X (.Subscript o i pos) (Ja kvs ty):=⟨Ik hk ho.h hi.h hs⟩
end
noncomputable def EY(w:World)(p:Str × Tok × Value):aab:={ hash:=UJ w.params p.1,key:= .str p.1 p.2.1,val:=p.2.2 }
theorem OS{P:Uy}{w:World}{K:TV}{a:Addr}{ls:List (Str × Tok × Value)}{kvs:List (Key × V)}{ep:Nat}(hl:K.lookup a=some { cls:= .type "dict",data:= .dict (ls.map (EY w)).toArray ep })(ha:(a == Vq)=false)
  (hn:(ls.map λp=>(VT p.1:Key)).Nodup) (hk:KV kvs (ls.map λp=>((VT p.1:Key),p.2.2))):KD P w K a kvs:=by
 refine⟨ha,_,_,ep,ls.map λp=>((VT p.1:Key),p.2.2),hl,⟨rfl,rfl,rfl⟩,rfl,?_,?_,by rw[U5];exact hn,hk⟩
 . intro e he;have he':e∈ls.map (EY w):=List.mem_toArray.mp he;obtain⟨p,_,rfl⟩:=UP.mp he';exact⟨.inr p.1,mN p.1 p.2.1,rfl⟩
 . clear hl hn hk
   show Pairs (aH P w) (ls.map (EY w)) _
   induction ls with
   | nil=>exact .nil
   | cons p r ih=>exact .cons (mN p.1 p.2.1) rfl ih
theorem vM{bs:List Bool}: ∀{us:List Value},Vals (bs.map V.bl) us->LSm.BoolsAre us bs:=by
 induction bs with
 | nil=>intro us h;cases h;exact .nil
 | cons b r ih =>
  intro us h
  cases h with
  | cons hx ht =>
   cases(show _=XJ b from hx)
   exact .cons _ (ih ht)
theorem Ak{s:T7}{h':Heap}{o:Obj}(hk: ∀ b x,b ∉ [s.heap.objs.size]->(s.heap.push o).get? b=some x->h'.get? b=some x): ∀ b x,s.heap.get? b=some x->h'.get? b=some x :=
 λb x e=>hk b x (by intro z;rw[UX.mp z] at e;exact absurd (Ug e) (Vk _)) (T6 _ e)
section
variable{X:Cx}
noncomputable def RF(K:TV):List V->Hp->VK->Prop:=λxs H Q=> ∃(p:Addr)(bs:List Bool),xs=[.ref p]/\iF K H p (bs.map V.bl)/\Q (.bl (bs.any id)) H
theorem callAny(hc:X.calm=true):aQ X (.builtin "any") (RF X.K):=by
 intro pins s σ H xs us Q I r h;obtain⟨p,bs,rfl,hS,q⟩:=h;obtain⟨u,rfl,ru⟩:=vals1 r;cases(show u=Ux p from ru);obtain⟨ai,hv,pl,hz⟩:=I.list hS;have hl:=pl.isList;have hb:=vM hv;have hlt:p < s.heap.objs.size:=by obtain⟨_,e,_⟩:=hl;exact Ug e
 refine call_any_walk (wpAny_pyIter_list (items:=ai.toArray) hl ?_);refine⟨s.heap.objs.size,[s.heap.objs.size,p],[s.heap.objs.size],ai.toArray.size,_,_,λi=>(bs[i]?).getD false,rfl,Walks.list (A:=X.A.in1) (I.ok.hd hc) _ p (Uw hlt) ai.toArray,⟨⟨_,Um _ rfl,rfl,rfl⟩,hl.push _⟩,?_,?_⟩
 . intro i v s' Q' E' hP hQ;obtain⟨b,e,rfl⟩:=hb.get i v (by simpa using hP);simp only[Uz,e] at hQ;exact VM hQ
 . intro h' tk hk;rw[show((UR ai.toArray.size).any λi=>(bs[i]?).getD false)=bs.any id by rw[Uh,hb.length];exact LSm.range_any bs];exact⟨.bl (bs.any id),H,I.kept (Ak hk),rfl,q⟩
end
noncomputable def Rm (x:Str):It:=⟨λi _=>i < x.cps.size,λi H v H'=>H'=H∧ ∃ c,x.cps[i]?=some c∧v= .str ⟨#[c]⟩,λi _=>i=x.cps.size⟩
theorem uv {P:Uy} {w:World} {K:TV} {tg:Expr} {ty:String} (x:Str) (t:Tok) (it:Addr) (hty:["enumerate", "zip", "dict_itemiterator", "dict_reverseitemiterator", "odict_iterator", "itertools.zip_longest", "itertools.pairwise"].contains ty=false)
  (W: ∀ A:UW,A.handled=none->Walks P w A it [it] [it] x.cps.size (SignAt x) (λi h=>h.IsStrIter it ty x t i)) (S: ∀ (A:UW) (i:Nat) (s:T7) (Q:Value->T7->Prop) (E:Value->T7->Prop),s.heap.IsStrIter it ty x t i->Q (.ref it) s->wpAny (model P w) A (aaX (.ref it)) Q E s) :
  Turn P w K tg (Rm x) [it] it (λi h=>h.IsStrIter it ty x t i) where
 mem:=by simp
 obj:=λi h st b hb=>by
  have e:b=it:=by simpa using hb
  subst e;obtain⟨o,e,c,d⟩:=st;exact⟨o,e,λv z=>by rw[d] at z;cases z⟩
 keep:=λi h h' st k=>let ⟨o,e,r⟩:=st;⟨o,k it (by simp) o e,r⟩
 item:=by
  intro X hP hw hK hc i pins s σ H E I hf st hg;subst hP hw hK;obtain⟨f0,f1,f2,f3,f4,f5⟩:=hf it (by simp);refine(W X.A (I.ok.hd hc)).item i s _ _ hg st λv h' tk hv st' hk=>?_;obtain⟨c,u,hx,rfl⟩:=hv;have I1:Inv X pins σ H { s with heap:=h',toks:=tk }:=I.turned (t':=tk) (λb o hb e=>hk b o (by simpa using hb) e) f0 f1 f3 f4 f5;obtain⟨o,e,cc,d⟩:=id st';exact⟨_,rfl,yd (s:={ s with heap:=h',toks:=tk }) e cc d hty ⟨.str ⟨#[c]⟩,H,I1,⟨_,rfl⟩,⟨rfl,c,hx,rfl⟩,st',λb hb=>(hf b hb).1⟩⟩
 done:=by
  intro X hP hw hK hc i pins s σ H E I hf st hg;subst hP hw hK;obtain⟨f0,f1,f2,f3,f4,f5⟩:=hf it (by simp);have hi:i=x.cps.size:=hg;subst hi;exact(W X.A (I.ok.hd hc)).done s _ _ st λh' tk hk=>⟨rfl,I.turned (t':=tk) (λb o hb e=>hk b o (by simpa using hb) e) f0 f1 f3 f4 f5⟩
 self:=λA i s Q E st h=>S A i s Q E st h
theorem fT{x:Str}{k:Nat}{g:TG}{tt:TT}{te:TE}[vC g][vW tt][uC te]{σ :St}{H:Hp}{Q:VK}(Pv:Nat->List V->Hp->Prop)(h0:Pv 0 [] H)(hl: ∀ i ys H,i<=x.cps.size->Pv i ys H->ys.length<=i)(hz:x.cps.size<=sizeLine)
  (hs: ∀ i c ys H,x.cps[i]?=some c->Pv i ys H->g (.str ⟨#[c]⟩) (σ ++Uc k none) H fun σ2 H2=>tt σ2 H2 λb H3=>if b=true then te σ2 H3 λy H4=>Pv (i+1) (ys++[y]) H4 else Pv (i+1) ys H3)
  (hd: ∀ ys H,Pv x.cps.size ys H-> ∀ p,H p=none->Q (.ref p) (upd H p (.lst ys))):SH k g tt te σ Q (Rm x) H:=by
 refine⟨λi m ys H=>m=x.cps.size - i/\i<=x.cps.size/\Pv i ys H,⟨x.cps.size,by simp,UQ _,h0⟩,?_⟩;rintro i m ys H ⟨rfl,hi,p⟩;have hy:=hl i ys H hi p;by_cases hlt:i < x.cps.size
 . refine .inr ⟨hlt,by omega,λv H' y=>?_⟩;obtain⟨e,c,hc,rfl⟩:=y;subst e;refine vC.m (g:=g) _ _ _ _ _ (fun σ2 H2 z=>vW.m (t:=tt) _ _ _ _ (λb H3 z=>?_) z) (hs i c ys _ hc p);cases b with
   | true =>
    rw[if_pos rfl] at z ⊢
    exact uC.m (t:=te) _ _ _ _ (λv H4 w=>⟨x.cps.size - (i+1),by omega,rfl,hlt,w⟩) z
   | false =>
    rw[if_neg Uu] at z ⊢
    exact⟨x.cps.size - (i+1),by omega,rfl,hlt,z⟩
 . have e:i=x.cps.size:=by omega
   subst e;exact .inl ⟨rfl,hd ys H p⟩
theorem EN{X:Cx}{x:Str}{a:Addr}{pos:Pos}(hg:Gl X x)(hm:X.mg x=some (.ref a))(hd:(x == ("__debug__" :Str))=false:=by decide):QE X (.Name x pos) (tC (.ref a)):=⟨yV hg hm rfl hd⟩
theorem qc(l:Addr)(o:Obj)(b:Str)(u:Tok) :
  Meets (WO.«dict.__eq__» ⟨[.ref l,.str b u],[]⟩) (λ_ R s=>s.heap.get? l=some o/\R (.ok (.ret .notImplemented)) s) :=
 .of_wp λprog w A R s h=>by
  obtain⟨hp,g,d,tk,os⟩:=s;obtain⟨hl,h⟩:=h;have f1:=ZZ;wp_walk;exact⟨_,rfl,h⟩
theorem sY(b:Str)(u:Tok)(l:Addr)(c:Value)(es:Array aab)(ep:Nat)(dd:Option Addr)(sl:Array (Option Value)) :
  Meets (WO.«str.__eq__» ⟨[.str b u,.ref l],[]⟩) (λ_ R s=>s.heap.get? l=some { cls:=c,dict:=dd,data:= .dict es ep,slots:=sl }/\R (.ok (.ret .notImplemented)) s) :=
 .of_wp λprog w A R s h=>by obtain⟨hp,g,d,tk,os⟩:=s;obtain⟨hl,h⟩:=h;wp_walk using U1 hl,Ww hl;exact⟨_,rfl,h⟩
theorem uM{A:UW}{s:T7}{l:Addr}{o:Obj}{es:Array aab}{ep:Nat}(b:Str)(u:Tok)(hl:s.heap.get? l=some o)(hx:o.ExactDict)(hd:o.data= .dict es ep)(hu:A.units < cLine):SeqAt.RcAt A s (.ref l) (.str b u) false:=λprog w E Q h=>by
 obtain⟨cls,dd,data,sl⟩:=o;have hc:cls= .type "dict" :=hx.1;simp only at hd;subst hc hd;exact SeqAt.rc_eq_decline_or (k:=false) ⟨_,hl,rfl⟩ (aaw s b u) (by decide) ZZ Z0 YZ
  (λ_ hq=>V2 Z0 ⟨_,hl,rfl⟩ PySem.F.entry_dict_eq (PySem.F.args_dict_eq_2 _ _) (qc l _ b u) ⟨hl,hq⟩)
  (λ_ hq=>V2 YZ (aaw s b u) PySem.F.entry_str_eq (PySem.F.args_str_eq_2 _ _) (sY b u l (.type "dict") es ep dd sl) ⟨hl,hq⟩)
  (λ_ z=>wpAny_of_eq (show isSame (.ref l) (.str b u)=pure false from rfl) z) (.inr hu) h
noncomputable def Q6(K:TV):R2:=λx y H Q=> ∃ p z,x= .ref p/\y= .str z/\((∃ xs,iF K H p xs)\/(∃ xs,fc K H p xs)\/ ∃ kvs,H p=some (.dK kvs))/\Q (.bl false) H
noncomputable def OA(K:TV):V->Option Int->Option Int->Hp->VK->Prop:=λx lo hi H Q=> ∃ a xs,x= .ref a/\fc K H a xs/\(HT.cQ xs.length 0 lo=0/\HT.cQ xs.length xs.length hi=xs.length)/\Q (.ref a) H
noncomputable def Iv(K:TV):R2:=λx y H Q=> ∃ a b ys,x= .ref a/\y= .ref b/\fc K H a []/\fc K H b ys/\Q (.ref b) H
noncomputable def Iy:R2:=λx y H Q=> ∃ a b,x= .str a/\y= .str b/\a.length+b.length<=sizeLine/\Q (.str (a++b)) H
theorem lV:fillsNumberSlot (.type "tuple") "mul" =pure false :=
 PySem.fillsNumberSlot_seq (id:= "tuple.__mul__") (r:=some (.builtin "tuple.__rmul__")) V7.lookup (by decide +kernel) Za.lookup (by decide +kernel)
theorem rZ:seqRepeat? (.type "tuple")=pure (some (.builtin "tuple.__mul__")):=by
 unfold seqRepeat?;rw[aa2 (T:= "tuple") (name:= "__mul__") (id:= "tuple.__mul__") V7.lookup (by decide +kernel),aa2 (T:= "tuple") (name:= "__rmul__") (id:= "tuple.__rmul__") Za.lookup (by decide +kernel)];rfl
theorem o9(a:Int)(t:Tok)(l:Addr)(items:Array Value)(n:Nat)(dd:Option Addr)(sl:Array (Option Value)) :
  Meets (WO.«int.__rmul__» ⟨[.int a t,.ref l],[]⟩) (λ_ R s=>s.heap.get? l=some { cls:= .type "tuple",dict:=dd,data:= .seq items n,slots:=sl }/\R (.ok (.ret Value.notImplemented)) s) :=
 .of_wp λprog w A R s h=>by obtain⟨hp,g,d,tk,os⟩:=s;obtain⟨hl,h⟩:=h;wp_walk using U1 hl,Ww hl;exact⟨_,rfl,h⟩
theorem ql{prog:Uy}{w:World}{A:UW}{E:Value->T7->Prop}{s:T7}{t sl:Addr}{items:Array Value}{vl vu:Value}{lo hi:Option Int}{Q:Value->T7->Prop}(ht:IsTup s.heap t items)(hs:s.heap.IsSliceOf sl vl vu .none)(pl:Zm vl lo)(pu:Zm vu hi)
  (hw:HT.cQ items.size 0 lo=0/\HT.cQ items.size items.size hi=items.size) (h:Q (.ref t) s):wpAny (model prog w) A (Yf (.ref t) (.ref sl)) Q E s:=by
 obtain⟨os,hos,hcs,hds⟩:=id hs;have hTs:s.TypeIs (.ref sl) "slice" :=⟨os,hos,hcs⟩
 unfold Yf
 try with_reducible refine VJ ?_
 first | refine TY (Ud ?_) | skip
 refine TY (wpAny_sequenceKey ht.typeIs (by decide) ?_);refine TY (VH (name:=Ul "__getitem__") ht.typeIs U4
  (VX U4 ht.typeIs aad ?_ (aav _ _)))
 show wpAny _ _ (Ys (.ref t) >>= _) _ _ s;refine TY (tupleItemsOf_ ht ?_);refine TY (W8 hTs ?_);rw[if_pos (by decide)];refine TY (HT.gX hs pl pu ?_);show wpAny _ _ (if (((HT.cQ items.size 0 lo:Nat):Int) == 0&&(1:Int) == 1&&(HT.cQ items.size items.size hi - HT.cQ items.size 0 lo) == items.size)=true then _ else _) _ _ s;rw[if_pos (by rw[hw.1,hw.2];simp)];refine TY (m:=Builtin.Tuple.tupleIsExact _) (TY (W8 ht.typeIs (Ud ?_)));rw[if_pos (by decide)];exact TY (Zu (Ud ⟨_,rfl,Ud h⟩))
section
variable{X:Cx}
theorem F8(hu:X.A.units < cLine):cW X (UK .Eq) (Q6 X.K):=by
 intro pins s σ H x y v u Q I rx ry h;obtain⟨p,z,rfl,rfl,hp,hQ⟩:=h;cases(show v=Ux p from rx);obtain⟨t,rfl⟩:=ry;have fin:EP X pins σ Q (.bool false) s:=⟨.bl false,H,I,rfl,hQ⟩
 rcases hp with⟨xs,hp⟩ | ⟨xs,hp⟩ | ⟨kvs,hp⟩
 . obtain⟨ai,hv,pl,hz⟩:=I.list hp;exact SeqAt.RcAt.list_str z t pl.isList hu _ _ _ _ fin
 . obtain⟨ai,hv,pl,hz⟩:=I.tuple hp;exact SeqAt.RcAt.tuple_str z t pl hu _ _ _ _ fin
 . obtain⟨_,_,vs,_,o,es,ep,e,hx,hd,_⟩:=vo I.bq hp;exact uM z t e hx hd hu _ _ _ _ fin
theorem Ha:EA X (OA X.K):=by
 intro pins s σ H x v vl vu lo hi sl Q I rx hs pl pu h;obtain⟨a,xs,rfl,hx,hw,q⟩:=h;cases rx;obtain⟨ai,r,ht,hz⟩:=I.tuple hx;have hlen:ai.toArray.size=xs.length:=by rw[Uh];exact r.length.symm
 refine⟨"tuple",_,U4.lookup,ht.typeIs,?_⟩;exact ql ht hs pl pu (by rw[hlen];exact hw) ⟨.ref a,H,I,rfl,q⟩
theorem GH:cW X (Vw .Add) (Iv X.K):=by
 intro pins s σ H x y v u Q I rx ry h;obtain⟨a,b,ys,rfl,rfl,ha,hb,q⟩:=h;cases(show v=Ux a from rx);cases(show u=Ux b from ry);obtain⟨ai,r1,p1,_⟩:=I.tuple ha;obtain⟨its2,r2,p2,_⟩:=I.tuple hb;have e1:ai=[]:=by cases r1;rfl
 subst e1;obtain⟨⟨cls,dd,data,sl⟩,ho,hc,n,hd⟩:=id p1;obtain⟨⟨cls2,dd2,data2,sl2⟩,ho2,hc2,n2,hd2⟩:=id p2;simp only at hc hd hc2 hd2;subst hc hd hc2 hd2;exact aaH ⟨_,ho,rfl⟩ ⟨_,ho2,rfl⟩ Y7 aam XB Xr (Xj _ _)
  (tuple_addW0 a b _ _ n n2 dd dd2 sl sl2 rfl) ⟨ho,ho2,⟨.ref b,H,I,rfl,q⟩⟩
theorem Fh:cW X (Vw .Add) Iy:=by
 intro pins s σ H x y v u Q I rx ry h;obtain⟨a,b,rfl,rfl,hz,q⟩:=h;obtain⟨t,rfl⟩:=rx;obtain⟨t',rfl⟩:=ry;exact PyProof.Rows.add_str (λt' tk=>⟨.str (a++b),H,I.tok _,⟨_,rfl⟩,q⟩) hz
theorem Lf:cW X (Vw .Add) (λx y H Q=>(Ex λi j=> .int (i+j)) x y H Q\/(Oo x y H Q\/(IT X.K x y H Q\/(Iv X.K x y H Q\/Iy x y H Q)))):=J6.or (K0.or (Fq.or (GH.or Fh)))
theorem TN:EA X (λx lo hi H Q=>Qz X.K x lo hi H Q\/(Qn X.K x lo hi H Q\/OA X.K x lo hi H Q)):=HE.or (Mh.or Ha)
end
noncomputable def yU{α :Type}(c:Nat->Nat->Bool):KasT α -> α
 | .ret a=>a
 | .ask i j k=>yU c (k (c i j))
noncomputable def Du{α :Type}(n:Nat)(c:Nat->Nat->Bool):KasT α ->Bool
 | .ret _=>true
 | .ask i j k=>decide (i < n)&&decide (j < n)&& !decide (i=j)&&Du n c (k (c i j))
theorem vb{α :Type}{cmp:Nat->Nat->(Bool->T7->Prop)->T7->Prop}{n:Nat}{c:Nat->Nat->Bool}{s:T7}(hc: ∀ i j C,i < n->j < n->i≠j->C (c i j) s->cmp i j C s){Q: α ->T7->Prop} :
  ∀ t:KasT α,Du n c t=true->Q (yU c t) s->t.kasWp cmp Q s
 | .ret a,_,q=>q
 | .ask i j k,h,q=>by
  simp only[Du,Ut,decide_eq_true_eq,VA,decide_eq_false_iff_not] at h;exact hc i j _ h.1.1.1 h.1.1.2 h.1.2 (vb hc (k (c i j)) h.2 q)
noncomputable def gL{α :Type}(n:Nat)(c:Nat->Nat->Bool)(t:KasT α)(Q: α ->Prop):Prop:=Du n c t=true/\Q (yU c t)
theorem gL.ret{α :Type}{n:Nat}{c:Nat->Nat->Bool}{a: α}{Q: α ->Prop}(h:Q a):gL n c (.ret a) Q:=⟨rfl,h⟩
theorem gL.ask{α :Type}{n:Nat}{c:Nat->Nat->Bool}{i j:Nat}{k:Bool->KasT α}{Q: α ->Prop}(hi:i < n)(hj:j < n)(hij:i≠j)(h:gL n c (k (c i j)) Q):gL n c (.ask i j k) Q :=
 ⟨by simp only[Du,hi,hj,hij,h.1,decide_true,decide_false,Bool.not_false,Wy],h.2⟩
theorem gL.bind{α β :Type}{n:Nat}{c:Nat->Nat->Bool}{f: α ->KasT β}{Q: β ->Prop}: ∀{t:KasT α},gL n c t (λa=>gL n c (f a) Q)->gL n c (t.bind f) Q
 | .ret a,h=>h.2
 | .ask i j k,h=>by
  have e:=h.1;simp only[Du,Ut,decide_eq_true_eq,VA,decide_eq_false_iff_not] at e;exact gL.ask e.1.1.1 e.1.1.2 e.1.2 (gL.bind (t:=k (c i j)) ⟨e.2,h.2⟩)
theorem gL.mono{α :Type}{n:Nat}{c:Nat->Nat->Bool}{t:KasT α}{Q Q': α ->Prop}(h:gL n c t Q)(f: ∀ a,Q a->Q' a):gL n c t Q':=⟨h.1,f _ h.2⟩
structure gv(n:Nat)(p:Array Nat):Prop where
 perm:p.toList.Perm (UR n)
theorem gv.size{n:Nat}{p:Array Nat}(h:gv n p):p.size=n:=by simpa using h.perm.length_eq
theorem gv.lt{n:Nat}{p:Array Nat}(h:gv n p){i:Nat}(hi:i < n):p.getD i 0 < n:=by
 have hi':i < p.size:=h.size ▸ hi;have:p.getD i 0∈p.toList:=by
  rw[UU,U7 hi'];exact Array.getElem_mem_toList hi'
 exact Vj.mp (h.perm.mem_iff.mp this)
theorem gv.ne{n:Nat}{p:Array Nat}(h:gv n p){i j:Nat}(hi:i < n)(hj:j < n)(hij:i≠j):p.getD i 0≠p.getD j 0:=λe=>by
 have hi':i < p.size:=h.size ▸ hi;have hj':j < p.size:=h.size ▸ hj;have nd:p.toList.Nodup:=h.perm.nodup_iff.mpr List.nodup_range;rw[UU,UU,U7 hi',U7 hj'] at e;exact hij ((YJ (by simpa using hi') nd).mp (by rw[WY,WY,U7 hi',U7 hj'];exact congrArg some e))
theorem gv.of{n:Nat}{p q:Array Nat}(h:gv n p)(pm:q.Perm p):gv n q:=⟨(Array.perm_iff_toList_perm.mp pm).trans h.perm⟩
theorem wj(n:Nat):gv n (List.toArray (UR n)):=⟨abq _⟩
section
variable{n:Nat}{r:Nat->Nat}
noncomputable def rk(r:Nat->Nat)(p:Array Nat)(i:Nat):Nat:=r (p.getD i 0)
noncomputable def qg(r:Nat->Nat)(p:Array Nat)(k:Nat):Prop:= ∀ i j,i < j->j < k->rk r p i < rk r p j
noncomputable def pV(r:Nat->Nat)(p:Array Nat)(k:Nat):Prop:= ∀ i j,i < j->j < k->rk r p j < rk r p i
noncomputable def cN(r:Nat->Nat)(i j:Nat):Bool:=decide (r i < r j)
noncomputable def tZ(n:Nat)(r:Nat->Nat):Prop:= ∀ i j,i < n->j < n->r i=r j->i=j
theorem Er{p:Array Nat}(hr:tZ n r)(h:gv n p){i j:Nat}(hi:i < n)(hj:j < n)(hij:i≠j):rk r p i≠rk r p j:=λe=>h.ne hi hj hij (hr _ _ (h.lt hi) (h.lt hj) e)
theorem HF{p:Array Nat}{k:Nat}(h:qg r p k)(hk:1<=k)(x:rk r p (k - 1) < rk r p k):qg r p (k+1):=λi j hij hj=>by
 rcases V8 j k with c | c
 . exact h i j hij c
 . have:j=k:=by omega
   subst this;rcases V8 i (j - 1) with d | d
   . exact Yg (h i (j - 1) d (by omega)) x
   . have:i=j - 1:=by omega
     subst this;exact x
theorem qQ{p:Array Nat}{k:Nat}(h:pV r p k)(hk:1<=k)(x:rk r p k < rk r p (k - 1)):pV r p (k+1):=λi j hij hj=>by
 rcases V8 j k with c | c
 . exact h i j hij c
 . have:j=k:=by omega
   subst this;rcases V8 i (j - 1) with d | d
   . exact Yg x (h i (j - 1) d (by omega))
   . have:i=j - 1:=by omega
     subst this;exact x
theorem wN{p:Array Nat}(hr:tZ n r)(h:gv n p): ∀(f m:Nat),1<=m->m+f<=n->qg r p m ->
  gL n (cN r) (kas_asc p f m) λm'=>m<=m'/\m'<=m+f/\qg r p m'/\(m' < m+f->rk r p m' < rk r p (m' - 1))
 | 0,m,h1,hm,u=>gL.ret ⟨Ua _,Ua _,u,λx=>absurd x (Vk _)⟩
 | f+1,m,h1,hm,u=>by
  refine gL.ask (h.lt (by omega)) (h.lt (by omega)) (h.ne (by omega) (by omega) (by omega)) ?_;have ne:=Er hr h (i:=m) (j:=m - 1) (by omega) (by omega) (by omega);by_cases c:rk r p m < rk r p (m - 1)
  . have e:cN r (p.getD m 0) (p.getD (m - 1) 0)=true:=decide_eq_true c;rw[e,if_pos rfl];exact gL.ret ⟨Ua _,by omega,u,λ_=>c⟩
  . have e:cN r (p.getD m 0) (p.getD (m - 1) 0)=false:=decide_eq_false c;rw[e,if_neg (by simp)];refine(wN hr h f (m+1) (by omega) (by omega) (HF u h1 (by omega))).mono λm' x=>⟨by omega,by omega,x.2.2.1,λy=>x.2.2.2 (by omega)⟩
theorem yg{p:Array Nat}(hr:tZ n r)(h:gv n p): ∀(f m:Nat),1<=m->m+f<=n->pV r p m ->
  gL n (cN r) (kas_desc f p m 0) λt=>t.1=p/\t.2.2=0/\m<=t.2.1/\t.2.1<=m+f/\pV r p t.2.1
 | 0,m,h1,hm,u=>gL.ret ⟨rfl,rfl,Ua _,Ua _,u⟩
 | f+1,m,h1,hm,u=>by
  refine gL.ask (h.lt (by omega)) (h.lt (by omega)) (h.ne (by omega) (by omega) (by omega)) ?_;have ne:=Er hr h (i:=m) (j:=m - 1) (by omega) (by omega) (by omega);by_cases c:rk r p m < rk r p (m - 1)
  . have e:cN r (p.getD m 0) (p.getD (m - 1) 0)=true:=decide_eq_true c;rw[e,if_pos rfl,if_neg (by omega)];refine(yg hr h f (m+1) (by omega) (by omega) (qQ u h1 c)).mono λt x=>⟨x.1,x.2.1,by omega,by omega,x.2.2.2.2⟩
  . have e:cN r (p.getD m 0) (p.getD (m - 1) 0)=false:=decide_eq_false c;rw[e,if_neg (by simp)];refine gL.ask (h.lt (by omega)) (h.lt (by omega)) (h.ne (by omega) (by omega) (by omega)) ?_;have e2:cN r (p.getD (m - 1) 0) (p.getD m 0)=true:=decide_eq_true (show rk r p (m - 1) < rk r p m by omega);rw[e2,if_pos rfl];exact gL.ret ⟨rfl,rfl,Ua _,Nat.le_add_right _ _,u⟩
theorem DX{p:Array Nat}{m:Nat}(hm:m<=p.size)(k:Nat):rk r (kas_rev p 0 m) k=if k < m then rk r p (m - 1 - k) else rk r p k:=by
 unfold rk kas_rev;rw[UU,getElem?_mirror_all hm];by_cases c:k < m
 . rw[if_pos ⟨UQ _,c⟩,if_pos c,UU,Nat.zero_add]
 . rw[if_neg (λx=>c x.2),if_neg c,UU]
theorem DH{p:Array Nat}(hr:tZ n r)(h:gv n p){m:Nat}(h1:1<=m)(hm:m<=n)(u:pV r p m):gL n (cN r) (kas_tail3 m n p) λt=>gv n t.2/\1<=t.1/\t.1<=n/\qg r t.2 t.1:=by
 have h':gv n (kas_rev p 0 m):=h.of (mirror_perm _ _ _ _);refine gL.bind ((wN hr h' (n - m) m h1 (by omega) λi j hij hj=>?_).mono λm' x=>gL.ret ⟨h',by omega,by omega,x.2.2.1⟩);rw[DX (by rw[h.size];exact hm),DX (by rw[h.size];exact hm),if_pos (by omega),if_pos hj];exact u _ _ (by omega) (by omega)
theorem DF{p:Array Nat}(hr:tZ n r)(h:gv n p)(h1:1<=n):gL n (cN r) (kas_count n p) λt=>gv n t.2/\1<=t.1/\t.1<=n/\qg r t.2 t.1:=by
 refine gL.bind ((wN hr h (n - 1) 1 (Ua _) (by omega) λi j hij hj=>by omega).mono λm x=>?_);obtain⟨x1,x2,x3,x4⟩:=x;by_cases c:m=n
 . rw[if_pos (by simpa using c)];exact gL.ret ⟨h,x1,by omega,x3⟩
 . rw[if_neg (by simpa using c)];by_cases c2:m > 1
   . rw[if_pos c2];refine gL.ask (h.lt (by omega)) (h.lt (by omega)) (h.ne (by omega) (by omega) (by omega)) ?_;have e2:cN r (p.getD 0 0) (p.getD (m - 1) 0)=true:=decide_eq_true (x3 0 (m - 1) (by omega) (by omega));rw[e2,if_pos rfl];exact gL.ret ⟨h,x1,by omega,x3⟩
   . rw[if_neg c2];have:m=1:=by omega
     subst this;refine gL.bind ((yg hr h (n - (1+1)) (1+1) (by omega) (by omega) (qQ (λi j hij hj=>by omega) (Ua _) (x4 (by omega)))).mono λt y=>?_);obtain⟨y1,y2,y3,y4,y5⟩:=y;rw[if_neg (by omega),y1];exact DH hr h (by omega) (by omega) y5
theorem pM{p:Array Nat}(hr:tZ n r)(h:gv n p){k:Nat}(hk:k < n)(u:qg r p k): ∀(f l m:Nat),l<=m->m<=k->m - l<=f->(∀ i,i < l->rk r p i < rk r p k)->(∀ i,m<=i->i < k->rk r p k < rk r p i) ->
  gL n (cN r) (kas_place p k f l m) λt=>t<=k/\(∀ i,i < t->rk r p i < rk r p k)/\(∀ i,t<=i->i < k->rk r p k < rk r p i)
 | 0,l,m,h1,h2,h3,a,b=>gL.ret ⟨by omega,a,λi hi hik=>b i (by omega) hik⟩
 | f+1,l,m,h1,h2,h3,a,b=>by
  unfold kas_place;by_cases c:l ≥ m
  . rw[if_pos c];exact gL.ret ⟨by omega,a,λi hi hik=>b i (by omega) hik⟩
  . rw[if_neg c];refine gL.ask (h.lt (by omega)) (h.lt (by omega)) (h.ne (by omega) (by omega) (by omega)) ?_;have ne:=Er hr h (i:=k) (j:=(l+m) / 2) (by omega) (by omega) (by omega);by_cases d:rk r p k < rk r p ((l+m) / 2)
    . have e:cN r (p.getD k 0) (p.getD ((l+m) / 2) 0)=true:=decide_eq_true d;rw[e,if_pos rfl];refine pM hr h hk u f l ((l+m) / 2) (by omega) (by omega) (by omega) a λi hi hik=>?_;rcases V8 ((l+m) / 2) i with z | z
      . exact Yg d (u _ _ z hik)
      . have:i=(l+m) / 2:=by omega
        rw[this];exact d
    . have e:cN r (p.getD k 0) (p.getD ((l+m) / 2) 0)=false:=decide_eq_false d;rw[e,if_neg (by simp)];refine pM hr h hk u f ((l+m) / 2+1) m (by omega) (by omega) (by omega) (λi hi=>?_) b;have d':rk r p ((l+m) / 2) < rk r p k:=by omega
      rcases V8 i ((l+m) / 2) with z | z
      . exact Yg (u _ _ z (by omega)) d'
      . have:i=(l+m) / 2:=by omega
        rw[this];exact d'
theorem qR{p:Array Nat}{k d:Nat}(hk:k < p.size)(hd:d<=k)(i:Nat):rk r (bubble p k d) i=if i=k - d then rk r p k else if k - d < i/\i<=k then rk r p (i - 1) else rk r p i:=by
 have g: ∀(q:Array Nat)(j:Nat),rk r q j=r (q[j]?.getD 0):=λq j=>by unfold rk;rw[UU]
 rw[g,g,g,g,getElem?_bubble hk d hd]
 repeat' split
 all_goals rfl
theorem Dh(hr:tZ n r): ∀(f:Nat)(p:Array Nat)(k:Nat),gv n p->k+f=n->qg r p k->gL n (cN r) (kas_bin f p k) λq=>gv n q/\qg r q n
 | 0,p,k,h,e,u=>gL.ret ⟨h,(show k=n from e) ▸ u⟩
 | f+1,p,k,h,e,u=>by
  refine gL.bind ((pM hr h (by omega) u k 0 k (by omega) (by omega) (by omega) (λi hi=>by omega) (λi h1 h2=>by omega)).mono λl x=>?_);obtain⟨x1,x2,x3⟩:=x;refine Dh hr f _ (k+1) (h.of (bubble_perm _ _ _)) (by omega) λi j hij hj=>?_;have hs:k < p.size:=by rw[h.size];omega
  rw[qR hs (by omega),qR hs (by omega)]
  repeat' split
  all_goals first | (exfalso;omega) | exact u _ _ (by omega) (by omega) | exact x2 _ (by omega) | exact x3 _ (by omega) (by omega)
theorem Hc(hr:tZ n r)(h1:1<=n):gL n (cN r) (WU n) λq=>gv n q/\qg r q n:=by
 refine gL.bind ((DF hr (wj n) h1).mono λt x=>?_);obtain⟨x1,x2,x3,x4⟩:=x;by_cases c:t.1 < n
 . rw[if_pos c];have:max t.1 1=t.1:=by omega
   rw[this];exact Dh hr _ _ _ x1 (by omega) x4
 . rw[if_neg c];have:t.1=n:=by omega
   exact gL.ret ⟨x1,this ▸ x4⟩
end
theorem vV{α :Type}{n:Nat}{c c':Nat->Nat->Bool}(h: ∀ i j,i < n->j < n->c i j=c' i j): ∀ t:KasT α,Du n c' t=true->Du n c t=true/\yU c t=yU c' t
 | .ret a,_=>⟨rfl,rfl⟩
 | .ask i j k,e=>by
  simp only[Du,Ut,decide_eq_true_eq,VA,decide_eq_false_iff_not] at e;have hc:=h i j e.1.1.1 e.1.1.2;have:=vV h (k (c' i j)) e.2;simp only[Du,yU,Ut,decide_eq_true_eq,VA,decide_eq_false_iff_not];rw[hc];exact⟨⟨e.1,this.1⟩,this.2⟩
noncomputable def jR(a b:Str):Prop:=a.cps.toList < b.cps.toList
instance (a b:Str):Decidable (jR a b):=inferInstanceAs (Decidable (a.cps.toList < b.cps.toList))
theorem j9(a:Str): ¬ jR a a:=List.lt_irrefl _
theorem jA{a b c:Str}(h1:jR a b)(h2:jR b c):jR a c:=List.lt_trans h1 h2
theorem qZ{a b:Str}(h:jR a b): ¬ jR b a:=λz=>j9 a (jA h z)
theorem HB{a b:Str}(h:a.cps.toList=b.cps.toList):a=b:=by
 cases a;cases b;simp only at h;rw[aa3.mp h]
theorem nU{a b:Str}(h:a≠b):jR a b\/jR b a:=by
 by_cases h1:jR a b
 . exact .inl h1
 . by_cases h2:jR b a
   . exact .inr h2
   . exact absurd (HB (List.le_antisymm (List.not_lt.mp h2) (List.not_lt.mp h1))) h
noncomputable def kz(xs:List Str)(x:Str):Nat:=(xs.filter λy=>decide (jR y x)).length
theorem qV{xs:List Str}{x y:Str}(hx:x∈xs)(h:jR x y):kz xs x < kz xs y:=by
 unfold kz;have sub: ∀ l:List Str,(l.filter λz=>decide (jR z x)).length<=(l.filter λz=>decide (jR z y)).length:=λl=>by
  induction l with
  | nil=>exact Ua _
  | cons z r ih =>
   by_cases h1:jR z x
   . rw[US (by simpa using h1),US (by simpa using jA h1 h)];simpa using ih
   . rw[U6 (by simpa using h1)];by_cases h2:jR z y
     . rw[US (by simpa using h2)];exact YL ih
     . rw[U6 (by simpa using h2)];exact ih
 induction xs with
 | nil=>cases hx
 | cons z r ih =>
  rcases Ui.mp hx with rfl | hr
  . rw[U6 (by simpa using j9 x),US (by simpa using h)];exact Nat.lt_succ_of_le (sub r)
  . by_cases h1:jR z x
    . rw[US (by simpa using h1),US (by simpa using jA h1 h)];simpa using ih hr
    . rw[U6 (by simpa using h1)];by_cases h2:jR z y
      . rw[US (by simpa using h2)];exact Wu (ih hr)
      . rw[U6 (by simpa using h2)];exact ih hr
theorem BW{xs:List Str}{x y:Str}(hx:x∈xs)(hy:y∈xs):kz xs x < kz xs y↔jR x y:=by
 refine⟨λh=>?_,qV hx⟩;by_cases e:x=y
 . subst e;exact absurd h (Vk _)
 . rcases nU e with z | z
   . exact z
   . exact absurd (qV hy z) (Nat.lt_asymm h)
noncomputable def cS(xs:List Str)(i j:Nat):Bool:=decide (jR (xs.getD i "") (xs.getD j ""))
theorem getD_mem{xs:List Str}{i:Nat}(h:i < xs.length):xs.getD i "" ∈xs:=by
 rw[Vf,Uj h];exact WI h
theorem vm{xs:List Str}(h1:1<=xs.length)(nd:xs.Nodup) :
  Du xs.length (cS xs) (WU xs.length)=true/\(yU (cS xs) (WU xs.length)).toList.Perm (UR xs.length)/\((yU (cS xs) (WU xs.length)).toList.map λi=>xs.getD i "").Pairwise jR:=by
 have rkI: ∀ i j,i < xs.length->j < xs.length->(kz xs (xs.getD i "") < kz xs (xs.getD j "")↔jR (xs.getD i "") (xs.getD j "")):=λi j hi hj=>BW (getD_mem hi) (getD_mem hj);have hr:tZ xs.length λi=>kz xs (xs.getD i ""):=λi j hi hj e=>by
  have a:=rkI i j hi hj;have b:=rkI j i hj hi;have e':xs.getD i "" =xs.getD j "" :=Decidable.byContradiction λne=>by
   rcases nU ne with z | z
   . have:=a.mpr z;simp only at e;omega
   . have:=b.mpr z;simp only at e;omega
  rw[Vf,Vf,Uj hi,Uj hj] at e';exact(YJ hi nd).mp (by rw[Uj hi,Uj hj];exact congrArg some e')
 have ok:=Hc hr h1;have al: ∀ i j,i < xs.length->j < xs.length->cS xs i j=cN (λi=>kz xs (xs.getD i "")) i j:=λi j hi hj=>by
  unfold cS cN;rw[decide_eq_decide];exact(rkI i j hi hj).symm
 have ea:=vV al (WU xs.length) ok.1;rw[ea.2];have sh:=ok.2.1;refine⟨ea.1,sh.perm,?_⟩;rw[XD,List.pairwise_iff_getElem];intro i j hi hj hij;have hj':j < xs.length:=by rw[<- sh.size];simpa using hj
 have:=ok.2.2 i j hij hj';unfold rk at this;have:=(rkI _ _ (sh.lt (by omega)) (sh.lt hj')).mp this;rw[UU,UU,U7 (by simpa using hi),U7 (by simpa using hj)] at this;simpa using this
section
variable{prog:Uy}{w:World}{A:UW}{E:Value->T7->Prop}{s:T7}
noncomputable def df(h:Heap)(a:Addr)(vs:List Value):Heap:=((h.update a (Wf λ_=>(#[]:Array Value))).push (WN "tuple" vs.toArray 0)).push (WN "list" #[] 0)
theorem og{h:Heap}{a b:Addr}{vs:List Value}(hb:b < h.objs.size):(df h a vs).get? b=(h.update a (Wf λ_=>(#[]:Array Value))).get? b :=
 (XE _ _ _ (Uw (Yt (Wu hb) ((size_push' _ _).trans (congrArg (· +1) (Zb _ _ _))).symm))).trans
  (XE _ _ _ (Uw (Yt hb (Zb _ _ _).symm)))
theorem vB{h:Heap}{a b:Addr}{vs:List Value}{o:Obj}(hb:b≠a)(e:h.get? b=some o):(df h a vs).get? b=some o :=
 (og (Ug e)).trans ((aae _ _ _ _ hb).trans e)
theorem lI{vs:List Value}(h:vs.length < 64):vs.length<=sizeLine:=UM (Wr h) (by decide)
theorem qj{a:Addr}{vs:List Value}{n:Nat}{P:PySem.Fin->T7->Prop}{κ :aaP}{G:Array Nat->Prop}(ho:s.heap.get? a=some (WN "list" vs.toArray n))(h64:vs.length < 64)
  (hk:2<=vs.length-> ∀ Q':aaP->T7->Prop,Q' κ { s with heap:=df s.heap a vs }->wpAny (model prog w) A (keyKind' vs.toArray) Q' E { s with heap:=df s.heap a vs })
  (ha:2<=vs.length-> ∀ Q':Array Nat->T7->Prop,(∀ p,G p->Q' p { s with heap:=df s.heap a vs })->(WU vs.length).kasWp (kas_ask prog w A κ vs) Q' { s with heap:=df s.heap a vs })
  (h0:vs.length < 2->P (.done (.ret .none)) { s with heap:=Zt s.heap a vs vs.toArray })
  (h: ∀ p:Array Nat,p.size=vs.length->G p->P (.done (.ret .none)) { s with heap:=Zt s.heap a vs (p.toList.map λi=>vs.getD i Wc).toArray }):wpAny (model prog w) A (WO.«list.sort» ⟨[.ref a],[]⟩) P E s:=by
 obtain⟨ep,g1⟩: ∃ k,(s.heap.update a (Wf λ_=>(#[]:Array Value))).get? a=some (WN "list" #[] k):=⟨_,get?_update_seq ho λ_=> #[]⟩
 have g2:(df s.heap a vs).get? a=some (WN "list" #[] ep):=(og (Ug ho)).trans g1;have z:=Uh (as:=vs);rw[list_sort_plain];refine TY (aaQ ho rfl (TY (Y0 ho rfl (TY (abd g1 rfl (TY (wpAny_newTuple (TY (XU (VJ ?_) (UQ _))) (lI h64))))) (z ▸ lI h64) (UQ _))));show wpAny (model prog w) A _ P E { s with heap:=df s.heap a vs };dsimp only;have last: ∀ out:Array Value,out.size<=sizeLine->P (.done (.ret .none)) { s with heap:=Zt s.heap a vs out }->P (.done (.ret .none)) { s with heap:=(df s.heap a vs).update a (Wf λ_=>out) }:=λ_ _ q=>q;rcases V8 vs.toArray.size 2 with c | c
 . rw[if_pos c,if_pos c];have e:(arrOf (SortSt.mk' general' (vs.toArray.zip vs.toArray) #[] 7 none)).map (·.2)=vs.toArray:=by
    apply aa3.mp;show((vs.toArray.zip vs.toArray).map (·.2)).toList=_
    rw[Array.toList_map,Array.toList_zip];exact List.map_snd_zip (Ua _)
   refine TY (m:=pure general') (Ud ?_);rw[StateT.run_pure];refine TY (Ud (TY (abd g2 rfl (TY (Y0 g2 rfl ?_ (UQ _) (hsz2:=by rw[e,z];exact YL (lI h64)))))));rw[if_neg (by simp)];refine Ud ?_;rw[e];exact last _ (by rw[z];exact lI h64) (h0 (z ▸ c))
 . rw[if_neg (aaA.mpr c),if_neg (aaA.mpr c)];have c':2<=vs.length:=z ▸ c;have run:=kat_run (E:=E) (ks:=vs) (vs:=vs) (Q:=λst u=>u={ s with heap:=df s.heap a vs }/\ ∃ p:Array Nat,p.size=vs.length/\arrOf st=p.map (kas_item (vs.toArray.zip vs.toArray))/\failedOf st=none/\G p)
    (G:=λp u=>u={ s with heap:=df s.heap a vs }/\G p) rfl c' h64 (λp st u b1 b2 b3 b4=>⟨b4.1,p,b1,b2,b3,b4.2⟩) (ha c' _ λp g=>⟨rfl,g⟩)
   refine TY (hk c' _ (TY (UZ run (λr u x=>?_) λ_ _ x=>x)));obtain⟨⟨⟩,st⟩:=r;obtain⟨rfl,p,hp,har,hf,g⟩:=x;have el:(List.toArray (p.toList.map λi=>vs.getD i Wc)).size<=sizeLine:=by rw[Uh,TZ,VR,hp];exact lI h64
   dsimp only;rw[kat_snds rfl har,hf];refine TY (abd g2 rfl (TY (Y0 g2 rfl ?_ (UQ _) (YL el))));rw[if_neg (by simp)];exact Ud (last _ el (h p hp g))
abbrev kR(h:Heap)(vs:List Value):Heap:=((h.push (WN "list" #[] 0)).update h.objs.size (Wf (· ++vs.toArray))).push (WN "list" vs.toArray 0)
theorem fu(h:Heap)(vs:List Value):((h.push (WN "list" #[] 0)).update h.objs.size (Wf (· ++vs.toArray))).objs.size=h.objs.size+1:=(Zb _ _ _).trans (size_push' _ _)
theorem jo(h:Heap)(vs:List Value):(kR h vs).get? (h.objs.size+1)=some (WN "list" vs.toArray 0):=(fu h vs) ▸ Um _ rfl
theorem vi{h:Heap}{vs:List Value}{b:Addr}{o:Obj}(e:h.get? b=some o):(kR h vs).get? b=some o:=by
 have l:=Ug e;have z:=fu h vs;exact(XE _ _ _ (Uw (Yt (Wu l) z.symm))).trans ((aae _ _ _ _ (Uw l)).trans ((XE _ _ _ (Uw l)).trans e))
theorem wL{l:Addr}{vs:List Value}{Q:Value->T7->Prop}{κ :aaP}{G:Array Nat->Prop}(hl:s.heap.IsList l vs.toArray)(h64:vs.length < 64)
  (hk: ∀ h':Heap,(∀ b o,s.heap.get? b=some o->h'.get? b=some o)->2<=vs.length-> ∀ Q':aaP->T7->Prop,Q' κ { s with heap:=h' }->wpAny (model prog w) A.in1.in1 (keyKind' vs.toArray) Q' E { s with heap:=h' })
  (ha: ∀ h':Heap,(∀ b o,s.heap.get? b=some o->h'.get? b=some o)->2<=vs.length-> ∀ Q':Array Nat->T7->Prop,(∀ p,G p->Q' p { s with heap:=h' })->(WU vs.length).kasWp (kas_ask prog w A.in1.in1 κ vs) Q' { s with heap:=h' })
  (h0:vs.length < 2->Q (.ref (s.heap.objs.size+1)) { s with heap:=aa4 s.heap vs vs.toArray })
  (h: ∀ p:Array Nat,p.size=vs.length->G p->Q (.ref (s.heap.objs.size+1)) { s with heap:=aa4 s.heap vs (p.toList.map λi=>vs.getD i Wc).toArray }):wpAny (model prog w) A (call (.builtin "sorted") [.ref l]) Q E s:=by
 have kp: ∀ b o,s.heap.get? b=some o->(df (kR s.heap vs) (s.heap.objs.size+1) vs).get? b=some o:=λb o e=>vB (Uw (Wu (Ug e))) (vi e);refine Xb abc aaK aaL (aaM (.ref l)) ?_;unfold WO.«sorted»;refine TY (m:=checkCount "sorted" 1 1 [Ux l].length) (Ud (TY (collect_list hl (TY (XU ?_ (lI h64))) (lI h64))));show wpAny _ _ _ _ _ { s with heap:=kR s.heap vs };rw [fu];refine TY (VJ (VX ZR ⟨_,jo s.heap vs,rfl⟩ ZG (qj (G:=G) (κ := κ) (jo s.heap vs) h64 (hk _ kp) (ha _ kp) (λc=>⟨_,rfl,?_⟩) λp hp g=>⟨_,rfl,?_⟩) (ZS (.ref (s.heap.objs.size+1)))))
 . exact Ud ⟨_,rfl,h0 c⟩
 . exact Ud ⟨_,rfl,h p hp g⟩
end
noncomputable def nR(H:Hp)(y:V)(q:Str × Int):Prop:= ∃ b,y= .ref b/\H b=some (.tup [.str q.1,.int q.2])
theorem nR.v{H:Hp}{y:V}{q:Str × Int}(h:nR H y q):rD H y (.inr q.1,.int q.2):=h
noncomputable def Fw(h:Heap)(v:Value)(q:Str × Int):Prop:= ∃ b o k t u,v= .ref b/\h.get? b=some o/\o.cls= .type "tuple" /\o.data= .seq #[.str q.1 t,.int q.2 u] k
theorem Fw.kept{h h':Heap}{v:Value}{q:Str × Int}(k: ∀ b o,h.get? b=some o->h'.get? b=some o)(x:Fw h v q):Fw h' v q:=let ⟨b,o,n,t,u,e1,e2,e3,e4⟩:=x;⟨b,o,n,t,u,e1,k _ _ e2,e3,e4⟩
theorem vE{P:Uy}{w:World}{H:Hp}{h:Heap}(ok:jK P w H h): ∀{ys:List V}{ps:List (Str × Int)}{ai:List Value},Vh (nR H) ys ps->Vals ys ai->Vh (Fw h) ai ps
 | _,_,_,.nil,.nil=> .nil
 | _,_,_,.cons hp hr,.cons hv hrv=>by
  obtain⟨b,rfl,hb⟩:=hp;obtain⟨_,its0,r0,o,e1,e2,n,e3,_⟩:=(show aT P w H h b (.tup [.str _,.int _]) from ok b _ hb)
  obtain⟨u1,u2,rfl,⟨t1,rfl⟩,⟨t2,rfl⟩⟩:=vals2 r0;cases(show _=Ux b from hv);exact .cons ⟨b,o,n,t1,t2,rfl,e1,e2,e3⟩ (vE ok hr hrv)
theorem tT{h:Heap}: ∀{vs:List Value}{ps:List (Str × Int)},Vh (Fw h) vs ps-> ∀{i:Nat},i < vs.length-> ∃ q,ps[i]?=some q/\Fw h (vs.getD i Wc) q
 | _,_,.nil,i,hi=>absurd hi (Ya _)
 | _,_,.cons hp hr,0,_=>⟨_,rfl,hp⟩
 | _,_,.cons hp hr,i+1,hi=>by
  obtain ⟨q,e,a⟩:=tT hr (i:=i) (by simpa using hi);exact ⟨q,by simpa using e,by simpa using a⟩
theorem uh {h : Heap} : ∀ {vs : List Value} {ps : List (Str × Int)}, Vh (Fw h) vs ps -> ∃ fs, KatTups h vs fs /\ fs.length = vs.length /\ ∀ v ∈ fs, ∃ x t, v = XI x t
  | _, _, .nil => ⟨[], .nil, rfl, λv m => nomatch m⟩
  | _, _, .cons hp hr => by
    obtain ⟨fs, k, l, st⟩ := uh hr;obtain ⟨b, o, n, t, u, rfl, e1, e2, e3⟩ := hp
    exact ⟨_, .cons e1 e2 e3 rfl k, by simp [l], fun v m => by rcases List.mem_cons.mp m with rfl | m; · exact ⟨_, _, rfl⟩
                                                               . exact st v m⟩
section
variable {prog:Uy} {w:World} {A:UW} {E:Value->T7->Prop} {s:T7}
theorem Aa{vs:List Value}{ps:List (Str × Int)}(hp:Vh (Fw s.heap) vs ps)(nd:(ps.map (·.1)).Nodup){i j:Nat}{C:Bool->T7->Prop}(hi:i < vs.length)(hj:j < vs.length)(hij:i≠j)(h:C (cS (ps.map (·.1)) i j) s):kas_ask prog w A (tuples' true) vs i j C s:=by
 obtain⟨q1,f1,b1,o1,n1,t1,u1,e1,g1,c1,d1⟩:=tT hp hi;obtain⟨q2,f2,b2,o2,n2,t2,u2,e2,g2,c2,d2⟩:=tT hp hj;have hne:q1.1≠q2.1:=λz=>hij ((YJ (by rw[TZ];exact(T1.mp f1).1) nd).mp (by rw[Uq,Uq,f1,f2];simp[z]));unfold kas_ask;rw[e1,e2];refine kat_lt g1 d1 g2 d2 (aax q1.1 t1 q2.1 t2 _ _ _ _ ?_);refine Tz (by simpa using hne) ?_;refine oneLt_str ?_;have e:cS (ps.map (·.1)) i j=decide (q1.1.cps.toList < q2.1.cps.toList):=by
  unfold cS;rw[Vf,Vf,Uq,Uq,f1,f2];rfl
 rw[e] at h;exact h
theorem xN{vs:List Value}{ps:List (Str × Int)}(hp:Vh (Fw s.heap) vs ps)(h2:2<=vs.length){Q':aaP->T7->Prop}(q:Q' (tuples' true) s):wpAny (model prog w) A (keyKind' vs.toArray) Q' E s:=by
 obtain⟨fs,k,l,st⟩:=uh hp;refine kat_kind (T:= .type "str") k (by omega) (λv m=>?_) (by decide) q;obtain⟨x,t,rfl⟩:=st v m;exact Looks.now
end
theorem oK{α β :Type}{R: α -> β ->Prop}: ∀{xs:List α}{zs:List β},Vh R xs zs-> ∀{i:Nat}(d: α)(e: β),i < xs.length->R (xs.getD i d) (zs.getD i e)
 | _,_,.nil,i,_,_,hi=>absurd hi (Ya _)
 | _,_,.cons hp hr,0,_,_,_=>hp
 | _,_,.cons hp hr,i+1,d,e,hi=>by simpa using oK hr (i:=i) d e (by simpa using hi)
theorem m5{α β :Type}{R: α -> β ->Prop}{xs:List α}{zs:List β}(hp:Vh R xs zs)(d: α)(e: β): ∀{is:List Nat},(∀ i∈is,i < xs.length)->Vh R (is.map λi=>xs.getD i d) (is.map λi=>zs.getD i e)
 | [],_=> .nil
 | i::r,hi=> .cons (oK hp d e (hi i Uk)) (m5 hp d e λj m=>hi j (Uo _ m))
theorem vt: ∀{xs:List V}{us:List Value},Vals xs us-> ∀{i:Nat},i < xs.length->RelV (xs.getD i .non) (us.getD i .none)
 | _,_,.nil,i,hi=>absurd hi (Ya _)
 | _,_,.cons hp hr,0,_=>hp
 | _,_,.cons hp hr,i+1,hi=>by simpa using vt hr (i:=i) (by simpa using hi)
theorem rq{xs:List V}{us:List Value}(h:Vals xs us): ∀{is:List Nat},(∀ i∈is,i < xs.length)->Vals (is.map λi=>xs.getD i .non) (is.map λi=>us.getD i .none)
 | [],_=> .nil
 | i::r,hi=> .cons (vt h (hi i Uk)) (rq h λj m=>hi j (Uo _ m))
theorem zu{α :Type}(l:List α)(d: α):(UR l.length).map (λi=>l.getD i d)=l:=by
 refine aaR λi=>?_;rw[Uq];by_cases h:i < l.length
 . rw[Xe h,Uj h];simp[h]
 . rw[Wj (by rw[VB];omega),Wj (by omega)];rfl
noncomputable def wg(K:TV):List V->Hp->VK->Prop:=λxs H Q=> ∃(p:Addr)(ys:List V)(ps:List (Str × Int)),xs=[.ref p]/\iF K H p ys/\Vh (nR H) ys ps/\ps.length < 64/\(ps.map (·.1)).Nodup /\
 ∀ l ys' ps',H l=none->ps'.Perm ps->(ps'.map (·.1)).Pairwise jR->Vh (nR H) ys' ps'->Q (.ref l) (upd H l (.lst ys'))
section
variable{X:Cx}
theorem sC:aQ X (.builtin "sorted") (wg X.K):=by
 intro pins s σ H xs us Q I r h;obtain⟨p,ys,ps,rfl,hS,hP,h5,nd,q⟩:=h;obtain⟨u,rfl,ru⟩:=vals1 r;cases(show u=Ux p from ru);obtain⟨ai,hv,hl,hz⟩:=I.list hS;have hat:=vE I.bq hP hv;have hlen:=hv.length;have hpl:=Xh hP;have fs0:=vm (xs:=ps.map (·.1))
 rw[TZ] at fs0;have el:ai.length=ps.length:=by omega
 have fin: ∀(out:List Value)(ys':List V)(ps':List (Str × Int)),ys'.length=ps.length->Vals ys' out->ps'.Perm ps->(ps'.map (·.1)).Pairwise jR->Vh (nR H) ys' ps'->EP X pins σ Q (.ref (s.heap.objs.size+1)) { s with heap:=aa4 s.heap ai out.toArray }:=λout ys' ps' hl' hv' pm pw pp=>by
  obtain⟨e,he⟩:=aaN s.heap ai out.toArray;obtain⟨hn,I'⟩:=I.mK (a:=s.heap.objs.size+1) (o:= .lst ys') (t':=s.toks) (λb o e=>aao e) (VZ (YG _)) ⟨by rw[hl'];exact UM (Wr h5) (by decide),out,e,hv',by simpa [WN] using he⟩;exact⟨.ref _,_,I',rfl,q _ ys' ps' hn pm pw pp⟩
 refine wL (κ :=tuples' true) (G:=λp=>2<=ai.length/\p=yU (cS (ps.map (·.1))) (WU ps.length)) hl.isList (by omega)
  (λh' k h2 Q' hq=>xN (s:={ s with heap:=h' }) (Paired.Aw hat λv q x=>x.kept k) h2 hq)
  (λh' k h2 Q' hq=>vb (n:=ai.length) (c:=cS (ps.map (·.1))) (λi j C hi hj hij hc=>Aa (s:={ s with heap:=h' }) (Paired.Aw hat λv q x=>x.kept k) nd hi hj hij hc) _ (by rw[el];exact(fs0 (by omega) nd).1) (hq _ ⟨h2,by rw[el]⟩))
  (λh2=>?_) λpp hpp g=>?_
 . refine fin ai ys ps (by omega) hv (abq _) ?_ hP;cases ps with
   | nil=>exact .nil
   | cons x r=>cases r with
    | nil=>exact Zc _ _
    | cons y r'=>simp at el;omega
 . obtain⟨g2,g⟩:=g;have fs:=fs0 (by omega) nd;subst g;have lt: ∀ i∈(yU (cS (ps.map (·.1))) (WU ps.length)).toList,i < ps.length:=λi hi=>Vj.mp (fs.2.1.mem_iff.mp hi)
   refine fin _ ((yU (cS (ps.map (·.1))) (WU ps.length)).toList.map λi=>ys.getD i .non) ((yU (cS (ps.map (·.1))) (WU ps.length)).toList.map λi=>ps.getD i ("",0)) ?_ (rq hv λi hi=>by have:=lt i hi;omega) ?_ ?_ (m5 hP _ _ λi hi=>by have:=lt i hi;omega)
   . rw[TZ,VR,hpp,el]
   . have:=fs.2.1.map (λi=>ps.getD i ("",0));rw[zu] at this;exact this
   . have e:(((yU (cS (ps.map (·.1))) (WU ps.length)).toList.map λi=>ps.getD i ("",0)).map (·.1))=(yU (cS (ps.map (·.1))) (WU ps.length)).toList.map λi=>(ps.map (·.1)).getD i ("" :Str):=by
      rw[U5];refine Xf λi hi=>?_;show(ps.getD i ("",0)).1=_;rw[Vf,Vf,Uq,Uj (lt i hi)];rfl
     rw[e];exact fs.2.2
theorem uZ(hc:X.calm=true):aQ X (.builtin "sorted") (λxs H Q=>Dl X.K xs H Q\/(DE xs H Q\/wg X.K xs H Q)):=my.or ((mT hc).or sC)
end
noncomputable def ID(K:TV):List V->Hp->VK->Prop:=λxs H Q=> ∃ x p Ts T b,xs=[x,.ref p]/\H p=some (.tup (Z1 V.ty Ts))/\jF K H x (.type T)/\Z2 K (.type T) (Z1 W3 Ts)=some b/\Q (.bl b) H
theorem yP: ∀{Ts:List String}{us:List Value},Vals (Ts.map V.ty) us->us=Ts.map W3
 | [],_,.nil=>rfl
 | T::r,u::us,.cons h t=>by rw[yP t,show u=W3 T from h];rfl
section
variable{X:Cx}
theorem tU:aQ X (.builtin "isinstance") (ID X.K):=by
 intro pins s σ H xs us Q I r h;obtain⟨x,p,Ts,T,b,rfl,hp,ty,e,q⟩:=h;obtain⟨u,c,rfl,ru,rc⟩:=vals2 r;cases(show c=Ux p from rc);obtain⟨_,ai,hv,⟨oc,dd,dat,sl⟩,e1,e2,n,e3,_⟩:=(show aT X.prog X.w H s.heap p (.tup (Ts.map V.ty)) from I.bq p _ hp)
 simp only at e2 e3;subst e2 e3;obtain rfl:=yP hv;have fin: ∀ tk,EP X pins σ Q (.bool b) { s with toks:=tk }:=λtk=>⟨.bl b,H,I.tok tk,rfl,q⟩
 generalize hT:W3 T=t at ty e;cases ty with
 | non=>cases(show u=Wc from ru);exact Yi kitx_none I.lH trivial e1 e nofun fin
 | bl y=>cases(show u=XJ y from ru);exact Yi kitx_bool I.lH trivial e1 e nofun fin
 | int i=>obtain⟨_,rfl⟩:=(show ∃ t,u=W7 i t from ru);exact Yi kitx_int I.lH trivial e1 e nofun fin
 | str y=>obtain⟨_,rfl⟩:=(show ∃ t,u=XI y t from ru);exact Yi kitx_str I.lH trivial e1 e nofun fin
 | flt y=>obtain⟨_,rfl⟩:=(show ∃ t,u=aa7 y t from ru);exact Yi abn I.lH trivial e1 e nofun fin
 | @lst a xs ea =>
  cases(show u=Ux a from ru)
  obtain⟨_,_,_,_,g⟩:=(show aT X.prog X.w H s.heap a (.lst xs) from I.bq a _ ea)
  exact Yi YS I.lH ⟨_,g,rfl⟩ e1 e nofun fin
 | @jP a ob xs ea =>
  cases(show u=Ux a from ru)
  obtain⟨_,_,_,_,_,g⟩:=(show aT X.prog X.w H s.heap a (.jP ob (.lst xs)) from I.bq a _ ea)
  exact Yi YS I.lH ⟨_,g,rfl⟩ e1 e nofun fin
 | @tup a xs ea =>
  cases(show u=Ux a from ru)
  obtain⟨_,_,_,o,g1,g2,_⟩:=(show aT X.prog X.w H s.heap a (.tup xs) from I.bq a _ ea)
  exact Yi abo I.lH ⟨o,g1,g2⟩ e1 e nofun fin
 | @dK a kvs ea =>
  cases(show u=Ux a from ru)
  obtain⟨_,_,_,_,o,_,_,g1,g2,_⟩:=(show aT X.prog X.w H s.heap a (.dK kvs) from I.bq a _ ea)
  exact Yi YT I.lH ⟨o,g1,g2.1⟩ e1 e nofun fin
 | @dT a kvs ea =>
  cases(show u=Ux a from ru)
  obtain⟨_,_,_,_,o,_,_,g1,g2,_⟩:=(show aT X.prog X.w H s.heap a (.dT kvs) from I.bq a _ ea)
  exact Yi YT I.lH ⟨o,g1,g2.1⟩ e1 e nofun fin
 | ins=>cases hT
theorem B7:aQ X (.builtin "isinstance") (λxs H Q=>OZ X.K xs H Q\/ID X.K xs H Q):=EZ.or tU
end
section
variable{prog:Uy}{w:World}{A:UW}{E:Value->T7->Prop}{s:T7}
theorem Ss{α :Type}{c:Prop}[Decidable c]{m m':Sem α}{M:Model}{Q: α ->T7->Prop}(hc: ¬ c)(h:wpAny M A m' Q E s):wpAny M A (if c then m else m') Q E s:=by rw[if_neg hc];exact h
theorem ic{it t:Addr}{i:Nat}{items:Array Value}{x:Value}{Q:Value->T7->Prop}(hit:s.heap.IsTupleIter it t i)(ht:s.heap.IsTuple t items)(hx:items[i]?=some x)
  (q: ∀ h',h'.IsTupleIter it t (i+1)->Zi it s.heap h'->Q x { s with heap:=h' }):wpAny (model prog w) A (Vg (.ref it)) Q E s:=by
 obtain⟨oi,g1,c1,d1⟩:=id hit;obtain⟨ot,g2,_,k,d2⟩:=id ht;have new:(s.heap.update it (Obj.mapFields (·.setIfInBounds 1 (aat ((i:Int)+1))))).IsTupleIter it t (i+1):=⟨_,ZK _ g1 (Obj.isFreed_of_fields (aaB d1 _)),(Obj.cls_mapFields ..).trans c1,(aaB d1 _).trans (by simp[aat])⟩
 refine TY (VH (name:=Ul "__next__") hit.typeIs VQ (VX VQ hit.typeIs Xw ?_ (Xq (.ref it))));refine TY (m:=field (.ref it) 0) (Vy g1 d1 (x:= .ref t) rfl (Ss (λz=>nomatch z) (TY (m:=field (.ref it) 1) (Vy g1 d1 (x:= .int i 0) rfl (TY (m:=seqItems? (.ref t)) (V0 g2 d2 ?_))))));dsimp only;rw[Vc,hx];exact TY (wpAny_setField g1 d1 (by simp) (Ud ⟨x,rfl,Ud (q _ new (aaf ..))⟩))
theorem mD{it t:Addr}{i:Nat}{items:Array Value}{Q:Value->T7->Prop}(hh:A.handled=none)(hit:s.heap.IsTupleIter it t i)(ht:s.heap.IsTuple t items)(hx:items[i]?=none)
  (q: ∀ h' e,Heap.ExtBut it s.heap h'->(∃ o,h'.get? e=some o/\o.cls= .type "StopIteration")->E (.ref e) { s with heap:=h' }):wpAny (model prog w) A (Vg (.ref it)) Q E s:=by
 obtain⟨oi,g1,c1,d1⟩:=id hit;obtain⟨ot,g2,_,k,d2⟩:=id ht;refine TY (VH (name:=Ul "__next__") hit.typeIs VQ (VX VQ hit.typeIs Xw ?_ (Xq (.ref it))));refine TY (m:=field (.ref it) 0) (Vy g1 d1 (x:= .ref t) rfl (Ss (λz=>nomatch z) (TY (m:=field (.ref it) 1) (Vy g1 d1 (x:= .int i 0) rfl (TY (m:=seqItems? (.ref t)) (V0 g2 d2 ?_))))));dsimp only;rw[Vc,hx];refine TY (Zu (TY (wpAny_setField g1 d1 (by simp) (TY (m:=newExc (.type "StopIteration") []) (TY (m:=newTuple []) (Vz ?_ (by size_fits)))))));refine TY (m:=firstArgMember _ _) (wpAny_of_eq (a:=Wc) (by simp only[firstArgMember];rfl) (Vz ?_ (by size_fits)));unfold raiseNew;refine TY (wpAny_handled ?_);rw[show A.in1.handled=none from hh];exact TY (Ud (wpAny_throw (q _ _ (((aaf ..).extBut.push _).push _) ⟨_,Um _ rfl,rfl⟩)))
structure vH(h:Heap)(z TI TO i1 i2 l1 l2:Addr)(k:Nat):Prop where
 Be:IsZip h z TI TO .none
 ai:XF h TI (.ref i1) (.ref i2)
 old: ∃ a b,XF h TO a b
 one:h.IsTupleIter i1 l1 k
 two:h.IsTupleIter i2 l2 k
theorem AF{z TI TO i1 i2 l1 l2:Addr}{k:Nat}{xs ys:Array Value}{x y:Value}{Q:Value->T7->Prop}(D:aaS z TI TO i1 i2 l1 l2)(Z:vH s.heap z TI TO i1 i2 l1 l2 k)(t1:s.heap.IsTuple l1 xs)(t2:s.heap.IsTuple l2 ys)(hx:xs[k]?=some x)(hy:ys[k]?=some y)
  (q: ∀ h',IsZip h' z TI TO (aat s.heap.objs.size)->XF h' TI (.ref i1) (.ref i2)->XF h' TO x y->h'.IsTupleIter i1 l1 (k+1)->h'.IsTupleIter i2 l2 (k+1)->XF h' s.heap.objs.size x y ->
   (∀ c o,c≠z->c≠TO->c≠i1->c≠i2->s.heap.get? c=some o->h'.get? c=some o)->Q (.ref s.heap.objs.size) { s with heap:=h' }):wpAny (model prog w) A (WO.«zip.__next__» ⟨[.ref z],[]⟩) (λr u=> ∃ v,r= .done (.ret v)/\Q v u) E s:=by
 obtain⟨hz,hTI,⟨a,b,hTO⟩,o1,o2⟩:=Z;refine TY (m:=field (.ref z) 2) (Vy hz rfl (x:= .bool false) rfl ?_);refine TY (m:=field (.ref z) 3) (Vy hz rfl (x:= .ref TI) rfl (TY (V0 hTI rfl ?_)));refine TY (m:=Xl (.ref z)) (TY (m:=field (.ref z) 0) (Vy hz rfl (x:= .none) rfl (Ud (Rp rfl (TY (Zu ?_))))));refine TY (m:=field (.ref z) 4) (Vy hz rfl (x:= .ref TO) rfl (TY (Wg hz (by simp) λu1 z1 b1=>?_)))
 replace z1:IsZip u1 z TI TO .ellipsis:=z1
 refine TY ?_;rw[show(#[Ux i1,Ux i2]:Array Value).toList.zipIdx=[(Ux i1,0),(Ux i2,1)] from rfl,WS];refine TY (TY (XW (TY (m:=Vg (.ref i1)) (ic (o1.at λo e=>b1.extBut _ _ D.i1z e) (t1.at λo e=>b1.extBut _ _ D.l1z e) hx λu2 p1 b2=>Ud ?_))));have T2:XF u2 TO a b:=b2.extBut _ _ D.TOi1 (b1.extBut _ _ D.TOz hTO);refine TY (V0 T2 rfl (TY (X0 T2 λu3 T3 b3=>TY (abe (Ud ?_)))))
 replace T3:XF u3 TO x b:=T3
 have k3: ∀ c o,c≠z->c≠TO->c≠i1->s.heap.get? c=some o->u3.get? c=some o:=λc o n1 n2 n3 e=>b3.extBut _ _ n2 (b2.extBut _ _ n3 (b1.extBut _ _ n1 e));dsimp only;rw[WS];refine TY (TY (XW (TY (m:=Vg (.ref i2)) (ic (o2.at λo e=>k3 _ o D.i2z D.TOi2.symm D.i12.symm e) (t2.at λo e=>k3 _ o D.l2z D.l2TO D.l2i1 e) hy λu4 p2 b4=>Ud ?_))));have T4:XF u4 TO x b:=b4.extBut _ _ D.TOi2 T3;refine TY (V0 T4 rfl (TY (X0 T4 λu5 T5 b5=>TY (abe (Ud ?_)))))
 replace T5:XF u5 TO x y:=T5
 have k5: ∀ c o,c≠z->c≠TO->c≠i1->c≠i2->s.heap.get? c=some o->u5.get? c=some o:=λc o n1 n2 n3 n4 e=>b5.extBut _ _ n2 (b4.extBut _ _ n4 (k3 c o n1 n2 n3 e));have sz:u5.objs.size=s.heap.objs.size:=b5.1.trans (b4.1.trans (b3.1.trans (b2.1.trans b1.1)));have z5:IsZip u5 z TI TO .ellipsis:=b5.extBut _ _ D.TOz.symm (b4.extBut _ _ D.i2z.symm (b3.extBut _ _ D.TOz.symm (b2.extBut _ _ D.i1z.symm z1)));have p15:u5.IsTupleIter i1 l1 (k+1):=p1.at λo e=>b5.extBut _ _ D.TOi1.symm (b4.extBut _ _ D.i12 (b3.extBut _ _ D.TOi1.symm e));have p25:u5.IsTupleIter i2 l2 (k+1):=p2.at λo e=>b5.extBut _ _ D.TOi2.symm e;have lz:z < u5.objs.size:=Ug z5;dsimp only;rw[List.forIn_nil];refine Ud (TY (V0 T5 rfl (TY (wpAny_newTuple ?_ (by show 2<=sizeLine;decide)))));have z6:IsZip (u5.push { cls:= .type "tuple",data:= .seq #[x,y] }) z TI TO .ellipsis:=T6 _ z5;refine TY (m:=aag (.ref z) (.ref u5.objs.size)) (TY (Wg z6 (by simp) λu7 z7 b7=>Wg (show IsZip u7 z TI TO (aat u5.objs.size) from z7) (by simp) λu8 z8 b8=>Ud ⟨_,rfl,?_⟩));have up: ∀ c o,c≠z->u5.get? c=some o->u8.get? c=some o:=λc o n e=>b8.extBut _ _ n (b7.extBut _ _ n (T6 _ e));have T8:XF u8 u5.objs.size x y:=b8.extBut _ _ (Ws lz) (b7.extBut _ _ (Ws lz) (Um _ rfl))
 replace z8:IsZip u8 z TI TO (aat u5.objs.size):=z8
 rw[sz] at z8 T8 ⊢;exact q u8 z8 (up _ _ D.TIz (k5 _ _ D.TIz D.TITO D.TIi1 D.TIi2 hTI)) (up _ _ D.TOz T5) (p15.at λo e=>up _ o D.i1z e) (p25.at λo e=>up _ o D.i2z e) T8 λc o n1 n2 n3 n4 e=>up c o n1 (k5 c o n1 n2 n3 n4 e)
theorem BJ{z TI TO i1 i2 l1 l2:Addr}{k:Nat}{xs ys:Array Value}{Q:PySem.Fin->T7->Prop}(hh:A.handled=none)(D:aaS z TI TO i1 i2 l1 l2)(Z:vH s.heap z TI TO i1 i2 l1 l2 k)(t1:s.heap.IsTuple l1 xs)(t2:s.heap.IsTuple l2 ys)(he:xs[k]?=none\/ys[k]?=none)
  (q: ∀ h' e,(∀ c o,c≠z->c≠TO->c≠i1->c≠i2->s.heap.get? c=some o->h'.get? c=some o)->(∃ o,h'.get? e=some o/\o.cls= .type "StopIteration")->E (.ref e) { s with heap:=h' }):wpAny (model prog w) A (WO.«zip.__next__» ⟨[.ref z],[]⟩) Q E s:=by
 obtain⟨hz,hTI,⟨a,b,hTO⟩,o1,o2⟩:=Z;have ap: ∀(h':Heap)(f0:Value)(e:Addr)(o:Obj),IsZip h' z TI TO f0->h'.get? e=some o->o.cls= .type "StopIteration" ->e≠z:=λh' f0 e o y g c n=>by rw[n,y] at g;cases g;simp at c
 refine TY (m:=field (.ref z) 2) (Vy hz rfl (x:= .bool false) rfl ?_);refine TY (m:=field (.ref z) 3) (Vy hz rfl (x:= .ref TI) rfl (TY (V0 hTI rfl ?_)));refine TY (m:=Xl (.ref z)) (TY (m:=field (.ref z) 0) (Vy hz rfl (x:= .none) rfl (Ud (Rp rfl (TY (Zu ?_))))));refine TY (m:=field (.ref z) 4) (Vy hz rfl (x:= .ref TO) rfl (TY (Wg hz (by simp) λu1 z1 b1=>?_)))
 replace z1:IsZip u1 z TI TO .ellipsis:=z1
 refine TY ?_;rw[show(#[Ux i1,Ux i2]:Array Value).toList.zipIdx=[(Ux i1,0),(Ux i2,1)] from rfl,WS]
 match hx:xs[k]? with
 | none =>
  refine TY (TY (XW (TY (m:=Vg (.ref i1)) (mD hh (o1.at λo e=>b1.extBut _ _ D.i1z e) (t1.at λo e=>b1.extBut _ _ D.l1z e) hx λu2 e b2 g=>?_))))
  obtain⟨oe,g1,g2⟩:=g
  have z2:IsZip u2 z TI TO .ellipsis:=b2 _ _ D.i1z.symm z1
  exact Wg z2 (by simp) λu3 _ b3=>q u3 e (λc o n1 _ n3 _ y=>b3.extBut _ _ n1 (b2 _ _ n3 (b1.extBut _ _ n1 y))) ⟨oe,b3.extBut _ _ (ap u2 _ e oe z2 g1 g2) g1,g2⟩
 | some x =>
  have hy:ys[k]?=none:=he.resolve_left (by rw[hx];intro y;cases y)
  refine TY (TY (XW (TY (m:=Vg (.ref i1)) (ic (o1.at λo e=>b1.extBut _ _ D.i1z e) (t1.at λo e=>b1.extBut _ _ D.l1z e) hx λu2 p1 b2=>Ud ?_))))
  have T2:XF u2 TO a b:=b2.extBut _ _ D.TOi1 (b1.extBut _ _ D.TOz hTO)
  refine TY (V0 T2 rfl (TY (X0 T2 λu3 T3 b3=>TY (abe (Ud ?_)))))
  have k3: ∀ c o,c≠z->c≠TO->c≠i1->s.heap.get? c=some o->u3.get? c=some o:=λc o n1 n2 n3 e=>b3.extBut _ _ n2 (b2.extBut _ _ n3 (b1.extBut _ _ n1 e))
  dsimp only
  rw[WS]
  refine TY (TY (XW (TY (m:=Vg (.ref i2)) (mD hh (o2.at λo e=>k3 _ o D.i2z D.TOi2.symm D.i12.symm e) (t2.at λo e=>k3 _ o D.l2z D.l2TO D.l2i1 e) hy λu4 e b4 g=>?_))))
  obtain⟨oe,g1,g2⟩:=g
  have z4:IsZip u4 z TI TO .ellipsis:=b4 _ _ D.i2z.symm (b3.extBut _ _ D.TOz.symm (b2.extBut _ _ D.i1z.symm z1))
  exact Wg z4 (by simp) λu5 _ b5=>q u5 e (λc o n1 n2 n3 n4 y=>b5.extBut _ _ n1 (b4 _ _ n4 (k3 c o n1 n2 n3 y))) ⟨oe,b5.extBut _ _ (ap u4 _ e oe z4 g1 g2) g1,g2⟩
theorem pG{z TI TO i1 i2 l1 l2:Addr}{k:Nat}{xs ys:Array Value}{x y:Value}{Q:Option Value->T7->Prop}(D:aaS z TI TO i1 i2 l1 l2)(Z:vH s.heap z TI TO i1 i2 l1 l2 k)(t1:s.heap.IsTuple l1 xs)(t2:s.heap.IsTuple l2 ys)(hx:xs[k]?=some x)(hy:ys[k]?=some y)
  (q: ∀ h',IsZip h' z TI TO (aat s.heap.objs.size)->XF h' TI (.ref i1) (.ref i2)->XF h' TO x y->h'.IsTupleIter i1 l1 (k+1)->h'.IsTupleIter i2 l2 (k+1)->XF h' s.heap.objs.size x y ->
   (∀ c o,c≠z->c≠TO->c≠i1->c≠i2->s.heap.get? c=some o->h'.get? c=some o)->Q (some (.ref s.heap.objs.size)) { s with heap:=h' }):wpAny (model prog w) A (aaW (.ref z)) Q E s :=
 have ty:s.TypeIs (.ref z) "zip" :=⟨_,Z.Be,rfl⟩
 TY (wpAny_attempt (VH (name:=Ul "__next__") ty WZ (VX WZ ty Zw (AF D Z t1 t2 hx hy λh' a1 a2 a3 a4 a5 a6 a7=>Ud (q h' a1 a2 a3 a4 a5 a6 a7)) (Zd (.ref z)))))
theorem qf{z TI TO i1 i2 l1 l2:Addr}{k:Nat}{xs ys:Array Value}{Q:Option Value->T7->Prop}(hh:A.handled=none)(D:aaS z TI TO i1 i2 l1 l2)(Z:vH s.heap z TI TO i1 i2 l1 l2 k)(t1:s.heap.IsTuple l1 xs)(t2:s.heap.IsTuple l2 ys)(he:xs[k]?=none\/ys[k]?=none)
  (q: ∀ h',(∀ c o,c≠z->c≠TO->c≠i1->c≠i2->s.heap.get? c=some o->h'.get? c=some o)->Q none { s with heap:=h' }):wpAny (model prog w) A (aaW (.ref z)) Q E s :=
 have ty:s.TypeIs (.ref z) "zip" :=⟨_,Z.Be,rfl⟩
 TY (wpAny_attempt (VH (name:=Ul "__next__") ty WZ (VX WZ ty Zw (BJ (A:=A.in1) hh D Z t1 t2 he λh' e a1 g =>
  let ⟨o,g1,g2⟩:=g;TY (wpAny_isInstance (T:= "StopIteration") (b:=true) ⟨o,g1,g2⟩ isSubtype_stop (Ud (q h' a1)))) (Zd (.ref z)))))
end
end L2
end
section
open PySem PySem.W PyProof.Rows
namespace P3
open PySem PySem.Spec PyProof.Rows L2
inductive PV where
 | non | bl (b:Bool) | int (i:Int) | str (x:Str) | tup (xs:List PV) | ktup (xs:List PV) | ref (n:Nat) | ty (n:String)
mutual
def PV.beq:PV->PV->Bool
 | .non,.non=>true
 | .bl a,.bl b=>decide (a=b)
 | .int a,.int b=>decide (a=b)
 | .str a,.str b=>decide (a=b)
 | .tup a,.tup b=>PV.xH a b
 | .ktup a,.ktup b=>PV.xH a b
 | .ref a,.ref b=>decide (a=b)
 | .ty a,.ty b=>decide (a=b)
 | _,_=>false
def PV.xH:List PV->List PV->Bool
 | [],[]=>true
 | a::x,b::y=>PV.beq a b&&PV.xH x y
 | _,_=>false
end
mutual
theorem PV.beq_iff: ∀(a b:PV),PV.beq a b=true↔a=b
 | .non,b=>by cases b<;>simp[PV.beq]
 | .bl _,b=>by cases b<;>simp[PV.beq]
 | .int _,b=>by cases b<;>simp[PV.beq]
 | .str _,b=>by cases b<;>simp[PV.beq]
 | .ref _,b=>by cases b<;>simp[PV.beq]
 | .ty _,b=>by cases b<;>simp[PV.beq]
 | .tup a,b=>by
  cases b with
  | tup b=>rw[PV.beq,PV.oW a b];simp
  | _=>simp[PV.beq]
 | .ktup a,b=>by
  cases b with
  | ktup b=>rw[PV.beq,PV.oW a b];simp
  | _=>simp[PV.beq]
theorem PV.oW: ∀(a b:List PV),PV.xH a b=true↔a=b
 | [],b=>by cases b<;>simp[PV.xH]
 | a::x,b=>by
  cases b with
  | nil=>simp[PV.xH]
  | cons b y=>rw[PV.xH,Ut,PV.beq_iff a b,PV.oW x y];simp
end
instance:DecidableEq PV:=λa b=>decidable_of_iff _ (PV.beq_iff a b)
mutual
def PV.flat:PV->Bool
 | .ref _=>false
 | .tup xs=>PV.bC xs
 | .ktup xs=>PV.bC xs
 | _=>true
def PV.bC:List PV->Bool
 | []=>true
 | x::r=>x.flat&&PV.bC r
end
mutual
def PV.iM(n:Nat):PV->Bool
 | .ref m=>decide (m < n)
 | .tup xs=>PV.jd n xs
 | .ktup xs=>PV.jd n xs
 | _=>true
def PV.jd(n:Nat):List PV->Bool
 | []=>true
 | x::r=>x.iM n&&PV.jd n r
end
inductive PO where
 | lst (xs:List PV) | kD (xs:List PV) | dct (kvs:List (Key × PV))
 deriving DecidableEq
noncomputable def PO.gC:PO->Bool
 | .kD _=>false
 | _=>true
noncomputable def PO.iM(n:Nat):PO->Bool
 | .lst xs=>PV.jd n xs
 | .kD xs=>PV.jd n xs
 | .dct kvs=>PV.jd n (kvs.map (·.2))
abbrev PH:=List PO
abbrev aq:=List (Option PV)
noncomputable def KT(K:TV)(a:Addr)(xs:List V):Prop:= ∃(o:Obj)(ai:Array Value)(n:Nat),K.lookup a=some o/\o.cls= .type "tuple" /\o.data= .seq ai n/\ai.size<=sizeLine/\Vals xs ai.toList
mutual
def rel(K:TV)(ρ :List Addr)(H:Hp):PV->V->Prop
 | .non,v=>v= .non
 | .bl b,v=>v= .bl b
 | .int i,v=>v= .int i
 | .str x,v=>v= .str x
 | .ty n,v=>v= .ty n
 | .ref n,v=> ∃ a, ρ[n]?=some a∧v= .ref a
 | .tup xs,v=> ∃ a vs,v= .ref a∧H a=some (.tup vs)∧ao K ρ H xs vs
 | .ktup xs,v=> ∃ a vs,v= .ref a∧KT K a vs∧ao K ρ H xs vs
def ao (K:TV) (ρ :List Addr) (H:Hp):List PV->List V->Prop
 | [],vs=>vs=[]
 | x::r,vs=> ∃ v t,vs=v::t∧rel K ρ H x v∧ao K ρ H r t
end
structure Gr (ρ :List Addr) (H:Hp) (ρ':List Addr) (H':Hp):Prop where
 pre: ∀ (n:Nat) (a:Addr), ρ[n]?=some a-> ρ'[n]?=some a
 tup: ∀ a xs,H a=some (.tup xs)->H' a=some (.tup xs)
 jP: ∀ a o u,H a=some (.jP o u)->H' a=some (.jP o u)
theorem Gr.refl (ρ :List Addr) (H:Hp):Gr ρ H ρ H:=⟨λ_ _ h=>h,λ_ _ h=>h,λ_ _ _ h=>h⟩
theorem Gr.trans{ρ ρ1 ρ2:List Addr}{H H1 H2:Hp}(a:Gr ρ H ρ1 H1)(b:Gr ρ1 H1 ρ2 H2):Gr ρ H ρ2 H2 :=
 ⟨λn x h=>b.pre n x (a.pre n x h),λx xs h=>b.tup x xs (a.tup x xs h),λx o u h=>b.jP x o u (a.jP x o u h)⟩
section
variable{K:TV}{ρ ρ':List Addr}{H H':Hp}
theorem Gr.EC(g:Gr ρ H ρ' H'){a:Addr}{xs:List V}(h:fc K H a xs):fc K H' a xs:=by
 rcases h with(h | ⟨o,h⟩) | h
 . exact .inl (.inl (g.tup _ _ h))
 . exact .inl (.inr ⟨o,g.jP _ _ _ h⟩)
 . exact .inr h
theorem Gr.TB(g:Gr ρ H ρ' H'){a:Addr}{xs:List V}(h:ye K H a xs):ye K H' a xs:=by
 rcases h with⟨o,h⟩ | h
 . exact .inl ⟨o,g.jP _ _ _ h⟩
 . exact .inr h
mutual
theorem rel.gr(g:Gr ρ H ρ' H'): ∀(x:PV)(v:V),rel K ρ H x v->rel K ρ' H' x v
 | .non,v,h=>by simpa only[rel] using h
 | .bl _,v,h=>by simpa only[rel] using h
 | .int _,v,h=>by simpa only[rel] using h
 | .str _,v,h=>by simpa only[rel] using h
 | .ty _,v,h=>by simpa only[rel] using h
 | .ref n,v,h=>by
  rw[rel] at h ⊢;obtain⟨a,e,h⟩:=h;exact⟨a,g.pre _ _ e,h⟩
 | .tup xs,v,h=>by
  rw[rel] at h ⊢;obtain⟨a,vs,e,s,r⟩:=h;exact⟨a,vs,e,g.tup _ _ s,ao.gr g xs vs r⟩
 | .ktup xs,v,h=>by
  rw[rel] at h ⊢;obtain⟨a,vs,e,s,r⟩:=h;exact⟨a,vs,e,s,ao.gr g xs vs r⟩
theorem ao.gr(g:Gr ρ H ρ' H'): ∀(xs:List PV)(vs:List V),ao K ρ H xs vs->ao K ρ' H' xs vs
 | [],vs,h=>by simpa only[ao] using h
 | x::r,vs,h=>by
  rw[ao] at h ⊢;obtain⟨v,t,e,h1,h2⟩:=h;exact⟨v,t,e,rel.gr g x v h1,ao.gr g r t h2⟩
end
noncomputable def PV.seq?:PV->Option (List PV)
 | .tup xs=>some xs
 | .ktup xs=>some xs
 | _=>none
theorem rel.seq{x:PV}{xs:List PV}{v:V}(e:x.seq?=some xs)(h:rel K ρ H x v): ∃ a vs,v= .ref a/\fc K H a vs/\ao K ρ H xs vs:=by
 cases x<;>simp only[PV.seq?,reduceCtorEq,W0] at e
 . subst e;rw[rel] at h;obtain⟨a,vs,e,z,r⟩:=h;exact⟨a,vs,e,.of z,r⟩
 . subst e;rw[rel] at h;obtain⟨a,vs,e,z,r⟩:=h;exact⟨a,vs,e,.inr z,r⟩
theorem aJ{vs:List V}:ao K ρ H [] vs↔vs=[]:=by rw[ao]
theorem az{x:PV}{r:List PV}{vs:List V}:ao K ρ H (x::r) vs↔ ∃ v t,vs=v::t/\rel K ρ H x v/\ao K ρ H r t:=by rw[ao]
theorem ao.len: ∀{xs:List PV}{vs:List V},ao K ρ H xs vs->xs.length=vs.length
 | [],vs,h=>by rw[aJ] at h;rw[h];rfl
 | x::r,vs,h=>by
  obtain⟨v,t,rfl,_,h2⟩:=az.mp h;simp[ao.len h2]
theorem ao.get: ∀{xs:List PV}{vs:List V}{i:Nat}{x:PV},ao K ρ H xs vs->xs[i]?=some x-> ∃ v,vs[i]?=some v/\rel K ρ H x v
 | [],vs,i,x,h,e=>by simp at e
 | y::r,vs,i,x,h,e=>by
  obtain⟨v,t,rfl,h1,h2⟩:=az.mp h;cases i with
  | zero=>simp at e;subst e;exact⟨v,rfl,h1⟩
  | succ i=>simpa using ao.get h2 (by simpa using e)
theorem ao.app: ∀{xs ys:List PV}{vs ws:List V},ao K ρ H xs vs->ao K ρ H ys ws->ao K ρ H (xs++ys) (vs++ws)
 | [],ys,vs,ws,h,h'=>by rw[aJ] at h;subst h;exact h'
 | x::r,ys,vs,ws,h,h'=>by
  obtain⟨v,t,rfl,h1,h2⟩:=az.mp h;exact az.mpr ⟨v,t++ws,rfl,h1,ao.app h2 h'⟩
theorem ao.one{x:PV}{v:V}(h:rel K ρ H x v):ao K ρ H [x] [v]:=az.mpr ⟨v,[],rfl,h,aJ.mpr rfl⟩
theorem ao.take: ∀{xs:List PV}{vs:List V}(n:Nat),ao K ρ H xs vs->ao K ρ H (xs.take n) (vs.take n)
 | xs,vs,0,h=>by simp[aJ]
 | [],vs,n+1,h=>by rw[aJ] at h;subst h;simp[aJ]
 | x::r,vs,n+1,h=>by
  obtain⟨v,t,rfl,h1,h2⟩:=az.mp h;exact az.mpr ⟨v,t.take n,rfl,h1,ao.take n h2⟩
theorem ao.drop: ∀{xs:List PV}{vs:List V}(n:Nat),ao K ρ H xs vs->ao K ρ H (xs.drop n) (vs.drop n)
 | xs,vs,0,h=>h
 | [],vs,n+1,h=>by rw[aJ] at h;subst h;simp[aJ]
 | x::r,vs,n+1,h=>by
  obtain⟨v,t,rfl,h1,h2⟩:=az.mp h;exact ao.drop n h2
theorem ao.set: ∀{xs:List PV}{vs:List V}{x:PV}{v:V}(i:Nat),ao K ρ H xs vs->rel K ρ H x v->ao K ρ H (xs.set i x) (vs.set i v)
 | [],vs,x,v,i,h,hv=>by rw[aJ] at h;subst h;simp[aJ]
 | y::r,vs,x,v,i,h,hv=>by
  obtain⟨w,t,rfl,h1,h2⟩:=az.mp h;cases i with
  | zero=>exact az.mpr ⟨v,t,rfl,hv,h2⟩
  | succ i=>exact az.mpr ⟨w,t.set i v,rfl,h1,ao.set i h2 hv⟩
theorem ao.ints: ∀(ns:List Int),ao K ρ H (ns.map PV.int) (ns.map V.int)
 | []=>aJ.mpr rfl
 | n::r=>az.mpr ⟨.int n,r.map V.int,rfl,by rw[rel],ao.ints r⟩
end
noncomputable def mC(K:TV)(ρ :List Addr)(H:Hp)(a:Addr):PO->Prop
 | .lst xs=> ∃ vs,H a=some (.lst vs)/\ao K ρ H xs vs
 | .kD xs=> ∃ vs,ye K H a vs/\ao K ρ H xs vs
 | .dct kvs=> ∃ kws,H a=some (.dK kws)/\Vh (λ(p:Key × PV) (q:Key × V)=>p.1=q.1/\rel K ρ H p.2 q.2) kvs kws
structure c7(K:TV)(ρ :List Addr)(h:PH)(H:Hp):Prop where
 len: ρ.length=h.length
 nd: ∀(i j:Nat)(a:Addr)(oi oj:PO),h[i]?=some oi->h[j]?=some oj->oi.gC=true->oj.gC=true-> ρ[i]?=some a-> ρ[j]?=some a->i=j
 ob: ∀ (i:Nat) (o:PO) (a:Addr),h[i]?=some o-> ρ[i]?=some a->mC K ρ H a o
section
variable {K:TV} {ρ ρ':List Addr} {H H':Hp} {h:PH}
theorem c7.at (s:c7 K ρ h H) {i:Nat} {o:PO} (e:h[i]?=some o): ∃ a, ρ[i]?=some a∧mC K ρ H a o:=by
 have hi:i < ρ.length:=by rw [s.len];exact (T1.mp e).1
 exact ⟨ρ[i],Uj hi,s.ob i o _ e (Uj hi)⟩
theorem Paired.jC {kvs:List (Key × PV)} {kws:List (Key × V)} (g:Gr ρ H ρ' H') (h:Vh (λ(p:Key × PV) (q:Key × V)=>p.1=q.1∧rel K ρ H p.2 q.2) kvs kws) :
  Vh (λ(p:Key × PV) (q:Key × V)=>p.1=q.1/\rel K ρ' H' p.2 q.2) kvs kws:=Paired.Aw h λ_ _ z=>⟨z.1,rel.gr g _ _ z.2⟩
theorem jb{a:Addr}{o:PO}(m:o.gC=true)(r:mC K ρ H a o):(∃ vs,H a=some (.lst vs))\/ ∃ kws,H a=some (.dK kws):=by
 cases o with
 | lst xs=>obtain⟨vs,e,_⟩:=r;exact .inl ⟨vs,e⟩
 | kD xs=>exact nomatch m
 | dct kvs=>obtain⟨kws,e,_⟩:=r;exact .inr ⟨kws,e⟩
theorem mM{a:Addr}{o:PO}(g:Gr ρ H ρ' H')(k:o.gC=true->H' a=H a)(r:mC K ρ H a o):mC K ρ' H' a o:=by
 cases o with
 | lst xs=>obtain⟨vs,e,r⟩:=r;exact⟨vs,(k rfl).trans e,ao.gr g _ _ r⟩
 | kD xs=>obtain ⟨vs,e,r⟩:=r;exact ⟨vs,g.TB e,ao.gr g _ _ r⟩
 | dct kvs=>obtain ⟨kws,e,r⟩:=r;exact ⟨kws,(k rfl).trans e,Paired.jC g r⟩
theorem Gr.new {p : Addr} {o : HO} (hp : H p = none) (l : List Addr) : Gr ρ H (ρ ++ l) (upd H p o) :=
  ⟨λn a e => by rw [UT (T1.mp e).1]; exact e,
   λa xs e => by rw [aA (aB e hp)]; exact e, λa o u e => by rw [aA (aB e hp)]; exact e⟩
theorem Gr.wx {p:Addr} {o:HO} (hp:H p=none):Gr ρ H ρ (upd H p o):=by simpa using Gr.new (ρ := ρ) (o:=o) hp []
theorem c7.tup (s:c7 K ρ h H) {p:Addr} {o:HO} (hp:H p=none):c7 K ρ h (upd H p o) :=
 ⟨s.len,s.nd,λi x a e1 e2=>mM (Gr.wx hp) (λm=>by
  have:=jb m (s.ob i x a e1 e2);refine aA ?_;rcases this with⟨_,z⟩ | ⟨_,z⟩<;>exact aB z hp) (s.ob i x a e1 e2)⟩
theorem c7.new(s:c7 K ρ h H){p:Addr}{ho:HO}{o:PO}(hp:H p=none)(r:mC K (ρ ++[p]) (upd H p ho) p o):c7 K (ρ ++[p]) (h++[o]) (upd H p ho):=by
 have g:Gr ρ H (ρ ++[p]) (upd H p ho):=Gr.new hp [p];have old: ∀{i:Nat}{x:PO},(h++[o])[i]?=some x->(i < h.length/\h[i]?=some x)\/(i=h.length/\x=o):=λ{i x} e=>by
  rcases V8 i h.length with z | z
  . rw[UT z] at e;exact .inl ⟨z,e⟩
  . rw[UD z] at e;have:i - h.length=0:=by
     rcases Nat.eq_zero_or_pos (i - h.length) with y | y
     . exact y
     . rw[Wj (by simp;omega)] at e;exact nomatch e
    rw[this] at e;exact .inr ⟨by omega,by simpa using e.symm⟩
 have oldρ : ∀{i:Nat}{a:Addr},i < h.length->(ρ ++[p])[i]?=some a-> ρ[i]?=some a:=λ{i a} z e=>by
  rw[UT (by rw[s.len];exact z)] at e;exact e
 have newρ : ∀{a:Addr},(ρ ++[p])[h.length]?=some a->a=p:=λ{a} e=>by
  rw[<- s.len,UD (Ua _)] at e;simpa using e.symm
 refine⟨by simp[s.len],λi j a oi oj ei ej mi mj ri rj=>?_,λi x a e1 e2=>?_⟩
 . rcases old ei with⟨zi,ei⟩ | ⟨zi,ei⟩<;>rcases old ej with⟨zj,ej⟩ | ⟨zj,ej⟩
   . exact s.nd i j a oi oj ei ej mi mj (oldρ zi ri) (oldρ zj rj)
   . subst zj;have:=jb mi (s.ob i oi a ei (oldρ zi ri));rw[newρ rj] at this;rcases this with⟨_,z⟩ | ⟨_,z⟩<;>(rw[hp] at z;exact nomatch z)
   . subst zi;have:=jb mj (s.ob j oj a ej (oldρ zj rj));rw[newρ ri] at this;rcases this with⟨_,z⟩ | ⟨_,z⟩<;>(rw[hp] at z;exact nomatch z)
   . rw[zi,zj]
 . rcases old e1 with⟨z,e⟩ | ⟨z,e⟩
   . refine mM g (λm=>?_) (s.ob i x a e (oldρ z e2));have:=jb m (s.ob i x a e (oldρ z e2));refine aA ?_;rcases this with ⟨_,y⟩ | ⟨_,y⟩<;>exact aB y hp
   . subst z;subst e;rw [newρ e2];exact r
theorem Gr.write {a : Addr} {ho : HO} (m : (∃ vs, H a = some (.lst vs)) ∨ ∃ kws, H a = some (.dK kws)) : Gr ρ H ρ (upd H a ho) :=
  ⟨fun _ _ h => h, fun b xs e => by rw [aA]; · exact e
                                    . rintro rfl; rcases m with ⟨_, z⟩ | ⟨_, z⟩ <;> (rw [e] at z; exact nomatch z),
   fun b o u e => by rw [aA]; · exact e
                     . rintro rfl; rcases m with ⟨_, z⟩ | ⟨_, z⟩ <;> (rw [e] at z; exact nomatch z)⟩
theorem c7.write (s:c7 K ρ h H) {i:Nat} {a:Addr} {ho:HO} {o o':PO} (e:h[i]?=some o) (ea: ρ[i]?=some a) (m:o.gC=true) (m':o'.gC=true) (r:mC K ρ (upd H a ho) a o') :
  c7 K ρ (h.set i o') (upd H a ho):=by
 have ma:=jb m (s.ob i o a e ea);have g:Gr ρ H ρ (upd H a ho):=Gr.write ma;have hi:i < h.length:=(T1.mp e).1;have at_: ∀{j:Nat}{x:PO},(h.set i o')[j]?=some x->(j=i/\x=o')\/(j≠i/\h[j]?=some x):=λ{j x} q=>by
  by_cases z:j=i
  . subst z;rw[UO hi] at q;exact .inl ⟨rfl,by simpa using q.symm⟩
  . rw[Vb (WB z)] at q;exact .inr ⟨z,q⟩
 refine⟨by simp[s.len],λj k b oj ok ej ek mj mk rj rk=>?_,λj x b e1 e2=>?_⟩
 . rcases at_ ej with⟨zj,_⟩ | ⟨_,ej2⟩<;>rcases at_ ek with⟨zk,_⟩ | ⟨_,ek2⟩
   . rw[zj,zk]
   . rw[zj] at rj ⊢; exact s.nd _ _ b o ok e ek2 m mk rj rk
   . rw[zk] at rk ⊢; exact s.nd _ _ b oj o ej2 e mj m rj rk
   . exact s.nd j k b oj ok ej2 ek2 mj mk rj rk
 . rcases at_ e1 with⟨rfl,rfl⟩ | ⟨z,e1⟩
   . rw[ea] at e2;cases e2;exact r
   . refine mM g (λmx=>aA λq=>z ?_) (s.ob j x b e1 e2);subst q;exact s.nd j i b x o e1 e mx m e2 ea
end
inductive RV(α :Type) where
 | ok (a: α) (h:PH) | ex (c:String) (vs:List PV) (h:PH) | no
variable{α β :Type}
noncomputable def RV.bind:RV α ->(α ->PH->RV β)->RV β
 | .ok a h,f=>f a h
 | .ex c vs h,_=> .ex c vs h
 | .no,_=> .no
theorem c9{a: α}{h:PH}{f: α ->PH->RV β}:(RV.ok a h).bind f=f a h:=rfl
theorem bind_eq{r:RV α}{f: α ->PH->RV β}{b: β}{h':PH}:r.bind f= .ok b h'↔ ∃ a h,r= .ok a h/\f a h= .ok b h':=by
 cases r with
 | ok a h=>exact⟨λe=>⟨a,h,rfl,e⟩,λ⟨a',h2,e,q⟩=>by cases e;exact q⟩
 | ex c vs h=>exact⟨λe=>(nomatch e),λ⟨_,_,e,_⟩=>(nomatch e)⟩
 | no=>exact⟨λe=>(nomatch e),λ⟨_,_,e,_⟩=>(nomatch e)⟩
theorem Bs{c:Prop}[Decidable c]{a b:RV α}{f: α ->PH->RV β}:(if c then a else b).bind f=if c then a.bind f else b.bind f:=by split<;>rfl
noncomputable def Ok(r:RV α)(Q: α ->PH->Prop):Prop:= ∃ a h,r= .ok a h/\Q a h
abbrev CF:=String->List PV->PH->RV PV
abbrev ME:=CF->aq->PH->RV PV
abbrev MT:=CF->aq->PH->RV Bool
abbrev MA:=CF->aq->PH->RV (List PV)
inductive Fl where
 | nx (e:aq) | rt (v:PV) | bk (e:aq) | ct (e:aq)
abbrev MS:=CF->aq->PH->RV Fl
abbrev MG:=PV->aq->PH->RV aq
structure k4 where
 gd:Option Nat
 items:List PV
abbrev MI:=CF->aq->PH->RV k4
structure Df where
 ps:List Str
 nl:Nat
 body:MS
structure Tb where
 fns:String->Option Df
 con:Str->Option PV
 yf:Str->Option (List (Key × PV))
noncomputable def ck(n:Nat):PH->PH->Bool
 | [],_=>true
 | _::_,[]=>false
 | o::h,o'::h'=>(decide (o=o')||(o'.iM n&&o.gC == o'.gC))&&ck n h h'
noncomputable def settle(h:PH)(v:PV)(h':PH):RV PV:=if (v.flat&&ck h.length h h')=true then .ok v (h'.take h.length) else .ok v h'
theorem jS(n:Nat): ∀(h g:PH),ck n h (h++g)=true
 | [],g=>rfl
 | o::h,g=>by rw[Vm,ck,jS n h g];simp
theorem px{n:Nat}{o':PO}(hu:o'.iM n=true): ∀(h h':PH)(i:Nat)(o:PO),ck n h h'=true->h[i]?=some o->o.gC=o'.gC->ck n h (h'.set i o')=true
 | [],h',i,o,_,e,_=>by simp at e
 | a::h,[],i,o,q,_,_=>by simp[ck] at q
 | a::h,b::h',0,o,q,e,m=>by
  rw[ck,Ut] at q;simp at e;subst e;rw[aaC,ck,q.2,hu,m];simp
 | a::h,b::h',i+1,o,q,e,m=>by
  rw[ck,Ut] at q;rw[List.set_cons_succ,ck,px hu h h' i o q.2 (by simpa using e) m,q.1];rfl
theorem pd{n:Nat}: ∀{h h':PH},ck n h h'=true->h.length<=h'.length
 | [],h',_=>UQ _
 | o::h,[],e=>by simp[ck] at e
 | o::h,o'::h',e=>by
  rw[ck,Ut] at e;simp only[Ub];exact aa0 (pd e.2)
theorem rP{n:Nat}: ∀{h h':PH}{i:Nat}{o':PO},ck n h h'=true->(h'.take h.length)[i]?=some o'-> ∃ o,h[i]?=some o/\o.gC=o'.gC/\(o=o'\/o'.iM n=true)
 | [],h',i,o',_,e=>by simp at e
 | a::h,[],i,o',q,_=>by simp[ck] at q
 | a::h,b::h',0,o',q,e=>by
  rw[ck,Ut,WT,Ut] at q;simp at e;subst e;refine⟨a,rfl,?_,?_⟩
  . rcases q.1 with z | z
    . rw[of_decide_eq_true z]
    . simpa using z.2
  . rcases q.1 with z | z
    . exact .inl (of_decide_eq_true z)
    . exact .inr z.1
 | a::h,b::h',i+1,o',q,e=>by
  rw[ck,Ut] at q;simpa using rP q.2 (by simpa using e)
noncomputable def run(pg:Tb):Nat->CF
 | 0,_,_,_=> .no
 | k+1,f,vs,h=>match pg.fns f with
  | none=> .no
  | some d=>if vs.length=d.ps.length then
    (match d.body (run pg k) (vs.map some++Uc d.nl none) h with
    | .ok (.rt v) h'=>settle h v h'
    | .ok (.nx _) h'=>settle h .non h'
    | .ok _ _=> .no
    | .ex c us h'=> .ex c us h'
    | .no=> .no)
   else .no
noncomputable def dW(K:TV)(ρ :List Addr)(H:Hp)(v:PV)(h':PH)(Q:VK):Prop:= ∀ v' ρ' H',Gr ρ H ρ' H'->c7 K ρ' h' H'->rel K ρ' H' v v'->Q v' H'
noncomputable def mY(K:TV)(ρ :List Addr)(H:Hp)(h':PH)(Q:Hp->Prop):Prop:= ∀ ρ' H',Gr ρ H ρ' H'->c7 K ρ' h' H'->Q H'
noncomputable def OU (K:TV) (ρ :List Addr) (H:Hp) (vs:List PV) (h':PH) (Q:List V->Hp->Prop):Prop:= ∀ us ρ' H',Gr ρ H ρ' H'->c7 K ρ' h' H'->ao K ρ' H' vs us->Q us H'
structure dU (K:TV) (ρ :List Addr) (H:Hp) (e:aq) (σ :L2.St):Prop where
 len:e.length= σ.length
 get: ∀ (i:Nat) (v:PV),e[i]?=some (some v)-> ∃ v', σ[i]?=some (some v')∧rel K ρ H v v'
noncomputable def fX (K:TV) (ρ :List Addr) (H:Hp) (e':aq) (h':PH) (Q:L2.St->Hp->Prop):Prop:= ∀ σ' ρ' H',Gr ρ H ρ' H'->c7 K ρ' h' H'->dU K ρ' H' e' σ'->Q σ' H'
noncomputable def yE (K:TV) (ρ :List Addr) (H:Hp) (D:Ends) (h':PH):Fl->Prop
 | .nx e=>fX K ρ H e h' D.nx
 | .bk e=>fX K ρ H e h' D.bk
 | .ct e=>fX K ρ H e h' D.ct
 | .rt v=>dW K ρ H v h' D.rt
section
variable{K:TV}{ρ ρ1:List Addr}{H H1:Hp}{h':PH}
theorem dU.gr{e:aq}{σ :L2.St}(r:dU K ρ H e σ)(g:Gr ρ H ρ1 H1):dU K ρ1 H1 e σ :=⟨r.len,λi v q=>let ⟨v',a,b⟩:=r.get i v q;⟨v',a,rel.gr g _ _ b⟩⟩
theorem dU.set{e:aq}{σ :L2.St}{v:PV}{v':V}(r:dU K ρ H e σ)(i:Nat)(h:rel K ρ H v v'):dU K ρ H (e.set i (some v)) (σ.set i (some v')):=by
 refine⟨by simp[r.len],λj x q=>?_⟩;by_cases z:j=i
 . subst z;have hj:j < e.length:=by
    have:=(T1.mp q).1;simpa using this
   rw[UO hj] at q;cases q;exact⟨v',UO (by rw[<- r.len];exact hj),h⟩
 . rw[Vb (WB z)] at q ⊢;exact r.get j x q
theorem dU.more{e:aq}{σ :L2.St}(r:dU K ρ H e σ)(k:Nat):dU K ρ H (e++Uc k none) (σ ++Uc k none):=by
 refine⟨by simp[r.len],λj x q=>?_⟩;rcases V8 j e.length with z | z
 . rw[UT z] at q;rw[UT (by rw[<- r.len];exact z)];exact r.get j x q
 . rw[UD z,WG] at q;split at q<;>exact nomatch q
theorem dW.gr{v:PV}{Q:VK}(p:dW K ρ H v h' Q)(g:Gr ρ H ρ1 H1):dW K ρ1 H1 v h' Q:=λv' ρ' H' g'=>p v' ρ' H' (g.trans g')
theorem mY.gr{Q:Hp->Prop}(p:mY K ρ H h' Q)(g:Gr ρ H ρ1 H1):mY K ρ1 H1 h' Q:=fun ρ' H' g'=>p ρ' H' (g.trans g')
theorem fX.gr{e:aq}{Q:L2.St->Hp->Prop}(p:fX K ρ H e h' Q)(g:Gr ρ H ρ1 H1):fX K ρ1 H1 e h' Q:=λv' ρ' H' g'=>p v' ρ' H' (g.trans g')
theorem yE.gr{D:Ends}{f:Fl}(p:yE K ρ H D h' f)(g:Gr ρ H ρ1 H1):yE K ρ1 H1 D h' f:=by
 cases f with
 | nx e=>exact fX.gr p g
 | bk e=>exact fX.gr p g
 | ct e=>exact fX.gr p g
 | rt e=>exact dW.gr p g
end
noncomputable def SE(c:CF)(K:TV)(t:TE)(m:ME):Prop:= ∀ ρ h H e σ Q v h',c7 K ρ h H->dU K ρ H e σ ->m c e h= .ok v h'->dW K ρ H v h' Q->t σ H Q
noncomputable def ST(c:CF)(K:TV)(t:TT)(m:MT):Prop:= ∀ ρ h H e σ Q b h',c7 K ρ h H->dU K ρ H e σ ->m c e h= .ok b h'->mY K ρ H h' (Q b)->t σ H Q
noncomputable def SA(c:CF)(K:TV)(t:TA)(m:MA):Prop:= ∀ ρ h H e σ Q vs h',c7 K ρ h H->dU K ρ H e σ ->m c e h= .ok vs h'->OU K ρ H vs h' Q->t σ H Q
noncomputable def SS(c:CF)(K:TV)(t:TS)(m:MS):Prop:= ∀ ρ h H e σ D f h',c7 K ρ h H->dU K ρ H e σ ->m c e h= .ok f h'->yE K ρ H D h' f->t D σ H
noncomputable def SG(K:TV)(t:TG)(m:MG):Prop:= ∀ ρ h H e σ Q v v' e' h',c7 K ρ h H->dU K ρ H e σ ->rel K ρ H v v'->m v e h= .ok e' h'->fX K ρ H e' h' Q->t v' σ H Q
noncomputable def k4.j8(it:k4)(h:PH):Bool:=match it.gd with
 | none=>true
 | some n=>decide (h[n]?=some (.lst it.items)\/h[n]?=some (.kD it.items))
noncomputable def Te(K:TV)(ρ0:List Addr)(H0:Hp)(J:It)(it:k4):Prop:= ∀ i ρ h H,Gr ρ0 H0 ρ H->c7 K ρ h H->it.j8 h=true ->
 (∀ x,it.items[i]?=some x->J.go i H∧ ∀ v H',J.Jk i H v H'-> ∃ ρ',Gr ρ H ρ' H'∧c7 K ρ' h H'∧rel K ρ' H' x v)∧(i=it.items.length->J.stop i H)
noncomputable def SI (c:CF) (K:TV) (t:TI) (m:MI):Prop:= ∀ ρ h H e σ R it h',c7 K ρ h H->dU K ρ H e σ ->m c e h= .ok it h'->(∀ ρ' H' J,Gr ρ H ρ' H'->c7 K ρ' h' H'->Te K ρ' H' J it->R J H')->t σ H R
noncomputable def wY (K:TV) (pg:Tb) (k:Nat) (f:String):Sp:=λvs H Q _=> ∃ ρ h args v h',c7 K ρ h H∧ao K ρ H args vs∧run pg k f args h= .ok v h'∧dW K ρ H v h' Q
noncomputable def iQ:List Str:=["len", "range", "isinstance", "int", "bool", "tuple", "dict", "sorted", "min", "max", "abs", "all", "any", "sum", "str", "list", "zip", "set", "repr", "enumerate"]
noncomputable def Ag (K:TV) (v:V):Prop:= ∀ a,v= .ref a-> ∃ o,K.lookup a=some o∧o.cls= .type "tuple" ∧o.dict=none
structure cV (X:Cx) (pg:Tb) (k:Nat):Prop where
 room:dE k X.A
 calm:X.calm=true
 qa: ∀ v s,¬ X.xe v s
 defs: ∀ f d,pg.fns f=some d->nj X.prog X.w X.K X.mg X.base (Ul f) k d.ps (wY X.K pg k f)
 blt: ∀ x∈iQ,X.mg x=none
 con: ∀ x v,pg.con x=some v-> ∃ u v',X.mg x=some u/\RelV v' u/\Ag X.K v'/\ ∀ ρ H,rel X.K ρ H v v'
 yf: ∀ x kvs,pg.yf x=some kvs-> ∃ a kws,X.mg x=some (.ref a)/\KD X.prog X.w X.K a kws/\ ∀ ρ H,Vh (λ(p:Key × PV) (q:Key × V)=>p.1=q.1/\rel X.K ρ H p.2 q.2) kvs kws
theorem cV.fj{X:Cx}{pg:Tb}{k:Nat}(a:cV X pg k)(vars:List Str)(scope:Scope)(cl:List (Str × Addr))(C:Addr)(s₀ :T7)(H₀ :Hp)(ex:List Addr)(pn:List (Addr × Obj)):cV (fj X vars scope cl C s₀ H₀ ex pn) pg k :=
 ⟨a.room,a.calm,a.qa,a.defs,a.blt,a.con,a.yf⟩
structure JE(X:Cx)(pg:Tb)(k:Nat)(e:Expr)(m:ME):Prop where h:cV X pg k-> ∃ t,QE X e t/\SE (run pg k) X.K t m
structure JT(X:Cx)(pg:Tb)(k:Nat)(e:Expr)(m:MT):Prop where h:cV X pg k-> ∃ t,QT X e t/\ST (run pg k) X.K t m
structure JW(X:Cx)(pg:Tb)(k:Nat)(e:Expr)(m:MT):Prop where h:cV X pg k-> ∃ t,QW X e t/\ST (run pg k) X.K t m
structure JA(X:Cx)(pg:Tb)(k:Nat)(e:List Expr)(m:MA):Prop where h:cV X pg k-> ∃ t,QA X e t/\SA (run pg k) X.K t m
structure JS(X:Cx)(pg:Tb)(k:Nat)(s:Stmt)(m:MS):Prop where h:cV X pg k-> ∃ t,QS X s t/\SS (run pg k) X.K t m
structure yF(X:Cx)(pg:Tb)(k:Nat)(s:List Stmt)(m:MS):Prop where h:cV X pg k-> ∃ t,D9 X s t/\SS (run pg k) X.K t m
structure JG(X:Cx)(pg:Tb)(k:Nat)(e:Expr)(m:MG):Prop where h:cV X pg k-> ∃ t,QG X e t/\SG X.K t m
structure JI(X:Cx)(pg:Tb)(k:Nat)(tg e:Expr)(m:MI):Prop where h:cV X pg k-> ∃ t,QI X tg e t/\SI (run pg k) X.K t m
structure JF(X:Cx)(pg:Tb)(k:Nat)(es:List Expr)(m:MT):Prop where h:cV X pg k-> ∃ t,QF X es t/\ST (run pg k) X.K t m
noncomputable def m8(K:TV)(r:R2)(f:PV->PV->PH->RV PV):Prop:= ∀ ρ h H x y x' y' Q v h',c7 K ρ h H->rel K ρ H x x'->rel K ρ H y y'->f x y h= .ok v h'->dW K ρ H v h' Q->r x' y' H Q
noncomputable def zg(K:TV)(r:List V->Hp->VK->Prop)(f:List PV->PH->RV PV):Prop:= ∀ ρ h H xs us Q v h',c7 K ρ h H->ao K ρ H xs us->f xs h= .ok v h'->dW K ρ H v h' Q->r us H Q
noncomputable def RA(K:TV)(T:String)(r:V->List V->Hp->VK->Prop)(f:PV->List PV->PH->RV PV)(ty:PV->PH->Bool):Prop :=
 (∀ ρ h H x x',c7 K ρ h H->rel K ρ H x x'->ty x h=true->Ry K T x' H) /\
 ∀ ρ h H x x' xs us Q v h',c7 K ρ h H->rel K ρ H x x'->ao K ρ H xs us->f x xs h= .ok v h'->dW K ρ H v h' Q->r x' us H Q
noncomputable def aa(i:Nat):ME:=λ_ e h=>match e[i]? with
 | some (some v)=> .ok v h
 | _=> .no
noncomputable def eC(v:PV):ME:=λ_ _ h=> .ok v h
noncomputable def aj(f:PV->PV->PH->RV PV)(a b:ME):ME:=λc e h=>(a c e h).bind λx h1=>(b c e h1).bind λy h2=>f x y h2
noncomputable def rO(f:PV->PH->RV PV)(a:ME):ME:=λc e h=>(a c e h).bind f
noncomputable def ua(v:PV)(h:PH):RV Bool:=match v with
 | .bl b=> .ok b h
 | _=> .no
noncomputable def sN(a b:ME):ME:=λc e h=>((a c e h).bind ua).bind λx h1=>if x=true then b c e h1 else .ok (.bl false) h1
noncomputable def Qm(a b:ME):ME:=λc e h=>((a c e h).bind ua).bind λx h1=>if x=true then .ok (.bl true) h1 else b c e h1
noncomputable def EH(a:ME):ME:=λc e h=>((a c e h).bind ua).bind λx h1=> .ok (.bl (!x)) h1
noncomputable def uc(t:MT)(a b:ME):ME:=λc e h=>(t c e h).bind λx h1=>if x=true then a c e h1 else b c e h1
noncomputable def aE(a:ME):MT:=λc e h=>(a c e h).bind ua
noncomputable def si(a b:MT):MT:=λc e h=>(a c e h).bind λx h1=>if x=true then b c e h1 else .ok false h1
noncomputable def IA(a b:MT):MT:=λc e h=>(a c e h).bind λx h1=>if x=true then .ok true h1 else b c e h1
noncomputable def vj(a:MT):MT:=λc e h=>(a c e h).bind λx h1=> .ok (!x) h1
noncomputable def aP:MT:=λ_ _ h=> .ok true h
noncomputable def ah:MA:=λ_ _ h=> .ok [] h
noncomputable def ab(a:ME)(r:MA):MA:=λc e h=>(a c e h).bind λx h1=>(r c e h1).bind λxs h2=> .ok (x::xs) h2
noncomputable def lI(n:Nat)(r:RV α):RV α :=if n<=sizeLine then r else .no
noncomputable def au(r:MA):ME:=λc e h=>(r c e h).bind λxs h1=>lI xs.length (.ok (.tup xs) h1)
noncomputable def bG(r:MA):ME:=λc e h=>(r c e h).bind λxs h1=>lI xs.length (.ok (.ref h1.length) (h1++[.lst xs]))
noncomputable def ae(f:String)(r:MA):ME:=λc e h=>(r c e h).bind λxs h1=>c f xs h1
noncomputable def eB(f:List PV->PH->RV PV)(r:MA):ME:=λc e h=>(r c e h).bind f
noncomputable def eM(f:PV->List PV->PH->RV PV)(ty:PV->PH->Bool)(a:ME)(r:MA):ME:=λc e h=>(a c e h).bind λx h1=>if ty x h1=true then(r c e h1).bind λxs h2=>f x xs h2 else .no
noncomputable def r9(f g:PV->PV->PH->RV PV)(a b d:ME):ME:=λc e h=>(a c e h).bind λx h1=>(b c e h1).bind λy h2=>((f x y h2).bind ua).bind λk h3=>if k=true then(d c e h3).bind λz h4=>g y z h4 else .ok (.bl false) h3
theorem j5{n:Nat}{r:RV α}{a: α}{h:PH}:lI n r= .ok a h↔n<=sizeLine/\r= .ok a h:=by
 unfold lI;split
 . exact⟨λe=>⟨by assumption,e⟩,λe=>e.2⟩
 . exact⟨λe=>(nomatch e),λe=>absurd e.1 (by assumption)⟩
theorem nW{v:PV}{h h':PH}{b:Bool}:ua v h= .ok b h'↔v= .bl b/\h'=h:=by
 cases v<;>simp[ua,eq_comm]
section
variable{X:Cx}{pg:Tb}{k:Nat}{a b c d e:Expr}{es:List Expr}{ma mb mc md:ME}{mr:MA}{mt mt':MT}{pos p pos' apos cpos:Pos}{x:Str}
theorem Ni(i:Nat){x:Str}{pos:Pos}(hN:X.N[i]?=some x:=by rfl)(hv:NW X.env.scope x:=by first | exact ZX rfl | exact YY (ZX rfl) | exact YY (YY rfl))(hd:(x == ("__debug__" :Str))=false:=by decide)
  (hcd:(x == ("__classdict__" :Str))=false:=by decide):JE X pg k (.Name x pos) (aa i):=⟨λA=>⟨_,qv i hN hv hd hcd,fun ρ h H e σ Q v h' s r q P=>by
 unfold aa at q;split at q
 . cases q;obtain⟨v',e1,e2⟩:=r.get i v (by assumption);exact⟨v',e1,P v' ρ H (.refl _ _) s e2⟩
 . exact nomatch q⟩⟩
theorem zN{cf:CF}{K:TV}{v:PV}{v':V}(hr: ∀ ρ H,rel K ρ H v v'):SE cf K (tC v') (eC v):=fun ρ h H e σ Q w h' s r q P=>by cases q;exact P v' ρ H (.refl _ _) s (hr ρ H)
theorem NN{n:Int}{j:Nat}:JE X pg k (.Constant (.int n) j pos) (eC (.int n)):=⟨λA=>⟨_,MD,zN fun ρ H=>by rw[rel]⟩⟩
theorem N2{n:Bool}{j:Nat}:JE X pg k (.Constant (.bool n) j pos) (eC (.bl n)):=⟨λA=>⟨_,O0,zN fun ρ H=>by rw[rel]⟩⟩
theorem Mq{j:Nat}:JE X pg k (.Constant .none j pos) (eC .non):=⟨λA=>⟨_,L9,zN fun ρ H=>by rw[rel]⟩⟩
theorem Mb{n:Str}{j:Nat}:JE X pg k (.Constant (.str n) j pos) (eC (.str n)):=⟨λA=>⟨_,Jz,zN fun ρ H=>by rw[rel]⟩⟩
theorem Ly{v:PV}(hc:pg.con x=some v)(hg:Gl X x)(hd:(x == ("__debug__" :Str))=false:=by decide):JE X pg k (.Name x pos) (eC v):=⟨λA=>let ⟨u,v',e1,e2,_,e3⟩:=A.con x v hc;⟨_,ym hg e1 e2 hd,zN e3⟩⟩
theorem uA{T:String}(hg:Gl X x)(hb:x∈iQ)(hv:Vu x=some (.type T))(hn:x≠ "__name__" :=by decide)(hd:(x == ("__debug__" :Str))=false:=by decide):JE X pg k (.Name x pos) (eC (.ty T)) :=
 ⟨λA=>⟨_,FW (v:= .ty T) hg (A.blt x hb) hv rfl hn hd,zN fun ρ H=>by rw[rel]⟩⟩
theorem y6{cf:CF}{K:TV}{r:R2}{f:PV->PV->PH->RV PV}{ta tb:TE}(ho:m8 K r f)(ha:SE cf K ta ma)(hb:SE cf K tb mb):SE cf K (F9 r ta tb) (aj f ma mb):=fun ρ h H e σ Q v h' s r q P=>by
 obtain⟨x,h1,e1,q⟩:=bind_eq.mp q;obtain⟨y,h2,e2,q⟩:=bind_eq.mp q;refine ha ρ h H e σ _ x h1 s r e1 λx' ρ1 H1 g1 s1 r1=>?_;refine hb ρ1 h1 H1 e σ _ y h2 s1 (r.gr g1) e2 λy' ρ2 H2 g2 s2 r2=>?_;exact ho ρ2 h2 H2 x y x' y' Q v h' s2 (rel.gr g2 _ _ r1) r2 q (P.gr (g1.trans g2))
theorem Pu{op:Operator}{f:PV->PV->PH->RV PV}(ho:cV X pg k-> ∃ r,cW X (Vw op) r/\m8 X.K r f)(ha:JE X pg k a ma)(hb:JE X pg k b mb):JE X pg k (.BinOp a op b pos) (aj f ma mb):=⟨λA =>
 let ⟨_,q1,s1⟩:=ha.h A;let ⟨_,q2,s2⟩:=hb.h A;let ⟨_,q,s⟩:=ho A;⟨_,OB q q1 q2,y6 s s1 s2⟩⟩
theorem DW{op:CmpOp}{f:PV->PV->PH->RV PV}(ho:cV X pg k-> ∃ r,cW X (UK op) r/\m8 X.K r f)(ha:JE X pg k a ma)(hb:JE X pg k b mb)(hm:VC op b=false):JE X pg k (.Compare a [op] [b] pos) (aj f ma mb):=⟨λA =>
 let ⟨_,q1,s1⟩:=ha.h A;let ⟨_,q2,s2⟩:=hb.h A;let ⟨_,q,s⟩:=ho A;⟨_,HK q q1 q2 hm,y6 s s1 s2⟩⟩
theorem tP{cf:CF}{K:TV}{ta:TE}(ha:SE cf K ta ma):ST cf K (Ef ta) (aE ma):=fun ρ h H e σ Q v h' s r q P=>by
 obtain⟨x,h1,e1,q⟩:=bind_eq.mp q;obtain⟨rfl,rfl⟩:=nW.mp q;refine ha ρ h H e σ _ _ _ s r e1 λx' ρ1 H1 g1 s1 r1=>?_;rw[rel] at r1;exact⟨v,r1,P ρ1 H1 g1 s1⟩
theorem Dg{op:CmpOp}{f:PV->PV->PH->RV PV}(ho:cV X pg k-> ∃ r,cW X (UK op) r/\m8 X.K r f)(ha:JE X pg k a ma)(hb:JE X pg k b mb)(hm:VC op b=false):JT X pg k (.Compare a [op] [b] pos) (aE (aj f ma mb)):=⟨λA =>
 let ⟨_,q1,s1⟩:=ha.h A;let ⟨_,q2,s2⟩:=hb.h A;let ⟨_,q,s⟩:=ho A;⟨_,FQ q q1 q2 hm,tP (y6 s s1 s2)⟩⟩
theorem KY(ha:JE X pg k e ma)(he: ∀ whole,aaV e X.env whole=(do let v <- whole;abl e.pos;Ye [v] (truthy v)):=by intro _;rfl):JT X pg k e (aE ma):=⟨λA =>
 let ⟨_,q1,s1⟩:=ha.h A;⟨_,MZ q1 he,tP s1⟩⟩
theorem Lm(ha:JE X pg k a ma):JE X pg k (.UnaryOp .Not a pos) (EH ma):=⟨λA =>
 let ⟨_,q1,s1⟩:=ha.h A;⟨_,Kf q1,fun ρ h H e σ Q v h' s r q P=>by
  obtain⟨x,h2,q2,q⟩:=bind_eq.mp q;obtain⟨y,h1,e1,q2⟩:=bind_eq.mp q2;obtain⟨rfl,rfl⟩:=nW.mp q2;cases q;refine s1 ρ h H e σ _ _ _ s r e1 λx' ρ1 H1 g1 z1 r1=>?_;rw[rel] at r1;exact⟨x,r1,P _ ρ1 H1 g1 z1 (by rw[rel])⟩⟩⟩
theorem JQ{op:BoolOp}(h:JE X pg k a ma):JE X pg k (.BoolOp op [a] pos) ma:=⟨λA=>let ⟨_,q1,s1⟩:=h.h A;⟨_,KW q1,s1⟩⟩
theorem Ll{rest:List Expr}(ha:JE X pg k a ma)(hb:JE X pg k (.BoolOp .And (b::rest) pos) mb):JE X pg k (.BoolOp .And (a::b::rest) pos) (sN ma mb):=⟨λA =>
 let ⟨_,q1,s1⟩:=ha.h A;let ⟨_,q2,s2⟩:=hb.h A;⟨_,Ny q1 q2,fun ρ h H e σ Q v h' s r q P=>by
  obtain⟨x,h2,q2,q⟩:=bind_eq.mp q;obtain⟨y,h1,e1,q2⟩:=bind_eq.mp q2;obtain⟨rfl,rfl⟩:=nW.mp q2;refine s1 ρ h H e σ _ _ _ s r e1 λx' ρ1 H1 g1 z1 r1=>?_;rw[rel] at r1;refine⟨x,r1,?_⟩;cases x with
  | true=>exact s2 ρ1 _ H1 e σ _ _ _ z1 (r.gr g1) q (P.gr g1)
  | false=>cases q;exact P _ ρ1 H1 g1 z1 (by rw[rel])⟩⟩
theorem Pm{rest:List Expr}(ha:JE X pg k a ma)(hb:JE X pg k (.BoolOp .Or (b::rest) pos) mb):JE X pg k (.BoolOp .Or (a::b::rest) pos) (Qm ma mb):=⟨λA =>
 let ⟨_,q1,s1⟩:=ha.h A;let ⟨_,q2,s2⟩:=hb.h A;⟨_,PU q1 q2,fun ρ h H e σ Q v h' s r q P=>by
  obtain⟨x,h2,q2,q⟩:=bind_eq.mp q;obtain⟨y,h1,e1,q2⟩:=bind_eq.mp q2;obtain⟨rfl,rfl⟩:=nW.mp q2;refine s1 ρ h H e σ _ _ _ s r e1 λx' ρ1 H1 g1 z1 r1=>?_;rw[rel] at r1;refine⟨x,r1,?_⟩;cases x with
  | false=>exact s2 ρ1 _ H1 e σ _ _ _ z1 (r.gr g1) q (P.gr g1)
  | true=>cases q;exact P _ ρ1 H1 g1 z1 (by rw[rel])⟩⟩
theorem Dy(hc:JT X pg k c mt)(ha:JE X pg k a ma)(hb:JE X pg k b mb):JE X pg k (.IfExp c a b pos) (uc mt ma mb):=⟨λA =>
 let ⟨_,q0,s0⟩:=hc.h A;let ⟨_,q1,s1⟩:=ha.h A;let ⟨_,q2,s2⟩:=hb.h A;⟨_,DJ q0 q1 q2,fun ρ h H e σ Q v h' s r q P=>by
  obtain⟨x,h1,e1,q⟩:=bind_eq.mp q;refine s0 ρ h H e σ _ _ _ s r e1 fun ρ1 H1 g1 z1=>?_;cases x with
  | true=>exact s1 ρ1 _ H1 e σ _ _ _ z1 (r.gr g1) q (P.gr g1)
  | false=>exact s2 ρ1 _ H1 e σ _ _ _ z1 (r.gr g1) q (P.gr g1)⟩⟩
theorem GF(ha:JT X pg k a mt):JW X pg k (.BoolOp .And [a] pos) mt:=⟨λA=>let ⟨_,q1,s1⟩:=ha.h A;⟨_,EJ q1,s1⟩⟩
theorem Kv(ha:JT X pg k a mt):JW X pg k (.BoolOp .Or [a] pos) mt:=⟨λA=>let ⟨_,q1,s1⟩:=ha.h A;⟨_,Kk q1,s1⟩⟩
theorem El{rest:List Expr}(ha:JT X pg k a mt)(hb:JW X pg k (.BoolOp .And (b::rest) pos) mt'):JW X pg k (.BoolOp .And (a::b::rest) pos) (si mt mt'):=⟨λA =>
 let ⟨_,q1,s1⟩:=ha.h A;let ⟨_,q2,s2⟩:=hb.h A;⟨_,Nl q1 q2,fun ρ h H e σ Q v h' s r q P=>by
  obtain⟨x,h1,e1,q⟩:=bind_eq.mp q;refine s1 ρ h H e σ _ _ _ s r e1 fun ρ1 H1 g1 z1=>?_;cases x with
  | true=>exact s2 ρ1 _ H1 e σ _ _ _ z1 (r.gr g1) q (P.gr g1)
  | false=>cases q;exact P ρ1 H1 g1 z1⟩⟩
theorem Ir{rest:List Expr}(ha:JT X pg k a mt)(hb:JW X pg k (.BoolOp .Or (b::rest) pos) mt'):JW X pg k (.BoolOp .Or (a::b::rest) pos) (IA mt mt'):=⟨λA =>
 let ⟨_,q1,s1⟩:=ha.h A;let ⟨_,q2,s2⟩:=hb.h A;⟨_,Qg q1 q2,fun ρ h H e σ Q v h' s r q P=>by
  obtain⟨x,h1,e1,q⟩:=bind_eq.mp q;refine s1 ρ h H e σ _ _ _ s r e1 fun ρ1 H1 g1 z1=>?_;cases x with
  | false=>exact s2 ρ1 _ H1 e σ _ _ _ z1 (r.gr g1) q (P.gr g1)
  | true=>cases q;exact P ρ1 H1 g1 z1⟩⟩
theorem JW.pt(h:JW X pg k e mt):JT X pg k e mt:=⟨λA=>let ⟨_,q1,s1⟩:=h.h A;⟨_,q1.pt,s1⟩⟩
theorem Lz(ha:JT X pg k a mt):JT X pg k (.UnaryOp .Not a pos) (vj mt):=⟨λA=>let ⟨_,q1,s1⟩:=ha.h A;⟨_,L0 q1,fun ρ h H e σ Q v h' s r q P=>by
  obtain⟨x,h1,e1,q⟩:=bind_eq.mp q;cases q;exact s1 ρ h H e σ _ _ _ s r e1 fun ρ1 H1 g1 z1=>P ρ1 H1 g1 z1⟩⟩
theorem ND:JF X pg k [] aP:=⟨λA=>⟨_,Me,fun ρ h H e σ Q v h' s r q P=>by cases q;exact P ρ H (.refl _ _) s⟩⟩
theorem Jv(h:JT X pg k c mt):JF X pg k [c] mt:=⟨λA=>let ⟨_,q1,s1⟩:=h.h A;⟨_,MX q1,s1⟩⟩
theorem Nk:JA X pg k [] ah:=⟨λA=>⟨_,xu,fun ρ h H e σ Q v h' s r q P=>by cases q;exact P [] ρ H (.refl _ _) s (aJ.mpr rfl)⟩⟩
theorem Fv(ha:JE X pg k e ma)(hr:JA X pg k es mr)(hs:noStar e=true:=by rfl):JA X pg k (e::es) (ab ma mr):=⟨λA =>
 let ⟨_,q1,s1⟩:=ha.h A;let ⟨_,q2,s2⟩:=hr.h A;⟨_,qk q1 q2 hs,fun ρ h H e σ Q v h' s r q P=>by
  obtain⟨x,h1,e1,q⟩:=bind_eq.mp q;obtain⟨xs,h2,e2,q⟩:=bind_eq.mp q;cases q;refine s1 ρ h H e σ _ _ _ s r e1 λx' ρ1 H1 g1 z1 r1=>?_;refine s2 ρ1 h1 H1 e σ _ _ _ z1 (r.gr g1) e2 λus ρ2 H2 g2 z2 r2=>?_;exact P _ ρ2 H2 (g1.trans g2) z2 (az.mpr ⟨x',us,rfl,rel.gr g2 _ _ r1,r2⟩)⟩⟩
theorem ML{x1}(h:JA X pg k es mr):JE X pg k (.Tuple es x1 pos) (au mr):=⟨λA =>
 let ⟨_,q1,s1⟩:=h.h A;⟨_,Jr q1,fun ρ h H e σ Q v h' s r q P=>by
  obtain⟨xs,h1,e1,q⟩:=bind_eq.mp q;obtain⟨hl,q⟩:=j5.mp q;cases q;refine s1 ρ h H e σ _ _ _ s r e1 λus ρ1 H1 g1 z1 r1=>⟨by rw[<- r1.len];exact hl,λp hp=>?_⟩
  refine P _ ρ1 _ (g1.trans (Gr.wx hp)) (z1.tup hp) ?_;rw[rel];exact⟨p,us,rfl,ba,ao.gr (Gr.wx hp) _ _ r1⟩⟩⟩
theorem dM{K:TV}{ρ :List Addr}{h:PH}{H:Hp}{xs:List PV}{us:List V}{Q:VK}(s:c7 K ρ h H)(r:ao K ρ H xs us)(P:dW K ρ H (.ref h.length) (h++[.lst xs]) Q)(p:Addr)(hp:H p=none):Q (.ref p) (upd H p (.lst us)):=by
 refine P _ (ρ ++[p]) _ (Gr.new hp [p]) (s.new hp ⟨us,ba,ao.gr (Gr.new hp [p]) _ _ r⟩) ?_;rw[rel];exact⟨p,by rw[<- s.len,UD (Ua _)];simp,rfl⟩
theorem Ml(h:JA X pg k es mr):JE X pg k (.List es pos) (bG mr):=⟨λA =>
 let ⟨_,q1,s1⟩:=h.h A;⟨_,Js q1,fun ρ h H e σ Q v h' s r q P=>by
  obtain⟨xs,h1,e1,q⟩:=bind_eq.mp q;obtain⟨hl,q⟩:=j5.mp q;cases q;exact s1 ρ h H e σ _ _ _ s r e1 λus ρ1 H1 g1 z1 r1=>⟨by rw[<- r1.len];exact hl,λp hp=>dM z1 r1 (P.gr g1) p hp⟩⟩⟩
theorem EI{f:String}{d:Df}(hf:pg.fns f=some d)(hg:Gl X (Ul f))(ha:JA X pg k (e::es) mr)(hdb:(Ul f == ("__debug__" :Str))=false:=by decide)(he:noStar e=true:=by rfl)(hpl:es.all noStar=true:=by rfl) :
  JE X pg k (.Call (.Name (Ul f) p) (e::es) [] pos) (ae f mr):=⟨λA =>
 let ⟨_,q1,s1⟩:=ha.h A;⟨_,qd (A.defs f d hf) A.room hg (Ua _) q1 hdb he hpl,fun ρ h H e σ Q v h' s r q P=>by
  obtain⟨xs,h1,e1,q⟩:=bind_eq.mp q;refine s1 ρ h H e σ _ _ _ s r e1 λus ρ1 H1 g1 z1 r1=>?_;rw[Vd];exact⟨ρ1,h1,xs,v,h',z1,r1,q,P.gr g1⟩⟩⟩
theorem Og{cf:CF}{K:TV}{r:List V->Hp->VK->Prop}{f:List PV->PH->RV PV}{ta:TA}(ho:zg K r f)(ha:SA cf K ta mr):SE cf K (NB r ta) (eB f mr):=fun ρ h H e σ Q v h' s r q P=>by
 obtain⟨xs,h1,e1,q⟩:=bind_eq.mp q;exact ha ρ h H e σ _ _ _ s r e1 λus ρ1 H1 g1 z1 r1=>ho ρ1 h1 H1 xs us Q v h' z1 r1 q (P.gr g1)
theorem DC{id:String}{f:List PV->PH->RV PV}(hc:cV X pg k-> ∃ r,aQ X (.builtin id) r/\zg X.K r f)(hg:Gl X x)(hb:x∈iQ)(hv:Vu x=some (.builtin id))(ha:JA X pg k (e::es) mr)
  (hn:x≠ "__name__" :=by decide) (hdb:(x == ("__debug__" :Str))=false:=by decide) (he:noStar e=true:=by rfl) (hpl:es.all noStar=true:=by rfl):JE X pg k (.Call (.Name x p) (e::es) [] pos) (eB f mr):=⟨λA =>
 let ⟨_,q1,s1⟩:=ha.h A;let ⟨_,q,s⟩:=hc A;⟨_,qB q hg (A.blt x hb) hv q1 hn hdb he hpl,Og s s1⟩⟩
theorem Hn{T:String}{f:List PV->PH->RV PV}(hc:cV X pg k-> ∃ r,aQ X (.type T) r/\zg X.K r f)(hg:Gl X x)(hb:x∈iQ)(hv:Vu x=some (.type T))(ha:JA X pg k (e::es) mr)
  (hn:x≠ "__name__" :=by decide) (hdb:(x == ("__debug__" :Str))=false:=by decide) (he:noStar e=true:=by rfl) (hpl:es.all noStar=true:=by rfl):JE X pg k (.Call (.Name x p) (e::es) [] pos) (eB f mr):=⟨λA =>
 let ⟨_,q1,s1⟩:=ha.h A;let ⟨_,q,s⟩:=hc A;⟨_,qT q hg (A.blt x hb) hv q1 hn hdb he hpl,Og s s1⟩⟩
theorem MQ{name:Str}{id T:String}{f:PV->List PV->PH->RV PV}{ty:PV->PH->Bool}(pa:aay T)(slot:Slot T name id)(hty:typeOf (.builtin id)=pure (.type "method_descriptor"))(hm:cV X pg k-> ∃ r,IG X id r/\RA X.K T r f ty)
  (ho:JE X pg k d md) (ha:JA X pg k [e] mr) (hbase:Wx d name X.env (eval d X.env)=eval d X.env:=by rfl) (hline:(apos.endLine == cpos.line)=true:=by rfl) (hs:noStar e=true:=by rfl) :
  JE X pg k (.Call (.Attribute d name apos) [e] [] cpos) (eM f ty md mr):=⟨λA =>
 let ⟨_,q0,s0⟩:=ho.h A;let ⟨_,q1,s1⟩:=ha.h A;let ⟨_,q,s⟩:=hm A;⟨_,Iu pa slot hty q q0 q1 hbase hline hs,fun ρ h H e σ Q v h' z r q P=>by
  obtain⟨x,h1,e1,q⟩:=bind_eq.mp q;refine s0 ρ h H e σ _ _ _ z r e1 λx' ρ1 H1 g1 z1 r1=>?_;split at q
  . rename_i ht;obtain⟨xs,h2,e2,q⟩:=bind_eq.mp q;refine⟨s.1 ρ1 h1 H1 x x' z1 r1 ht,?_⟩;exact s1 ρ1 h1 H1 e σ _ _ _ z1 (r.gr g1) e2 λus ρ2 H2 g2 z2 r2=>s.2 ρ2 h2 H2 x x' xs us Q v h' z2 (rel.gr g2 _ _ r1) r2 q (P.gr (g1.trans g2))
  . exact nomatch q⟩⟩
theorem CO{cf:CF}{K:TV}{r r':R2}{f g:PV->PV->PH->RV PV}{ta tb tc:TE}(ho:m8 K r f)(ho':m8 K r' g)(ha:SE cf K ta ma)(hb:SE cf K tb mb)(hc:SE cf K tc mc):SE cf K (xa r r' ta tb tc) (r9 f g ma mb mc):=fun ρ h H e σ Q v h' s r q P=>by
 obtain⟨x,h1,e1,q⟩:=bind_eq.mp q;obtain⟨y,h2,e2,q⟩:=bind_eq.mp q;obtain⟨z,h3,e3,q⟩:=bind_eq.mp q;obtain⟨z0,h4,e4,e5⟩:=bind_eq.mp e3;obtain⟨rfl,rfl⟩:=nW.mp e5;refine ha ρ h H e σ _ x h1 s r e1 λx' ρ1 H1 g1 s1 r1=>?_;refine hb ρ1 h1 H1 e σ _ y h2 s1 (r.gr g1) e2 λy' ρ2 H2 g2 s2 r2=>?_;refine ho ρ2 h2 H2 x y x' y' _ _ _ s2 (rel.gr g2 _ _ r1) r2 e4 λz' ρ3 H3 g3 s3 r3=>?_;rw[rel] at r3;refine⟨z,r3,?_⟩;cases z with
 | true =>
  obtain⟨w,h5,e5,q⟩:=bind_eq.mp q
  refine hc ρ3 _ H3 e σ _ w h5 s3 (r.gr ((g1.trans g2).trans g3)) e5 λw' ρ4 H4 g4 s4 r4=>?_
  exact ho' ρ4 h5 H4 y w y' w' Q v h' s4 (rel.gr (g3.trans g4) _ _ r2) r4 q (P.gr (((g1.trans g2).trans g3).trans g4))
 | false=>cases q;exact P _ ρ3 H3 ((g1.trans g2).trans g3) s3 (by rw[rel])
theorem BE{op op':CmpOp}{f g:PV->PV->PH->RV PV}(ho:cV X pg k-> ∃ r,cW X (UK op) r/\m8 X.K r f)(ho':cV X pg k-> ∃ r,cW X (UK op') r/\m8 X.K r g)(ha:JE X pg k a ma)(hb:JE X pg k b mb)(hc:JE X pg k c mc)
  (hm:lastMarks [op,op'] [b,c]=false:=by with_unfolding_all rfl):JE X pg k (.Compare a [op,op'] [b,c] pos) (r9 f g ma mb mc):=⟨λA =>
 let ⟨_,q1,s1⟩:=ha.h A;let ⟨_,q2,s2⟩:=hb.h A;let ⟨_,q3,s3⟩:=hc.h A;let ⟨_,q,s⟩:=ho A;let ⟨_,q',s'⟩:=ho' A;⟨_,D3 q q' q1 q2 q3 hm,CO s s' s1 s2 s3⟩⟩
end
noncomputable def cz:MS:=λ_ e h=> .ok (.nx e) h
noncomputable def ag(a b:MS):MS:=λc e h=>(a c e h).bind λf h1=>match f with
 | .nx e1=>b c e1 h1
 | f=> .ok f h1
noncomputable def cJ(a:ME):MS:=λc e h=>(a c e h).bind λ_ h1=> .ok (.nx e) h1
noncomputable def ax(a:ME):MS:=λc e h=>(a c e h).bind λv h1=> .ok (.rt v) h1
noncomputable def bU(t:MT)(a b:MS):MS:=λc e h=>(t c e h).bind λx h1=>if x=true then a c e h1 else b c e h1
noncomputable def pK:MS:=λ_ _ _=> .no
noncomputable def ak(a:ME)(g:MG):MS:=λc e h=>(a c e h).bind λv h1=>(g v e h1).bind λe1 h2=> .ok (.nx e1) h2
noncomputable def gN(i:Nat):MG:=λv e h=> .ok (e.set i (some v)) h
noncomputable def gT(n:Nat)(g:List PV->aq->PH->RV aq):MG:=λv e h=>match v.seq? with
 | some xs=>if xs.length=n then g xs e h else .no
 | none=> .no
noncomputable def gq:List PV->aq->PH->RV aq:=λvs e h=>match vs with
 | []=> .ok e h
 | _=> .no
noncomputable def aW(g:MG)(r:List PV->aq->PH->RV aq):List PV->aq->PH->RV aq:=λvs e h=>match vs with
 | []=> .no
 | v::t=>(g v e h).bind λe1 h1=>r t e1 h1
noncomputable def fm(f:PV->PV->PV->PH->RV Unit)(o i a:ME):MS:=λc e h=>(a c e h).bind λv h1=>(o c e h1).bind λx h2=>(i c e h2).bind λy h3=>(f x y v h3).bind λ_ h4=> .ok (.nx e) h4
noncomputable def bT(it:k4)(step:PV->aq->PH->RV Fl):List PV->aq->PH->RV Fl
 | [],e,h=>if it.j8 h=true then .ok (.nx e) h else .no
 | x::xs,e,h=>if it.j8 h=true then(step x e h).bind (λf h1=>match f with
   | .nx e1=>bT it step xs e1 h1
   | .ct e1=>bT it step xs e1 h1
   | .bk e1=> .ok (.nx e1) h1
   | .rt v=> .ok (.rt v) h1) else .no
noncomputable def kZ(i:MI)(g:MG)(b:MS):MS:=λc e h=>(i c e h).bind λit h1=>bT it (λx e h=>(g x e h).bind λe1 h1=>b c e1 h1) it.items e h1
noncomputable def dq(t:aq->PH->RV Bool)(b:aq->PH->RV Fl):Nat->aq->PH->RV Fl
 | 0,_,_=> .no
 | n+1,e,h=>(t e h).bind λx h1=>if x=true then(b e h1).bind (λf h2=>match f with
   | .nx e1=>dq t b n e1 h2
   | .ct e1=>dq t b n e1 h2
   | .bk e1=> .ok (.nx e1) h2
   | .rt v=> .ok (.rt v) h2) else .ok (.nx e) h1
noncomputable def xo(t:MT)(b:MS):MS:=λc e h=>dq (t c) (b c) 100000 e h
noncomputable def fT(it:k4)(step:PV->PH->RV (Option PV)):List PV->List PV->PH->RV (List PV)
 | [],ys,h=>if it.j8 h=true then .ok ys h else .no
 | x::xs,ys,h=>if it.j8 h=true/\ys.length < sizeLine then(step x h).bind (λo h1=>match o with
   | some y=>fT it step xs (ys++[y]) h1
   | none=>fT it step xs ys h1) else .no
noncomputable def aN(k:Nat)(g:MG)(t:MT)(a:ME)(c:CF)(e:aq)(x:PV)(h:PH):RV (Option PV):=(g x (e++Uc k none) h).bind λe2 h2=>(t c e2 h2).bind λb h3=>if b=true then(a c e2 h3).bind (λy h4=> .ok (some y) h4) else .ok none h3
noncomputable def iN(k:Nat)(i:MI)(g:MG)(t:MT)(a:ME):ME:=λc e h=>(i c e h).bind λit h1=>(fT it (aN k g t a c e) it.items [] h1).bind λys h2=> .ok (.ref h2.length) (h2++[.lst ys])
section
variable{X:Cx}{pg:Tb}{k:Nat}{a b c d e o i:Expr}{es:List Expr}{ma mb mc md mo mi:ME}{mr:MA}{mt mt':MT}{ms ms' mu:MS}{pos p pos' apos cpos spos:Pos}{x y:Str}{st:Stmt}{body rest:List Stmt}{g:MG}{mI:MI}{tg iter:Expr}{gs:List PV->aq->PH->RV aq}
theorem Pr{c:CF}{K:TV}:SS c K Ep cz:=fun ρ h H e σ D f h' s r q P=>by cases q;exact P σ ρ H (.refl _ _) s r
theorem L8{c:CF}{K:TV}{t u:TS}(h1:SS c K t ms)(h2:SS c K u mu):SS c K (JM t u) (ag ms mu):=fun ρ h H e σ D f h' s r q P=>by
 obtain⟨f1,h1',e1,q⟩:=bind_eq.mp q;refine h1 ρ h H e σ _ f1 h1' s r e1 ?_;cases f1 with
 | nx e'=>exact fun σ1 ρ1 H1 g1 s1 r1=>h2 ρ1 h1' H1 e' σ1 D f h' s1 r1 q (P.gr g1)
 | rt v=>cases q;exact P
 | bk e'=>cases q;exact P
 | ct e'=>cases q;exact P
theorem Gh:yF X pg k [] cz:=⟨λA=>⟨_,HV,Pr⟩⟩
theorem Fe(h:JS X pg k st ms):yF X pg k [st] ms:=⟨λA=>let ⟨_,q,s⟩:=h.h A;⟨_,G2 q,s⟩⟩
theorem Dr(h1:JS X pg k st ms)(h2:yF X pg k rest mu):yF X pg k (st::rest) (ag ms mu):=⟨λA=>let ⟨_,q1,s1⟩:=h1.h A;let ⟨_,q2,s2⟩:=h2.h A;⟨_,CK q1 q2,L8 s1 s2⟩⟩
theorem FT(ha:JE X pg k e ma)(hs:WW e none pos.line X.env=pure false:=by rfl):JS X pg k (.Expr e pos) (cJ ma):=⟨λA=>let ⟨_,q1,s1⟩:=ha.h A;⟨_,Hf q1 hs,fun ρ h H e σ D f h' s r q P=>by
 obtain⟨x,h1,e1,q⟩:=bind_eq.mp q;cases q;exact s1 ρ h H e σ _ x _ s r e1 λx' ρ1 H1 g1 z1 r1=>P σ ρ1 H1 g1 z1 (r.gr g1)⟩⟩
theorem M5(ha:JE X pg k e ma):JS X pg k (.Return (some e) pos) (ax ma):=⟨λA=>let ⟨_,q1,s1⟩:=ha.h A;⟨_,LF q1,fun ρ h H e σ D f h' s r q P=>by
 obtain⟨x,h1,e1,q⟩:=bind_eq.mp q;cases q;exact s1 ρ h H e σ _ x _ s r e1 P⟩⟩
theorem PY{A B:List Stmt}(hc:JT X pg k c mt)(ha:yF X pg k A ms)(hb:yF X pg k B mu):JS X pg k (.If c A B pos) (bU mt ms mu):=⟨λZ =>
 let ⟨_,q0,s0⟩:=hc.h Z;let ⟨_,q1,s1⟩:=ha.h Z;let ⟨_,q2,s2⟩:=hb.h Z;⟨_,PJ q0 q1 q2,fun ρ h H e σ D f h' s r q P=>by
  obtain⟨x,h1,e1,q⟩:=bind_eq.mp q;refine s0 ρ h H e σ _ _ _ s r e1 fun ρ1 H1 g1 z1=>?_;cases x with
  | true=>exact s1 ρ1 _ H1 e σ _ _ _ z1 (r.gr g1) q (P.gr g1)
  | false=>exact s2 ρ1 _ H1 e σ _ _ _ z1 (r.gr g1) q (P.gr g1)⟩⟩
theorem BF:JS X pg k st pK:=⟨λA=>⟨_,⟨B6⟩,fun ρ h H e σ D f h' s r q P=>nomatch q⟩⟩
theorem yJ{K:TV}{i:Nat}:SG K (fQ i) (gN i):=fun ρ h H e σ Q v v' e' h' s r rv q P=>by cases q;exact P _ ρ H (.refl _ _) s (r.set i rv)
theorem E2{i:Nat}(hN:X.N.Nodup)(hi:X.N[i]?=some x)(hx:Loc X.env.scope x)(hf:X.fn x=true\/X.env.scope.names.lookup x=some .local:=by first | exact .inl rfl | exact .inr rfl | assumption):JG X pg k (.Name x pos) (gN i):=⟨λA=>⟨_,y0 hN hi hx hf,yJ⟩⟩
structure Qf(X:Cx)(pg:Tb)(k:Nat)(e:List Expr)(m:List PV->aq->PH->RV aq):Prop where
 h:cV X pg k-> ∃ t,KI X e t/\ ∀ ρ h H e σ Q vs us e' h',c7 X.K ρ h H->dU X.K ρ H e σ ->ao X.K ρ H vs us->m vs e h= .ok e' h'->fX X.K ρ H e' h' Q->t us σ H Q
theorem GS:Qf X pg k [] gq:=⟨λA=>⟨_,yt,fun ρ h H e σ Q vs us e' h' s r rv q P=>by
 cases vs with
 | nil=>cases q;rw[aJ] at rv;exact⟨rv,P σ ρ H (.refl _ _) s r⟩
 | cons=>exact nomatch q⟩⟩
theorem C9(h1:JG X pg k e g)(h2:Qf X pg k es gs)(hs:(Vn (e::es) X.env).map (·.2)=Xy e X.env::(Vn es X.env).map (·.2):=by rfl):Qf X pg k (e::es) (aW g gs):=⟨λA =>
 let ⟨_,q1,s1⟩:=h1.h A;let ⟨_,q2,s2⟩:=h2.h A;⟨_,uk q1 q2 hs,fun ρ h H e σ Q vs us e' h' s r rv q P=>by
 cases vs with
 | nil=>exact nomatch q
 | cons v t =>
  obtain⟨w,u,rfl,r1,r2⟩:=az.mp rv
  obtain⟨e1,h1,e2,q⟩:=bind_eq.mp q
  refine⟨w,u,rfl,?_⟩
  exact s1 ρ h H e σ _ v w e1 h1 s r r1 e2 fun σ1 ρ1 H1 g1 z1 y1=>s2 ρ1 h1 H1 e1 σ1 Q t u e' h' z1 y1 (ao.gr g1 _ _ r2) q (P.gr g1)⟩⟩
theorem Lc{j:Nat}{n:Nat}(h:Qf X pg k es gs)(hn:(Vn es X.env).length=n:=by rfl)(hst:(Vn es X.env).findIdx? (·.1)=none:=by rfl):JG X pg k (.Tuple es j pos) (gT n gs):=⟨λA =>
 let ⟨_,q1,s1⟩:=h.h A;⟨_,DD A.calm q1 hn hst,fun ρ h H e σ Q v v' e' h' s r rv q P=>by
 unfold gT at q
 split at q
 . rename_i xs ex;obtain⟨a,vs,rfl,z,rr⟩:=rel.seq ex rv;split at q
   . rename_i hl;exact⟨a,vs,rfl,z,by rw[<- rr.len];exact hl,s1 ρ h H e σ Q xs vs e' h' s r rr q P⟩
   . exact nomatch q
 . exact nomatch q⟩⟩
theorem Kw{j:Nat}(hN:X.N.Nodup)(hi:X.N[j]?=some x)(hx:Loc X.env.scope x)(he:JE X pg k e ma)(hs:WW e (some (.Name x pos')) pos.line X.env=pure false:=by rfl)(hf:X.fn x=true\/X.env.scope.names.lookup x=some .local:=by first | exact .inl rfl | exact .inr rfl | assumption) :
  JS X pg k (.Assign [.Name x pos'] e pos) (ak ma (gN j)):=⟨λA=>let ⟨_,q1,s1⟩:=he.h A;⟨_,Mw hN hi hx q1 hs hf,fun ρ h H e σ D f h' s r q P=>by
 obtain⟨v,h1,e1,q⟩:=bind_eq.mp q;obtain⟨e2,h2,e3,q⟩:=bind_eq.mp q;cases q;cases e3;exact s1 ρ h H e σ _ v _ s r e1 λv' ρ1 H1 g1 z1 r1=>P _ ρ1 H1 g1 z1 ((r.gr g1).set j r1)⟩⟩
theorem Ld(he:JE X pg k e ma)(hg:JG X pg k tg g)(hs:YQ [tg] e pos.line X.env=pure false:=by rfl)(hw:YR [tg] e X.env=pure none:=by rfl)(h1:(Vn [tg] X.env).map (·.2)=[Xy tg X.env]:=by rfl) :
  JS X pg k (.Assign [tg] e pos) (ak ma g):=⟨λA=>let ⟨_,q1,s1⟩:=he.h A;let ⟨_,q2,s2⟩:=hg.h A;⟨_,BX q1 q2 hs hw h1,fun ρ h H e σ D f h' s r q P=>by
 obtain⟨v,h1,e1,q⟩:=bind_eq.mp q;obtain⟨e2,h2,e3,q⟩:=bind_eq.mp q;cases q;exact s1 ρ h H e σ _ v h1 s r e1 λv' ρ1 H1 g1 z1 r1=>s2 ρ1 h1 H1 e σ _ v v' e2 _ z1 (r.gr g1) r1 e3 (fX.gr P g1)⟩⟩
theorem Nh{f:PV->PV->PV->PH->RV Unit}(hp:cV X pg k-> ∃ t,qI X t/\ ∀ ρ h H x y v x' y' v' u h' Q,c7 X.K ρ h H->rel X.K ρ H x x'->rel X.K ρ H y y'->rel X.K ρ H v v'->f x y v h= .ok u h'->mY X.K ρ H h' Q->t x' y' v' H Q)
  (ho:JE X pg k o mo) (hi:JE X pg k i mi) (hv:JE X pg k e ma) (hs:YQ [.Subscript o i pos'] e pos.line X.env=pure false:=by rfl) (hw:YR [.Subscript o i pos'] e X.env=pure none:=by rfl) (h1:(Vn [.Subscript o i pos'] X.env).map (·.2)=[Xy (.Subscript o i pos') X.env]:=by rfl)
  (ha: ∀ v,Xy (.Subscript o i pos') X.env v=(do
   let ov <- Ye [v] (eval o X.env)
   let iv <- Ye [v,ov] (eval i X.env)
   abl pos'
   Ye [v,ov,iv] (setItem ov iv v)
   release [v,ov,iv] []):=by intro _;rfl):JS X pg k (.Assign [.Subscript o i pos'] e pos) (fm f mo mi ma):=⟨λA =>
 let ⟨_,q0,s0⟩:=hv.h A;let ⟨_,q1,s1⟩:=ho.h A;let ⟨_,q2,s2⟩:=hi.h A;let ⟨_,q3,s3⟩:=hp A;⟨_,BX q0 ⟨Nw q1.h q2.h q3 ha⟩ hs hw h1,fun ρ h H e σ D f' h' s r q P=>by
 obtain⟨v,h1,e1,q⟩:=bind_eq.mp q
 obtain⟨x,h2,e2,q⟩:=bind_eq.mp q
 obtain⟨y,h3,e3,q⟩:=bind_eq.mp q
 obtain⟨u,h4,e4,q⟩:=bind_eq.mp q
 cases q
 refine s0 ρ h H e σ _ v h1 s r e1 λv' ρ1 H1 g1 z1 r1=>?_
 refine s1 ρ1 h1 H1 e σ _ x h2 z1 (r.gr g1) e2 λx' ρ2 H2 g2 z2 r2=>?_
 refine s2 ρ2 h2 H2 e σ _ y h3 z2 (r.gr (g1.trans g2)) e3 λy' ρ3 H3 g3 z3 r3=>?_
 have g:=(g1.trans g2).trans g3
 exact s3 ρ3 h3 H3 x y v x' y' v' u _ _ z3 (rel.gr g3 _ _ r2) r3 (rel.gr (g2.trans g3) _ _ r1) e4 fun ρ4 H4 g4 z4=>P σ ρ4 H4 (g.trans g4) z4 (r.gr (g.trans g4))⟩⟩
theorem MV(hi:JI X pg k tg iter mI)(hg:JG X pg k tg g)(hb:yF X pg k body ms)(hp:Y5 (model X.prog X.w) X.A X.env X.xe)(hs: ∀ x,U2 iter X.env x=pure x:=by intro _;rfl):JS X pg k (.For tg iter body [] pos) (kZ mI g ms):=⟨λA =>
 let ⟨_,q1,s1⟩:=hi.h A;let ⟨_,q2,s2⟩:=hg.h A;let ⟨_,q3,s3⟩:=hb.h A;⟨_,NC hp A.calm q1 q2 q3 hs,fun ρ h H e σ D f h' s r q P=>by
 obtain ⟨it,h1,e1,q⟩:=bind_eq.mp q
 refine s1 ρ h H e σ _ it h1 s r e1 fun ρ1 H1 J g1 z1 w1=>?_
 let step:PV->aq->PH->RV Fl:=λx e h=>(g x e h).bind λe1 h1=>ms (run pg k) e1 h1
 refine ⟨λi m σ' H'=> ∃ ρ' h2 e',Gr ρ1 H1 ρ' H'∧c7 X.K ρ' h2 H'∧dU X.K ρ' H' e' σ'∧i<=it.items.length∧m=it.items.length - i∧bT it step (it.items.drop i) e' h2= .ok f h',⟨_, ρ1,h1,e,.refl _ _,z1,r.gr g1,UQ _,rfl,q⟩,?_⟩
 rintro i m σ2 H2 ⟨ρ2,h2,e2,g2,z2,r2,hi,rfl,q2⟩
 cases hx:it.items[i]? with
 | none =>
  have hl:it.items.length<=i:=Vx.mp hx
  rw[Vv hl,bT] at q2
  split at q2
  . rename_i hf;cases q2;exact .inl ⟨(w1 i ρ2 _ H2 g2 z2 hf).2 (by omega),P σ2 ρ2 H2 (g1.trans g2) z2 r2⟩
  . exact nomatch q2
 | some x =>
  have hlt:i < it.items.length:=(T1.mp hx).1
  have hd:it.items.drop i=x::it.items.drop (i+1):=by
   rw[Xc hlt,(T1.mp hx).2]
  rw[hd,bT] at q2
  split at q2
  . rename_i hf;obtain⟨go,yl⟩:=(w1 i ρ2 _ H2 g2 z2 hf).1 x hx;obtain⟨f3,h3,e3,q3⟩:=bind_eq.mp q2;obtain ⟨e4,h4,e5,q4⟩:=bind_eq.mp e3;refine .inr ⟨go,fun σ' H'=> ∃ ρ' h2 e',Gr ρ1 H1 ρ' H'∧c7 X.K ρ' h2 H'∧dU X.K ρ' H' e' σ'∧bT it step (it.items.drop (i+1)) e' h2= .ok f h',?_,?_⟩
    . rintro σ' H' ⟨ρ',h2,e',a1,a2,a3,a4⟩;exact ⟨it.items.length - (i+1),by omega, ρ',h2,e',a1,a2,a3,hlt,rfl,a4⟩
    . intro v H3 hy;obtain ⟨ρ3,g3,z3,r3⟩:=yl v H3 hy;refine s2 ρ3 h2 H3 e2 σ2 _ x v e4 h4 z3 (r2.gr g3) r3 e5 fun σ4 ρ4 H4 g4 z4 r4=>?_;have gg:=(g2.trans g3).trans g4;refine s3 ρ4 h4 H4 e4 σ4 _ f3 h3 z4 r4 q4 ?_;cases f3 with
      | nx e6=>exact fun σ5 ρ5 H5 g5 z5 r5=>⟨ρ5,h3,e6,gg.trans g5,z5,r5,q3⟩
      | ct e6=>exact fun σ5 ρ5 H5 g5 z5 r5=>⟨ρ5,h3,e6,gg.trans g5,z5,r5,q3⟩
      | bk e6=>cases q3;exact fX.gr P (g1.trans gg)
      | rt v=>cases q3;exact dW.gr P (g1.trans gg)
  . exact nomatch q2⟩⟩
theorem Bu (hc:JT X pg k c mt) (hb:yF X pg k body ms) (hp:Y5 (model X.prog X.w) X.A X.env X.xe):JS X pg k (.While c body [] pos) (xo mt ms):=⟨λA =>
 let ⟨_,q1,s1⟩:=hc.h A;let ⟨_,q2,s2⟩:=hb.h A;⟨_,B1 hp q1 q2,fun ρ h H e σ D f h' s r q P=>by
 refine ⟨λm σ' H'=> ∃ ρ' h2 e',Gr ρ H ρ' H'∧c7 X.K ρ' h2 H'∧dU X.K ρ' H' e' σ'∧dq (mt (run pg k)) (ms (run pg k)) m e' h2= .ok f h',⟨100000, ρ,h,e,.refl _ _,s,r,q⟩,?_⟩
 rintro m σ1 H1 ⟨ρ1,h1,e1,g1,z1,r1,q1⟩
 cases m with
 | zero=>exact nomatch q1
 | succ m =>
  obtain⟨x,h2,e2,q1⟩:=bind_eq.mp q1
  refine s1 ρ1 h1 H1 e1 σ1 _ x h2 z1 r1 e2 fun ρ2 H2 g2 z2=>?_
  cases x with
  | false=>cases q1;exact P σ1 ρ2 H2 (g1.trans g2) z2 (r1.gr g2)
  | true =>
   obtain⟨f3,h3,e3,q3⟩:=bind_eq.mp q1
   refine⟨fun σ' H'=> ∃ ρ' h2 e',Gr ρ H ρ' H'/\c7 X.K ρ' h2 H'/\dU X.K ρ' H' e' σ'/\dq (mt (run pg k)) (ms (run pg k)) m e' h2= .ok f h',fun σ' H' w=>⟨m,XM _,w⟩,?_⟩
   refine s2 ρ2 h2 H2 e1 σ1 _ f3 h3 z2 (r1.gr g2) e3 ?_
   have gg:=g1.trans g2
   cases f3 with
   | nx e6=>exact fun σ5 ρ5 H5 g5 z5 r5=>⟨ρ5,h3,e6,gg.trans g5,z5,r5,q3⟩
   | ct e6=>exact fun σ5 ρ5 H5 g5 z5 r5=>⟨ρ5,h3,e6,gg.trans g5,z5,r5,q3⟩
   | bk e6=>cases q3;exact fX.gr P gg
   | rt v=>cases q3;exact dW.gr P gg⟩⟩
theorem IZ{cf:CF}{K:TV}{wi:TI}{tg:TG}{tt:TT}{te:TE}{n:Nat}(s1:SI cf K wi mI)(s2:SG K tg g)(s3:ST cf K tt mt)(s4:SE cf K te ma):SE cf K (Rj n wi tg tt te) (iN n mI g mt ma):=fun ρ h H e σ Q v h' s r q P=>by
 obtain⟨it,h1,e1,q⟩:=bind_eq.mp q;obtain ⟨ys,h2,e2,q⟩:=bind_eq.mp q;cases q;refine s1 ρ h H e σ _ it h1 s r e1 fun ρ1 H1 J g1 z1 w1=>?_;refine ⟨λi m us H'=> ∃ ρ' h3 zs,Gr ρ1 H1 ρ' H'∧c7 K ρ' h3 H'∧ao K ρ' H' zs us∧i<=it.items.length∧m=it.items.length - i∧fT it (aN n g mt ma cf e) (it.items.drop i) zs h3= .ok ys h2,⟨_, ρ1,h1,[],.refl _ _,z1,aJ.mpr rfl,UQ _,rfl,e2⟩,?_⟩;rintro i m us H2 ⟨ρ2,h3,zs,g2,z2,r2,hi,rfl,q2⟩;cases hx:it.items[i]? with
 | none =>
  have hl:it.items.length<=i:=Vx.mp hx
  rw[Vv hl,fT] at q2
  split at q2
  . rename_i hf;cases q2;exact .inl ⟨(w1 i ρ2 _ H2 g2 z2 hf).2 (by omega),λp hp=>dM z2 r2 (P.gr (g1.trans g2)) p hp⟩
  . exact nomatch q2
 | some x =>
  have hlt:i < it.items.length:=(T1.mp hx).1
  have hd:it.items.drop i=x::it.items.drop (i+1):=by
   rw[Xc hlt,(T1.mp hx).2]
  rw[hd,fT] at q2
  split at q2
  . rename_i hf;obtain⟨go,yl⟩:=(w1 i ρ2 _ H2 g2 z2 hf.1).1 x hx;obtain⟨o,h4,e3,q3⟩:=bind_eq.mp q2;obtain⟨e4,h5,e5,q4⟩:=bind_eq.mp e3;obtain⟨b,h6,e6,q5⟩:=bind_eq.mp q4;refine .inr ⟨go,by rw[<- r2.len];exact hf.2,λv H3 hy=>?_⟩;obtain⟨ρ3,g3,z3,r3⟩:=yl v H3 hy;refine s2 ρ3 h3 H3 _ _ _ x v e4 h5 z3 (((r.gr (g1.trans (g2.trans g3)))).more n) r3 e5 fun σ4 ρ4 H4 g4 z4 r4=>?_;refine s3 ρ4 h5 H4 e4 σ4 _ b h6 z4 r4 e6 fun ρ5 H5 g5 z5=>?_;have gg:=((g2.trans g3).trans g4).trans g5;cases b with
    | false=>cases q5;exact ⟨it.items.length - (i+1),by omega, ρ5,_,zs,gg,z5,ao.gr ((g3.trans g4).trans g5) _ _ r2,hlt,rfl,q3⟩
    | true =>
     obtain ⟨y,h7,e7,q6⟩:=bind_eq.mp q5
     cases q6
     refine s4 ρ5 h6 H5 e4 σ4 _ y _ z5 (r4.gr g5) e7 λy' ρ6 H6 g6 z6 r6=>?_
     exact ⟨it.items.length - (i+1),by omega, ρ6,_,zs++[y],gg.trans g6,z6,(ao.gr (((g3.trans g4).trans g5).trans g6) _ _ r2).app (ao.one r6),hlt,rfl,q3⟩
  . exact nomatch q2
end
noncomputable def To (c:CF) (K:TV) (m:ME):TE:=fun σ H Q=> ∃ ρ h e v h',c7 K ρ h H∧dU K ρ H e σ ∧m c e h= .ok v h'∧dW K ρ H v h' Q
noncomputable def Ti(c:CF)(K:TV)(m:MT):TT:=fun σ H Q=> ∃ ρ h e b h',c7 K ρ h H/\dU K ρ H e σ /\m c e h= .ok b h'/\mY K ρ H h' (Q b)
theorem Ip{c:CF}{K:TV}{m:ME}:SE c K (To c K m) m:=fun ρ h H e σ Q v h' s r q P=>⟨ρ,h,e,v,h',s,r,q,P⟩
theorem Jd{c:CF}{K:TV}{m:MT}:ST c K (Ti c K m) m:=fun ρ h H e σ Q v h' s r q P=>⟨ρ,h,e,v,h',s,r,q,P⟩
theorem JE.IS{X:Cx}{pg:Tb}{k:Nat}{e:Expr}{m:ME}(j:JE X pg k e m)(A:cV X pg k):QE X e (To (run pg k) X.K m) :=
 let ⟨_,q,s⟩:=j.h A;⟨λpins st σ H Q I ⟨ρ,h,e,v,h',a,b,c,d⟩=>q.h pins st σ H Q I (s ρ h H e σ Q v h' a b c d)⟩
theorem JF.IS{X:Cx}{pg:Tb}{k:Nat}{e:List Expr}{m:MT}(j:JF X pg k e m)(A:cV X pg k):QF X e (Ti (run pg k) X.K m) :=
 let ⟨_,q,s⟩:=j.h A;⟨λpins st σ H Q I ⟨ρ,h,e,v,h',a,b,c,d⟩=>q.h pins st σ H Q I (s ρ h H e σ Q v h' a b c d)⟩
structure GC(K:TV)(n:Nat)(t:TG)(m:MG):Prop where
 sg:SG K t m
 gk:GK n t
 mono:sE t
structure Rg(K:TV)(n:Nat)(t:t8)(m:List PV->aq->PH->RV aq):Prop where
 sg: ∀ ρ h H e σ Q vs us e' h',c7 K ρ h H->dU K ρ H e σ ->ao K ρ H vs us->m vs e h= .ok e' h'->fX K ρ H e' h' Q->t us σ H Q
 gk:Pc n t
 mono: ∀ xs σ H Q Q',(∀ σ2 H2,Q σ2 H2->Q' σ2 H2)->t xs σ H Q->t xs σ H Q'
theorem Ga{K:TV}{n i:Nat}(h:n<=i):GC K n (fQ i) (gN i):=⟨yJ,FA h,wU⟩
theorem yu{K:TV}{n:Nat}:Rg K n AZ gq:=⟨fun ρ h H e σ Q vs us e' h' s r rv q P=>by
 cases vs with
 | nil=>cases q;rw[aJ] at rv;exact⟨rv,P σ ρ H (.refl _ _) s r⟩
 | cons=>exact(nomatch q),KR,λxs σ H Q Q' f q=>⟨q.1,f _ _ q.2⟩⟩
theorem kI{K:TV}{n:Nat}{t:TG}{m:MG}{ts:t8}{ms:List PV->aq->PH->RV aq}(a:GC K n t m)(b:Rg K n ts ms):Rg K n (m7 t ts) (aW m ms):=⟨fun ρ h H e σ Q vs us e' h' s r rv q P=>by
 cases vs with
 | nil=>exact nomatch q
 | cons v t =>
  obtain⟨w,u,rfl,r1,r2⟩:=az.mp rv
  obtain⟨e1,h1,e2,q⟩:=bind_eq.mp q
  refine⟨w,u,rfl,?_⟩
  exact a.sg ρ h H e σ _ v w e1 h1 s r r1 e2 fun σ1 ρ1 H1 g1 z1 y1=>b.sg ρ1 h1 H1 e1 σ1 Q t u e' h' z1 y1 (ao.gr g1 _ _ r2) q (P.gr g1),FO a.gk a.mono b.gk,
 λxs σ H Q Q' f ⟨v,r,e,q⟩=>⟨v,r,e,a.mono _ _ _ _ _ (fun σ2 H2 z=>b.mono _ _ _ _ _ f z) q⟩⟩
theorem BA{K:TV}{n j:Nat}{ts:t8}{ms:List PV->aq->PH->RV aq}(b:Rg K n ts ms):GC K n (v9 K j ts) (gT j ms):=⟨fun ρ h H e σ Q v v' e' h' s r rv q P=>by
 unfold gT at q;split at q
 . rename_i xs ex;obtain⟨a,vs,rfl,z,rr⟩:=rel.seq ex rv;split at q
   . rename_i hl;exact⟨a,vs,rfl,z,by rw[<- rr.len];exact hl,b.sg ρ h H e σ Q xs vs e' h' s r rr q P⟩
   . exact nomatch q
 . exact(nomatch q),Mp b.gk,λx σ H Q Q' f ⟨a,xs,e1,e2,e3,q⟩=>⟨a,xs,e1,e2,e3,b.mono _ _ _ _ _ f q⟩⟩
section
variable{X:Cx}{pg:Tb}{k:Nat}{e tg iter:Expr}{ma:ME}{mt:MT}{g:MG}{tG:TG}{mI:MI}{scope:Scope}{ifs:List Expr}{pos spos py:Pos}{y:Str}
theorem uq(vars:List Str)(hkind:scope.kind= .function)(hlc:iL scope.names X.env.scope.names X.N vars=true)(hi:JI X pg k tg iter mI)
  (hb: ∀ cl C s₀ H₀ ex pn,(cV X pg k->QG (fj X vars scope cl C s₀ H₀ ex pn) tg tG)/\JF (fj X vars scope cl C s₀ H₀ ex pn) pg k ifs mt/\JE (fj X vars scope cl C s₀ H₀ ex pn) pg k e ma) (hG:GC X.K X.N.length tG g)
  (hs: ∀ x,U2 iter X.env x=pure x:=by intro _;rfl):JE X pg k (.ListComp e [⟨tg,iter,ifs,0⟩] scope pos) (iN vars.length mI g mt ma):=⟨λA =>
 let ⟨_,q1,s1⟩:=hi.h A
 ⟨_,C6 vars A.calm A.qa hkind hlc q1 (λcl C s₀ H₀ ex pn=>let ⟨h1,h2,h3⟩:=hb cl C s₀ H₀ ex pn;⟨h1 A,h2.IS (A.fj ..),h3.IS (A.fj ..)⟩) hG.gk hs,IZ s1 hG.sg Jd Ip⟩⟩
theorem vP(vars:List Str)(i:Nat)(hkind:scope.kind= .function)(hlc:iL scope.names X.env.scope.names X.N vars=true)(hN:X.N.Nodup)(hiy:X.N[i]?=some y)(hy:Loc X.env.scope y)(hi:JI X pg k tg iter mI)
  (hb: ∀ cl C s₀ H₀ ex pn,(cV X pg k->QG (fj X vars scope cl C s₀ H₀ ex pn) tg tG)/\JF (fj X vars scope cl C s₀ H₀ ex pn) pg k ifs mt/\JE (fj X vars scope cl C s₀ H₀ ex pn) pg k e ma) (hG:GC X.K X.N.length tG g)
  (hsw:WW (.ListComp e [⟨tg,iter,ifs,0⟩] scope pos) (some (.Name y py)) spos.line X.env=pure true:=by rfl) (hs: ∀ x,U2 iter X.env x=pure x:=by intro _;rfl)
  (hf:X.fn y=true\/X.env.scope.names.lookup y=some .local:=by first | exact .inl rfl | exact .inr rfl | assumption) :
  JS X pg k (.Assign [.Name y py] (.ListComp e [⟨tg,iter,ifs,0⟩] scope pos) spos) (ak (iN vars.length mI g mt ma) (gN i)):=⟨λA =>
 let ⟨_,q1,s1⟩:=hi.h A
 ⟨_,BK vars i A.calm A.qa hkind hlc hN hiy hy q1 (λcl C s₀ H₀ ex pn=>let ⟨h1,h2,h3⟩:=hb cl C s₀ H₀ ex pn;⟨h1 A,h2.IS (A.fj ..),h3.IS (A.fj ..)⟩) hG.gk hsw hs hf,fun ρ h H e σ D f h' s r q P=>by
  obtain⟨v,h1,e1,q⟩:=bind_eq.mp q;obtain⟨e2,h2,e3,q⟩:=bind_eq.mp q;cases q;cases e3;exact IZ s1 hG.sg Jd Ip ρ h H e σ _ v _ s r e1 λv' ρ1 H1 g1 z1 r1=>P _ ρ1 H1 g1 z1 ((r.gr g1).set i r1)⟩⟩
end
section
variable{K:TV}{ρ ρ':List Addr}{H H':Hp}{h h':PH}
mutual
theorem rel.flat: ∀(x:PV)(v:V),x.flat=true->rel K ρ' H' x v->rel K ρ H' x v
 | .non,v,_,h=>by simpa only[rel] using h
 | .bl _,v,_,h=>by simpa only[rel] using h
 | .int _,v,_,h=>by simpa only[rel] using h
 | .str _,v,_,h=>by simpa only[rel] using h
 | .ty _,v,_,h=>by simpa only[rel] using h
 | .ref n,v,f,h=>by simp[PV.flat] at f
 | .tup xs,v,f,h=>by
  rw[rel] at h ⊢;rw[PV.flat] at f;obtain⟨a,vs,e,s,r⟩:=h;exact⟨a,vs,e,s,ao.flat xs vs f r⟩
 | .ktup xs,v,f,h=>by
  rw[rel] at h ⊢;rw[PV.flat] at f;obtain⟨a,vs,e,s,r⟩:=h;exact⟨a,vs,e,s,ao.flat xs vs f r⟩
theorem ao.flat: ∀(xs:List PV)(vs:List V),PV.bC xs=true->ao K ρ' H' xs vs->ao K ρ H' xs vs
 | [],vs,_,h=>by simpa only[ao] using h
 | x::r,vs,f,h=>by
  rw[ao] at h ⊢;rw[PV.bC,Ut] at f;obtain⟨v,t,e,h1,h2⟩:=h;exact ⟨v,t,e,rel.flat x v f.1 h1,ao.flat r t f.2 h2⟩
end
mutual
theorem rel.iM (g: ∀ (n:Nat) (a:Addr), ρ[n]?=some a-> ρ'[n]?=some a): ∀ (x:PV) (v:V),x.iM ρ.length=true->rel K ρ' H' x v->rel K ρ H' x v
 | .non,v,_,h=>by simpa only [rel] using h
 | .bl _,v,_,h=>by simpa only [rel] using h
 | .int _,v,_,h=>by simpa only [rel] using h
 | .str _,v,_,h=>by simpa only[rel] using h
 | .ty _,v,_,h=>by simpa only[rel] using h
 | .ref n,v,f,h=>by
  rw[rel] at h ⊢;rw[PV.iM,decide_eq_true_eq] at f;obtain⟨a,e,h⟩:=h;have:=g n _ (Uj f);rw[e] at this;exact⟨a,by rw[Uj f,<- U9 this],h⟩
 | .tup xs,v,f,h=>by
  rw[rel] at h ⊢;rw[PV.iM] at f;obtain⟨a,vs,e,s,r⟩:=h;exact⟨a,vs,e,s,ao.iM g xs vs f r⟩
 | .ktup xs,v,f,h=>by
  rw[rel] at h ⊢;rw [PV.iM] at f;obtain ⟨a,vs,e,s,r⟩:=h;exact ⟨a,vs,e,s,ao.iM g xs vs f r⟩
theorem ao.iM (g: ∀ (n:Nat) (a:Addr), ρ[n]?=some a-> ρ'[n]?=some a): ∀ (xs:List PV) (vs:List V),PV.jd ρ.length xs=true->ao K ρ' H' xs vs->ao K ρ H' xs vs
 | [],vs,_,h=>by simpa only [ao] using h
 | x::r,vs,f,h=>by
  rw [ao] at h ⊢;rw[PV.jd,Ut] at f;obtain⟨v,t,e,h1,h2⟩:=h;exact⟨v,t,e,rel.iM g x v f.1 h1,ao.iM g r t f.2 h2⟩
end
mutual
theorem rel.low: ∀(x:PV)(v:V),rel K ρ H x v->x.iM ρ.length=true
 | .non,v,_=>rfl
 | .bl _,v,_=>rfl
 | .int _,v,_=>rfl
 | .str _,v,_=>rfl
 | .ty _,v,_=>rfl
 | .ref n,v,h=>by
  rw[rel] at h;obtain⟨a,e,h⟩:=h;rw[PV.iM,decide_eq_true_eq];exact(T1.mp e).1
 | .tup xs,v,h=>by
  rw[rel] at h;obtain⟨a,vs,e,s,r⟩:=h;rw[PV.iM];exact ao.low xs vs r
 | .ktup xs,v,h=>by
  rw[rel] at h;obtain⟨a,vs,e,s,r⟩:=h;rw[PV.iM];exact ao.low xs vs r
theorem ao.low: ∀(xs:List PV)(vs:List V),ao K ρ H xs vs->PV.jd ρ.length xs=true
 | [],vs,_=>rfl
 | x::r,vs,h=>by
  rw[ao] at h;obtain⟨v,t,e,h1,h2⟩:=h;rw[PV.jd,rel.low x v h1,ao.low r t h2];rfl
end
theorem Paired.low: ∀{kvs:List (Key × PV)}{kws:List (Key × V)},Vh (λ(p:Key × PV) (q:Key × V)=>p.1=q.1/\rel K ρ H p.2 q.2) kvs kws->PV.jd ρ.length (kvs.map (·.2))=true
 | _,_,.nil=>rfl
 | _,_,.cons r t=>by rw[T9,PV.jd,rel.low _ _ r.2,Paired.low t];rfl
theorem mC.low{a:Addr}: ∀{o:PO},mC K ρ H a o->o.iM ρ.length=true
 | .lst xs,⟨vs,_,r⟩=>ao.low _ _ r
 | .kD xs,⟨vs,_,r⟩=>ao.low _ _ r
 | .dct kvs,⟨kws,_,r⟩=>Paired.low r
theorem Paired.iM (g: ∀ (n:Nat) (a:Addr), ρ[n]?=some a-> ρ'[n]?=some a): ∀ {kvs:List (Key × PV)} {kws:List (Key × V)},PV.jd ρ.length (kvs.map (·.2))=true ->
  Vh (λ(p:Key × PV) (q:Key × V)=>p.1=q.1∧rel K ρ' H' p.2 q.2) kvs kws->Vh (λ(p:Key × PV) (q:Key × V)=>p.1=q.1∧rel K ρ H' p.2 q.2) kvs kws
 | _,_,_,.nil=> .nil
 | _,_,f,.cons r t=>by
  rw [T9,PV.jd,Ut] at f;exact .cons ⟨r.1,rel.iM g _ _ f.1 r.2⟩ (Paired.iM g f.2 t)
theorem mC.iM (g: ∀ (n:Nat) (a:Addr), ρ[n]?=some a-> ρ'[n]?=some a) {a:Addr}: ∀ {o:PO},o.iM ρ.length=true->mC K ρ' H' a o->mC K ρ H' a o
 | .lst xs,f,⟨vs,e,r⟩=>⟨vs,e,ao.iM g _ _ f r⟩
 | .kD xs,f,⟨vs,e,r⟩=>⟨vs,e,ao.iM g _ _ f r⟩
 | .dct kvs,f,⟨kws,e,r⟩=>⟨kws,e,Paired.iM g f r⟩
theorem c7.drop(s:c7 K ρ h H)(g:Gr ρ H ρ' H')(s':c7 K ρ' h' H')(ok:ck h.length h h'=true):c7 K ρ (h'.take h.length) H':=by
 have old: ∀{i:Nat}{o:PO},(h'.take h.length)[i]?=some o->i < h.length/\h'[i]?=some o:=λ{i o} e=>by
  have hi:i < h.length:=by
   have:=(T1.mp e).1;rw[Ve] at this;omega
  rw[List.getElem?_take,if_pos hi] at e;exact⟨hi,e⟩
 refine⟨by rw[Ve,s.len,Xo (pd ok)],λi j a oi oj ei ej mi mj ri rj=>?_,λi o a e ea=>?_⟩
 . exact s'.nd i j a oi oj (old ei).2 (old ej).2 mi mj (g.pre _ _ ri) (g.pre _ _ rj)
 . have r:=s'.ob i o a (old e).2 (g.pre _ _ ea);obtain⟨o0,e0,_,z⟩:=rP ok e;refine mC.iM g.pre ?_ r;rcases z with z | z
   . subst z;exact(s.ob i o0 a e0 ea).low
   . rw[s.len];exact z
theorem gA{v w:PV}{h2:PH}{Q:VK}(s:c7 K ρ h H)(e:settle h v h'= .ok w h2)(P:dW K ρ H w h2 Q):dW K ρ H v h' Q:=by
 unfold settle at e;split at e
 . rename_i ok;rw[Ut] at ok;cases e;exact λv' ρ' H' g s' r=>P v' ρ H' ⟨λ_ _ z=>z,g.tup,g.jP⟩ (s.drop g s' ok.2) (rel.flat _ _ ok.1 r)
 . cases e;exact P
end
theorem hW{K:TV}{ρ :List Addr}{H:Hp}: ∀{args:List PV}{vs:List V},ao K ρ H args vs-> ∀(n:Nat),dU K ρ H (args.map some++Uc n none) (vs.map some++Uc n none)
 | args,vs,r,n=>by
  have:dU K ρ H (args.map some) (vs.map some):=⟨by simp[r.len],λi v e=>by
   rw[Uq] at e;cases q:args[i]? with
   | none=>rw[q] at e;exact nomatch e
   | some w =>
    rw[q] at e
    cases e
    obtain⟨v',e1,e2⟩:=r.get q
    exact⟨v',by rw[Uq,e1];rfl,e2⟩⟩
  exact this.more n
structure jy(P:Uy)(w:World)(K:TV)(mg:Str->Option Value)(base:Heap)(pg:Tb)(f:String)(d:Df):Prop where
 ex: ∃(st:Stmt)(N:List Str),At K mg (Ul f) st/\dO N d.ps (av st)/\N.length=d.ps.length+d.nl /\
  (∀(kV doc pm:Value)(an:Option Addr)(cdv ct:Value)(us:List Value),us.length=d.ps.length->WQ (Vi (Ul f) (Ul f) (cG st) (aZ st) (av st) .none kV doc pm an cdv ct) ⟨us,[]⟩=pure (d.ps.zip us)) /\
  ∀(fa:Addr)(cdv:Value)(A:UW)(outer:List Env)(s:T7)(H:Hp)(E:XK)(k:Nat),yF (jH sd P w K mg base N (Ul f) (av st) fa cdv A outer s H E).qa pg k (aZ st) d.body
structure Top(P:Uy)(w:World)(K:TV)(mg:Str->Option Value)(pg:Tb):Prop where
 blt: ∀ x∈iQ,mg x=none
 con: ∀ x v,pg.con x=some v-> ∃ u v',mg x=some u/\RelV v' u/\Ag K v'/\ ∀ ρ H,rel K ρ H v v'
 yf: ∀ x kvs,pg.yf x=some kvs-> ∃ a kws,mg x=some (.ref a)∧KD P w K a kws∧ ∀ ρ H,Vh (λ(p:Key × PV) (q:Key × V)=>p.1=q.1∧rel K ρ H p.2 q.2) kvs kws
section
variable {P:Uy} {w:World} {K:TV} {mg:Str->Option Value} {base:Heap} {pg:Tb}
theorem BB (T : Top P w K mg pg) (G : ∀ f d, pg.fns f = some d -> jy P w K mg base pg f d) : ∀ k f d, pg.fns f = some d -> nj P w K mg base (Ul f) k d.ps (wY K pg k f) := by
  intro k
  induction k with
  | zero =>
    intro f d hf
    obtain ⟨st, N, a, S, hl, hb, body⟩ := (G f d hf).ex
    exact At.zT a hb λvs H Q E ⟨ρ, h, args, v, h', _, _, q, _⟩ => nomatch q
  | succ k ih =>
    intro f d hf
    obtain ⟨st, N, a, S, hl, hb, body⟩ := (G f d hf).ex
    have run_eq : ∀ {args : List PV} {h h' : PH} {v : PV}, run pg (k + 1) f args h = .ok v h' -> args.length = d.ps.length ∧
        ((∃ w h2, d.body (run pg k) (args.map some ++ Uc d.nl none) h = .ok (.rt w) h2 /\ settle h w h2 = .ok v h') ∨
         (∃ e h2, d.body (run pg k) (args.map some ++ Uc d.nl none) h = .ok (.nx e) h2 /\ settle h .non h2 = .ok v h')) := λ{args h h' v} q => by
      rw [run, hf] at q;simp only at q;split at q
      . rename_i hn;refine ⟨hn, ?_⟩;split at q
        . rename_i w h2 e; exact .inl ⟨w, h2, e, q⟩
        . rename_i e' h2 e; exact .inr ⟨e', h2, e, q⟩
        . exact nomatch q
        . exact nomatch q
        . exact nomatch q
      . exact nomatch q
    refine At.Sf a S hb (λvs H Q E ⟨ρ, h, args, v, h', _, r, q, _⟩ => by rw [<- r.len]; exact (run_eq q).1) ?_
    rintro fa cdv A outer s H vs Q E hr ⟨ρ, h, args, v, h', sm, r, q, post⟩
    have amb : cV (jH sd P w K mg base N (Ul f) (av st) fa cdv A outer s H E).qa pg k := ⟨hr, rfl, λ_ _ z => z, ih, T.blt, T.con, T.yf⟩
    obtain ⟨t, qt, st'⟩ := (body fa cdv A outer s H E k).h amb
    refine ⟨t, qt, ?_⟩
    obtain ⟨hn, q⟩ := run_eq q
    have he : L2.start N vs = vs.map some ++ Uc d.nl none := by
      unfold L2.start;rw [hl, <- r.len, hn, Ze]
    rw [he]
    rcases q with ⟨w, h2, e, q⟩ | ⟨e', h2, e, q⟩
    . exact st' ρ h H _ _ _ _ h2 sm (hW r _) e (gA sm q post)
    . exact st' ρ h H _ _ _ _ h2 sm (hW r _) e fun σ' ρ' H' g s' _ => gA sm q post .non ρ' H' g s' (by rw [rel])
end
noncomputable def p2(f:Int->Int->RV PV):PV->PV->PH->RV PV:=λx y h=>match x,y with
 | .int i,.int j=>(f i j).bind λv _=> .ok v h
 | _,_=> .no
noncomputable def EB(v:PV):RV PV:= .ok v []
section
variable{K:TV}{X:Cx}{pg:Tb}{k:Nat}
theorem Mg{C:Int->Int->Prop}{g:Int->Int->V}{f:Int->Int->RV PV}(hf: ∀ i j v h,f i j= .ok v h->C i j/\ ∀ ρ H,rel K ρ H v (g i j)):m8 K (rI C g) (p2 f):=fun ρ h H x y x' y' Q v h' s rx ry q P=>by
 unfold p2 at q;split at q
 . rename_i i j;rw[rel] at rx ry;obtain⟨w,h0,e,q⟩:=bind_eq.mp q;cases q;obtain⟨hc,hr⟩:=hf i j v h0 e;exact⟨i,j,rx,ry,hc,P _ ρ H (.refl _ _) s (hr ρ H)⟩
 . exact nomatch q
theorem uH{g:Int->Int->V}{f:Int->Int->RV PV}(hf: ∀ i j v h,f i j= .ok v h-> ∀ ρ H,rel K ρ H v (g i j)):m8 K (Ex g) (p2 f):=fun ρ h H x y x' y' Q v h' s rx ry q P=>by
 unfold p2 at q;split at q
 . rename_i i j;rw[rel] at rx ry;obtain⟨w,h0,e,q⟩:=bind_eq.mp q;cases q;exact⟨i,j,rx,ry,P _ ρ H (.refl _ _) s (hf i j v h0 e ρ H)⟩
 . exact nomatch q
noncomputable def qF:PV->PV->PH->RV PV:=p2 λi j=>EB (.int (i - j))
noncomputable def fh:PV->PV->PH->RV PV:=p2 λi j=>if 0 < j then EB (.int (i % j)) else .no
noncomputable def oZ:PV->PV->PH->RV PV:=p2 λi j=>if 0 < j/\j < 1073741824 then EB (.int (i / j)) else .no
noncomputable def E6:PV->PV->PH->RV PV:=p2 λi j=>if 0<=j/\j<=1000000/\i.natAbs < 2 ^ 64 then EB (.int (i ^ j.toNat)) else .no
noncomputable def Ck:PV->PV->PH->RV PV:=p2 λi j=>EB (.bl (decide (i < j)))
noncomputable def Rn:PV->PV->PH->RV PV:=p2 λi j=>EB (.bl (decide (i<=j)))
noncomputable def PR:PV->PV->PH->RV PV:=p2 λi j=>EB (.bl (decide (j < i)))
noncomputable def RU:PV->PV->PH->RV PV:=p2 λi j=>EB (.bl (decide (j<=i)))
theorem OW:cV X pg k-> ∃ r,cW X (Vw .Sub) r/\m8 X.K r qF:=λ_=>⟨_,La,uH λi j v h e ρ H=>by cases e;rw[rel]⟩
theorem Pa:cV X pg k-> ∃ r,cW X (Vw .Mod) r/\m8 X.K r fh:=λ_=>⟨_,LJ,Mg λi j v h e=>by
 split at e
 . cases e;exact⟨by assumption,fun ρ H=>by rw[rel]⟩
 . exact nomatch e⟩
theorem L7:cV X pg k-> ∃ r,cW X (Vw .FloorDiv) r/\m8 X.K r oZ:=λ_=>⟨_,Gu,Mg λi j v h e=>by
 split at e
 . cases e;exact⟨by assumption,fun ρ H=>by rw[rel]⟩
 . exact nomatch e⟩
theorem Pw:cV X pg k-> ∃ r,cW X (Vw .Pow) r/\m8 X.K r E6:=λ_=>⟨_,Ky,Mg λi j v h e=>by
 split at e
 . cases e;exact⟨by assumption,fun ρ H=>by rw[rel]⟩
 . exact nomatch e⟩
theorem RM:cV X pg k-> ∃ r,cW X (UK .Lt) r/\m8 X.K r Ck:=λ_=>⟨_,Pj,uH λi j v h e ρ H=>by cases e;rw[rel]⟩
theorem Sg:cV X pg k-> ∃ r,cW X (UK .LtE) r/\m8 X.K r Rn:=λ_=>⟨_,N6,uH λi j v h e ρ H=>by cases e;rw[rel]⟩
theorem R0:cV X pg k-> ∃ r,cW X (UK .Gt) r/\m8 X.K r PR:=λ_=>⟨_,QM,uH λi j v h e ρ H=>by cases e;rw[rel]⟩
theorem SF:cV X pg k-> ∃ r,cW X (UK .GtE) r/\m8 X.K r RU:=λ_=>⟨_,P9,uH λi j v h e ρ H=>by cases e;rw[rel]⟩
noncomputable def P5(xs:List PV)(h:PH):RV PV:=lI xs.length (.ok (.ref h.length) (h++[.lst xs]))
noncomputable def aY:PV->PV->PH->RV PV:=λx y h=>match x,y with
 | .int i,.int j=> .ok (.int (i+j)) h
 | .str a,.str b=>lI (a.length+b.length) (.ok (.str (a++b)) h)
 | .tup xs,.tup ys=>lI (xs.length+ys.length) (.ok (.tup (xs++ys)) h)
 | .ref n,.ref m=>(match h[n]?,h[m]? with
  | some (.lst xs),some (.lst ys)=>P5 (xs++ys) h
  | _,_=> .no)
 | _,_=> .no
theorem c7.lst{ρ :List Addr}{h:PH}{H:Hp}(s:c7 K ρ h H){n:Nat}{xs:List PV}(e:h[n]?=some (.lst xs)){v:V}(r:rel K ρ H (.ref n) v): ∃ a vs,v= .ref a/\ ρ[n]?=some a/\H a=some (.lst vs)/\ao K ρ H xs vs:=by
 rw[rel] at r;obtain⟨a,ea,rfl⟩:=r;obtain⟨vs,e1,e2⟩:=s.ob n _ a e ea;exact⟨a,vs,rfl,ea,e1,e2⟩
theorem c7.kD{ρ :List Addr}{h:PH}{H:Hp}(s:c7 K ρ h H){n:Nat}{xs:List PV}(e:h[n]?=some (.kD xs)){v:V}(r:rel K ρ H (.ref n) v): ∃ a vs,v= .ref a/\ ρ[n]?=some a/\iF K H a vs/\ao K ρ H xs vs:=by
 rw[rel] at r;obtain⟨a,ea,rfl⟩:=r;obtain⟨vs,e1,e2⟩:=s.ob n _ a e ea;exact⟨a,vs,rfl,ea,e1.sq,e2⟩
noncomputable def cP(h:PH)(n:Nat):Option (List PV):=match h[n]? with
 | some (.lst xs)=>some xs
 | some (.kD xs)=>some xs
 | _=>none
theorem c7.sq{ρ :List Addr}{h:PH}{H:Hp}(s:c7 K ρ h H){n:Nat}{xs:List PV}(e:cP h n=some xs){v:V}(r:rel K ρ H (.ref n) v): ∃ a vs,v= .ref a/\ ρ[n]?=some a/\iF K H a vs/\ao K ρ H xs vs:=by
 unfold cP at e;split at e
 . cases e;obtain⟨a,vs,e1,e2,e3,e4⟩:=s.lst (by assumption) r;exact⟨a,vs,e1,e2,.of e3,e4⟩
 . cases e;exact s.kD (by assumption) r
 . exact nomatch e
theorem nQ{ρ :List Addr}{h:PH}{H:Hp}{xs:List PV}{us:List V}{Q:VK}(s:c7 K ρ h H)(r:ao K ρ H xs us)(P:dW K ρ H (.tup xs) h Q)(p:Addr)(hp:H p=none):Q (.ref p) (upd H p (.tup us)):=by
 refine P _ ρ _ (Gr.wx hp) (s.tup hp) ?_;rw[rel];exact⟨p,us,rfl,ba,ao.gr (Gr.wx hp) _ _ r⟩
theorem Qs:cV X pg k-> ∃ r,cW X (Vw .Add) r/\m8 X.K r aY:=λ_=>⟨_,Lf,fun ρ h H x y x' y' Q v h' s rx ry q P=>by
 unfold aY at q;split at q
 . cases q;rw[rel] at rx ry;exact .inl ⟨_,_,rx,ry,P _ ρ H (.refl _ _) s (by rw[rel])⟩
 . obtain⟨hl,q⟩:=j5.mp q;cases q;rw[rel] at rx ry;exact .inr (.inr (.inr (.inr ⟨_,_,rx,ry,hl,P _ ρ H (.refl _ _) s (by rw[rel])⟩)))
 . rename_i xs ys;obtain⟨hl,q⟩:=j5.mp q;cases q;have ry':=ry;rw[rel] at rx ry;obtain⟨a,us,e1,e2,e3⟩:=rx;obtain⟨b,ws,d1,d2,d3⟩:=ry;cases xs with
   | nil =>
    rw[aJ] at e3;subst e3
    exact .inr (.inr (.inr (.inl ⟨a,b,ws,e1,d1,.of e2,.of d2,d1 ▸ P y' ρ H (.refl _ _) s ry'⟩)))
   | cons x r =>
    refine .inr (.inr (.inl ⟨a,b,us,ws,e1,d1,.of e2,.of d2,?_,by rw[<- e3.len,<- d3.len];exact hl,?_⟩))
    . rintro rfl;have:=e3.len;simp at this
    . refine⟨λz=>?_,λ_ p hp=>nQ s (e3.app d3) P p hp⟩;subst z;have:ys=[]:=X3 d3.len;subst this;rw[Vd] at P;exact P _ ρ H (.refl _ _) s (by rw[rel];exact⟨a,us,rfl,e2,e3⟩)
 . split at q
   . rename_i h1 h2;unfold P5 at q;obtain⟨hl,q⟩:=j5.mp q;cases q;obtain⟨a,us,rfl,_,e1,e2⟩:=s.lst h1 rx;obtain⟨b,ws,rfl,_,d1,d2⟩:=s.lst h2 ry;refine .inr (.inl ⟨a,b,us,ws,rfl,rfl,e1,d1,?_,λp hp=>dM s (e2.app d2) P p hp⟩);rw[<- e2.len,<- d2.len];simpa using hl
   . exact nomatch q
 . exact nomatch q⟩
noncomputable def cv(kvs:List (Key × PV))(k:Key):Option PV:=(kvs.find? λkv=>decide (kv.1=k)).map (·.2)
noncomputable def gY(kvs:List (Key × PV))(k:Key)(v:PV):List (Key × PV) :=
 if (kvs.any λkv=>decide (kv.1=k))=true then kvs.map (λkv=>if kv.1=k then(kv.1,v) else kv) else kvs++[(k,v)]
noncomputable def hZ:PV->Option Key
 | .int i=>some (.inl i)
 | .str x=>some (.inr x)
 | _=>none
theorem fK{ρ :List Addr}{H:Hp}{x:PV}{k:Key}{v:V}(e:hZ x=some k)(r:rel K ρ H x v):v=kV k:=by
 cases x<;>simp only[hZ,reduceCtorEq,W0] at e<;>(subst e;rw[rel] at r;exact r)
abbrev RK(K:TV)(ρ :List Addr)(H:Hp)(kvs:List (Key × PV))(kws:List (Key × V)):Prop:=Vh (λ(p:Key × PV) (q:Key × V)=>p.1=q.1/\rel K ρ H p.2 q.2) kvs kws
theorem RK.val{ρ :List Addr}{H:Hp}: ∀{kvs:List (Key × PV)}{kws:List (Key × V)}(k:Key),RK K ρ H kvs kws->match cv kvs k,gQ kws k with
  | some x,some v=>rel K ρ H x v
  | none,none=>True
  | _,_=>False
 | _,_,k,.nil=>trivial
 | _,_,k,.cons (a:=p) (b:=q) r t=>by
  have ih:=RK.val k t;unfold cv gQ at ih ⊢;rw[V3,V3,<- r.1];by_cases e:p.1=k
  . simp only[e,decide_true,V4];exact r.2
  . simp only[e,decide_false];exact ih
theorem RK.some{ρ :List Addr}{H:Hp}{kvs:List (Key × PV)}{kws:List (Key × V)}{k:Key}{x:PV}(r:RK K ρ H kvs kws)(e:cv kvs k=some x): ∃ v,gQ kws k=some v/\rel K ρ H x v:=by
 have:=RK.val k r;rw[e] at this;cases q:gQ kws k with
 | none=>rw[q] at this;exact VN this
 | some v=>rw[q] at this;exact⟨v,rfl,this⟩
theorem RK.is{ρ :List Addr}{H:Hp}{kvs:List (Key × PV)}{kws:List (Key × V)}(k:Key)(r:RK K ρ H kvs kws):(gQ kws k).isSome=(cv kvs k).isSome:=by
 have:=RK.val k r;cases p:cv kvs k<;>cases q:gQ kws k<;>rw[p,q] at this<;>first | rfl | exact VN this
theorem RK.len{ρ :List Addr}{H:Hp}{kvs:List (Key × PV)}{kws:List (Key × V)}(r:RK K ρ H kvs kws):kvs.length=kws.length:=Xh r
theorem RK.any{ρ :List Addr}{H:Hp}: ∀{kvs:List (Key × PV)}{kws:List (Key × V)}(k:Key),RK K ρ H kvs kws->(kws.any λkv=>decide (kv.1=k))=kvs.any λkv=>decide (kv.1=k)
 | _,_,k,.nil=>rfl
 | _,_,k,.cons (a:=p) (b:=q) r t=>by rw[Vl,Vl,RK.any k t,r.1]
theorem RK.DI{ρ :List Addr}{H:Hp}{k:Key}{x:PV}{v:V}(h:rel K ρ H x v): ∀{kvs:List (Key × PV)}{kws:List (Key × V)},RK K ρ H kvs kws->RK K ρ H (kvs.map λkv=>if kv.1=k then(kv.1,x) else kv) (kws.map λkv=>if kv.1=k then(kv.1,v) else kv)
 | _,_,.nil=> .nil
 | _,_,.cons (a:=p) (b:=q) a t=> .cons (by
   show(if p.1=k then(p.1,x) else p).1=(if q.1=k then(q.1,v) else q).1/\rel K ρ H (if p.1=k then(p.1,x) else p).2 (if q.1=k then(q.1,v) else q).2;rw[<- a.1];split
   . exact⟨rfl,h⟩
   . exact a) (RK.DI h t)
theorem RK.snoc{ρ :List Addr}{H:Hp}{k:Key}{x:PV}{v:V}(h:rel K ρ H x v): ∀{kvs:List (Key × PV)}{kws:List (Key × V)},RK K ρ H kvs kws->RK K ρ H (kvs++[(k,x)]) (kws++[(k,v)])
 | _,_,.nil=> .cons ⟨rfl,h⟩ .nil
 | _,_,.cons a t=> .cons a (RK.snoc h t)
theorem RK.put{ρ :List Addr}{H:Hp}{kvs:List (Key × PV)}{kws:List (Key × V)}{k:Key}{x:PV}{v:V}(r:RK K ρ H kvs kws)(h:rel K ρ H x v):RK K ρ H (gY kvs k x) (putK kws k v):=by
 unfold gY putK;rw[RK.any k r];split
 . exact RK.DI h r
 . exact RK.snoc h r
noncomputable def ay:PV->PV->PH->RV PV:=λx y h=>match x with
 | .tup xs=>(match y with
  | .int i=>(match dC xs i with | some v=> .ok v h | none=> .no)
  | _=> .no)
 | .ktup xs=>(match y with
  | .int i=>(match dC xs i with | some v=> .ok v h | none=> .no)
  | _=> .no)
 | .str z=>(match y with
  | .int i=>lI z.length (match dC z.cps.toList i with | some c=> .ok (.str ⟨#[c]⟩) h | none=> .no)
  | _=> .no)
 | .ref n=>(match h[n]? with
  | some (.dct kvs)=>(match hZ y with
   | some k=>(match cv kvs k with | some v=> .ok v h | none=> .no)
   | none=> .no)
  | some (.lst xs)=>(match y with
   | .int i=>(match dC xs i with | some v=> .ok v h | none=> .no)
   | _=> .no)
  | some (.kD xs)=>(match y with
   | .int i=>(match dC xs i with | some v=> .ok v h | none=> .no)
   | _=> .no)
  | none=> .no)
 | _=> .no
theorem ao.at{ρ :List Addr}{H:Hp}{xs:List PV}{vs:List V}{i:Int}{x:PV}(r:ao K ρ H xs vs)(e:dC xs i=some x): ∃ v,dC vs i=some v/\rel K ρ H x v:=by
 unfold dC at e ⊢;rw[<- r.len];cases q:oM xs.length i with
 | none=>rw[q] at e;exact nomatch e
 | some j =>
  rw [q] at e
  exact r.get e
noncomputable def TH:R2:=λx y H Q=> ∃ a v,x= .ref a∧jE H a y (some v)∧Q v H
theorem zO (hu : X.A.units + 1 < cLine) : AA X TH := by
  intro value slice pins s σ H x y v u Q I rx ry h hs;obtain ⟨a, w, rfl, g, q⟩ := h;obtain rfl : v = Ux a := rx;have hT : s.TypeIs (.ref a) "dict" := vw I g;unfold YU;refine TY ?_;rw [ZM hT.not_modules];refine TY (ZE hT YB.lookup ?_);have fin : wpAny (model X.prog X.w) X.A (YF slice false (.ref a) u) (λr s₃ => wpAny (model X.prog X.w) X.A (letTemporaryGo value (.ref a) r >>= λ_ => pure r) (EP X pins σ Q) X.xe s₃) X.xe s := by
    rw [hs];exact wpAny_operating (AQ hu I g ry λw' s' I' r' => TY (ZV (Ud ⟨w, H, I', r', q⟩)))
  first
    | exact Ud (TY fin)
    | exact TY (Ud (TY fin))
    | exact TY fin
theorem cV.hu{X:Cx}{pg:Tb}{k:Nat}(A:cV X pg k):X.A.units+1 < cLine:=Om A.room
theorem Sy:cV X pg k-> ∃ r,AA X r/\m8 X.K r ay:=λA=>⟨_,NF.or (zO A.hu),fun ρ h H x y x' y' Q v h' s rx ry q P=>by
 cases x with
 | tup xs =>
  cases y with
  | int i =>
   simp only[ay] at q
   split at q
   . rename_i w e;cases q;obtain⟨a,vs,rfl,z,r⟩:=rel.seq (x:= .tup xs) rfl rx;obtain⟨u,e1,e2⟩:=r.at e;rw[rel] at ry;exact .inl (.inr (.inl ⟨a,vs,i,u,rfl,ry,z,e1,P _ ρ H (.refl _ _) s e2⟩))
   . exact nomatch q
  | _=>exact nomatch q
 | ktup xs =>
  cases y with
  | int i =>
   simp only[ay] at q
   split at q
   . rename_i w e;cases q;obtain⟨a,vs,rfl,z,r⟩:=rel.seq (x:= .ktup xs) rfl rx;obtain⟨u,e1,e2⟩:=r.at e;rw[rel] at ry;exact .inl (.inr (.inl ⟨a,vs,i,u,rfl,ry,z,e1,P _ ρ H (.refl _ _) s e2⟩))
   . exact nomatch q
  | _=>exact nomatch q
 | str z =>
  cases y with
  | int i =>
   simp only[ay] at q
   obtain⟨hl,q⟩:=j5.mp q
   split at q
   . rename_i c e;cases q;rw[rel] at ry;rw[rel] at rx;exact .inl (.inr (.inr ⟨z,i,c,rx,ry,hl,e,P _ ρ H (.refl _ _) s (by rw[rel])⟩))
   . exact nomatch q
  | _=>exact nomatch q
 | ref n =>
  simp only[ay] at q
  split at q
  . rename_i kvs e;split at q
    . rename_i key ek;split at q
      . rename_i w ew;cases q;rw[rel] at rx;obtain⟨a,ea,rfl⟩:=rx;obtain⟨kws,e1,e2⟩:=s.ob n _ a e ea;obtain⟨u,e3,e4⟩:=RK.some e2 ew;have:=fK ek ry;subst this;exact .inr ⟨a,u,rfl,e3 ▸ jE.k (k:=key) e1,P _ ρ H (.refl _ _) s e4⟩
      . exact nomatch q
    . exact nomatch q
  . rename_i xs e;cases y with
    | int i =>
     simp only at q
     split at q
     . rename_i w ew;cases q;obtain⟨a,vs,rfl,_,z,r⟩:=s.lst e rx;obtain⟨u,e1,e2⟩:=r.at ew;rw[rel] at ry;exact .inl (.inl ⟨a,vs,i,u,rfl,ry,.of z,e1,P _ ρ H (.refl _ _) s e2⟩)
     . exact nomatch q
    | _=>exact nomatch q
  . rename_i xs e;cases y with
    | int i =>
     simp only at q
     split at q
     . rename_i w ew;cases q;obtain⟨a,vs,rfl,_,z,r⟩:=s.kD e rx;obtain⟨u,e1,e2⟩:=r.at ew;rw[rel] at ry;exact .inl (.inl ⟨a,vs,i,u,rfl,ry,z,e1,P _ ρ H (.refl _ _) s e2⟩)
     . exact nomatch q
    | _=>exact nomatch q
  . exact nomatch q
 | _=>exact nomatch q⟩
theorem N3{f:PV->PV->PH->RV PV}{a b:Expr}{ma mb:ME}{pos:Pos}(hr:cV X pg k-> ∃ r,AA X r/\m8 X.K r f)(ha:JE X pg k a ma)(hb:JE X pg k b mb)(hs:sQ b):JE X pg k (.Subscript a b pos) (aj f ma mb):=⟨λA =>
 let ⟨_,q1,s1⟩:=ha.h A;let ⟨_,q2,s2⟩:=hb.h A;let ⟨_,q,s⟩:=hr A;⟨_,P6 q q1 q2 hs,y6 s s1 s2⟩⟩
noncomputable def dZ:PV->PV->PV->PH->RV Unit:=λx y v h=>match x with
 | .ref n=>(match h[n]? with
  | some (.dct kvs)=>(match hZ y with
   | some k=>if kvs.length < sizeLine then .ok () (h.set n (.dct (gY kvs k v))) else .no
   | none=> .no)
  | some (.lst xs)=>(match y with
   | .int i=>(match oM xs.length i with | some j=> .ok () (h.set n (.lst (xs.set j v))) | none=> .no)
   | _=> .no)
  | _=> .no)
 | _=> .no
noncomputable def O9:Dk:=λo i v H Q=> ∃ a H',o= .ref a/\w9 H a i v H'/\Q H'
theorem set_dict(hu:X.A.units+1 < cLine):qI X O9:=by
 intro pins s σ H o i v ov iv u Q I ro ri rv h;obtain⟨a,H',rfl,g,q⟩:=h;obtain rfl:ov=Ux a:=ro;exact zp hu I g ri rv λs' I'=>⟨H',I',q⟩
theorem qI.or{t t':Dk}(h:qI X t)(h':qI X t'):qI X (λo i v H Q=>t o i v H Q\/t' o i v H Q):=by
 intro pins s σ H o i v ov iv u Q I ro ri rv q;rcases q with q | q
 . exact h pins s σ H o i v ov iv u Q I ro ri rv q
 . exact h' pins s σ H o i v ov iv u Q I ro ri rv q
theorem Pe:cV X pg k-> ∃ t,qI X t/\ ∀ ρ h H x y v x' y' v' u h' Q,c7 X.K ρ h H->rel X.K ρ H x x'->rel X.K ρ H y y'->rel X.K ρ H v v'->dZ x y v h= .ok u h'->mY X.K ρ H h' Q->t x' y' v' H Q:=λA =>
 ⟨_,qI.or set_list (set_dict A.hu),fun ρ h H x y v x' y' v' u h' Q s rx ry rv q P=>by
 cases x with
 | ref n =>
  simp only[dZ] at q
  rw[rel] at rx
  obtain⟨a,ea,rfl⟩:=rx
  split at q
  . rename_i kvs e;split at q
    . rename_i key ek;split at q
      . rename_i hl;cases q;obtain⟨kws,e1,e2⟩:=s.ob n _ a e ea;have:=fK ek ry;subst this;refine .inr ⟨a,_,rfl,w9.k e1 (by rw[<- RK.len e2];exact hl),?_⟩;have g:Gr ρ H ρ (upd H a (.dK (putK kws key v'))):=Gr.write (.inr ⟨_,e1⟩);exact P ρ _ g (s.write e ea rfl rfl ⟨_,ba,Paired.jC g (RK.put e2 rv)⟩)
      . exact nomatch q
    . exact nomatch q
  . rename_i xs e;cases y with
    | int i =>
     simp only at q
     split at q
     . rename_i j ej;cases q;obtain⟨vs,e1,e2⟩:=s.ob n _ a e ea;rw[rel] at ry;have g:Gr ρ H ρ (upd H a (.lst (vs.set j v'))):=Gr.write (.inl ⟨_,e1⟩);exact .inl ⟨a,vs,i,j,rfl,ry,e1,by rw[<- e2.len];exact ej,P ρ _ g (s.write e ea rfl rfl ⟨_,ba,ao.gr g _ _ (e2.set j rv)⟩)⟩
     . exact nomatch q
    | _=>exact nomatch q
  . exact nomatch q
 | _=>exact nomatch q⟩
end
mutual
def bV(K:TV)(H:Hp):V1->V->Prop
 | .none,v=>v= .non
 | .bool b,v=>v= .bl b
 | .int i,v=>v= .int i
 | .str x,v=>v= .str x
 | .list xs,v=> ∃ a vs,v= .ref a/\iF K H a vs/\gp K H xs vs
 | .tuple xs,v=> ∃ a vs,v= .ref a/\fc K H a vs/\gp K H xs vs
 | .dict _,_=>False
def gp(K:TV)(H:Hp):List V1->List V->Prop
 | [],vs=>vs=[]
 | x::r,vs=> ∃ v t,vs=v::t/\bV K H x v/\gp K H r t
end
mutual
theorem bV.reads{X:Cx}{pins:List (Addr × Obj)}{σ :L2.St}{H:Hp}{s:T7}(I:Inv X pins σ H s): ∀(d:V1)(v:V)(u:Value),bV X.K H d v->RelV v u-> ∃ as,Reads s.heap u d as
 | .none,v,u,h,r=>by rw[bV] at h;subst h;cases(show u=Wc from r);exact⟨_,.none⟩
 | .bool b,v,u,h,r=>by rw[bV] at h;subst h;cases(show u=XJ b from r);exact⟨_,.bool b⟩
 | .int i,v,u,h,r=>by rw[bV] at h;subst h;obtain⟨t,rfl⟩:=(show ∃ t,u=W7 i t from r);exact⟨_,.int i t⟩
 | .str x,v,u,h,r=>by rw[bV] at h;subst h;obtain⟨t,rfl⟩:=(show ∃ t,u=XI x t from r);exact⟨_,.str x t⟩
 | .list xs,v,u,h,r=>by
  rw[bV] at h;obtain⟨a,vs,rfl,z,q⟩:=h;cases(show u=Ux a from r);obtain⟨ai,rv,⟨o,n,e,c,_,dd⟩,_⟩:=I.list z;obtain⟨as,ra⟩:=gp.reads I xs vs ai q rv;exact⟨_,.list e c dd (by simpa using ra)⟩
 | .tuple xs,v,u,h,r=>by
  rw[bV] at h;obtain⟨a,vs,rfl,z,q⟩:=h;cases(show u=Ux a from r);obtain⟨ai,rv,⟨o,e,c,n,dd⟩,_⟩:=I.tuple z;obtain⟨as,ra⟩:=gp.reads I xs vs ai q rv;exact⟨_,.tuple e c dd (by simpa using ra)⟩
 | .dict _,v,u,h,r=>by rw[bV] at h;exact h.elim
theorem gp.reads{X:Cx}{pins:List (Addr × Obj)}{σ :L2.St}{H:Hp}{s:T7}(I:Inv X pins σ H s): ∀(xs:List V1)(vs:List V)(us:List Value),gp X.K H xs vs->Vals vs us-> ∃ as,ReadsAll s.heap us xs as
 | [],vs,us,h,r=>by rw[gp] at h;subst h;cases r;exact⟨_,.nil⟩
 | x::t,vs,us,h,r=>by
  rw[gp] at h;obtain⟨v,w,rfl,h1,h2⟩:=h;cases r with
  | cons r1 r2 =>
   obtain⟨as,a⟩:=bV.reads I x v _ h1 r1
   obtain⟨bs,b⟩:=gp.reads I t w _ h2 r2
   exact⟨_,.cons a b⟩
end
mutual
def ir(sub:Nat->Option V1):PV->Option V1
 | .non=>some .none
 | .bl b=>some (.bool b)
 | .int i=>some (.int i)
 | .str x=>some (.str x)
 | .tup xs=>(bK sub xs).map .tuple
 | .ktup xs=>(bK sub xs).map .tuple
 | .ref n=>sub n
 | .ty _=>none
def bK(sub:Nat->Option V1):List PV->Option (List V1)
 | []=>some []
 | x::r=>match ir sub x,bK sub r with
  | some d1,some ds1=>some (d1::ds1)
  | _,_=>none
end
noncomputable def dat:Nat->PH->PV->Option V1
 | 0,_=>ir λ_=>none
 | n+1,h=>ir λm=>match h[m]? with
  | some (.lst xs)=>(bK (λj=>dat n h (.ref j)) xs).map .list
  | some (.kD xs)=>(bK (λj=>dat n h (.ref j)) xs).map .list
  | _=>none
mutual
theorem ir.v{K:TV}{ρ :List Addr}{H:Hp}{sub:Nat->Option V1}(hs: ∀ n d v,sub n=some d->rel K ρ H (.ref n) v->bV K H d v): ∀(x:PV)(d:V1)(v:V),ir sub x=some d->rel K ρ H x v->bV K H d v
 | .non,d,v,e,r=>by cases e;rw[rel] at r;rw[bV];exact r
 | .bl b,d,v,e,r=>by cases e;rw[rel] at r;rw[bV];exact r
 | .int b,d,v,e,r=>by cases e;rw[rel] at r;rw[bV];exact r
 | .str b,d,v,e,r=>by cases e;rw[rel] at r;rw[bV];exact r
 | .ty b,d,v,e,r=>by exact nomatch e
 | .ref n,d,v,e,r=>hs n d v e r
 | .tup xs,d,v,e,r=>by
  rw[ir] at e;cases q:bK sub xs with
  | none=>rw[q] at e;exact nomatch e
  | some ds =>
   rw[q] at e;cases e
   obtain⟨a,vs,e1,e2,e3⟩:=rel.seq (x:= .tup xs) rfl r
   rw[bV];exact⟨a,vs,e1,e2,bK.v hs xs ds vs q e3⟩
 | .ktup xs,d,v,e,r=>by
  rw[ir] at e;cases q:bK sub xs with
  | none=>rw[q] at e;exact nomatch e
  | some ds =>
   rw[q] at e;cases e
   obtain⟨a,vs,e1,e2,e3⟩:=rel.seq (x:= .ktup xs) rfl r
   rw[bV];exact⟨a,vs,e1,e2,bK.v hs xs ds vs q e3⟩
theorem bK.v{K:TV}{ρ :List Addr}{H:Hp}{sub:Nat->Option V1}(hs: ∀ n d v,sub n=some d->rel K ρ H (.ref n) v->bV K H d v): ∀(xs:List PV)(ds:List V1)(vs:List V),bK sub xs=some ds->ao K ρ H xs vs->gp K H ds vs
 | [],ds,vs,e,r=>by cases e;rw[ao] at r;rw[gp];exact r
 | x::t,ds,vs,e,r=>by
  rw[bK] at e;split at e
  . rename_i d ds' e1 e2;cases e;obtain⟨v,w,rfl,r1,r2⟩:=az.mp r;rw[gp];exact⟨v,w,rfl,ir.v hs x d v e1 r1,bK.v hs t ds' w e2 r2⟩
  . exact nomatch e
end
theorem dat.v{K:TV}{ρ :List Addr}{h:PH}{H:Hp}(s:c7 K ρ h H): ∀(n:Nat)(x:PV)(d:V1)(v:V),dat n h x=some d->rel K ρ H x v->bV K H d v
 | 0,x,d,v,e,r=>ir.v (λ_ _ _ z _=>by cases z) x d v e r
 | n+1,x,d,v,e,r=>by
  refine ir.v (λm d' v' z rv=>?_) x d v e r;split at z
  . rename_i xs em;cases q:bK (λj=>dat n h (.ref j)) xs with
    | none=>rw[q] at z;exact nomatch z
    | some ds =>
     rw[q] at z;cases z
     obtain⟨a,vs,e1,_,e2,e3⟩:=s.lst em rv
     rw[bV];exact⟨a,vs,e1,.of e2,bK.v (λj d v z rv=>dat.v s n (.ref j) d v z rv) xs ds vs q e3⟩
  . rename_i xs em;cases q:bK (λj=>dat n h (.ref j)) xs with
    | none=>rw[q] at z;exact nomatch z
    | some ds =>
     rw[q] at z;cases z
     obtain⟨a,vs,e1,_,e2,e3⟩:=s.kD em rv
     rw[bV];exact⟨a,vs,e1,e2,bK.v (λj d v z rv=>dat.v s n (.ref j) d v z rv) xs ds vs q e3⟩
  . exact nomatch z
section
variable{K:TV}{X:Cx}{pg:Tb}{k:Nat}
noncomputable def Pl(K:TV)(f:Bool->Bool):R2:=λx y H Q=> ∃ d d',bV K H d x/\bV K H d' y/\d.canLay0=true/\d'.canLay0=true/\min d.depth d'.depth<=64/\Q (.bl (f (V5 d d'))) H
theorem Mm(hr:X.A.units+64 < cLine):cW X (UK .Eq) (Pl X.K id):=by
 intro pins s σ H x y v u Q I rx ry ⟨d,d',h1,h2,c1,c2,hd,q⟩;obtain⟨as,ra⟩:=bV.reads I d x v h1 rx;obtain⟨bs,rb⟩:=bV.reads I d' y u h2 ry;exact SeqAt.compareEq_reads ra rb c1 c2 (by omega) ⟨.bl _,H,I,rfl,q⟩
theorem JC(hr:X.A.units+64 < cLine):cW X (UK .NotEq) (Pl X.K not):=by
 intro pins s σ H x y v u Q I rx ry ⟨d,d',h1,h2,c1,c2,hd,q⟩;obtain⟨as,ra⟩:=bV.reads I d x v h1 rx;obtain⟨bs,rb⟩:=bV.reads I d' y u h2 ry;exact SeqAt.compareNe_reads ra rb c1 c2 (by omega) ⟨.bl _,H,I,rfl,q⟩
noncomputable def iI:PV->PV->Bool
 | .non,.non=>true | .non,.int _=>true | .int _,.non=>true | .non,.bl _=>true | .bl _,.non=>true | .non,.str _=>true | .str _,.non=>true
 | .int _,.int _=>true | .bl _,.bl _=>true | .str _,.str _=>true
 | .int _,.str _=>true | .str _,.int _=>true | .bl _,.str _=>true | .str _,.bl _=>true
 | _,_=>false
noncomputable def fG(h:PH):PV->Bool
 | .ref n=>(match h[n]? with
  | some (.dct _)=>true
  | _=>false)
 | _=>false
noncomputable def isStr:PV->Bool
 | .str _=>true
 | _=>false
noncomputable def alike(x y:PV)(h:PH):Option Bool :=
 if iI x y=true then some (decide (x=y)) else match dat 6 h x,dat 6 h y with
  | some a,some b=>if a.canLay0=true/\b.canLay0=true/\min a.depth b.depth<=64 then some (V5 a b) else none
  | _,_=>if fG h x=true/\isStr y=true then some false else none
noncomputable def ki(x y:PV)(h:PH):RV PV:=match alike x y h with
 | some b=> .ok (.bl b) h
 | none=> .no
noncomputable def gu (x y:PV) (h:PH):RV PV:=match alike x y h with
 | some b=>if fG h x=true then .no else .ok (.bl (!b)) h
 | none=> .no
theorem DL {ρ : List Addr} {H : Hp} {x y : PV} {x' y' : V} (h : iI x y = true) (rx : rel K ρ H x x') (ry : rel K ρ H y y') : CN x' y' = true /\ decide (x' = y') = decide (x = y) := by
  cases x <;> cases y <;> first
    | (exfalso; revert h; simp [iI]; done)
    | (rw [rel] at rx; rw [rel] at ry; subst rx; subst ry; simp [CN])
theorem oO{ρ :List Addr}{h:PH}{H:Hp}{x y:PV}{x' y':V}{b:Bool}(s:c7 K ρ h H)(rx:rel K ρ H x x')(ry:rel K ρ H y y')(e:alike x y h=some b) :
  (CN x' y'=true/\b=decide (x'=y'))\/(∃ d d',bV K H d x'/\bV K H d' y'/\d.canLay0=true/\d'.canLay0=true/\min d.depth d'.depth<=64/\b=V5 d d') \/
  (fG h x=true/\b=false/\ ∃ p z,x'= .ref p/\y'= .str z/\ ∃ kvs,H p=some (.dK kvs)):=by
 unfold alike at e;split at e
 . rename_i hs;cases e;obtain⟨z,w⟩:=DL hs rx ry;exact .inl ⟨z,w.symm⟩
 . split at e
   . rename_i a c e1 e2;split at e
     . rename_i hc;cases e;exact .inr (.inl ⟨a,c,dat.v s 6 x a x' e1 rx,dat.v s 6 y c y' e2 ry,hc.1,hc.2.1,hc.2.2,rfl⟩)
     . exact nomatch e
   . split at e
     . rename_i hc;cases e;refine .inr (.inr ⟨hc.1,rfl,?_⟩);obtain⟨c1,c2⟩:=hc;cases x with
       | ref n =>
        cases y with
        | str z =>
         rw[rel] at ry
         rw[rel] at rx
         obtain⟨a,ea,rfl⟩:=rx
         simp only[fG] at c1
         split at c1
         . rename_i kvs en;obtain⟨kws,e1,_⟩:=s.ob n _ a en ea;exact⟨a,z,rfl,ry,kws,e1⟩
         . exact nomatch c1
        | _=>exact nomatch c2
       | _=>exact nomatch c1
     . exact nomatch e
theorem Sh:cV X pg k-> ∃ r,cW X (UK .Eq) r/\m8 X.K r ki:=λA=>⟨_,QB.or ((Mm A.room.units).or (F8 A.room.NH)),fun ρ h H x y x' y' Q v h' s rx ry q P=>by
 unfold ki at q;split at q
 . rename_i b e;cases q;have fin:Q (.bl b) H:=P _ ρ H (.refl _ _) s (by rw[rel]);rcases oO s rx ry e with⟨z,rfl⟩ | ⟨d,d',h1,h2,h3,h4,h5,rfl⟩ | ⟨_,rfl,p,z,e1,e2,kvs,e3⟩
   . exact .inl ⟨z,fin⟩
   . exact .inr (.inl ⟨d,d',h1,h2,h3,h4,h5,fin⟩)
   . exact .inr (.inr ⟨p,z,e1,e2,.inr (.inr ⟨kvs,e3⟩),fin⟩)
 . exact nomatch q⟩
theorem So:cV X pg k-> ∃ r,cW X (UK .NotEq) r/\m8 X.K r gu:=λA=>⟨_,OV.or (JC A.room.units),fun ρ h H x y x' y' Q v h' s rx ry q P=>by
 unfold gu at q;split at q
 . rename_i b e;split at q
   . exact nomatch q
   . rename_i hd;cases q;have fin:Q (.bl (!b)) H:=P _ ρ H (.refl _ _) s (by rw[rel]);rcases oO s rx ry e with⟨z,rfl⟩ | ⟨d,d',h1,h2,h3,h4,h5,rfl⟩ | ⟨z,_⟩
     . exact .inl ⟨z,fin⟩
     . exact .inr ⟨d,d',h1,h2,h3,h4,h5,fin⟩
     . exact absurd z hd
 . exact nomatch q⟩
noncomputable def Pf(K:TV)(f:Bool->Bool):R2:=λx y H Q=> ∃ p vs xs d,y= .ref p/\(iF K H p vs\/fc K H p vs)/\gp K H xs vs/\bV K H d x/\U0 xs=true/\d.canLay0=true/\min (Vt xs) d.depth<=60/\Q (.bl (f (xs.any λz=>V5 z d))) H
theorem Ko(hr:X.A.units+64 < cLine):cW X (UK .In) (Pf X.K id):=by
 intro pins s σ H x y v u Q I rx ry ⟨p,vs,xs,d,e,hq,h1,h2,c1,c2,hd,q⟩;subst e;obtain⟨bs,rb⟩:=bV.reads I d x v h2 rx;rcases hq with hq | hq
 . obtain⟨as,ra⟩:=bV.reads I (.list xs) (.ref p) u (by rw[bV];exact⟨p,vs,rfl,hq,h1⟩) ry;exact SeqAt.in_list_reads ra rb c1 c2 (by omega) ⟨.bl _,H,I,rfl,q⟩
 . obtain⟨as,ra⟩:=bV.reads I (.tuple xs) (.ref p) u (by rw[bV];exact⟨p,vs,rfl,hq,h1⟩) ry;exact SeqAt.in_tuple_reads ra rb c1 c2 (by omega) ⟨.bl _,H,I,rfl,q⟩
theorem zK(hr:X.A.units+64 < cLine):cW X (UK .NotIn) (Pf X.K not):=by
 intro pins s σ H x y v u Q I rx ry ⟨p,vs,xs,d,e,hq,h1,h2,c1,c2,hd,q⟩;subst e;obtain⟨bs,rb⟩:=bV.reads I d x v h2 rx;rcases hq with hq | hq
 . obtain⟨as,ra⟩:=bV.reads I (.list xs) (.ref p) u (by rw[bV];exact⟨p,vs,rfl,hq,h1⟩) ry;exact SeqAt.notIn_list_reads ra rb c1 c2 (by omega) ⟨.bl _,H,I,rfl,q⟩
 . obtain⟨as,ra⟩:=bV.reads I (.tuple xs) (.ref p) u (by rw[bV];exact⟨p,vs,rfl,hq,h1⟩) ry;exact SeqAt.notIn_tuple_reads ra rb c1 c2 (by omega) ⟨.bl _,H,I,rfl,q⟩
noncomputable def QV(f:Bool->Bool):R2:=λx y H Q=> ∃ a o,y= .ref a/\jE H a x o/\Q (.bl (f o.isSome)) H
theorem Mu(hu:X.A.units+1 < cLine):cW X (UK .In) (QV id):=by
 intro pins s σ H x y v u Q I rx ry ⟨a,o,e,g,q⟩;subst e;obtain rfl:u=Ux a:=ry;exact RH hu I g rx λs' I'=>⟨.bl _,H,I',rfl,q⟩
theorem Af(hu:X.A.units+1 < cLine):cW X (UK .NotIn) (QV not):=by
 intro pins s σ H x y v u Q I rx ry ⟨a,o,e,g,q⟩;subst e;obtain rfl:u=Ux a:=ry;exact Fb hu I g rx λs' I'=>⟨.bl _,H,I',rfl,q⟩
noncomputable def itemsOf(h:PH):PV->Option (List PV)
 | .tup xs=>some xs
 | .ktup xs=>some xs
 | .ref n=>cP h n
 | _=>none
theorem c7.items{ρ :List Addr}{h:PH}{H:Hp}(s:c7 K ρ h H){x:PV}{xs:List PV}{v:V}(e:itemsOf h x=some xs)(r:rel K ρ H x v): ∃ a vs,v= .ref a/\(iF K H a vs\/fc K H a vs)/\ao K ρ H xs vs:=by
 cases x with
 | tup ys=>cases e;obtain⟨a,vs,e1,e2,e3⟩:=rel.seq (x:= .tup xs) rfl r;exact⟨a,vs,e1,.inr e2,e3⟩
 | ktup ys=>cases e;obtain⟨a,vs,e1,e2,e3⟩:=rel.seq (x:= .ktup xs) rfl r;exact⟨a,vs,e1,.inr e2,e3⟩
 | ref n=>obtain⟨a,vs,e1,_,e2,e3⟩:=s.sq e r;exact⟨a,vs,e1,.inl e2,e3⟩
 | _=>exact nomatch e
noncomputable def dY:PV->Bool
 | .non=>true
 | .bl _=>true
 | .int _=>true
 | .str _=>true
 | _=>false
noncomputable def Hd:PV->PV->Bool
 | .non,.non=>true
 | .bl a,.bl b=>a == b
 | .bl a,.int b=>(if a then 1 else 0) == b
 | .int a,.bl b=>a == (if b then 1 else 0)
 | .int a,.int b=>a == b
 | .str a,.str b=>a == b
 | _,_=>false
theorem vG {ρ :List Addr} {H:Hp} {x:PV} {v:V} (h:dY x=true) (r:rel K ρ H x v):iJ v=true:=by
 cases x<;>first | (exfalso;revert h;simp [dY];done) | (rw [rel] at r;subst r;rfl)
theorem FU {ρ : List Addr} {H : Hp} {x y : PV} {v w : V} (hx : dY x = true) (hy : dY y = true) (rx : rel K ρ H x v) (ry : rel K ρ H y w) : GJ v w = Hd x y := by
  cases x <;> first
    | (exfalso; revert hx; simp [dY]; done)
    | (cases y <;> first
        | (exfalso; revert hy; simp[dY]; done)
        | (rw[rel] at rx; rw[rel] at ry; subst rx; subst ry; rfl))
theorem Io{ρ :List Addr}{H:Hp}{x:PV}{v:V}(hx:dY x=true)(rx:rel K ρ H x v): ∀{xs:List PV}{vs:List V},xs.all dY=true->ao K ρ H xs vs->vs.all iJ=true/\gU v vs=xs.any λz=>Hd z x
 | [],vs,_,r=>by rw[aJ] at r;subst r;exact⟨rfl,rfl⟩
 | y::t,vs,h,r=>by
  obtain⟨w,u,rfl,r1,r2⟩:=az.mp r;simp only[Ut,WX] at h;obtain⟨a,b⟩:=Io hx rx h.2 r2;refine⟨by rw[WX,vG h.1 r1,a];rfl,?_⟩;unfold gU at b ⊢;rw[Vl,Vl,b,FU h.1 hx r1 rx]
noncomputable def isIn(x y:PV)(h:PH):Option Bool:=match itemsOf h y with
 | some xs=>if (dY x&&xs.all dY)=true then some (xs.any λz=>Hd z x) else(match dat 6 h x,bK (λj=>dat 6 h (.ref j)) xs with
  | some d,some ds=>if U0 ds=true/\d.canLay0=true/\min (Vt ds) d.depth<=60 then some (ds.any λz=>V5 z d) else none
  | _,_=>none)
 | none=>(match y with
  | .ref n=>(match h[n]? with
   | some (.dct kvs)=>(hZ x).map λk=>(cv kvs k).isSome
   | _=>none)
  | .str j=>(match x with
   | .str i=>some (!(WD j i 0 j.length 1).isEmpty)
   | _=>none)
  | _=>none)
noncomputable def ja(x y:PV)(h:PH):RV PV:=match isIn x y h with
 | some b=> .ok (.bl b) h
 | none=> .no
noncomputable def gF(x y:PV)(h:PH):RV PV:=match isIn x y h with
 | some b=> .ok (.bl (!b)) h
 | none=> .no
theorem qS{ρ :List Addr}{h:PH}{H:Hp}{x y:PV}{x' y':V}{b:Bool}(s:c7 K ρ h H)(rx:rel K ρ H x x')(ry:rel K ρ H y y')(e:isIn x y h=some b) :
  (∃ p xs,y'= .ref p/\(iF K H p xs\/fc K H p xs)/\iJ x'=true/\xs.all iJ=true/\b=gU x' xs) \/
  (∃ p vs xs d,y'= .ref p/\(iF K H p vs\/fc K H p vs)/\gp K H xs vs/\bV K H d x'/\U0 xs=true/\d.canLay0=true/\min (Vt xs) d.depth<=60/\b=xs.any λz=>V5 z d) \/
  (∃ a o,y'= .ref a/\jE H a x' o/\b=o.isSome) \/
  (∃ i j,x'= .str i/\y'= .str j/\b= !(WD j i 0 j.length 1).isEmpty):=by
 unfold isIn at e;split at e
 . rename_i xs ei;obtain⟨a,vs,rfl,z,r⟩:=s.items ei ry;split at e
   . rename_i hf;cases e;rw[Ut] at hf;obtain⟨f1,f2⟩:=Io hf.1 rx hf.2 r;exact .inl ⟨a,vs,rfl,z,vG hf.1 rx,f1,f2.symm⟩
   . split at e
     . rename_i d ds e1 e2;split at e
       . rename_i hc;cases e;exact .inr (.inl ⟨a,vs,ds,d,rfl,z,bK.v (λj d v w rv=>dat.v s 6 (.ref j) d v w rv) xs ds vs e2 r,dat.v s 6 x d x' e1 rx,hc.1,hc.2.1,hc.2.2,rfl⟩)
       . exact nomatch e
     . exact nomatch e
 . split at e
   . rename_i n ei;split at e
     . rename_i kvs en;cases q:hZ x with
       | none=>rw[q] at e;exact nomatch e
       | some key =>
        rw[q] at e
        cases e
        rw[rel] at ry
        obtain⟨a,ea,rfl⟩:=ry
        obtain⟨kws,e1,e2⟩:=s.ob n _ a en ea
        have:=fK q rx
        subst this
        exact .inr (.inr (.inl ⟨a,_,rfl,jE.k (k:=key) e1,(RK.is key e2).symm⟩))
     . exact nomatch e
   . split at e
     . cases e;rw[rel] at rx;rw[rel] at ry;exact .inr (.inr (.inr ⟨_,_,rx,ry,rfl⟩))
     . exact nomatch e
   . exact nomatch e
theorem RZ:cV X pg k-> ∃ r,cW X (UK .In) r/\m8 X.K r ja:=λA=>⟨_,Ae.or ((Ko A.room.units).or ((Mu A.hu).or AS)),fun ρ h H x y x' y' Q v h' s rx ry q P=>by
 unfold ja at q;split at q
 . rename_i b e;cases q;have fin:Q (.bl b) H:=P _ ρ H (.refl _ _) s (by rw[rel]);rcases qS s rx ry e with⟨p,xs,e1,e2,e3,e4,rfl⟩ | ⟨p,vs,xs,d,e1,e2,e3,e4,e5,e6,e7,rfl⟩ | ⟨a,o,e1,e2,rfl⟩ | ⟨i,j,e1,e2,rfl⟩
   . exact .inl ⟨p,xs,e1,e2,e3,e4,fin⟩
   . exact .inr (.inl ⟨p,vs,xs,d,e1,e2,e3,e4,e5,e6,e7,fin⟩)
   . exact .inr (.inr (.inl ⟨a,o,e1,e2,fin⟩))
   . exact .inr (.inr (.inr ⟨i,j,e1,e2,fin⟩))
 . exact nomatch q⟩
theorem Hy:cV X pg k-> ∃ r,cW X (UK .NotIn) r/\m8 X.K r gF:=λA=>⟨_,tj.or ((zK A.room.units).or ((Af A.hu).or sW)),fun ρ h H x y x' y' Q v h' s rx ry q P=>by
 unfold gF at q;split at q
 . rename_i b e;cases q;have fin:Q (.bl (!b)) H:=P _ ρ H (.refl _ _) s (by rw[rel]);rcases qS s rx ry e with⟨p,xs,e1,e2,e3,e4,rfl⟩ | ⟨p,vs,xs,d,e1,e2,e3,e4,e5,e6,e7,rfl⟩ | ⟨a,o,e1,e2,rfl⟩ | ⟨i,j,e1,e2,rfl⟩
   . exact .inl ⟨p,xs,e1,e2,e3,e4,fin⟩
   . exact .inr (.inl ⟨p,vs,xs,d,e1,e2,e3,e4,e5,e6,e7,fin⟩)
   . exact .inr (.inr (.inl ⟨a,o,e1,e2,fin⟩))
   . exact .inr (.inr (.inr ⟨i,j,e1,e2,fin⟩))
 . exact nomatch q⟩
noncomputable def ee(neg:Bool)(x:PV)(h:PH):RV PV:= .ok (.bl (if neg then !decide (x= .non) else decide (x= .non))) h
theorem Hq{ρ :List Addr}{H:Hp}{x:PV}{v:V}(r:rel K ρ H x v):decide (v= .non)=decide (x= .non):=by
 cases x with
 | non=>rw[rel] at r;subst r;rfl
 | bl=>rw[rel] at r;subst r;rfl
 | int=>rw[rel] at r;subst r;rfl
 | str=>rw[rel] at r;subst r;rfl
 | ty=>rw[rel] at r;subst r;rfl
 | tup=>rw[rel] at r;obtain⟨a,_,rfl,_⟩:=r;rfl
 | ktup=>rw[rel] at r;obtain⟨a,_,rfl,_⟩:=r;rfl
 | ref=>rw[rel] at r;obtain⟨a,_,rfl⟩:=r;rfl
variable{a:Expr}{ma:ME}{pos pos':Pos}
theorem w6{c:CF}{ta:TE}(neg:Bool)(s1:SE c K ta ma):SE c K (fun σ H Q=>ta σ H λx H1=>Q (.bl (if neg then !decide (x= .non) else decide (x= .non))) H1) (rO (ee neg) ma):=fun ρ h H e σ Q v h' s r q P=>by
 obtain⟨x,h1,e1,q⟩:=bind_eq.mp q;cases q;refine s1 ρ h H e σ _ x _ s r e1 λx' ρ1 H1 g1 z1 r1=>?_;rw[Hq r1];exact P _ ρ1 H1 g1 z1 (by rw[rel])
theorem Mt{j:Nat}(ha:JE X pg k a ma):JE X pg k (.Compare a [.Is] [.Constant .none j pos'] pos) (rO (ee false) ma):=⟨λA=>let ⟨_,q1,s1⟩:=ha.h A;⟨_,MK q1,w6 false s1⟩⟩
theorem Mv{j:Nat}(ha:JE X pg k a ma):JT X pg k (.Compare a [.Is] [.Constant .none j pos'] pos) (aE (rO (ee false) ma)):=⟨λA=>let ⟨_,q1,s1⟩:=ha.h A;⟨_,LI q1,tP (w6 false s1)⟩⟩
theorem Gv{j:Nat}(ha:JE X pg k a ma):JT X pg k (.Compare a [.IsNot] [.Constant .none j pos'] pos) (aE (rO (ee true) ma)):=⟨λA=>let ⟨_,q1,s1⟩:=ha.h A;⟨_,FC q1,tP (w6 true s1)⟩⟩
end
section
variable{K:TV}{X:Cx}{pg:Tb}{k:Nat}
abbrev MO:=CF->aq->PH->RV (Option Int)
noncomputable def jn:MO:=λ_ _ h=> .ok none h
noncomputable def fO(a:ME):MO:=λc e h=>(a c e h).bind λv h1=>match v with
 | .int i=> .ok (some i) h1
 | _=> .no
noncomputable def gx(xs:List PV)(lo hi:Option Int):List PV:=(xs.drop (HT.cQ xs.length 0 lo)).take (HT.cQ xs.length xs.length hi - HT.cQ xs.length 0 lo)
noncomputable def GP(x:PV)(lo hi:Option Int)(h:PH):RV PV:=match x with
 | .tup xs=> .ok (.tup (gx xs lo hi)) h
 | .ref n=>(match cP h n with
  | some xs=> .ok (.ref h.length) (h++[.lst (gx xs lo hi)])
  | none=> .no)
 | _=> .no
noncomputable def zo(a:ME)(l u:MO):ME:=λc e h=>(a c e h).bind λx h1=>(l c e h1).bind λlo h2=>(u c e h2).bind λhi h3=>GP x lo hi h3
structure JO(X:Cx)(pg:Tb)(k:Nat)(e:Option Expr)(m:MO):Prop where
 h:cV X pg k-> ∃ t,QO X e t/\ ∀ ρ h H e σ Q o h',c7 X.K ρ h H->dU X.K ρ H e σ ->m (run pg k) e h= .ok o h'->mY X.K ρ H h' (Q o)->t σ H Q
theorem HR:JO X pg k none jn:=⟨λA=>⟨_,GL,fun ρ h H e σ Q o h' s r q P=>by cases q;exact P ρ H (.refl _ _) s⟩⟩
theorem GQ{e:Expr}{ma:ME}(ha:JE X pg k e ma):JO X pg k (some e) (fO ma):=⟨λA=>let ⟨_,q1,s1⟩:=ha.h A;⟨_,Hh q1,fun ρ h H e σ Q o h' s r q P=>by
 obtain⟨v,h1,e1,q⟩:=bind_eq.mp q;refine s1 ρ h H e σ _ v h1 s r e1 λv' ρ1 H1 g1 z1 r1=>?_;cases v with
 | int i=>cases q;rw[rel] at r1;exact⟨i,r1,P ρ1 H1 g1 z1⟩
 | _=>exact nomatch q⟩⟩
theorem ao.cut{ρ :List Addr}{H:Hp}{xs:List PV}{vs:List V}(r:ao K ρ H xs vs)(lo hi:Option Int):ao K ρ H (gx xs lo hi) (nG vs lo hi):=by
 unfold gx nG;rw[<- r.len];exact(r.drop _).take _
theorem Ed{e:Expr}{lo hi:Option Expr}{ma:ME}{ml mu:MO}{p2 pos:Pos}(ha:JE X pg k e ma)(hl:JO X pg k lo ml)(hh:JO X pg k hi mu):JE X pg k (.Subscript e (.Slice lo hi none p2) pos) (zo ma ml mu):=⟨λA =>
 let ⟨_,q1,s1⟩:=ha.h A;let ⟨_,q2,s2⟩:=hl.h A;let ⟨_,q3,s3⟩:=hh.h A;⟨_,DM TN q1 q2 q3,fun ρ h H e σ Q v h' s r q P=>by
 obtain⟨x,h1,e1,q⟩:=bind_eq.mp q
 obtain⟨lo,h2,e2,q⟩:=bind_eq.mp q
 obtain⟨hi,h3,e3,q⟩:=bind_eq.mp q
 refine s1 ρ h H e σ _ x h1 s r e1 λx' ρ1 H1 g1 z1 r1=>?_
 refine s2 ρ1 h1 H1 e σ _ lo h2 z1 (r.gr g1) e2 fun ρ2 H2 g2 z2=>?_
 refine s3 ρ2 h2 H2 e σ _ hi h3 z2 (r.gr (g1.trans g2)) e3 fun ρ3 H3 g3 z3=>?_
 have r3:=rel.gr (K:=X.K) (g2.trans g3) _ _ r1
 have P3:=P.gr ((g1.trans g2).trans g3)
 cases x with
 | tup xs =>
  cases q
  rw[rel] at r3
  obtain⟨a,vs,rfl,d1,d2⟩:=r3
  by_cases hw:HT.cQ vs.length 0 lo=0/\HT.cQ vs.length vs.length hi=vs.length
  . refine .inr (.inr ⟨a,vs,rfl,.of d1,hw,P3 _ ρ3 H3 (.refl _ _) z3 ?_⟩);have:gx xs lo hi=xs:=by
     unfold gx;rw[d2.len,hw.1,hw.2,ZY,aaO,<- d2.len,Zf]
    rw[this,rel];exact⟨a,vs,rfl,d1,d2⟩
  . exact .inr (.inl ⟨a,vs,rfl,.of d1,hw,λp hp=>nQ z3 (d2.cut lo hi) P3 p hp⟩)
 | ref n =>
  simp only[GP] at q
  split at q
  . rename_i xs en;cases q;obtain⟨a,vs,rfl,_,d1,d2⟩:=z3.sq en r3;exact .inl ⟨a,vs,rfl,d1,λp hp=>dM z3 (d2.cut lo hi) P3 p hp⟩
  . exact nomatch q
 | _=>exact nomatch q⟩⟩
noncomputable def cx:List PV->PH->RV PV:=λxs h=>match xs with
 | [x]=>(match itemsOf h x with
  | some ys=> .ok (.int ys.length) h
  | none=>(match x with
   | .str z=>lI z.length (.ok (.int z.length) h)
   | .ref n=>(match h[n]? with
    | some (.dct kvs)=> .ok (.int kvs.length) h
    | _=> .no)
   | _=> .no))
 | _=> .no
theorem aO{ρ :List Addr}{H:Hp}{x:PV}{us:List V}(r:ao K ρ H [x] us): ∃ u,us=[u]/\rel K ρ H x u:=by
 obtain⟨v,t,rfl,r1,r2⟩:=az.mp r;rw[aJ] at r2;exact⟨v,by rw[r2],r1⟩
theorem ly{ρ :List Addr}{H:Hp}{x y:PV}{us:List V}(r:ao K ρ H [x,y] us): ∃ u w,us=[u,w]/\rel K ρ H x u/\rel K ρ H y w:=by
 obtain⟨v,t,rfl,r1,r2⟩:=az.mp r;obtain⟨w,rfl,r3⟩:=aO r2;exact⟨v,w,rfl,r1,r3⟩
theorem OH:cV X pg k-> ∃ r,aQ X (.builtin "len") r/\zg X.K r cx:=λA=>⟨_,GA.or zr,fun ρ h H xs us Q v h' s r q P=>by
 unfold cx at q;split at q
 . rename_i x;obtain⟨u,rfl,r1⟩:=aO r;have r:=r1;split at q
   . rename_i ys e;cases q;obtain⟨a,vs,rfl,z,r2⟩:=s.items e r;exact .inl (.inl ⟨a,vs,rfl,z,by rw[<- r2.len];exact P _ ρ H (.refl _ _) s (by rw[rel])⟩)
   . split at q
     . obtain⟨hl,q⟩:=j5.mp q;cases q;rw[rel] at r;subst r;exact .inl (.inr ⟨_,rfl,hl,P _ ρ H (.refl _ _) s (by rw[rel])⟩)
     . split at q
       . rename_i e;cases q;rw[rel] at r;obtain⟨a,ea,rfl⟩:=r;obtain⟨kws,e1,e2⟩:=s.ob _ _ a e ea;exact .inr ⟨a,kws,rfl,e1,by rw[<- RK.len e2];exact P _ ρ H (.refl _ _) s (by rw[rel])⟩
       . exact nomatch q
     . exact nomatch q
 . exact nomatch q⟩
inductive Ty where
 | non | bool | int | str | tuple | list | dict
 deriving DecidableEq
noncomputable def Ty.n:Ty->String
 | .non=> "NoneType" | .bool=> "bool" | .int=> "int" | .str=> "str" | .tuple=> "tuple" | .list=> "list" | .dict=> "dict"
noncomputable def Ty.of:String->Option Ty
 | "bool" =>some .bool | "int" =>some .int | "str" =>some .str | "tuple" =>some .tuple | "list" =>some .list | "dict" =>some .dict
 | _=>none
noncomputable def Ty.PL(a b:Ty):Bool:=decide (a=b)||(decide (a= .bool)&&decide (b= .int))
noncomputable def tyP(h:PH):PV->Option Ty
 | .non=>some .non
 | .bl _=>some .bool
 | .int _=>some .int
 | .str _=>some .str
 | .tup _=>some .tuple
 | .ref n=>(match h[n]? with
  | some (.lst _)=>some .list
  | some (.dct _)=>some .dict
  | _=>none)
 | _=>none
theorem Bq{ρ :List Addr}{h:PH}{H:Hp}{x:PV}{t:Ty}{v:V}(s:c7 K ρ h H)(e:tyP h x=some t)(r:rel K ρ H x v):jF K H v (.type t.n):=by
 cases x with
 | non=>cases e;rw[rel] at r;subst r;exact .non
 | bl b=>cases e;rw[rel] at r;subst r;exact .bl b
 | int i=>cases e;rw[rel] at r;subst r;exact .int i
 | str z=>cases e;rw[rel] at r;subst r;exact .str z
 | tup xs=>cases e;rw[rel] at r;obtain⟨a,vs,rfl,e1,_⟩:=r;exact .tup e1
 | ref n =>
  rw[rel] at r
  obtain⟨a,ea,rfl⟩:=r
  simp only[tyP] at e
  split at e
  . rename_i en;cases e;obtain⟨vs,e1,_⟩:=s.ob n _ a en ea;exact .lst e1
  . rename_i en;cases e;obtain⟨vs,e1,_⟩:=s.ob n _ a en ea;exact .dK e1
  . exact nomatch e
 | _=>exact nomatch e
theorem D5(a b:Ty)(hb:b≠ .non):Yo K (.type a.n) (.type b.n)=some (a.PL b):=by
 cases b<;>first | (exact absurd rfl hb) | (cases a<;>rfl)
theorem Ty.Ol{T:String}{t:Ty}(h:Ty.of T=some t):T=t.n/\t≠ .non:=by
 unfold Ty.of at h;split at h<;>first | (cases h;exact⟨rfl,by decide⟩) | exact nomatch h
noncomputable def yw:List PV->Option (List Ty)
 | []=>some []
 | .ty T::r=>(match Ty.of T,yw r with
  | some t,some ts=>some (t::ts)
  | _,_=>none)
 | _=>none
noncomputable def qm:List PV->PH->RV PV:=λxs h=>match xs with
 | [x,.ty T]=>(match tyP h x,Ty.of T with
  | some a,some b=> .ok (.bl (a.PL b)) h
  | _,_=> .no)
 | [x,.tup ts]=>(match tyP h x,yw ts with
  | some a,some bs=> .ok (.bl (bs.any a.PL)) h
  | _,_=> .no)
 | _=> .no
theorem yH{ρ :List Addr}{H:Hp}: ∀{ts:List PV}{bs:List Ty}{vs:List V},yw ts=some bs->ao K ρ H ts vs->vs=(bs.map Ty.n).map V.ty/\ ∀ b∈bs,b≠ .non
 | [],bs,vs,e,r=>by cases e;rw[aJ] at r;subst r;exact⟨rfl,λ_ m=>by cases m⟩
 | .ty T::t,bs,vs,e,r=>by
  simp only[yw] at e;split at e
  . rename_i b bs' e1 e2;cases e;obtain⟨v,w,rfl,r1,r2⟩:=az.mp r;obtain⟨h1,h2⟩:=yH e2 r2;rw[rel] at r1;obtain⟨n1,n2⟩:=Ty.Ol e1;refine⟨by rw[r1,h1,n1];rfl,λc m=>?_⟩;rcases Ui.mp m with rfl | m
    . exact n2
    . exact h2 c m
  . exact nomatch e
 | .non::_,_,_,e,_=>nomatch e
 | .bl _::_,_,_,e,_=>nomatch e
 | .int _::_,_,_,e,_=>nomatch e
 | .str _::_,_,_,e,_=>nomatch e
 | .tup _::_,_,_,e,_=>nomatch e
 | .ktup _::_,_,_,e,_=>nomatch e
 | .ref _::_,_,_,e,_=>nomatch e
theorem ze(a:Ty): ∀(bs:List Ty),(∀ b∈bs,b≠ .non)->Z2 K (.type a.n) ((bs.map Ty.n).map W3)=some (bs.any a.PL)
 | [],_=>rfl
 | b::r,h=>by
  have h1:=D5 (K:=K) a b (h b Uk);have h2:=ze a r λc m=>h c (Uo _ m);simp only[T9,Vl,Z2,h1,h2];cases a.PL b<;>rfl
theorem Py:cV X pg k-> ∃ r,aQ X (.builtin "isinstance") r/\zg X.K r qm:=λA=>⟨_,B7,fun ρ h H xs us Q v h' s r q P=>by
 unfold qm at q;split at q
 . rename_i x T;split at q
   . rename_i a b e1 e2;cases q;obtain⟨u,w,rfl,r1,r2⟩:=ly r;rw[rel] at r2;subst r2;obtain⟨n1,n2⟩:=Ty.Ol e2;exact .inl ⟨u,T,_,_,rfl,Bq s e1 r1,by rw[n1];exact D5 a b n2,P _ ρ H (.refl _ _) s (by rw[rel])⟩
   . exact nomatch q
 . rename_i x ts;split at q
   . rename_i a bs e1 e2;cases q;obtain⟨u,w,rfl,r1,r2⟩:=ly r;rw[rel] at r2;obtain⟨p,vs,rfl,e3,e4⟩:=r2;obtain⟨h1,h2⟩:=yH e2 e4;subst h1;exact .inr ⟨u,p,_,_,_,rfl,e3,Bq s e1 r1,ze a bs h2,P _ ρ H (.refl _ _) s (by rw[rel])⟩
   . exact nomatch q
 . exact nomatch q⟩
noncomputable def uj:List PV->PH->RV PV:=λxs h=>match xs with
 | [.int i]=> .ok (.int i) h
 | [.bl b]=> .ok (.int (if b then 1 else 0)) h
 | _=> .no
theorem Pd:cV X pg k-> ∃ r,aQ X (.type "int") r/\zg X.K r uj:=λA=>⟨_,Fj,fun ρ h H xs us Q v h' s r q P=>by
 unfold uj at q;split at q
 . cases q;obtain⟨u,rfl,r1⟩:=aO r;have r:=r1;rw[rel] at r;subst r;exact .inl ⟨_,rfl,P _ ρ H (.refl _ _) s (by rw[rel])⟩
 . cases q;obtain⟨u,rfl,r1⟩:=aO r;have r:=r1;rw[rel] at r;subst r;exact .inr ⟨_,rfl,P _ ρ H (.refl _ _) s (by rw[rel])⟩
 . exact nomatch q⟩
noncomputable def bf:List PV->PH->RV PV:=λxs h=>match xs with
 | [.tup ys]=> .ok (.tup ys) h
 | [.ref n]=>(match cP h n with
  | some ys=> .ok (.tup ys) h
  | none=> .no)
 | _=> .no
theorem GY:cV X pg k-> ∃ r,aQ X (.type "tuple") r/\zg X.K r bf:=λA=>⟨_,Fu,fun ρ h H xs us Q v h' s r q P=>by
 unfold bf at q;split at q
 . rename_i ys;cases q;obtain⟨u,rfl,r1⟩:=aO r;have r:=r1;have r':=r;rw[rel] at r;obtain⟨a,vs,rfl,e1,e2⟩:=r;exact⟨a,vs,rfl,.inr ⟨.of e1,P _ ρ H (.refl _ _) s r'⟩⟩
 . split at q
   . rename_i ys e;cases q;obtain⟨u,rfl,r1⟩:=aO r;have r:=r1;obtain⟨a,vs,rfl,_,e1,e2⟩:=s.sq e r;exact⟨a,vs,rfl,.inl ⟨e1,λp hp=>nQ s e2 P p hp⟩⟩
   . exact nomatch q
 . exact nomatch q⟩
noncomputable def y7:List PV->PH->RV PV:=λxs h=>match xs with
 | [x]=>(match itemsOf h x with
  | some ys=> .ok (.ref h.length) (h++[.lst ys])
  | none=> .no)
 | _=> .no
theorem Mz:cV X pg k-> ∃ r,aQ X (.type "list") r/\zg X.K r y7:=λA=>⟨_,sP,fun ρ h H xs us Q v h' s r q P=>by
 unfold y7 at q;split at q
 . split at q
   . rename_i ys e;cases q;obtain⟨u,rfl,r1⟩:=aO r;have r:=r1;obtain⟨a,vs,rfl,z,r2⟩:=s.items e r;exact⟨a,vs,rfl,z,λp hp=>dM s r2 P p hp⟩
   . exact nomatch q
 . exact nomatch q⟩
noncomputable def wA:List PV->Option (List Bool)
 | []=>some []
 | .bl b::r=>(wA r).map (b:: ·)
 | _=>none
theorem yO: ∀{xs:List PV}{bs:List Bool},wA xs=some bs->xs=bs.map PV.bl
 | [],bs,e=>by cases e;rfl
 | .bl b::r,bs,e=>by
  rw[wA] at e;cases q:wA r with
  | none=>rw[q] at e;exact nomatch e
  | some cs=>rw[q] at e;cases e;rw[yO q];rfl
 | .non::_,_,e=>nomatch e
 | .int _::_,_,e=>nomatch e
 | .str _::_,_,e=>nomatch e
 | .tup _::_,_,e=>nomatch e
 | .ktup _::_,_,e=>nomatch e
 | .ref _::_,_,e=>nomatch e
 | .ty _::_,_,e=>nomatch e
theorem yQ{ρ :List Addr}{H:Hp}: ∀{bs:List Bool}{vs:List V},ao K ρ H (bs.map PV.bl) vs->vs=bs.map V.bl
 | [],vs,r=>aJ.mp r
 | b::t,vs,r=>by
  obtain⟨v,w,rfl,r1,r2⟩:=az.mp r;rw[rel] at r1;rw[r1,yQ r2];rfl
noncomputable def yY{α :Type}(g:List PV->Option (List α))(f:List α ->PV):List PV->PH->RV PV:=λxs h=>match xs with
 | [.ref n]=>(match cP h n with
  | some ys=>(match g ys with
   | some bs=> .ok (f bs) h
   | none=> .no)
  | none=> .no)
 | _=> .no
theorem Ew{α :Type}{g:List PV->Option (List α)}{f:List α ->PV}{xs:List PV}{h h':PH}{v:PV}(q:yY g f xs h= .ok v h'): ∃ n ys bs,xs=[.ref n]/\cP h n=some ys/\g ys=some bs/\v=f bs/\h'=h:=by
 unfold yY at q;split at q
 . split at q
   . split at q
     . cases q;exact⟨_,_,_,rfl,by assumption,by assumption,rfl,rfl⟩
     . exact nomatch q
   . exact nomatch q
 . exact nomatch q
noncomputable def HW:=yY wA λbs=> .bl (bs.any id)
theorem PD:cV X pg k-> ∃ r,aQ X (.builtin "any") r/\zg X.K r HW:=λA=>⟨_,callAny A.calm,fun ρ h H xs us Q v h' s r q P=>by
 obtain⟨n,ys,bs,rfl,e1,e2,rfl,rfl⟩:=Ew q;obtain⟨u,rfl,r1⟩:=aO r;have r:=r1;obtain⟨a,vs,rfl,_,z,r2⟩:=s.sq e1 r;rw[yO e2] at r2;exact⟨a,bs,rfl,by rw[yQ r2] at z;exact z,P _ ρ H (.refl _ _) s (by rw[rel])⟩⟩
noncomputable def b6:PV->PH->Bool:=λx h=>match x with
 | .ref n=>(match h[n]? with
  | some (.lst _)=>true
  | _=>false)
 | _=>false
theorem oY{ρ :List Addr}{h:PH}{H:Hp}{x:PV}{v:V}(s:c7 K ρ h H)(r:rel K ρ H x v)(e:b6 x h=true):Ry K "list" v H:=by
 cases x with
 | ref n =>
  simp only[b6] at e
  split at e
  . rename_i en;obtain⟨a,vs,rfl,_,e1,_⟩:=s.lst en r;exact .inl ⟨rfl,vs,.of e1⟩
  . exact nomatch e
 | _=>exact nomatch e
noncomputable def bj:PV->List PV->PH->RV PV:=λx vs h=>match x,vs with
 | .ref n,[v]=>(match h[n]? with
  | some (.lst xs)=>if xs.length < sizeLine then .ok .non (h.set n (.lst (xs++[v]))) else .no
  | _=> .no)
 | _,_=> .no
theorem Cm:cV X pg k-> ∃ r,IG X "list.append" r/\RA X.K "list" r bj b6:=λA=>⟨_,Ab,fun ρ h H x x' s r e=>oY s r e,fun ρ h H x x' xs us Q v h' s rx rs q P=>by
 unfold bj at q;split at q
 . rename_i n y;split at q
   . rename_i ys en;split at q
     . rename_i hl;cases q;obtain⟨a,vs,rfl,ea,e1,e2⟩:=s.lst en rx;obtain⟨u,rfl,r⟩:=aO rs;have g:Gr ρ H ρ (upd H a (.lst (vs++[u]))):=Gr.write (.inl ⟨_,e1⟩);exact⟨a,vs,u,rfl,rfl,e1,by rw[<- e2.len];exact hl,P _ ρ _ g (s.write en ea rfl rfl ⟨_,ba,ao.gr g _ _ (e2.app (ao.one r))⟩) (by rw[rel])⟩
     . exact nomatch q
   . exact nomatch q
 . exact nomatch q⟩
end
section
variable{K:TV}{X:Cx}{pg:Tb}{k:Nat}{tg l:Expr}
theorem t6{pins:List (Addr × Obj)}{σ :L2.St}{H:Hp}{s:T7}(I:Inv X pins σ H s): ∀ b∈[s.heap.objs.size],nB X pins H b:=λb hb=>by
 have e:b=s.heap.objs.size:=by simpa using hb
 subst e;exact I.HM (Ua _) (I.bq.fresh (Ua _))
theorem Em{pins:List (Addr × Obj)}{σ :L2.St}{H:Hp}{s:T7}{R:It->Hp->Prop}{a:Addr}{xs:List V}(I:Inv X pins σ H s)(hq:iF X.K H a xs)(q:R (R8 X.K a) H):wpAny (model X.prog X.w) X.A (aaX (.ref a)) (Oe X pins σ tg R) X.xe s:=by
 obtain⟨ai,rv,p,hz⟩:=I.list hq;exact wpAny_pyIter_list p.isList ⟨s.heap.objs.size,[s.heap.objs.size],_,_,H,rfl,I.kept (t':=s.toks) (λb o e=>T6 _ e),Ax a _,⟨_,Um _ rfl,rfl,rfl⟩,t6 I,q⟩
theorem Ce{pins:List (Addr × Obj)}{σ :L2.St}{H:Hp}{s:T7}{R:It->Hp->Prop}{a:Addr}{xs:List V}(I:Inv X pins σ H s)(hq:fc X.K H a xs)(q:R (CC X.K a) H):wpAny (model X.prog X.w) X.A (aaX (.ref a)) (Oe X pins σ tg R) X.xe s:=by
 obtain⟨ai,rv,p,hz⟩:=I.tuple hq;exact VY (show s.heap.IsTuple a ai.toArray from p) ⟨s.heap.objs.size,[s.heap.objs.size],_,_,H,rfl,I.kept (t':=s.toks) (λb o e=>T6 _ e),wD a _,⟨_,Um _ rfl,rfl,rfl⟩,t6 I,q⟩
theorem Dv{pins:List (Addr × Obj)}{σ :L2.St}{H:Hp}{s:T7}{R:It->Hp->Prop}{z:Str}{t:Tok}(I:Inv X pins σ H s)(q:R (Rm z) H):wpAny (model X.prog X.w) X.A (aaX (.str z t)) (Oe X pins σ tg R) X.xe s:=by
 cases ha:z.cps.all (· < 128)
 . exact wpAny_pyIter_wide ha ⟨s.heap.objs.size,[s.heap.objs.size],_,_,H,rfl,I.kept (t':=s.toks) (λb o e=>T6 _ e),uv z t _ (by decide) (λA' hA=>Walks.strWide hA _ z t) (λ_ _ _ _ _ st h=>wpAny_pyIter_striter_wide st h),⟨_,Um _ rfl,rfl,rfl⟩,t6 I,q⟩
 . exact wpAny_pyIter_ascii ha ⟨s.heap.objs.size,[s.heap.objs.size],_,_,H,rfl,I.kept (t':=s.toks) (λb o e=>T6 _ e),uv z t _ (by decide) (λA' hA=>Walks.strAscii hA _ z t) (λ_ _ _ _ _ st h=>wpAny_pyIter_striter_ascii st h),⟨_,Um _ rfl,rfl,rfl⟩,t6 I,q⟩
noncomputable def QL(K:TV)(tl:TE):TI:=fun σ H R=>tl σ H λx H1=>(∃ a xs,x= .ref a/\iF K H1 a xs/\R (R8 K a) H1)\/(∃ a xs,x= .ref a/\fc K H1 a xs/\R (CC K a) H1)\/ ∃ z,x= .str z/\R (Rm z) H1
theorem Nr{tl:TE}(hl:PE X l tl):PI X tg l (QL X.K tl):=by
 intro pins s σ H R I h;refine cC (hl pins s σ H _ I h) λv s1 ⟨x,H1,I1,r1,q1⟩=>?_;rcases q1 with⟨a,xs,rfl,hq,q⟩ | ⟨a,xs,rfl,hq,q⟩ | ⟨z,rfl,q⟩
 . cases r1;exact Em I1 hq q
 . cases r1;exact Ce I1 hq q
 . obtain⟨t,rfl⟩:=r1;exact Dv I1 q
noncomputable def qy(x:PV)(h:PH):RV k4:=match x with
 | .tup xs=> .ok ⟨none,xs⟩ h
 | .ktup xs=> .ok ⟨none,xs⟩ h
 | .str z=> .ok ⟨none,z.cps.toList.map λc=> .str ⟨#[c]⟩⟩ h
 | .ref n=>(match cP h n with
  | some xs=> .ok ⟨some n,xs⟩ h
  | none=> .no)
 | _=> .no
noncomputable def kj(a:ME):MI:=λc e h=>(a c e h).bind qy
end
section
variable{X:Cx}{pg:Tb}{k:Nat}{tg l:Expr}{ma:ME}{ta:TE}
theorem KJ{c:CF}{K:TV}(s1:SE c K ta ma):SI c K (QL K ta) (kj ma):=fun ρ h H e σ R it h' s r q P=>by
 obtain⟨x,h1,e1,q⟩:=bind_eq.mp q;refine s1 ρ h H e σ _ x h1 s r e1 λx' ρ1 H1 g1 z1 r1=>?_;have tupc: ∀(xs:List PV),x.seq?=some xs->it=⟨none,xs⟩->h'=h1->(∃ a xs,x'= .ref a/\fc K H1 a xs/\R (CC K a) H1):=λxs ex ei eh=>by
  subst ei eh;obtain⟨a,vs,rfl,zz,rr⟩:=rel.seq ex r1;refine⟨a,vs,rfl,zz,P ρ1 H1 _ g1 z1 λi ρ2 h2 H2 g s _=>?_⟩;have z2:=g.EC zz;have r2:=ao.gr g _ _ rr;refine⟨λy e=>?_,λe=>⟨vs,z2,by rw[e,<- rr.len];exact Ua _⟩⟩;obtain⟨v,d1,d2⟩:=r2.get e;refine⟨⟨vs,v,z2,d1⟩,?_⟩;rintro w H' ⟨rfl,hw⟩;have:=hw vs z2;rw[d1] at this;cases this;exact⟨ρ2,.refl _ _,s,d2⟩
 cases x with
 | tup xs=>cases q;exact .inr (.inl (tupc xs rfl rfl rfl))
 | ktup xs=>cases q;exact .inr (.inl (tupc xs rfl rfl rfl))
 | str z =>
  cases q
  rw[rel] at r1
  refine .inr (.inr ⟨z,r1,P ρ1 H1 _ g1 z1 λi ρ2 h2 H2 g s _=>⟨λy e=>?_,λe=>by show i=z.cps.size;simpa using e⟩⟩)
  rw[Uq] at e
  cases q:z.cps.toList[i]? with
  | none=>rw[q] at e;exact nomatch e
  | some c =>
   rw[q] at e
   cases e
   have hc:z.cps[i]?=some c:=by simpa using q
   refine⟨(Array.getElem?_eq_some_iff.mp hc).1,?_⟩
   rintro v H' ⟨rfl,c',e1,rfl⟩
   rw[hc] at e1
   cases e1
   exact⟨ρ2,.refl _ _,s,by rw[rel]⟩
 | ref n =>
  simp only[qy] at q
  split at q
  . rename_i xs en;cases q;obtain⟨a,vs,rfl,ea,zz,rr⟩:=z1.sq en r1;refine .inl ⟨a,vs,rfl,zz,P ρ1 H1 _ g1 z1 λi ρ2 h2 H2 g s hf=>?_⟩;have ea2:=g.pre _ _ ea;have hl:cP h2 n=some xs:=by
     have:h2[n]?=some (.lst xs)\/h2[n]?=some (.kD xs):=by simpa [k4.j8] using hf
     unfold cP;rcases this with q | q<;>rw[q]
    obtain⟨a',vs2,e3,e4,z2,r2⟩:=s.sq hl (show rel K ρ2 H2 (.ref n) (.ref a) by rw[rel];exact⟨a,ea2,rfl⟩);cases e3;refine⟨λy e=>?_,λe=>⟨vs2,z2,by rw[e,<- r2.len];exact Ua _⟩⟩;obtain⟨v,d1,d2⟩:=r2.get e;refine⟨⟨vs2,v,z2,d1⟩,?_⟩;rintro w H' ⟨rfl,hw⟩;have:=hw vs2 z2;rw[d1] at this;cases this;exact⟨ρ2,.refl _ _,s,d2⟩
  . exact nomatch q
 | _=>exact nomatch q
theorem Ks(ha:JE X pg k l ma):JI X pg k tg l (kj ma):=⟨λA=>let ⟨_,q1,s1⟩:=ha.h A;⟨_,⟨Nr q1.h⟩,KJ s1⟩⟩
noncomputable def aw(lo:Int)(n:Nat):List PV:=(UR n).map λ(i:Nat)=>PV.int (lo+(i:Int))
noncomputable def cF(r:MA):MI:=λc e h=>(r c e h).bind λvs h1=>match vs with
 | [.int j]=>if -(2 ^ 62)<=j/\j < 2 ^ 62 then .ok ⟨none,aw 0 j.toNat⟩ h1 else .no
 | _=> .no
theorem Au{K:TV}{ρ :List Addr}{H:Hp}(lo:Int)(n:Nat):Te K ρ H (Q7 lo n) ⟨none,aw lo n⟩:=λi ρ1 h1 H1 g s _=>by
 refine⟨λy e=>?_,λe=>by show n<=i;rw[e];simp[aw]⟩;unfold aw at e;rw[Uq] at e;rcases V8 i n with z | z
 . rw[Xe z] at e;cases e;exact⟨z,λv H' ⟨e1,e2⟩=>by subst e1;subst e2;exact⟨ρ1,.refl _ _,s,by rw[rel]⟩⟩
 . rw[Wj (by simpa using z)] at e;exact nomatch e
variable{a b:Expr}{p pos:Pos}{mr:MA}
theorem zJ(hg:Gl X "range")(ha:JA X pg k [a] mr)(hs:UY [a] X.env=[(false,eval a X.env)]:=by rfl):JI X pg k tg (.Call (.Name "range" p) [a] [] pos) (cF mr):=⟨λA =>
 let ⟨_,q1,s1⟩:=ha.h A;⟨_,⟨Al hg (A.blt _ (by decide)) q1.h hs⟩,fun ρ h H e σ R it h' s r q P=>by
 obtain⟨vs,h1,e1,q⟩:=bind_eq.mp q
 refine s1 ρ h H e σ _ vs h1 s r e1 λus ρ1 H1 g1 z1 r1=>?_
 split at q
 . rename_i j;split at q
   . rename_i hj;cases q;obtain⟨u,rfl,r2⟩:=aO r1;rw[rel] at r2;subst r2;exact⟨j,rfl,hj.1,hj.2,P ρ1 H1 _ g1 z1 (Au 0 _)⟩
   . exact nomatch q
 . exact nomatch q⟩⟩
abbrev MP:=CF->aq->PH->RV (List (Key × PV))
noncomputable def BD:MP:=λ_ _ h=> .ok [] h
noncomputable def fg(a b:ME)(r:MP):MP:=λc e h=>(a c e h).bind λx h1=>match hZ x with
 | some key=>(b c e h1).bind λv h2=>(r c e h2).bind λkvs h3=> .ok ((key,v)::kvs) h3
 | none=> .no
noncomputable def cq(kvs more:List (Key × PV)):List (Key × PV):=more.foldl (λacc kv=>gY acc kv.1 kv.2) kvs
noncomputable def vx(r:MP):ME:=λc e h=>(r c e (h++[.dct []])).bind λkvs h1=>if h1[h.length]?=some (.dct [])/\kvs.length<=15 then .ok (.ref h.length) (h1.set h.length (.dct (cq [] kvs))) else .no
structure JP(X:Cx)(pg:Tb)(k:Nat)(pos:Pos)(ks:List (Option Expr))(vs:List Expr)(m:MP):Prop where
 h:cV X pg k-> ∃ t,QP X pos ks vs t/\ ∀ ρ h H e σ Q kvs h',c7 X.K ρ h H->dU X.K ρ H e σ ->m (run pg k) e h= .ok kvs h'->(∀ kws ρ' H',Gr ρ H ρ' H'->c7 X.K ρ' h' H'->RK X.K ρ' H' kvs kws->Q (kws.map λkv=>(kV kv.1,kv.2)) H')->lU t σ H Q
theorem Ki:JP X pg k pos [] [] BD:=⟨λA=>⟨_,EM,fun ρ h H e σ Q kvs h' s r q P=>by cases q;exact P [] ρ H (.refl _ _) s .nil⟩⟩
theorem Hw{kk v:Expr}{ks:List (Option Expr)}{vs:List Expr}{mk mv:ME}{mp:MP}(hk:JE X pg k kk mk)(hv:JE X pg k v mv)(hr:JP X pg k pos ks vs mp):JP X pg k pos (some kk::ks) (v::vs) (fg mk mv mp):=⟨λA =>
 let ⟨_,q1,s1⟩:=hk.h A;let ⟨_,q2,s2⟩:=hv.h A;let ⟨_,q3,s3⟩:=hr.h A;⟨_,De q1 q2 q3,fun ρ h H e σ Q kvs h' s r q P=>by
 obtain⟨x,h1,e1,q⟩:=bind_eq.mp q
 refine s1 ρ h H e σ _ x h1 s r e1 λx' ρ1 H1 g1 z1 r1=>?_
 split at q
 . rename_i key ek;obtain⟨v,h2,e2,q⟩:=bind_eq.mp q;obtain⟨kvs',h3,e3,q⟩:=bind_eq.mp q;cases q;refine s2 ρ1 h1 H1 e σ _ v h2 z1 (r.gr g1) e2 λv' ρ2 H2 g2 z2 r2=>?_;refine s3 ρ2 h2 H2 e σ _ kvs' _ z2 (r.gr (g1.trans g2)) e3 λkws ρ3 H3 g3 z3 r3=>?_;have:=P ((key,v')::kws) ρ3 H3 ((g1.trans g2).trans g3) z3 (.cons ⟨rfl,rel.gr g3 _ _ r2⟩ r3);rw[fK ek r1];exact this
 . exact nomatch q⟩⟩
theorem RK.merge{K:TV}{ρ :List Addr}{H:Hp}: ∀{more:List (Key × PV)}{mw:List (Key × V)}{kvs:List (Key × PV)}{kws:List (Key × V)},RK K ρ H more mw->RK K ρ H kvs kws->RK K ρ H (cq kvs more) (cT kws mw)
 | _,_,_,_,.nil,r=>r
 | _,_,_,_,.cons (a:=p) (b:=q) a t,r=>by
  show RK K ρ H (cq (gY _ p.1 p.2) _) (cT (putK _ q.1 q.2) _);refine RK.merge t ?_;rw[<- a.1];exact RK.put r a.2
theorem Ih{ks:List (Option Expr)}{vs:List Expr}{mp:MP}(h:JP X pg k pos ks vs mp)(hall:ks.all (·.isSome)=true)(hl:ks.length=vs.length)(h0:ks≠[])(h15:ks.length<=15):JE X pg k (.Dict ks vs pos) (vx mp):=⟨λA =>
 let ⟨_,q1,s1⟩:=h.h A;⟨_,F6 q1 hall hl h0 h15,fun ρ h H e σ Q v h' s r q P p hp=>by
 obtain⟨kvs,h1,e1,q⟩:=bind_eq.mp q
 split at q
 . rename_i hc;cases q;have g0:Gr ρ H (ρ ++[p]) (upd H p (.dK [])):=Gr.new hp [p];have s0:c7 X.K (ρ ++[p]) (h++[.dct []]) (upd H p (.dK [])):=s.new hp ⟨[],ba,.nil⟩;refine s1 (ρ ++[p]) _ _ e σ _ kvs h1 s0 (r.gr g0) e1 λkws ρ1 H1 g1 z1 r1=>?_;have ep:(ρ ++[p])[h.length]?=some p:=by rw[<- s.len,UD (Ua _)];simp
   have ep1:=g1.pre _ _ ep;obtain⟨kw0,e2,e3⟩:=z1.ob h.length _ p hc.1 ep1;cases e3;refine⟨e2,kws,rfl,by rw[<- RK.len r1];exact hc.2,?_⟩;have gw:Gr ρ1 H1 ρ1 (upd H1 p (.dK (cT [] kws))):=Gr.write (.inr ⟨_,e2⟩);refine P _ ρ1 _ ((g0.trans g1).trans gw) (z1.write hc.1 ep1 rfl rfl ⟨_,ba,RK.merge (Paired.jC gw r1) .nil⟩) ?_;rw[rel];exact⟨p,ep1,rfl⟩
 . exact nomatch q⟩⟩
noncomputable def sA:ME:=λ_ _ h=> .ok (.ref h.length) (h++[.dct []])
theorem D4:JE X pg k (.Dict [] [] pos) sA:=⟨λA=>⟨_,C7,fun ρ h H e σ Q v h' s r q P p hp=>by
 cases q;refine P _ (ρ ++[p]) _ (Gr.new hp [p]) (s.new hp ⟨[],ba,.nil⟩) ?_;rw[rel];exact⟨p,by rw[<- s.len,UD (Ua _)];simp,rfl⟩⟩⟩
noncomputable def rQ(kvs:List (Key × PV))(a:ME):ME:=λc e h=>(a c e h).bind λx h1=>match hZ x with
 | some key=>(match cv kvs key with
  | some v=> .ok v h1
  | none=> .no)
 | none=> .no
variable{x:Str}{kvs:List (Key × PV)}{i:Expr}{mi:ME}{pos':Pos}
theorem HC(hd:pg.yf x=some kvs)(hg:Gl X x)(hi:JE X pg k i mi)(hs:Ib i)(hdb:(x == ("__debug__" :Str))=false:=by decide):JE X pg k (.Subscript (.Name x pos') i pos) (rQ kvs mi):=⟨λA =>
 let ⟨a,kws,e1,e2,e3⟩:=A.yf x kvs hd;let ⟨_,q1,s1⟩:=hi.h A;⟨_,F2 e2 (EN hg e1 hdb) q1 hs,fun ρ h H e σ Q v h' s r q P=>by
 obtain⟨y,h1,d1,q⟩:=bind_eq.mp q
 refine s1 ρ h H e σ _ y h1 s r d1 λy' ρ1 H1 g1 z1 r1=>?_
 split at q
 . rename_i key ek;split at q
   . rename_i w ew;cases q;obtain⟨u,f1,f2⟩:=RK.some (e3 ρ1 H1) ew;exact⟨key,u,fK ek r1,f1,P _ ρ1 H1 g1 z1 f2⟩
   . exact nomatch q
 . exact nomatch q⟩⟩
noncomputable def yT(d a b:ME):ME:=λc e h=>(d c e h).bind λx h1=>if fG h1 x=true then(a c e h1).bind (λy h2=>(b c e h2).bind λz h3=>match x,hZ y with
 | .ref n,some key=>(match h3[n]? with
  | some (.dct kvs)=> .ok ((cv kvs key).getD z) h3
  | _=> .no)
 | _,_=> .no) else .no
theorem EF{o e f:Expr}{md me mf:ME}{apos cpos:Pos}(ho:JE X pg k o md)(he:JE X pg k e me)(hf:JE X pg k f mf)(m:M2 X o "get" apos e f cpos):JE X pg k (.Call (.Attribute o "get" apos) [e,f] [] cpos) (yT md me mf):=⟨λA =>
 let ⟨_,q1,s1⟩:=ho.h A;let ⟨_,q2,s2⟩:=he.h A;let ⟨_,q3,s3⟩:=hf.h A;⟨_,CY A.hu q1 q2 q3 m,fun ρ h H e σ Q v h' s r q P=>by
 obtain⟨x,h1,e1,q⟩:=bind_eq.mp q
 refine s1 ρ h H e σ _ x h1 s r e1 λx' ρ1 H1 g1 z1 r1=>?_
 split at q
 . rename_i hd;obtain⟨y,h2,e2,q⟩:=bind_eq.mp q;obtain⟨z,h3,e3,q⟩:=bind_eq.mp q;cases x with
   | ref n =>
    rw[rel] at r1
    obtain⟨a,ea,rfl⟩:=r1
    refine⟨a,rfl,?_,?_⟩
    . simp only[fG] at hd;split at hd
      . rename_i kvs0 en;obtain⟨kws,d1,_⟩:=z1.ob n _ a en ea;exact .inl ⟨kws,.inl d1⟩
      . exact nomatch hd
    refine s2 ρ1 h1 H1 e σ _ y h2 z1 (r.gr g1) e2 λy' ρ2 H2 g2 z2 r2=>?_
    refine s3 ρ2 h2 H2 e σ _ z h3 z2 (r.gr (g1.trans g2)) e3 λz' ρ3 H3 g3 z3 r3=>?_
    cases ek:hZ y with
    | none=>simp only[ek] at q;exact nomatch q
    | some key =>
     simp only[ek] at q
     split at q
     . rename_i kvs en;cases q;obtain⟨kws,d1,d2⟩:=z3.ob n _ a en (g3.pre _ _ (g2.pre _ _ ea));have:=fK ek r2;subst this;refine⟨_,jE.k (k:=key) d1,P _ ρ3 H3 ((g1.trans g2).trans g3) z3 ?_⟩;have:=RK.val key d2;cases p1:cv kvs key<;>cases p2:gQ kws key<;>rw[p1,p2] at this<;>first | exact r3 | exact this | exact VN this
     . exact nomatch q
   | _=>exact nomatch hd
 . exact nomatch q⟩⟩
end
section
variable{K:TV}{X:Cx}{pg:Tb}{k:Nat}
noncomputable def pairP?:PV->Option (Key × PV)
 | .tup [a,v]=>(hZ a).map λk=>(k,v)
 | _=>none
noncomputable def jh:List PV->Option (List (Key × PV))
 | []=>some []
 | x::r=>(match pairP? x,jh r with
  | some p,some ps=>some (p::ps)
  | _,_=>none)
section
variable{prog:Uy}{w:World}{A:UW}{E:Value->T7->Prop}{s:T7}
theorem ph{p:Addr}{kvs:List (Key × Value)}{R:Value->T7->Prop}(hS:(p == Vq)=false)(hp:s.heap.DictOf (aH prog w) p kvs)(hz:kvs.length<=sizeLine)
  (q: ∀ g:Heap,g.DictOf (aH prog w) s.heap.objs.size (merged [] kvs)->(∀ b o,s.heap.get? b=some o->g.get? b=some o)->R (.ref s.heap.objs.size) { s with heap:=g }) :
  wpAny (model prog w) A (call (.type "dict") [.ref p]) R E s:=by
 let g0:=s.heap.push { cls:= .type "dict",data:= .dict #[] }
 have up: ∀ b o,s.heap.get? b=some o->g0.get? b=some o:=λb o e=>T6 _ e;have dn:g0.DictOf (aH prog w) s.heap.objs.size []:=ZF s.heap;have dp:g0.DictOf (aH prog w) p kvs:=hp.at λo e=>up p o e;have ne:s.heap.objs.size≠p:=λe=>by
  obtain⟨o,_,_,ho,_⟩:=hp;exact absurd (Ug ho) (by rw[e];exact Vk _)
 refine callType_codes (Q₁ :=λz u=>z= .ref s.heap.objs.size/\u={ s with heap:=g0 }) F.kt_called_dict (F.kt_typeCall_dict_1 _) F.entry_dict_init (kt_code_dict_new _ ⟨rfl,rfl⟩) ?_;rintro obj s1 ⟨rfl,rfl⟩;refine⟨dn.typeIs,F.args_dict_init_2 _ _,?_⟩
 with_unfolding_all refine TY (m:=YX _ _) (TY (ZN dn.typeIs (Ud ?_)))
 show wpAny _ _ (WH "dict.__init__" s.heap.objs.size (.ref p) [] .none) _ _ _;unfold WH Builtin.Dict.merge Builtin.Dict.readDirectly;refine TY (W8 dp.typeIs ?_);rw[if_neg (by decide)];refine TY (TY (TY (wpAny_isInstance dp.typeIs isSubtype_dict_dict ?_)));simp only[if_false,Bool.not_true,VG];refine TY (ZE dp.typeIs F.slot_dict_iter.lookup (Ud ?_));simp only[if_true,beq_self_eq_true];refine TY (Ud (wpAny_mergeDict (hsz:=by simpa using hz) ne hS dn dp λg dg _ sb=>?_));show wpAny _ _ (YW s.heap.objs.size [] >>= _) _ _ { s with heap:=g };exact TY (Ud (Ud ⟨rfl,q g dg λb o e=>(sb.2 b (Uw (Ug e))).trans (up b o e)⟩))
end
noncomputable def J3:List V->Hp->VK->Prop:=λxs H Q=> ∃ p kvs,xs=[.ref p]/\H p=some (.dK kvs)/\kvs.length<=sizeLine/\ ∀ d,H d=none->Q (.ref d) (upd H d (.dK (cT [] kvs)))
theorem wV:aQ X (.type "dict") J3:=by
 intro pins s σ H xs us Q I r h;obtain⟨p,kvs,rfl,hp,hz,q⟩:=h;obtain⟨u,rfl,ru⟩:=vals1 r;cases(show u=Ux p from ru);obtain⟨z1,n1,vs,r1,d1⟩:=vo I.bq hp;refine ph n1 d1 (by rw[<- r1.length];exact z1) λg dd keep=>?_;have hle:(cT [] kvs).length<=sizeLine:=by have:=eK kvs [];simp at this;omega
 obtain⟨hn,I'⟩:=I.mK (a:=s.heap.objs.size) (o:= .dK (cT [] kvs)) (t':=s.toks) keep (VZ (Ua _)) (tN hle (beq_eq_false_iff_ne.mpr (WB (Uw I.big))) (KV.vk r1) dd);exact⟨.ref _,_,I',rfl,q _ hn⟩
noncomputable def uD:List PV->PH->RV PV:=λxs h=>match xs with
 | [.tup ys]=>(match jh ys with
  | some kvs=>if ys.length < sizeLine then .ok (.ref h.length) (h++[.dct (cq [] kvs)]) else .no
  | none=> .no)
 | [.ref n]=>(match h[n]? with
  | some (.dct kvs)=>if kvs.length<=sizeLine then .ok (.ref h.length) (h++[.dct (cq [] kvs)]) else .no
  | _=> .no)
 | _=> .no
theorem Il{ρ :List Addr}{H:Hp}{x:PV}{p:Key × PV}{v:V}(e:pairP? x=some p)(r:rel K ρ H x v): ∃ q:Key × V,rD H v q/\p.1=q.1/\rel K ρ H p.2 q.2:=by
 cases x with
 | tup xs =>
  match xs,e with
  | [a,w],e =>
   simp only[pairP?] at e
   cases q:hZ a with
   | none=>rw[q] at e;exact nomatch e
   | some key =>
    rw[q] at e
    cases e
    rw[rel] at r
    obtain⟨b,vs,rfl,e1,e2⟩:=r
    obtain⟨u,u',rfl,r1,r2⟩:=ly e2
    have:=fK q r1
    subst this
    exact⟨(key,u'),⟨b,rfl,e1⟩,rfl,r2⟩
 | _=>exact nomatch e
theorem um{ρ :List Addr}{H:Hp}: ∀{xs:List PV}{kvs:List (Key × PV)}{vs:List V},jh xs=some kvs->ao K ρ H xs vs-> ∃ kws,Vh (rD H) vs kws/\RK K ρ H kvs kws
 | [],kvs,vs,e,r=>by cases e;rw[aJ] at r;subst r;exact⟨[],.nil,.nil⟩
 | x::t,kvs,vs,e,r=>by
  simp only[jh] at e;split at e
  . rename_i p ps e1 e2;cases e;obtain⟨v,w,rfl,r1,r2⟩:=az.mp r;obtain⟨q,a,b⟩:=Il e1 r1;obtain⟨qs,c,d⟩:=um e2 r2;exact⟨q::qs,.cons a c,.cons b d⟩
  . exact nomatch e
theorem yo{ρ :List Addr}{h:PH}{H:Hp}{kvs:List (Key × PV)}{kws:List (Key × V)}{Q:VK}(s:c7 K ρ h H)(r:RK K ρ H kvs kws)(P:dW K ρ H (.ref h.length) (h++[.dct kvs]) Q)(p:Addr)(hp:H p=none):Q (.ref p) (upd H p (.dK kws)):=by
 refine P _ (ρ ++[p]) _ (Gr.new hp [p]) (s.new hp ⟨kws,ba,Paired.jC (Gr.new hp [p]) r⟩) ?_;rw[rel];exact⟨p,by rw[<- s.len,UD (Ua _)];simp,rfl⟩
theorem KG:cV X pg k-> ∃ r,aQ X (.type "dict") r/\zg X.K r uD:=λA=>⟨_,(DR A.calm).or wV,fun ρ h H xs us Q v h' s r q P=>by
 unfold uD at q;split at q
 . rename_i ys;split at q
   . rename_i kvs e;split at q
     . rename_i hl;cases q;obtain⟨u,rfl,r1⟩:=aO r;rw[rel] at r1;obtain⟨a,vs,rfl,e1,e2⟩:=r1;obtain⟨kws,c,d⟩:=um e e2;exact .inl ⟨a,vs,kws,rfl,e1,c,by rw[<- e2.len];exact hl,λp hp=>yo s (RK.merge d .nil) P p hp⟩
     . exact nomatch q
   . exact nomatch q
 . rename_i n;split at q
   . rename_i kvs en;split at q
     . rename_i hl;cases q;obtain⟨u,rfl,r1⟩:=aO r;rw[rel] at r1;obtain⟨a,ea,rfl⟩:=r1;obtain⟨kws,e1,e2⟩:=s.ob n _ a en ea;exact .inr ⟨a,kws,rfl,e1,by rw[<- RK.len e2];exact hl,λp hp=>yo s (RK.merge e2 .nil) P p hp⟩
     . exact nomatch q
   . exact nomatch q
 . exact nomatch q⟩
theorem mG{α :Type}{le: α -> α ->Prop}: ∀{l1 l2:List α},(∀ a∈l1,∀ b∈l1,le a b->le b a->a=b)->l1.Perm l2->l1.Pairwise le->l2.Pairwise le->l1=l2
 | [],l2,_,p,_,_=>List.Perm.nil_eq p
 | a::r,[],_,p,_,_=>absurd p.length_eq (by simp)
 | a::r,b::r',anti,p,h1,h2=>by
  rw[Yu] at h1 h2;have hb:b∈a::r:=p.mem_iff.mpr Uk;have e:a=b:=by
   rcases Ui.mp (p.mem_iff.mp (Uk:a∈a::r)) with e | m
   . exact e
   . rcases Ui.mp hb with e | m'
     . exact e.symm
     . exact anti a Uk b hb (h1.1 b m') (h2.1 a m)
  subst e;rw[mG (λx hx y hy=>anti x (Uo _ hx) y (Uo _ hy)) (List.Perm.cons_inv p) h1.2 h2.2]
noncomputable def p8(a b:Str):Bool:= !decide (jR b a)
noncomputable def eZ(ss:List Str):List Str:=ss.mergeSort p8
theorem jB(a b c:Str)(h1:p8 a b=true)(h2:p8 b c=true):p8 a c=true:=by
 unfold p8 at h1 h2 ⊢;simp only[VA,decide_eq_false_iff_not] at h1 h2 ⊢;intro h;by_cases e:b=a
 . subst e;exact h2 h
 . rcases nU e with z | z
   . exact h1 z
   . exact h2 (jA h z)
theorem mE(a b:Str):(p8 a b||p8 b a)=true:=by
 unfold p8;by_cases h:jR b a
 . simp [h,qZ h]
 . simp [h]
theorem vJ {a b : Str} (h1 : p8 a b = true) (h2 : p8 b a = true) : a = b := by
  unfold p8 at h1 h2;simp only [VA, decide_eq_false_iff_not] at h1 h2
  exact Decidable.byContradiction fun e => by rcases nU e with z | z; · exact h2 z
                                              . exact h1 z
theorem Bd: ∀ {r:List Str} {p:Str},risingS p r=true->(p::r).Pairwise λa b=>p8 a b=true:=by
 intro r
 induction r with
 | nil=>intro p _;exact Zc _ _
 | cons x r ih =>
  intro p h
  simp only[risingS,Ut] at h
  have h1:p8 p x=true:=by
   have:=h.1;rw[ltCps_eq] at this;exact this
  have h2:=ih h.2
  refine Yu.mpr ⟨λy hy=>?_,h2⟩
  rcases Ui.mp hy with rfl | m
  . exact h1
  . exact jB _ _ _ h1 ((Yu.mp h2).1 y m)
theorem zB{ss:List Str}(h:YI ss=true):ss.Pairwise λa b=>p8 a b=true:=by
 cases ss with
 | nil=>exact .nil
 | cons p r=>exact Bd h
theorem oR{ss ss':List Str}(p:ss'.Perm ss)(h:YI ss'=true):ss'=eZ ss :=
 mG (le:=λa b=>p8 a b=true) (λ_ _ _ _ h1 h2=>vJ h1 h2) (p.trans (Xg ss p8).symm) (zB h) (Xt jB (λa b=>by simpa using mE a b) ss)
noncomputable def eO:List PV->Option (List Str)
 | []=>some []
 | .str x::r=>(eO r).map (x:: ·)
 | _=>none
theorem eV: ∀{xs:List PV}{ss:List Str},eO xs=some ss->xs=ss.map PV.str
 | [],bs,e=>by cases e;rfl
 | .str b::r,bs,e=>by
  rw[eO] at e;cases q:eO r with
  | none=>rw[q] at e;exact nomatch e
  | some cs=>rw[q] at e;cases e;rw[eV q];rfl
 | .non::_,_,e=>nomatch e
 | .bl _::_,_,e=>nomatch e
 | .int _::_,_,e=>nomatch e
 | .tup _::_,_,e=>nomatch e
 | .ktup _::_,_,e=>nomatch e
 | .ref _::_,_,e=>nomatch e
 | .ty _::_,_,e=>nomatch e
theorem dB: ∀(ss:List Str),eO (ss.map PV.str)=some ss
 | []=>rfl
 | b::r=>by rw[T9,eO,dB r];rfl
theorem bW{ρ :List Addr}{H:Hp}: ∀{ss:List Str}{vs:List V},ao K ρ H (ss.map PV.str) vs↔vs=ss.map V.str
 | [],vs=>aJ
 | b::t,vs=>by
  rw[T9,az];constructor
  . rintro ⟨v,w,rfl,r1,r2⟩;rw[rel] at r1;rw[r1,bW.mp r2];rfl
  . rintro rfl;exact⟨.str b,t.map V.str,rfl,by rw[rel],bW.mpr rfl⟩
noncomputable def xS:List PV->Option (List (Str × Int))
 | []=>some []
 | .tup [.str x,.int i]::r=>(xS r).map ((x,i):: ·)
 | _=>none
noncomputable def eA(q:Str × Int):PV:= .tup [.str q.1,.int q.2]
theorem uO: ∀(ps:List (Str × Int)),xS (ps.map eA)=some ps
 | []=>rfl
 | b::r=>by rw[T9,eA,xS,uO r];rfl
theorem Gs: ∀{xs:List PV}{ps:List (Str × Int)},xS xs=some ps->xs=ps.map eA:=by
 intro xs
 induction xs with
 | nil=>intro ps e;cases e;rfl
 | cons x r ih =>
  intro ps e
  unfold xS at e
  split at e
  . rename_i h;cases h
  . rename_i y i r' h;cases h;cases q:xS r with
    | none=>rw[q] at e;exact nomatch e
    | some cs=>rw[q] at e;cases e;rw[ih q];rfl
  . exact nomatch e
theorem kE{ρ :List Addr}{H:Hp}: ∀{ps:List (Str × Int)}{vs:List V},ao K ρ H (ps.map eA) vs↔Vh (nR H) vs ps
 | [],vs=>⟨λh=>by rw[UN,aJ] at h;subst h;exact .nil,λh=>by cases h;exact aJ.mpr rfl⟩
 | b::t,vs=>by
  rw[T9,az];constructor
  . rintro ⟨v,w,rfl,r1,r2⟩;rw[eA,rel] at r1;obtain⟨a,us,rfl,e1,e2⟩:=r1;obtain⟨u,u',rfl,d1,d2⟩:=ly e2;rw[rel] at d1;rw[rel] at d2;subst d1 d2;exact .cons ⟨a,rfl,e1⟩ (kE.mp r2)
  . intro h;cases h with
    | cons h1 h2 =>
     obtain⟨a,rfl,e1⟩:=h1
     refine⟨.ref a,_,rfl,?_,kE.mpr h2⟩
     rw[eA,rel]
     exact⟨a,_,rfl,e1,az.mpr ⟨_,_,rfl,by rw[rel],ao.one (by rw[rel])⟩⟩
theorem Br: ∀{ps:List (Str × Int)},(ps.map (·.1)).Nodup-> ∀{a b:Str × Int},a∈ps->b∈ps->a.1=b.1->a=b
 | [],_,a,b,ha,_,_=>by cases ha
 | p::r,nd,a,b,ha,hb,e=>by
  rw[T9] at nd;rw[Wq] at nd;rcases Ui.mp ha with ha | ha<;>rcases Ui.mp hb with hb | hb
  . rw[ha,hb]
  . exact absurd (by rw[<- ha,e];exact UP.mpr ⟨b,hb,rfl⟩) nd.1
  . exact absurd (by rw[<- hb,<- e];exact UP.mpr ⟨a,ha,rfl⟩) nd.1
  . exact Br nd.2 ha hb e
noncomputable def kr(ps:List (Str × Int)):List (Str × Int):=ps.mergeSort λa b=>p8 a.1 b.1
theorem DA{ps ps':List (Str × Int)}(nd:(ps.map (·.1)).Nodup)(p:ps'.Perm ps)(h:(ps'.map (·.1)).Pairwise jR):ps'=kr ps:=by
 have h2:ps'.Pairwise λa b=>p8 a.1 b.1=true:=by
  rw[XD] at h;exact h.imp λ{a b} z=>by unfold p8;simp[qZ z]
 refine mG (le:=λa b=>p8 a.1 b.1=true) (λa ha b hb z1 z2=>?_) (p.trans (Xg ps _).symm) h2 (Xt (λa b c=>jB a.1 b.1 c.1) (λa b=>by simpa using mE a.1 b.1) ps);have e:=vJ z1 z2;have ha':=p.mem_iff.mp ha;have hb':=p.mem_iff.mp hb;exact Br nd ha' hb' e
noncomputable def kK:List PV->PH->RV PV:=λxs h=>match xs with
 | [x]=>(match itemsOf h x with
  | some ys=>(match x with
   | .ref _=>(match eO ys with
    | some ss=>if ss.length < 64 then .ok (.ref h.length) (h++[.lst ((eZ ss).map PV.str)]) else .no
    | none=>(match xS ys with
     | some ps=>if ps.length < 64/\(ps.map (·.1)).Nodup then .ok (.ref h.length) (h++[.lst ((kr ps).map eA)]) else .no
     | none=> .no))
   | _=> .no)
  | none=>(match x with
   | .ref n=>(match h[n]? with
    | some (.dct kvs)=>(match eO (kvs.map λkv=>match kv.1 with | .inl i=> .int i | .inr z=> .str z) with
     | some ss=>if ss.length < 64 then .ok (.ref h.length) (h++[.lst ((eZ ss).map PV.str)]) else .no
     | none=> .no)
    | _=> .no)
   | _=> .no))
 | _=> .no
theorem RK.keys{ρ :List Addr}{H:Hp}: ∀{kvs:List (Key × PV)}{kws:List (Key × V)},RK K ρ H kvs kws->kws.map (·.1)=kvs.map (·.1)
 | _,_,.nil=>rfl
 | _,_,.cons a t=>by rw[T9,T9,RK.keys t,a.1]
theorem keys_str: ∀{kvs:List (Key × PV)}{ss:List Str},(kvs.map λkv=>(match kv.1 with | .inl i=>PV.int i | .inr z=>PV.str z))=ss.map PV.str->kvs.map (·.1)=ss.map VT
 | [],ss,e=>by cases ss with | nil=>rfl | cons=>exact nomatch e
 | (.inl i,v)::r,ss,e=>by cases ss with | nil=>exact nomatch e | cons=>simp at e
 | (.inr z,v)::r,ss,e=>by
  cases ss with
  | nil=>exact nomatch e
  | cons y t =>
   rw[T9,T9,abi] at e
   rw[T9,T9,keys_str e.2]
   cases e.1;rfl
theorem uI(A:cV X pg k):zg X.K (λxs H Q=>Dl X.K xs H Q\/(DE xs H Q\/wg X.K xs H Q)) kK:=fun ρ h H xs us Q v h' s r q P=>by
 unfold kK at q;split at q
 . rename_i x;obtain⟨u,rfl,r1⟩:=aO r;split at q
   . rename_i ys e;split at q
     . rename_i n;obtain⟨a,vs,rfl,_,z,r2⟩:=s.sq e r1;split at q
       . rename_i ss es;split at q
         . rename_i hl;cases q;rw[eV es,bW] at r2;subst r2;refine .inl ⟨a,ss,rfl,z,hl,λl ss' hp pm so=>?_⟩;rw[oR pm so];exact dM s (bW.mpr rfl) P l hp
         . exact nomatch q
       . split at q
         . rename_i ps eps;split at q
           . rename_i hl;cases q;rw[Gs eps,kE] at r2;refine .inr (.inr ⟨a,vs,ps,rfl,z,r2,hl.1,hl.2,λl ys' ps' hp pm so pr=>?_⟩);have:=DA hl.2 pm so;subst this;exact dM s (kE.mpr pr) P l hp
           . exact nomatch q
         . exact nomatch q
     . exact nomatch q
   . split at q
     . rename_i n _;split at q
       . rename_i kvs en;split at q
         . rename_i ss es;split at q
           . rename_i hl;cases q;rw[rel] at r1;obtain⟨a,ea,rfl⟩:=r1;obtain⟨kws,e1,e2⟩:=s.ob n _ a en ea;refine .inr (.inl ⟨a,kws,ss,rfl,e1,by rw[RK.keys e2];exact keys_str (eV es),hl,λl ss' hp pm so=>?_⟩);rw[oR pm so];exact dM s (bW.mpr rfl) P l hp
           . exact nomatch q
         . exact nomatch q
       . exact nomatch q
     . exact nomatch q
 . exact nomatch q
theorem jy.of{P:Uy}{w:World}{K:TV}{mg:Str->Option Value}{base:Heap}{pg:Tb}{f:String}{d:Df}(b:MS)(st:Stmt)(N:List Str)(e:d.body=b)(a:At K mg (Ul f) st)(S:dO N d.ps (av st))(hl:N.length=d.ps.length+d.nl)
  (hb: ∀(kV doc pm:Value)(an:Option Addr)(cdv ct:Value)(us:List Value),us.length=d.ps.length->WQ (Vi (Ul f) (Ul f) (cG st) (aZ st) (av st) .none kV doc pm an cdv ct) ⟨us,[]⟩=pure (d.ps.zip us))
  (h: ∀(fa:Addr)(cdv:Value)(A:UW)(outer:List Env)(s:T7)(H:Hp)(E:XK)(k:Nat),yF (jH sd P w K mg base N (Ul f) (av st) fa cdv A outer s H E).qa pg k (aZ st) b):jy P w K mg base pg f d :=
 ⟨st,N,a,S,hl,hb,by rw[e];exact h⟩
end
section
variable{X:Cx}{pins:List (Addr × Obj)}{σ :L2.St}{H:Hp}{s:T7}{h':Heap}
theorem CS{turned:List Addr}{t':Nat}(I:Inv X pins σ H s)(kp: ∀ b o,b ∉ turned->s.heap.get? b=some o->h'.get? b=some o)(fp: ∀ b∈turned,nB X pins H b):Inv X pins σ H { s with heap:=h',toks:=t' }:=by
 have away: ∀ b u,H b=some u->b ∉ turned:=λb u e m=>by
  have:=(fp b m).1;rw[e] at this;exact nomatch this
 refine I.step (g':=s.gens) (d':=s.drawn) (ch:=turned) (λb m=>?_) (λb o _ _ n e _=>kp b o n e) (λb o _ _ n e _=>⟨o.slots,kp b o n e⟩) (λ_ _ _ _ e=>e) (λb o n e=>⟨o,kp b o n e⟩) (λ_ _ e=>e) (λ_ _ _ e=>e) (λb ps e=>⟨#[],by rw[e];simp⟩) (λm hm=>?_) (λb u e=>?_) I.bare
 . obtain⟨_,a2,_,a4,a5,a6⟩:=fp b m;exact⟨a4,a2,a5,a6⟩
 . obtain⟨o,es,ep,ho,r⟩:=hm;exact⟨o,es,ep,kp _ o (λm=>(fp _ m).2.1 rfl) ho,r⟩
 . refine(I.bq b u e).sU (λc v hc q=>kp c v ?_ q) (λ_ q=>q) λ_ _ q=>q;rcases hc with z | z
   . rw[z];exact away b u e
   . exact away c _ z
theorem rM{turned:List Addr}{t':Nat}{p:Addr}{vs:List V}(I:Inv X pins σ H s)(kp: ∀ b o,b ∉ turned->s.heap.get? b=some o->h'.get? b=some o)(fp: ∀ b∈turned,nB X pins H b)(hp:s.heap.objs.size<=p)
  (new:aT X.prog X.w (upd H p (.tup vs)) h' p (.tup vs)):Inv X pins σ (upd H p (.tup vs)) { s with heap:=h',toks:=t' }:=by
 have hn:H p=none:=I.bq.fresh hp;have away: ∀ b u,H b=some u->b ∉ turned:=λb u e m=>by
  have:=(fp b m).1;rw[e] at this;exact nomatch this
 have old: ∀ b o,s.heap.get? b=some o->b≠p:=λb o e z=>absurd (Up (Ug e) (z ▸ hp)) (Vk _);refine I.step (g':=s.gens) (d':=s.drawn) (ch:=turned) (λb m=>?_) (λb o _ _ n e _=>kp b o n e) (λb o _ _ n e _=>⟨o.slots,kp b o n e⟩) (λb o _ e n=>by rw[aA (old b o e)];exact n) (λb o n e=>⟨o,kp b o n e⟩)
  (λb xs e=>by rw[aA (aB e hn)];exact e) (λb o u e=>by rw[aA (aB e hn)];exact e) (λb ps e=>⟨#[],by rw[aA (aB e hn),e];simp⟩) (λm hm=>?_) (λb u e=>?_) I.bare
 . obtain⟨_,a2,_,a4,a5,a6⟩:=fp b m;exact⟨a4,a2,a5,a6⟩
 . obtain⟨o,es,ep,ho,r⟩:=hm;exact⟨o,es,ep,kp _ o (λm=>(fp _ m).2.1 rfl) ho,r⟩
 . by_cases hb:b=p
   . subst hb;rw[ba] at e;cases e;exact new
   . rw[aA hb] at e;refine(I.bq b u e).sU (λc v hc q=>kp c v ?_ q) (λc q=>by rw[aA (aB q hn)];exact q) λc xs q=>by rw[aA (aB q hn)];exact q
     rcases hc with z | z
     . rw[z];exact away b u e
     . exact away c _ z
end
noncomputable def Tw (K : TV) (a1 a2 : Addr) : It :=
  ⟨λi H => ∃ xs ys x y, fc K H a1 xs /\ fc K H a2 ys /\ xs[i]? = some x /\ ys[i]? = some y,
   λi H v H' => ∃ p x y, H p = none /\ v = .ref p /\ H' = upd H p (.tup [x, y]) /\ (∀ xs, fc K H a1 xs -> xs[i]? = some x) /\ ∀ ys, fc K H a2 ys -> ys[i]? = some y,
   λi H => ∃ xs ys, fc K H a1 xs /\ fc K H a2 ys /\ (xs.length <= i ∨ ys.length <= i)⟩
theorem AD {h h':Heap} {z TI TO i1 i2 l1 l2:Addr} {k:Nat} (Z:vH h z TI TO i1 i2 l1 l2 k) (kp: ∀ b∈[z,TI,TO,i1,i2],∀ o,h.get? b=some o->h'.get? b=some o):vH h' z TI TO i1 i2 l1 l2 k:=by
 obtain ⟨a,b,⟨u,v,c⟩,⟨o1,d1,d2⟩,⟨o2,e1,e2⟩⟩:=Z;exact ⟨kp _ (by simp) _ a,kp _ (by simp) _ b,⟨u,v,kp _ (by simp) _ c⟩,⟨o1,kp _ (by simp) _ d1,d2⟩,⟨o2,kp _ (by simp) _ e1,e2⟩⟩
theorem Cr{P:Uy}{w:World}{K:TV}{els:List Expr}{j:Nat}{pos:Pos}{z TI TO i1 i2 a1 a2:Addr}(D:aaS z TI TO i1 i2 a1 a2) :
  Turn P w K (.Tuple els j pos) (Tw K a1 a2) [z,TI,TO,i1,i2] z (λi h=>vH h z TI TO i1 i2 a1 a2 i) where
 mem:=by simp
 obj:=λi h Z b hb=>by
  obtain⟨e1,e2,⟨u,v,e3⟩,⟨o4,e4,_,d4⟩,⟨o5,e5,_,d5⟩⟩:=Z;simp only[UH,or_false,Ui] at hb;rcases hb with rfl | rfl | rfl | rfl | rfl
  . exact⟨_,e1,λv q=>nomatch q⟩
  . exact⟨_,e2,λv q=>nomatch q⟩
  . exact⟨_,e3,λv q=>nomatch q⟩
  . exact⟨_,e4,λv q=>by rw[d4] at q;exact nomatch q⟩
  . exact⟨_,e5,λv q=>by rw[d5] at q;exact nomatch q⟩
 keep:=λi h h' Z kp=>AD Z kp
 item:=by
  intro X hP hw hK hc i pins s σ H E I hf Z hg;subst hP hw hK;obtain⟨xs,ys,x,y,s1,s2,ex,ey⟩:=hg;obtain⟨us,ru,pu,_⟩:=I.tuple s1;obtain⟨ws,rw',pw,_⟩:=I.tuple s2;obtain⟨ux,eu,rx⟩:=ru.get ex;obtain⟨uy,ew,ry⟩:=rw'.get ey;refine pG D Z pu pw (by simpa using eu) (by simpa using ew) λh1 f1 f2 f3 f4 f5 f6 f7=>⟨_,rfl,?_⟩
  refine wpAny_letOwnedTupleGo_zip (s:={ s with heap:=h1 }) f1 λh2 g1 g2=>?_;have ex1:=g2.extBut;have zlt:z < s.heap.objs.size:=Ug Z.Be;have pz:s.heap.objs.size≠z:=Ws zlt;have new:XF h2 s.heap.objs.size ux uy:=ex1 _ _ pz f6;have hn:H s.heap.objs.size=none:=I.bq.fresh (Ua _);have I2:Inv X pins σ (upd H s.heap.objs.size (.tup [x,y])) { s with heap:=h2,toks:=s.toks }:=by
   refine rM (turned:=[z,TO,i1,i2]) I (λb o nb e=>?_) (λb hb=>hf b ?_) (Ua _) ?_
   . simp only[Ui,UH,or_false,not_or] at nb;exact ex1 _ _ nb.1 (f7 b o nb.1 nb.2.1 nb.2.2.1 nb.2.2.2 e)
   . simp only[Ui,UH,or_false] at hb ⊢;rcases hb with rfl | rfl | rfl | rfl<;>simp
   . exact⟨by show 2<=sizeLine;decide,[ux,uy],.cons rx (.cons ry .nil),_,new,rfl,_,rfl,rfl⟩
  refine⟨.ref s.heap.objs.size,upd H s.heap.objs.size (.tup [x,y]),I2,rfl,⟨_,x,y,hn,rfl,rfl,λxs' q=>?_,λys' q=>?_⟩,?_,λb hb=>?_⟩
  . rw[I.js q s1];exact ex
  . rw[I.js q s2];exact ey
  . obtain⟨o4,e4,c4⟩:=f4;obtain⟨o5,e5,c5⟩:=f5;exact⟨g1,ex1 _ _ D.TIz f2,⟨_,_,ex1 _ _ D.TOz f3⟩,⟨o4,ex1 _ _ D.i1z e4,c4⟩,⟨o5,ex1 _ _ D.i2z e5,c5⟩⟩
  . have hb0:=(hf b hb).1;have: ∃ o,s.heap.get? b=some o:=by
     obtain⟨e1,e2,⟨u,v,e3⟩,⟨o4,e4,_⟩,⟨o5,e5,_⟩⟩:=Z;simp only[UH,or_false,Ui] at hb;rcases hb with rfl | rfl | rfl | rfl | rfl
     . exact⟨_,e1⟩
     . exact⟨_,e2⟩
     . exact⟨_,e3⟩
     . exact⟨_,e4⟩
     . exact⟨_,e5⟩
    obtain⟨o,eo⟩:=this;rw[aA (Uw (Ug eo))];exact hb0
 done:=by
  intro X hP hw hK hc i pins s σ H E I hf Z hg;subst hP hw hK;obtain⟨xs,ys,s1,s2,he⟩:=hg;obtain⟨us,ru,pu,_⟩:=I.tuple s1;obtain⟨ws,rw',pw,_⟩:=I.tuple s2;refine qf (I.ok.hd hc) D Z pu pw ?_ λh1 kp=>⟨rfl,CS (turned:=[z,TO,i1,i2]) (t':=s.toks) I (λb o nb e=>?_) λb hb=>hf b ?_⟩
  . have l1:=ru.length;have l2:=rw'.length;rcases he with he | he
    . exact .inl (by simp;omega)
    . exact .inr (by simp;omega)
  . simp only[Ui,UH,or_false,not_or] at nb;exact kp b o nb.1 nb.2.1 nb.2.2.1 nb.2.2.2 e
  . simp only[Ui,UH,or_false] at hb ⊢;rcases hb with rfl | rfl | rfl | rfl<;>simp
 self:=λA i s Q E Z h=>wpAny_pyIter_zip Z.Be h
abbrev tI(a:Addr):Obj:={ cls:= .type "tuple_iterator",data:= .fields #[.ref a,.int 0 0] }
abbrev Rb(h:Heap)(a b:Addr):Heap :=
 VI (VI (VI (VI (VI h (tI a)) (tI b)) { cls:= .type "tuple",data:= .seq #[.ref h.objs.size,.ref (h.objs.size+1)] }) { cls:= .type "tuple",data:= .seq #[.none,.none] })
  { cls:= .type "zip",data:= .fields #[.none,.bool false,.bool false,.ref (h.objs.size+2),.ref (h.objs.size+3)] }
theorem su(a b:Addr)(us ws:Array Value):Meets (WO.«zip.__new__» ⟨[.type "zip",.ref a,.ref b],[]⟩) (λ_ R u=>u.heap.IsTuple a us/\u.heap.IsTuple b ws/\R (.ok (.ret (.ref (u.heap.objs.size+4)))) { u with heap:=Rb u.heap a b }) :=
 .of_wp λprog w A R u hu=>by
  obtain⟨hp,gg,dd,tk,os⟩:=u;obtain⟨ha,hb,hr⟩:=hu;have sub:=sub_zip;have fa:aaT (abf ⟨hp,gg,dd,tk,os⟩) a us:=ha;have fb:aaT (abf ⟨hp.push (tI a),gg,dd,tk,os⟩) b ws:=let ⟨o,e,c⟩:=hb;⟨o,T6 _ e,c⟩
  wp_walk using VY fa,VY fb
  refine⟨_,rfl,?_⟩;simp only[Vr];exact hr
section
variable{X:Cx}{pg:Tb}{k:Nat}{a b:Expr}{ma mb:ME}{p pos:Pos}{els:List Expr}{j:Nat}{tpos:Pos}
theorem Mr(h:Heap)(l1 l2:Addr):vH (Rb h l1 l2) (h.objs.size+4) (h.objs.size+2) (h.objs.size+3) h.objs.size (h.objs.size+1) l1 l2 0/\(Rb h l1 l2).objs.size=h.objs.size+5:=by
 have n1:(VI h (tI l1)).objs.size=h.objs.size+1:=Vr ..;have n2:(VI (VI h (tI l1)) (tI l2)).objs.size=h.objs.size+2:=by rw[Vr,n1]
 have n3:(VI (VI (VI h (tI l1)) (tI l2)) { cls:= .type "tuple",data:= .seq #[.ref h.objs.size,.ref (h.objs.size+1)] }).objs.size=h.objs.size+3:=by rw[Vr,n2]
 have n4:(VI (VI (VI (VI h (tI l1)) (tI l2)) { cls:= .type "tuple",data:= .seq #[.ref h.objs.size,.ref (h.objs.size+1)] }) { cls:= .type "tuple",data:= .seq #[.none,.none] }).objs.size=h.objs.size+4:=by rw[Vr,n3]
 refine⟨⟨?_,?_,⟨.none,.none,?_⟩,⟨tI l1,?_,rfl,rfl⟩,⟨tI l2,?_,rfl,rfl⟩⟩,by rw[Vr,n4]⟩
 . rw[<- n4];exact Um _ rfl
 . refine T6 _ (T6 _ ?_);rw[<- n2];exact Um _ rfl
 . refine T6 _ ?_;rw[<- n3];exact Um _ rfl
 . exact T6 _ (T6 _ (T6 _ (T6 _ (Um _ rfl))))
 . refine T6 _ (T6 _ (T6 _ ?_));rw[<- n1];exact Um _ rfl
noncomputable def OY(K:TV)(ta:TA):TI:=fun σ H R=>ta σ H λvs H1=> ∃ a1 a2 xs ys,vs=[.ref a1,.ref a2]/\fc K H1 a1 xs/\fc K H1 a2 ys/\R (Tw K a1 a2) H1
theorem JR{ta:TA}(hg:Gl X "zip")(hm:X.mg "zip" =none)(ha:PA X [a,b] ta)(hs:UY [a,b] X.env=[(false,eval a X.env),(false,eval b X.env)])(hs2:UY [b] X.env=[(false,eval b X.env)]) :
  PI X (.Tuple els j tpos) (.Call (.Name "zip" p) [a,b] [] pos) (OY X.K ta):=by
 intro pins s σ H R I h;refine Call_ (iR I hg hm boot_zip (Vo (cC (ha pos pins s σ H _ I h) λus s1 ⟨vs,H1,I1,r1,a1,a2,xs,ys,e,q1,q2,q⟩=>?_) (by rw[hs,hs2]) (by rw[hs2];rfl)));subst e;cases r1 with
 | cons ra rr =>
  cases rr with
  | cons rb rr =>
   cases rr
   cases ra
   cases rb
   obtain⟨u1,_,p1,_⟩:=I1.tuple q1
   obtain⟨u2,_,p2,_⟩:=I1.tuple q2
   refine callType_new F.called_zip (by decide) (F.typeCall_zip_2 _ _) (F.newCall_zip_2 _ _) (λobj=>F.args_object_init_3 obj _ _) F.entry_zip_new (su a1 a2 u1.toArray u2.toArray) ⟨p1,p2,?_⟩
   obtain⟨Z,zs⟩:=Mr s1.heap a1 a2
   have lt1:a1 < s1.heap.objs.size:=let ⟨_,e,_⟩:=p1;Ug e
   have lt2:a2 < s1.heap.objs.size:=let ⟨_,e,_⟩:=p2;Ug e
   refine⟨⟨_,Z.Be,rfl⟩,wpAny_pyIter_zip Z.Be ?_⟩
   have kp: ∀ c o,s1.heap.get? c=some o->(Rb s1.heap a1 a2).get? c=some o:=λc o e=>T6 _ (T6 _ (T6 _ (T6 _ (T6 _ e))))
   refine⟨s1.heap.objs.size+4,[s1.heap.objs.size+4,s1.heap.objs.size+2,s1.heap.objs.size+3,s1.heap.objs.size,s1.heap.objs.size+1],_,_,H1,rfl,I1.kept (t':=s1.toks) kp,Cr (zipApart_new lt1 lt2),Z,λc hc=>?_,q⟩
   have hle:s1.heap.objs.size<=c:=by
    simp only[Ui,UH,or_false] at hc;rcases hc with rfl | rfl | rfl | rfl | rfl<;>omega
   exact I1.HM hle (I1.bq.fresh hle)
noncomputable def Nd(a b:ME):MI:=λc e h=>(a c e h).bind λx h1=>(b c e h1).bind λy h2=>match x.seq?,y.seq? with
 | some xs,some ys=> .ok ⟨none,(xs.zip ys).map λp=> .tup [p.1,p.2]⟩ h2
 | _,_=> .no
theorem Nq(hg:Gl X "zip")(ha:JE X pg k a ma)(hb:JE X pg k b mb)(hs1:noStar a=true:=by rfl)(hs2:noStar b=true:=by rfl):JI X pg k (.Tuple els j tpos) (.Call (.Name "zip" p) [a,b] [] pos) (Nd ma mb):=⟨λA =>
 let ⟨_,q1,s1⟩:=ha.h A;let ⟨_,q2,s2⟩:=hb.h A
 ⟨_,⟨JR hg (A.blt _ (by decide +kernel)) (qk q1 (qk q2 xu hs2) hs1).h (by rw[bX hs1,bX hs2];rfl) (by rw[bX hs2];rfl)⟩,fun ρ h H e σ R it h' s r q P=>by
 obtain⟨x,h1,e1,q⟩:=bind_eq.mp q
 obtain⟨y,h2,e2,q⟩:=bind_eq.mp q
 refine s1 ρ h H e σ _ x h1 s r e1 λx' ρ1 H1 g1 z1 r1=>?_
 refine s2 ρ1 h1 H1 e σ _ y h2 z1 (r.gr g1) e2 λy' ρ2 H2 g2 z2 r2=>?_
 split at q
 . rename_i xs ys ex ey;cases q;obtain⟨a1,us,rfl,t1,d1⟩:=rel.seq ex (rel.gr g2 _ _ r1);obtain⟨a2,ws,rfl,t2,d2⟩:=rel.seq ey r2;refine⟨a1,a2,us,ws,rfl,t1,t2,P ρ2 H2 _ (g1.trans g2) z2 λi ρ3 h3 H3 g s3 _=>⟨λv ev=>?_,λei=>?_⟩⟩
   . rw[Uq] at ev;cases ez:(xs.zip ys)[i]? with
     | none=>rw[ez] at ev;exact nomatch ev
     | some pr =>
      rw[ez] at ev
      cases ev
      obtain⟨zx,zy⟩:=List.getElem?_zip_eq_some.mp ez
      obtain⟨u,f1,f2⟩:=(ao.gr g _ _ d1).get zx
      obtain⟨w,f3,f4⟩:=(ao.gr g _ _ d2).get zy
      refine⟨⟨us,ws,u,w,g.EC t1,g.EC t2,f1,f3⟩,?_⟩
      rintro v' H' ⟨p,u',w',hp,rfl,rfl,k1,k2⟩
      have:=k1 us (g.EC t1)
      rw[f1] at this;cases this
      have:=k2 ws (g.EC t2)
      rw[f3] at this;cases this
      have gn:Gr ρ3 H3 ρ3 (upd H3 p (.tup [u,w])):=Gr.wx hp
      refine⟨ρ3,gn,s3.tup hp,?_⟩
      rw[rel]
      exact⟨p,_,rfl,ba,az.mpr ⟨_,_,rfl,rel.gr gn _ _ f2,ao.one (rel.gr gn _ _ f4)⟩⟩
   . refine⟨us,ws,g.EC t1,g.EC t2,?_⟩;have:i=min xs.length ys.length:=by simpa using ei
     rw[<- d1.len,<- d2.len];omega
 . exact nomatch q⟩⟩
end
structure aU(P:Uy)(w:World)(K:TV)(mg:Str->Option Value)(pg:Tb)(f:String)(d:Df)(st:Stmt)(N:List Str):Prop where
 at_:At K mg (Ul f) st
 sc:dO N d.ps (av st)
 len:N.length=d.ps.length+d.nl
 bd: ∀(kV doc pm:Value)(an:Option Addr)(cdv ct:Value)(us:List Value),us.length=d.ps.length->WQ (Vi (Ul f) (Ul f) (cG st) (aZ st) (av st) .none kV doc pm an cdv ct) ⟨us,[]⟩=pure (d.ps.zip us)
 body: ∀(base:Heap)(fa:Addr)(cdv:Value)(A:UW)(outer:List Env)(s:T7)(H:Hp)(E:XK)(k:Nat),yF (jH sd P w K mg base N (Ul f) (av st) fa cdv A outer s H E).qa pg k (aZ st) d.body
section
variable{P:Uy}{w:World}{K:TV}{mg:Str->Option Value}{pg:Tb}
theorem aU.of{f:String}{d:Df}(b:MS){st:Stmt}{N:List Str}(e:d.body=b)(a:At K mg (Ul f) st)(S:dO N d.ps (av st))(hl:N.length=d.ps.length+d.nl)
  (hb: ∀(kV doc pm:Value)(an:Option Addr)(cdv ct:Value)(us:List Value),us.length=d.ps.length->WQ (Vi (Ul f) (Ul f) (cG st) (aZ st) (av st) .none kV doc pm an cdv ct) ⟨us,[]⟩=pure (d.ps.zip us))
  (h: ∀(base:Heap)(fa:Addr)(cdv:Value)(A:UW)(outer:List Env)(s:T7)(H:Hp)(E:XK)(k:Nat),yF (jH sd P w K mg base N (Ul f) (av st) fa cdv A outer s H E).qa pg k (aZ st) b):aU P w K mg pg f d st N :=
 ⟨a,S,hl,hb,by rw[e];exact h⟩
theorem aU.good{base:Heap}{f:String}{d:Df}{st:Stmt}{N:List Str}(g:aU P w K mg pg f d st N):jy P w K mg base pg f d:=⟨st,N,g.at_,g.sc,g.len,g.bd,g.body base⟩
theorem BL{Lk:List (String × Df)}(hf:pg.fns=λf=>(Lk.find? λp=>p.1 == f).map (·.2))(h: ∀ p∈Lk,∃ st N,aU P w K mg pg p.1 p.2 st N)(base:Heap): ∀ f d,pg.fns f=some d->jy P w K mg base pg f d:=λf d e=>by
 rw[hf] at e;dsimp only at e;cases q:Lk.find? λp=>p.1 == f with
 | none=>rw[q] at e;exact nomatch e
 | some p =>
  rw[q] at e
  cases e
  obtain⟨st,N,g⟩:=h p (Xd q)
  have:p.1=f:=by simpa using ZH q
  rw [<- this]
  exact g.good
theorem Mx {k : Nat} {d : Df} {st : Stmt} {N : List Str} {fa : Addr} {x : Str} (T : Top P w K mg pg) (G : ∀ base f d, pg.fns f = some d -> jy P w K mg base pg f d) (hf : pg.fns "law" = some d) (hx : d.ps = [x]) (g : aU P w K mg pg "law" d st N) (hfa : mg "law" = some (.ref fa)) :
    ∃ fd : VU, (∀ (s : T7) (v : Value), Zj s fd ⟨[v], []⟩ [(x, v)]) /\ ∀ base : Heap, K.In base -> base.Ns Uv mg -> k8 P w K mg base sd (k + 1) fa fd [x] (wY K pg (k + 1) "law") := by
  obtain ⟨f, fd, F, hm⟩ := g.at_;have e := hfa.symm.trans hm;cases e;refine ⟨fd, λs v => .of_eq ?_, λbase _ _ => ?_⟩
  . have := Bi.args F g.bd [v] (by rw [hx]; rfl);rw [this, hx]; rfl
  . have key : ∀ {args : List PV} {h h' : PH} {v : PV}, run pg (k + 1) "law" args h = .ok v h' -> args.length = d.ps.length ∧
        ((∃ w h2, d.body (run pg k) (args.map some ++ List.replicate d.nl none) h = .ok (.rt w) h2 /\ settle h w h2 = .ok v h') ∨
         (∃ e h2, d.body (run pg k) (args.map some ++ Uc d.nl none) h = .ok (.nx e) h2 /\ settle h .non h2 = .ok v h')) := λ{args h h' v} q => by
      rw [run, hf] at q;simp only at q;split at q
      . rename_i hn;refine ⟨hn, ?_⟩;split at q
        . rename_i w h2 e; exact .inl ⟨w, h2, e, q⟩
        . rename_i e' h2 e; exact .inr ⟨e', h2, e, q⟩
        . exact nomatch q
        . exact nomatch q
        . exact nomatch q
      . exact nomatch q
    have S := g.sc;rw [hx] at S;refine Bi.Sf F S (λvs H Q E ⟨ρ, h, args, v, h', _, r, q, _⟩ => by rw [<- r.len, (key q).1, hx]) ?_;rintro fa cdv A outer s H vs Q E hr ⟨ρ, h, args, v, h', sm, r, q, post⟩;have amb : cV (jH sd P w K mg base N (Ul "law") (av st) fa cdv A outer s H E).qa pg k := ⟨hr, rfl, λ_ _ z => z, BB T (G base) k, T.blt, T.con, T.yf⟩
    obtain ⟨t, qt, st'⟩ := (g.body base fa cdv A outer s H E k).h amb;refine ⟨t, qt, ?_⟩;obtain ⟨hn, q⟩ := key q;have he : L2.start N vs = vs.map some ++ Uc d.nl none := by
      unfold L2.start;rw [g.len, <- r.len, hn, Ze]
    rw [he];rcases q with ⟨w, h2, e, q⟩ | ⟨e', h2, e, q⟩
    . exact st' ρ h H _ _ _ _ h2 sm (hW r _) e (gA sm q post)
    . exact st' ρ h H _ _ _ _ h2 sm (hW r _) e fun σ' ρ' H' g s' _ => gA sm q post .non ρ' H' g s' (by rw [rel])
end
theorem Ln {K:TV} {pg:Tb} {k:Nat} {E:XK} (hl: ∀ ns:List Int,ns.length<=63->Ok (run pg k "law" [.ref 0] [.kD (ns.map PV.int)]) λv _=>v= .bl true) (H:Hp) (a:Addr) (ns:List Int) (hn:ns.length<=63) (o:CU H) (q:iF K H a (ns.map V.int)) :
  wY K pg k "law" [.ref a] H (λv _=>v= .bl true) E:=by
 obtain⟨v,h',e,rfl⟩:=hl ns hn;refine⟨[a],_,[.ref 0],_,h',⟨rfl,λi j b oi oj ei ej mi mj _ _=>?_,λi ob b ei eb=>?_⟩,ao.one (by rw[rel];exact⟨a,rfl,rfl⟩),e,λv' ρ' H' g s r=>by rw[rel] at r;exact r⟩
 . cases i with
   | zero=>simp at ei;subst ei;exact nomatch mi
   | succ i=>simp at ei
 . cases i with
   | zero =>
    simp at ei eb
    subst ei eb
    exact⟨_,Km o q,ao.ints ns⟩
   | succ i=>simp at ei
section
variable{P:Uy}{w:World}{K:TV}{mg:Str->Option Value}{pg:Tb}
theorem Fg{conT:List (Str × PV)}(hc:pg.con=λx=>(conT.find? λp=>decide (p.1=x)).map (·.2))(h: ∀ p∈conT,∃ u v',mg p.1=some u/\RelV v' u/\Ag K v'/\ ∀ ρ H,rel K ρ H p.2 v'): ∀ x v,pg.con x=some v-> ∃ u v',mg x=some u/\RelV v' u/\Ag K v'/\ ∀ ρ H,rel K ρ H v v':=λx v e=>by
 rw[hc] at e;dsimp only at e;cases q:conT.find? λp=>decide (p.1=x) with
 | none=>rw[q] at e;exact nomatch e
 | some p =>
  rw[q] at e
  cases e
  have:p.1=x:=by simpa using ZH q
  rw[<- this]
  exact h p (Xd q)
theorem HS{dcT:List (Str × List (Key × PV))}(hc:pg.yf=λx=>(dcT.find? λp=>decide (p.1=x)).map (·.2))(h: ∀ p∈dcT,∃ a kws,mg p.1=some (.ref a)/\KD P w K a kws/\ ∀ ρ H,RK K ρ H p.2 kws) :
  ∀ x kvs,pg.yf x=some kvs-> ∃ a kws,mg x=some (.ref a)/\KD P w K a kws/\ ∀ ρ H,Vh (λ(p:Key × PV) (q:Key × V)=>p.1=q.1/\rel K ρ H p.2 q.2) kvs kws:=λx v e=>by
 rw[hc] at e;dsimp only at e;cases q:dcT.find? λp=>decide (p.1=x) with
 | none=>rw[q] at e;exact nomatch e
 | some p =>
  rw[q] at e
  cases e
  have:p.1=x:=by simpa using ZH q
  rw[<- this]
  exact h p (Xd q)
inductive CV:PV->Value->Prop where
 | int (i:Int) (t:Tok):CV (.int i) (.int i t)
 | str (x:Str) (t:Tok):CV (.str x) (.str x t)
theorem CV.v{x:PV}{u:Value}(c:CV x u): ∃ v,RelV v u/\ ∀ ρ H,rel K ρ H x v:=by
 cases c with
 | int i t=>exact⟨.int i,⟨t,rfl⟩,λ_ _=>by rw[rel]⟩
 | str z t=>exact⟨.str z,⟨t,rfl⟩,λ_ _=>by rw[rel]⟩
theorem Ta.v: ∀{xs:List PV}{us:List Value},Vh CV xs us-> ∃ vs,Vals vs us/\ ∀ ρ H,ao K ρ H xs vs
 | _,_,.nil=>⟨[],.nil,λ_ _=>aJ.mpr rfl⟩
 | _,_,.cons c t=>let ⟨v,a,b⟩:=CV.v c;let ⟨vs,d,e⟩:=Ta.v t;⟨v::vs,.cons a d,fun ρ H=>az.mpr ⟨v,vs,rfl,b ρ H,e ρ H⟩⟩
theorem vv{a:Addr}{d:Option Addr}{us:List Value}{n:Nat}{sl:Array (Option Value)}{xs:List PV}(hl:K.lookup a=some ⟨.type "tuple",d,.seq us.toArray n,sl⟩)(hz:us.length<=sizeLine)(h:Vh CV xs us)(ρ :List Addr)(H:Hp):rel K ρ H (.ktup xs) (.ref a):=by
 obtain⟨vs,r,q⟩:=Ta.v (K:=K) h;rw[rel];exact⟨a,vs,rfl,⟨_,us.toArray,n,hl,rfl,rfl,by simpa using hz,by simpa using r⟩,q ρ H⟩
theorem tq{x:Str}{v:PV}{u:Value}(hm:mg x=some u)(c:CV v u): ∃ u v',mg x=some u/\RelV v' u/\Ag K v'/\ ∀ ρ H,rel K ρ H v v':=let ⟨v',a,b⟩:=CV.v (K:=K) c;⟨u,v',hm,a,(λp e=>by subst e;cases(show u=Ux p from a);cases c),b⟩
theorem tJ{x:Str}{a:Addr}{us:List Value}{n:Nat}{sl:Array (Option Value)}{xs:List PV}(hm:mg x=some (.ref a))(hl:K.lookup a=some ⟨.type "tuple",none,.seq us.toArray n,sl⟩)(hz:us.length<=sizeLine)(h:Vh CV xs us) :
  ∃ u v',mg x=some u/\RelV v' u/\Ag K v'/\ ∀ ρ H,rel K ρ H (.ktup xs) v':=⟨_,.ref a,hm,rfl,λp e=>by cases e;exact⟨_,hl,rfl,rfl⟩,vv hl hz h⟩
noncomputable def DV(K:TV)(x:PV)(u:Value):Prop:= ∃ v,RelV v u/\ ∀ ρ H,rel K ρ H x v
theorem iY{x:PV}{u:Value}(c:CV x u):DV K x u:=CV.v c
theorem fe{a:Addr}{d:Option Addr}{us:List Value}{n:Nat}{sl:Array (Option Value)}{xs:List PV}(hl:K.lookup a=some ⟨.type "tuple",d,.seq us.toArray n,sl⟩)(hz:us.length<=sizeLine)(h:Vh CV xs us):DV K (.ktup xs) (.ref a):=⟨.ref a,rfl,vv hl hz h⟩
theorem Ey{ls:List (Str × Tok × Value)}{kvs:List (Key × PV)}(h:Vh (λ(p:Key × PV) (l:Str × Tok × Value)=>p.1= .inr l.1/\DV K p.2 l.2.2) kvs ls): ∃ kws,KV kws (ls.map λp=>((VT p.1:Key),p.2.2))/\ ∀ ρ H,RK K ρ H kvs kws:=by
 induction h with
 | nil=>exact⟨[],.nil,λ_ _=> .nil⟩
 | @cons p l ps qs a t ih =>
  obtain⟨kws,r,q⟩:=ih
  obtain⟨e,v,r1,r2⟩:=a
  exact⟨(.inr l.1,v)::kws,.cons ⟨rfl,r1⟩ r,fun ρ H=> .cons ⟨e,r2 ρ H⟩ (q ρ H)⟩
theorem xW{x:Str}{a:Addr}{ls:List (Str × Tok × Value)}{kvs:List (Key × PV)}{ep:Nat}(hm:mg x=some (.ref a))(hl:K.lookup a=some { cls:= .type "dict",data:= .dict (ls.map (EY w)).toArray ep })(ha:(a == Vq)=false)(hn:(ls.map λp=>(VT p.1:Key)).Nodup)
  (h:Vh (λ(p:Key × PV) (l:Str × Tok × Value)=>p.1= .inr l.1/\DV K p.2 l.2.2) kvs ls): ∃ a kws,mg x=some (.ref a)/\KD P w K a kws/\ ∀ ρ H,RK K ρ H kvs kws:=by
 obtain⟨kws,r,q⟩:=Ey h;exact⟨a,kws,hm,OS hl ha hn r,q⟩
end
abbrev Kc(ai:List Value)(n:Nat)(dd:Option Addr)(sl:Array (Option Value)):Obj:={ cls:= .type "tuple",dict:=dd,data:= .seq ai.toArray n,slots:=sl }
theorem vY{k:Int}(h1: -(2 ^ 63)<=k)(h2:k < 2 ^ 63): ¬ (decide (k < -(2 ^ 63))||decide (k ≥ 2 ^ 63))=true:=by
 simp only[WT,decide_eq_true_eq];omega
theorem xQ(l:Addr)(ai:List Value)(n:Nat)(k:Int)(u:Tok)(dd:Option Addr)(sl:Array (Option Value))(h1: -(2 ^ 63)<=k)(h2:k < 2 ^ 63)(hs:(ai.toArray.isEmpty||k == 1)=true) :
  Meets (WO.«tuple.__mul__» ⟨[.ref l,.int k u],[]⟩) (λ_ R s=>s.heap.get? l=some (Kc ai n dd sl)/\R (.ok (.ret (.ref l))) s) :=
 .of_wp λprog w A R s h=>by
  obtain⟨hp,g,d,tk,os⟩:=s;obtain⟨hl,h⟩:=h;have f1:=Zg
  wp_walk using U1 hl,Ww hl
  refine VF (λz=>absurd z (vY h1 h2)) (λ_=>?_)
  wp_walk using U1 hl,Ww hl
  refine VF (λ_=>?_) (λz=>absurd hs z)
  wp_walk using U1 hl,Ww hl
  exact⟨_,rfl,h⟩
theorem xc(l:Addr)(ai:List Value)(n:Nat)(k:Int)(u:Tok)(dd:Option Addr)(sl:Array (Option Value))(h1: -(2 ^ 63)<=k)(h2:k<=0)(hs: ¬ (ai.toArray.isEmpty||k == 1)=true) :
  Meets (WO.«tuple.__mul__» ⟨[.ref l,.int k u],[]⟩) (λ_ R s=>s.heap.get? l=some (Kc ai n dd sl)/\R (.ok (.ret (.ref s.heap.objs.size))) { s with heap:=s.heap.push { cls:= .type "tuple",data:= .seq #[] } }) :=
 .of_wp λprog w A R s h=>by
  obtain⟨hp,g,d,tk,os⟩:=s;obtain⟨hl,h⟩:=h;have f1:=Zg;have hz:(decide (k<=0)||ai.toArray.isEmpty)=true:=by simp[h2]
  wp_walk using U1 hl,Ww hl
  refine VF (λz=>absurd z (vY h1 (by omega))) (λ_=>?_)
  wp_walk using U1 hl,Ww hl
  refine VF (λz=>absurd z hs) (λ_=>?_);refine VF (λ_=>?_) (λz=>absurd hz z);exact TY (m:=VD _) (Vz (Ud ⟨_,rfl,h⟩) (by size_fits))
theorem xR(l:Addr)(ai:List Value)(n:Nat)(k:Int)(u:Tok)(dd:Option Addr)(sl:Array (Option Value))(h1:0 < k)(h2:(ai.length:Int)*k<=100000)(hk:k<=100000)(hs: ¬ (ai.toArray.isEmpty||k == 1)=true) :
  Meets (WO.«tuple.__mul__» ⟨[.ref l,.int k u],[]⟩) (λ_ R s=>s.heap.get? l=some (Kc ai n dd sl)/\R (.ok (.ret (.ref s.heap.objs.size))) { s with heap:=s.heap.push { cls:= .type "tuple",data:= .seq (Uc k.toNat ai).flatten.toArray } }) :=
 .of_wp λprog w A R s h=>by
  obtain⟨hp,g,d,tk,os⟩:=s;obtain⟨hl,h⟩:=h;have f1:=Zg;have hz: ¬ (decide (k<=0)||ai.toArray.isEmpty)=true:=by
   intro z;rw[WT,decide_eq_true_eq] at z;rcases z with z | z
   . omega
   . exact hs (by rw[z];rfl)
  have hc1: ¬ ((ai.toArray.size:Int)*k > (2 ^ 63 - 1) / 8):=by rw[Uh];omega
  have hc2: ¬ (Yv ((ai.toArray.size:Int)*k)=true):=by
   unfold Yv;rw[Uh,decide_eq_true_eq,show((sizeLine:Nat):Int)=16777216 from by decide];omega
  have e0:aaz (λx1 x2=>x1++x2) #[] (Uc k.toNat ai.toArray)=(Uc k.toNat ai).flatten.toArray:=by
   have:=foldl_rep ai k.toNat [];rw[UL] at this;exact this
  wp_walk using U1 hl,Ww hl
  refine VF (λz=>absurd z (vY (by omega) (by omega))) (λ_=>?_)
  wp_walk using U1 hl,Ww hl
  refine VF (λz=>absurd z hs) (λ_=>?_);refine VF (λz=>absurd z hz) (λ_=>?_);refine VF (λhab=>absurd hab hc1) (λ_=>?_);refine VF (λhab=>absurd hab hc2) (λ_=>?_);refine TY (m:=VD _) (Vz (Ud ⟨_,rfl,?_⟩) ?_)
  . rw[e0];exact h
  . rw[e0];show(Uc k.toNat ai).flatten.toArray.size<=sizeLine;rw[Uh,len_rep,aaJ];refine UM (show ai.length*k.toNat<=100000 from ?_) (by decide);have e1:((ai.length*k.toNat:Nat):Int)=(ai.length:Int)*k:=by rw[abj,aah (by omega)]
    omega
noncomputable def Nt(K:TV):R2:=λx y H Q=> ∃ a k xs,x= .ref a/\y= .int k/\fc K H a xs/\(xs.length:Int)*k<=100000/\ -100000<=k/\k<=100000/\(xs=[]\/k=1->Q (.ref a) H)/\(¬ (xs=[]\/k=1)-> ∀ p,H p=none->Q (.ref p) (upd H p (.tup (Uc k.toNat xs).flatten)))
theorem B3{X:Cx}:cW X (Vw .Mult) (Nt X.K):=by
 intro pins s σ H x y v u Q I rx ry h;obtain⟨a,k,xs,rfl,rfl,ha,hl,k1,k2,q1,q2⟩:=h;cases(show v=Ux a from rx);obtain⟨t,rfl⟩:=ry;obtain⟨ai,r1,p1,_⟩:=I.tuple ha;obtain⟨⟨cls,dd,data,sl⟩,ho,hc,n,hd⟩:=id p1;simp only at hc hd;subst hc hd;have hlen:=r1.length;refine Yz (T:= "tuple") (U:= "int") (by decide) ⟨_,ho,rfl⟩ (λs'=>Zp s' k t) lV PySem.F.fills_int_mul ZO rZ PySem.F.slot_int_index.lookup
  (V2 ZO (Zp s k t) PySem.F.entry_int_rmul (PySem.F.args_int_rmul_2 _ _) (o9 k t a ai.toArray n dd sl) ⟨ho,rfl,⟨_,ho,rfl⟩,?_⟩)
 have hx:xs=[]↔ai=[]:=(r1.nO).symm;by_cases hs:xs=[]\/k=1
 . have hb:(ai.toArray.isEmpty||k == 1)=true:=by
    rcases hs with z | z
    . rw[hx.mp z];rfl
    . rw[z];simp
   exact V2 V7 ⟨_,ho,rfl⟩ Xu (Xm _ _) (xQ a ai n k t dd sl (by omega) (by omega) hb) ⟨ho,⟨.ref a,H,I,rfl,q1 hs⟩⟩
 . have hb: ¬ (ai.toArray.isEmpty||k == 1)=true:=λz=>hs (by
    rw[WT] at z;rcases z with z | z
    . exact .inl (hx.mpr (by simpa using z))
    . exact .inr (by simpa using z))
   by_cases hk:0 < k
   . refine V2 V7 ⟨_,ho,rfl⟩ Xu (Xm _ _) (xR a ai n k t dd sl hk (by rw[<- hlen];exact hl) k2 hb) ⟨ho,?_⟩;refine⟨.ref s.heap.objs.size,_,I.laid (t':=s.toks) (o:= .tup (Uc k.toNat xs).flatten) (λb ob q=>T6 _ q) (Ua _) ?_,rfl,q2 hs _ (I.bq.fresh (Ua _))⟩;refine⟨?_,_,r1.rep k.toNat,qp.new _ _⟩;rw[len_rep,aaJ];refine UM (show xs.length*k.toNat<=100000 from ?_) (by decide);have e1:((xs.length*k.toNat:Nat):Int)=(xs.length:Int)*k:=by rw[abj,aah (by omega)]
     omega
   . refine V2 V7 ⟨_,ho,rfl⟩ Xu (Xm _ _) (xc a ai n k t dd sl (by omega) (by omega) hb) ⟨ho,?_⟩;refine⟨.ref s.heap.objs.size,_,I.laid (t':=s.toks) (o:= .tup (Uc k.toNat xs).flatten) (λb ob q=>T6 _ q) (Ua _) ?_,rfl,q2 hs _ (I.bq.fresh (Ua _))⟩;have:k.toNat=0:=by omega
     rw[this];exact⟨UQ _,[],.nil,qp.new _ _⟩
section
variable{X:Cx}{pg:Tb}{k:Nat}
theorem ao.rep{K:TV}{ρ :List Addr}{H:Hp}{xs:List PV}{vs:List V}(r:ao K ρ H xs vs): ∀(n:Nat),ao K ρ H (Uc n xs).flatten (Uc n vs).flatten
 | 0=>aJ.mpr rfl
 | n+1=>by rw[VS,VS,Wt,Wt];exact r.app (r.rep n)
noncomputable def cY:PV->PV->PH->RV PV:=λx y h=>match x,y with
 | .int i,.int j=>if (-(2 ^ 64) < i/\i < 2 ^ 64)\/(-(2 ^ 64) < j/\j < 2 ^ 64) then .ok (.int (i*j)) h else .no
 | .tup xs,.int k=>if (xs.length:Int)*k<=100000/\ -100000<=k/\k<=100000 then .ok (.tup (Uc k.toNat xs).flatten) h else .no
 | .ref n,.int k=>(match h[n]? with
  | some (.lst xs)=>if (-(2 ^ 63)<=k/\k < 2 ^ 63)/\xs.length*k.toNat<=sizeLine then .ok (.ref h.length) (h++[.lst (Uc k.toNat xs).flatten]) else .no
  | _=> .no)
 | _,_=> .no
theorem LU:cV X pg k-> ∃ r,cW X (Vw .Mult) r/\m8 X.K r cY:=λ_=>⟨_,JV.or (B3.or Mc),fun ρ h H x y x' y' Q v h' s rx ry q P=>by
 unfold cY at q;split at q
 . split at q
   . rename_i hc;cases q;rw[rel] at rx;rw[rel] at ry;exact .inl ⟨_,_,rx,ry,hc,P _ ρ H (.refl _ _) s (by rw[rel])⟩
   . exact nomatch q
 . rename_i xs k;split at q
   . rename_i hc;cases q;have rx':=rx;rw[rel] at rx;rw[rel] at ry;obtain⟨a,us,rfl,e2,e3⟩:=rx;refine .inr (.inl ⟨a,k,us,rfl,ry,.of e2,by rw[<- e3.len];exact hc.1,hc.2.1,hc.2.2,λz=>?_,λz p hp=>nQ s (e3.rep _) P p hp⟩);have:(Uc k.toNat xs).flatten=xs:=by
      rcases z with z | z
      . subst z;have:xs=[]:=X3 e3.len;subst this;simp
      . rw[z];simp[Uc]
     rw[this] at P;exact P _ ρ H (.refl _ _) s rx'
   . exact nomatch q
 . split at q
   . rename_i xs en;split at q
     . rename_i hc;cases q;rw[rel] at ry;obtain⟨a,us,rfl,_,e1,e2⟩:=s.lst en rx;exact .inr (.inr ⟨a,_,us,rfl,ry,e1,hc.1.1,hc.1.2,by rw[<- e2.len];exact hc.2,λp hp=>dM s (e2.rep _) P p hp⟩)
     . exact nomatch q
   . exact nomatch q
 . exact nomatch q⟩
end
section
variable{prog:Uy}{w:World}{A:UW}{E:Value->T7->Prop}{s:T7}
theorem uQ{t:Addr}{us:List Value}{R:List Value->T7->Prop}(ht:s.heap.IsTuple t us.toArray)(fits:us.length<=sizeLine)
  (q:R us { s with heap:=(s.heap.push (WN "list" #[] 0)).update s.heap.objs.size (Wf (· ++us.toArray)) }):wpAny (model prog w) A (collect (.ref t)) R E s:=by
 obtain⟨ob,e1,e2,m,e3⟩:=id ht;have e1':=T6 (WN "list" #[] 0) e1;have own:(s.heap.push (WN "list" #[] 0)).get? s.heap.objs.size=some (WN "list" #[] 0):=Um _ rfl;have sum:(#[]:Array Value)++us.toArray=us.toArray:=by simp
 unfold collect;refine TY (wpAny_runValue (X9 entry_proto_collect' (show wpAny _ _ (newList [] >>= λl=>again (.builtin "list.__iadd__" ⟨[l,.ref t],[]⟩)) _ _ s from ?_)));refine TY (XU (Ud ⟨Code.quiet_builtin _ (by decide +kernel),X9 entry_list_iadd' (show wpAny _ _ (XR _ (.ref t) _) _ _ { s with heap:=s.heap.push (WN "list" #[] 0) } from ?_)⟩));unfold XR;refine TY (W8 (T:= "tuple") ⟨ob,e1',e2⟩ (Rp (by simp) (TY (aaQ e1' e3 (TY (aaQ own rfl ?_))))));refine Ss (by simp) (TY (Y0 own rfl (Ud ?_) (UQ _) (by rw[sum,Uh];omega)));refine TY (Ww (get?_update_seq own _) ?_);show wpAny _ _ (pure ((#[]:Array Value)++us.toArray).toList) R E _;rw[sum];exact Ud q
theorem nF{t:Addr}{us:List Value}{ss:List Str}{R:Value->T7->Prop}(ht:s.heap.IsTuple t us.toArray)(hS:Yh us ss)(n64:us.length < 64)
  (q: ∀(out:Array Value)(ss':List Str),Yh out.toList ss'->ss'.Perm ss->YI ss'=true->R (.ref (s.heap.objs.size+1)) { s with heap:=aa4 s.heap us out }):wpAny (model prog w) A (call (.builtin "sorted") [.ref t]) R E s:=by
 refine Xb abc aaK aaL (aaM (.ref t)) ?_;unfold WO.«sorted»;refine TY (m:=checkCount "sorted" 1 1 [Ux t].length) (Ud (TY (uQ ht (L2.lI n64) (TY (XU ?_ (L2.lI n64))))));show wpAny _ _ _ _ _ { s with heap:=kR s.heap us };rw[fu];exact TY (VJ (lC (jo s.heap us) hS n64 λout ss' a1 a2 a3=>Ud ⟨_,rfl,q out ss' a1 a2 a3⟩))
end
section
variable{X:Cx}{pg:Tb}{k:Nat}
noncomputable def GI(K:TV):List V->Hp->VK->Prop:=λxs H Q=> ∃ p ss,xs=[.ref p]/\fc K H p (ss.map V.str)/\ss.length < 64/\ ∀ l ss',H l=none->ss'.Perm ss->YI ss'=true->Q (.ref l) (upd H l (.lst (ss'.map V.str)))
theorem vA:aQ X (.builtin "sorted") (GI X.K):=by
 intro pins s σ H xs us Q I r ⟨p,ss,e,hS,h64,q⟩;subst e;obtain⟨u,rfl,ru⟩:=vals1 r;cases(show u=Ux p from ru);obtain⟨ai,hv,hl,hz⟩:=I.tuple hS;have sa:=fW hv;refine nF hl sa (by rw[sa.length];exact h64) λout ss' a1 a2 a3=>?_;obtain⟨e,he⟩:=aaN s.heap ai out;have hlen:(ss'.map V.str).length<=sizeLine:=by rw[TZ,a2.length_eq];exact Wr (Up h64 (by decide))
 obtain⟨hn,I'⟩:=I.mK (a:=s.heap.objs.size+1) (o:= .lst (ss'.map V.str)) (t':=s.toks) (λb o e=>aao e) (VZ (YG _)) ⟨hlen,out.toList,e,jw a1,by simpa [WN] using he⟩;exact⟨.ref _,_,I',rfl,q _ ss' hn a2 a3⟩
noncomputable def eT:List PV->PH->RV PV:=λxs h=>match xs with
 | [.tup ys]=>(match eO ys with
  | some ss=>if ss.length < 64 then .ok (.ref h.length) (h++[.lst ((eZ ss).map PV.str)]) else .no
  | none=> .no)
 | _=>kK xs h
theorem AV:cV X pg k-> ∃ r,aQ X (.builtin "sorted") r/\zg X.K r eT:=λA=>⟨_,vA.or (uZ A.calm),fun ρ h H xs us Q v h' s r q P=>by
 unfold eT at q;split at q
 . rename_i ys;split at q
   . rename_i ss es;split at q
     . rename_i hl;cases q;obtain⟨u,rfl,r1⟩:=aO r;rw[rel] at r1;obtain⟨a,vs,rfl,e1,e2⟩:=r1;rw[eV es,bW] at e2;subst e2;refine .inl ⟨a,ss,rfl,.of e1,hl,λl ss' hp pm so=>?_⟩;rw[oR pm so];exact dM s (bW.mpr rfl) P l hp
     . exact nomatch q
   . exact nomatch q
 . exact .inr (uI A ρ h H _ us Q v h' s r q P)⟩
end
noncomputable def fin(h:PH)(r:RV Fl):RV PV:=match r with
 | .ok (.rt v) h'=>settle h v h'
 | .ok (.nx _) h'=>settle h .non h'
 | .ok _ _=> .no
 | .ex c us h'=> .ex c us h'
 | .no=> .no
theorem run_eq{pg:Tb}{k:Nat}{f:String}{d:Df}{vs:List PV}{h:PH}(hf:pg.fns f=some d)(hn:vs.length=d.ps.length):run pg (k+1) f vs h=fin h (d.body (run pg k) (vs.map some++Uc d.nl none) h):=by
 rw[run,hf];simp only[if_pos hn];rfl
theorem eN{α β :Type}{a: α}{h:PH}{f: α ->PH->RV β}:(RV.ok a h).bind f=f a h:=(rfl)
theorem lZ{h h':PH}{v:PV}:fin h (.ok (.rt v) h')=settle h v h':=(rfl)
theorem Gp{h:PH}{c:Prop}[Decidable c]{a b:RV Fl}:fin h (if c then a else b)=if c then fin h a else fin h b:=by split<;>rfl
theorem nu{h:PH}{v:PV}:settle h v h= .ok v h:=by unfold settle;split<;>simp
theorem bI{h g:PH}{v:PV}(hv:v.flat=true):settle h v (h++g)= .ok v h:=by unfold settle;rw[hv,jS];simp
theorem bR{h h':PH}{v:PV}(hv:v.flat=false):settle h v h'= .ok v h':=by unfold settle;rw[hv];rfl
theorem j7{h g:PH}{v:PV}{i:Nat}{o o':PO}(hv:v.flat=true)(e:h[i]?=some o)(m:o.gC=o'.gC)(hu:o'.iM h.length=true):settle h v (h.set i o'++g)= .ok v (h.set i o'):=by
 unfold settle;have:ck h.length h (h.set i o'++g)=true:=by
  have h1:=px hu h (h++g) i o (jS _ h g) e m
  rwa[Z3 _ _ (T1.mp e).1] at h1
 rw[hv,this];simp[List.take_append_of_le_length]
theorem m6{h:PH}{v:PV}{i:Nat}{o o':PO}:settle h v (h.set i o')= .ok v (h.set i o'):=by
 unfold settle;split
 . rw[<- UI (as:=h) (i:=i) (a:=o'),Zf]
 . rfl
theorem cw{a b:String}:Ul a=Ul b↔a=b:=by
 refine⟨λe=>?_,λe=>by rw[e]⟩;rw[Zx,Zx] at e;have e1:a.toList.map aaD=b.toList.map aaD:=by
  have:=congrArg (λs:Str=>s.cps.toList) e;simpa using this
 have inj: ∀{l m:List Char},l.map aaD=m.map aaD->l=m:=by
  intro l
  induction l with
  | nil=>intro m h;cases m with | nil=>rfl | cons=>exact nomatch h
  | cons x r ih =>
   intro m h
   cases m with
   | nil=>exact nomatch h
   | cons y t =>
    simp only[abi,T9] at h
    have:x=y:=Char.toNat_inj.mp h.1
    rw[this,ih h.2]
 exact String.toList_inj.mp (inj e1)
section
variable{c:CF}{e e1:aq}{h h1:PH}{a b d:ME}{t u:MT}{r:MA}{x y v:PV}{f g:PV->PV->PH->RV PV}{s s':MS}{i n:Nat}
noncomputable def PM(f:PV->PV->PH->RV PV)(b:ME)(c:CF)(e:aq)(x:PV)(h1:PH):RV PV:=(b c e h1).bind λy h2=>f x y h2
theorem IU:aj f a b c e h=(a c e h).bind (PM f b c e):=rfl
theorem DQ:PM f b c e x h1=(b c e h1).bind (f x):=rfl
theorem OD{f:PV->PH->RV PV}:rO f a c e h=(a c e h).bind f:=rfl
noncomputable def LW(o:Option (Option PV))(h:PH):RV PV:=match o with
 | some (some v)=> .ok v h
 | _=> .no
theorem xU:aa i c e h=LW (e[i]?) h:=rfl
theorem tY:LW (some (some v)) h= .ok v h:=rfl
theorem PQ:eC v c e h= .ok v h:=rfl
theorem KZ{p:Bool}:ua (.bl p) h= .ok p h:=rfl
noncomputable def Ei(b:ME)(c:CF)(e:aq)(x:Bool)(h1:PH):RV PV:=if x=true then b c e h1 else .ok (.bl false) h1
theorem JZ:sN a b c e h=((a c e h).bind ua).bind (Ei b c e):=rfl
theorem Fo:Ei b c e true h=b c e h:=rfl
theorem FF:Ei b c e false h= .ok (.bl false) h:=rfl
theorem GZ{p:Prop}[Decidable p]:Ei b c e (decide p) h=if p then b c e h else .ok (.bl false) h:=by unfold Ei;by_cases q:p<;>simp[q]
noncomputable def Oz(b:ME)(c:CF)(e:aq)(x:Bool)(h1:PH):RV PV:=if x=true then .ok (.bl true) h1 else b c e h1
theorem Qy:Qm a b c e h=((a c e h).bind ua).bind (Oz b c e):=rfl
theorem M7:Oz b c e true h= .ok (.bl true) h:=rfl
theorem J4:Oz b c e false h=b c e h:=rfl
theorem Nc{p:Prop}[Decidable p]:Oz b c e (decide p) h=if p then .ok (.bl true) h else b c e h:=by unfold Oz;by_cases q:p<;>simp[q]
noncomputable def N7(x:Bool)(h1:PH):RV PV:= .ok (.bl (!x)) h1
theorem KL:EH a c e h=((a c e h).bind ua).bind N7:=rfl
theorem Gq{p:Bool}:N7 p h= .ok (.bl (!p)) h:=rfl
noncomputable def Kj(a b:ME)(c:CF)(e:aq)(x:Bool)(h1:PH):RV PV:=if x=true then a c e h1 else b c e h1
theorem P7:uc t a b c e h=(t c e h).bind (Kj a b c e):=rfl
theorem Np:Kj a b c e true h=a c e h:=rfl
theorem Lu:Kj a b c e false h=b c e h:=rfl
theorem Kd{p:Prop}[Decidable p]:Kj a b c e (decide p) h=if p then a c e h else b c e h:=by unfold Kj;by_cases q:p<;>simp[q]
theorem NA{p:Prop}[Decidable p]:Kj a b c e (!decide p) h=if p then b c e h else a c e h:=by unfold Kj;by_cases q:p<;>simp[q]
theorem KN:aE a c e h=(a c e h).bind ua:=rfl
noncomputable def pb(u:MT)(c:CF)(e:aq)(x:Bool)(h1:PH):RV Bool:=if x=true then u c e h1 else .ok false h1
theorem Hl:si t u c e h=(t c e h).bind (pb u c e):=rfl
theorem Ee:pb u c e true h=u c e h:=rfl
theorem DS:pb u c e false h= .ok false h:=rfl
theorem CL{p:Prop}[Decidable p]:pb u c e (decide p) h=if p then u c e h else .ok false h:=by unfold pb;by_cases q:p<;>simp[q]
theorem Bw{p:Prop}[Decidable p]:pb u c e (!decide p) h=if p then .ok false h else u c e h:=by unfold pb;by_cases q:p<;>simp[q]
noncomputable def xp(u:MT)(c:CF)(e:aq)(x:Bool)(h1:PH):RV Bool:=if x=true then .ok true h1 else u c e h1
theorem Lx:IA t u c e h=(t c e h).bind (xp u c e):=rfl
theorem ER:xp u c e true h= .ok true h:=rfl
theorem FK:xp u c e false h=u c e h:=rfl
theorem HP{p:Prop}[Decidable p]:xp u c e (decide p) h=if p then .ok true h else u c e h:=by unfold xp;by_cases q:p<;>simp[q]
theorem Hj{p:Prop}[Decidable p]:xp u c e (!decide p) h=if p then u c e h else .ok true h:=by unfold xp;by_cases q:p<;>simp[q]
noncomputable def Jg(x:Bool)(h1:PH):RV Bool:= .ok (!x) h1
theorem EK:vj t c e h=(t c e h).bind Jg:=rfl
theorem BU{p:Bool}:Jg p h= .ok (!p) h:=rfl
theorem FZ:aP c e h= .ok true h:=rfl
theorem yX:ah c e h= .ok [] h:=rfl
noncomputable def Kq(x:PV)(xs:List PV)(h2:PH):RV (List PV):= .ok (x::xs) h2
noncomputable def L1(r:MA)(c:CF)(e:aq)(x:PV)(h1:PH):RV (List PV):=(r c e h1).bind (Kq x)
theorem pv:ab a r c e h=(a c e h).bind (L1 r c e):=rfl
theorem rJ:L1 r c e x h=(r c e h).bind (Kq x):=rfl
theorem rC{xs:List PV}:Kq x xs h= .ok (x::xs) h:=rfl
theorem wW{α :Type}{n:Nat}{r:RV α}(hn:n<=16777216):lI n r=r:=by unfold lI;exact if_pos hn
noncomputable def Ot(xs:List PV)(h:PH):RV PV:=lI xs.length (.ok (.tup xs) h)
theorem LK:au r c e h=(r c e h).bind Ot:=rfl
theorem Gw{xs:List PV}:Ot xs h=lI xs.length (.ok (.tup xs) h):=(rfl)
noncomputable def Oj(xs:List PV)(h:PH):RV PV:=lI xs.length (.ok (.ref h.length) (h++[.lst xs]))
theorem LG:bG r c e h=(r c e h).bind Oj:=rfl
theorem H9{xs:List PV}:Oj xs h=lI xs.length (.ok (.ref h.length) (h++[.lst xs])):=(rfl)
theorem yh{f:String}:ae f r c e h=(r c e h).bind (c f):=rfl
theorem QN{f:List PV->PH->RV PV}:eB f r c e h=(r c e h).bind f:=rfl
noncomputable def R5(f:PV->List PV->PH->RV PV)(ty:PV->PH->Bool)(r:MA)(c:CF)(e:aq)(x:PV)(h1:PH):RV PV:=if ty x h1=true then(r c e h1).bind (f x) else .no
theorem Sd{f:PV->List PV->PH->RV PV}{ty:PV->PH->Bool}:eM f ty a r c e h=(a c e h).bind (R5 f ty r c e):=rfl
noncomputable def Ac(g:PV->PV->PH->RV PV)(d:ME)(c:CF)(e:aq)(y:PV)(k:Bool)(h3:PH):RV PV:=if k=true then(d c e h3).bind (g y) else .ok (.bl false) h3
noncomputable def Jp(f g:PV->PV->PH->RV PV)(d:ME)(c:CF)(e:aq)(x y:PV)(h2:PH):RV PV:=((f x y h2).bind ua).bind (Ac g d c e y)
noncomputable def Qd(f g:PV->PV->PH->RV PV)(b d:ME)(c:CF)(e:aq)(x:PV)(h1:PH):RV PV:=(b c e h1).bind (Jp f g d c e x)
theorem Oy:r9 f g a b d c e h=(a c e h).bind (Qd f g b d c e):=rfl
theorem Lb:Qd f g b d c e x h=(b c e h).bind (Jp f g d c e x):=rfl
theorem L3:Jp f g d c e x y h=((f x y h).bind ua).bind (Ac g d c e y):=rfl
theorem FE:Ac g d c e y true h=(d c e h).bind (g y):=rfl
theorem Gz:Ac g d c e y false h= .ok (.bl false) h:=rfl
theorem FD{p:Prop}[Decidable p]:Ac g d c e y (decide p) h=if p then(d c e h).bind (g y) else .ok (.bl false) h:=by unfold Ac;by_cases q:p<;>simp[q]
noncomputable def AJ(s:MS)(c:CF)(f:Fl)(h1:PH):RV Fl:=match f with
 | .nx e1=>s c e1 h1
 | f=> .ok f h1
theorem Ea:ag s s' c e h=(s c e h).bind (AJ s' c):=rfl
theorem yk:AJ s c (.nx e) h=s c e h:=(rfl)
theorem Gd:AJ s c (.rt v) h= .ok (.rt v) h:=rfl
theorem Fd:AJ s c (.bk e) h= .ok (.bk e) h:=rfl
theorem F5:AJ s c (.ct e) h= .ok (.ct e) h:=rfl
theorem Qk:cz c e h= .ok (.nx e) h:=rfl
noncomputable def S2(e:aq)(_:PV)(h1:PH):RV Fl:= .ok (.nx e) h1
theorem EO:cJ a c e h=(a c e h).bind (S2 e):=rfl
theorem CP:S2 e x h= .ok (.nx e) h:=rfl
noncomputable def PN(v:PV)(h1:PH):RV Fl:= .ok (.rt v) h1
theorem M8:ax a c e h=(a c e h).bind PN:=rfl
theorem Fi:PN v h= .ok (.rt v) h:=rfl
noncomputable def xq(s s':MS)(c:CF)(e:aq)(x:Bool)(h1:PH):RV Fl:=if x=true then s c e h1 else s' c e h1
theorem KA:bU t s s' c e h=(t c e h).bind (xq s s' c e):=rfl
theorem Gb:xq s s' c e true h=s c e h:=rfl
theorem HD:xq s s' c e false h=s' c e h:=rfl
theorem Hk{p:Prop}[Decidable p]:xq s s' c e (decide p) h=if p then s c e h else s' c e h:=by unfold xq;by_cases q:p<;>simp[q]
theorem Ff{p:Prop}[Decidable p]:xq s s' c e (!decide p) h=if p then s' c e h else s c e h:=by unfold xq;by_cases q:p<;>simp[q]
noncomputable def Na(e1:aq)(h2:PH):RV Fl:= .ok (.nx e1) h2
noncomputable def M3(g:MG)(e:aq)(v:PV)(h1:PH):RV Fl:=(g v e h1).bind Na
theorem JL{g:MG}:ak a g c e h=(a c e h).bind (M3 g e):=rfl
theorem GG:M3 (gN i) e v h= .ok (.nx (e.set i (some v))) h:=rfl
theorem G3{n:Nat}{gs:List PV->aq->PH->RV aq}:M3 (gT n gs) e v h=(gT n gs v e h).bind Na:=rfl
theorem NS:Na e h= .ok (.nx e) h:=rfl
theorem Pt:gN i v e h= .ok (e.set i (some v)) h:=rfl
theorem O3{n:Nat}{gs:List PV->aq->PH->RV aq}{xs:List PV}(hn:xs.length=n):gT n gs (.tup xs) e h=gs xs e h:=if_pos hn
theorem NR{gs:List PV->aq->PH->RV aq}{x1 x2:PV}:gT 2 gs (.tup [x1,x2]) e h=gs [x1,x2] e h:=rfl
theorem NI{gs:List PV->aq->PH->RV aq}{x1 x2 x3:PV}:gT 3 gs (.tup [x1,x2,x3]) e h=gs [x1,x2,x3] e h:=rfl
theorem LR{gs:List PV->aq->PH->RV aq}{x1 x2 x3 x4:PV}:gT 4 gs (.tup [x1,x2,x3,x4]) e h=gs [x1,x2,x3,x4] e h:=rfl
theorem NK{gs:List PV->aq->PH->RV aq}{x1 x2 x3 x4 x5:PV}:gT 5 gs (.tup [x1,x2,x3,x4,x5]) e h=gs [x1,x2,x3,x4,x5] e h:=rfl
theorem Lh:gq [] e h= .ok e h:=rfl
theorem Kg{g:MG}{r:List PV->aq->PH->RV aq}{t:List PV}:aW g r (v::t) e h=(g v e h).bind (r t):=rfl
noncomputable def D8(f:PV->PV->PV->PH->RV Unit)(e:aq)(v x y:PV)(h3:PH):RV Fl:=(f x y v h3).bind λ_ h4=> .ok (.nx e) h4
noncomputable def CT(f:PV->PV->PV->PH->RV Unit)(i:ME)(c:CF)(e:aq)(v x:PV)(h2:PH):RV Fl:=(i c e h2).bind (D8 f e v x)
noncomputable def II(f:PV->PV->PV->PH->RV Unit)(o i:ME)(c:CF)(e:aq)(v:PV)(h1:PH):RV Fl:=(o c e h1).bind (CT f i c e v)
theorem L6{f:PV->PV->PV->PH->RV Unit}{o i:ME}:fm f o i a c e h=(a c e h).bind (II f o i c e):=rfl
theorem Hv{f:PV->PV->PV->PH->RV Unit}{o i:ME}:II f o i c e v h=(o c e h).bind (CT f i c e v):=rfl
theorem Ij{f:PV->PV->PV->PH->RV Unit}{i:ME}:CT f i c e v x h=(i c e h).bind (D8 f e v x):=rfl
noncomputable def Tp(e:aq)(_:Unit)(h:PH):RV Fl:= .ok (.nx e) h
theorem Ig{f:PV->PV->PV->PH->RV Unit}:D8 f e v x y h=(f x y v h).bind (Tp e):=rfl
theorem JJ{u:Unit}:Tp e u h= .ok (.nx e) h:=rfl
noncomputable def bM(g:MG)(s:MS)(c:CF)(x:PV)(e:aq)(h:PH):RV Fl:=(g x e h).bind (s c)
noncomputable def fork(g:MG)(s:MS)(c:CF)(e:aq)(it:k4)(h1:PH):RV Fl:=bT it (bM g s c) it.items e h1
theorem oG{i:MI}{g:MG}:kZ i g s c e h=(i c e h).bind (fork g s c e):=(rfl)
theorem kL{g:MG}{it:k4}:fork g s c e it h=bT it (bM g s c) it.items e h:=(rfl)
theorem BY{g:MG}:bM g s c x e h=(g x e h).bind (s c):=(rfl)
theorem Jw:kj a c e h=(a c e h).bind qy:=(rfl)
theorem Lv{xs:List PV}:qy (.tup xs) h= .ok ⟨none,xs⟩ h:=(rfl)
theorem JX{xs:List PV}:qy (.ktup xs) h= .ok ⟨none,xs⟩ h:=(rfl)
noncomputable def Q8(n:Nat)(h:PH)(o:Option PO):RV k4:=match o with
 | some (.lst xs)=> .ok ⟨some n,xs⟩ h
 | some (.kD xs)=> .ok ⟨some n,xs⟩ h
 | _=> .no
theorem DZ{n:Nat}:qy (.ref n) h=Q8 n h (h[n]?):=by
 have e:qy (.ref n) h=(match cP h n with | some xs=> .ok ⟨some n,xs⟩ h | none=> .no):=rfl;rw[e];unfold cP Q8;generalize h[n]?=oo;cases oo with
 | none=>rfl
 | some o=>cases o<;>rfl
theorem BO{n:Nat}{xs:List PV}:Q8 n h (some (.lst xs))= .ok ⟨some n,xs⟩ h:=(rfl)
theorem Mo{n:Nat}{xs:List PV}:Q8 n h (some (.kD xs))= .ok ⟨some n,xs⟩ h:=(rfl)
noncomputable def Rq (vs:List PV) (h1:PH):RV k4:=match vs with
 | [.int j]=>if -(2 ^ 62)<=j∧j < 2 ^ 62 then .ok ⟨none,aw 0 j.toNat⟩ h1 else .no
 | _=> .no
theorem om : cF r c e h = (r c e h).bind Rq := by
  unfold cF;generalize r c e h = z;cases z with
  | ok a b =>
    rw [c9, c9]
    unfold Rq
    split
    . rfl
    . rename_i hx
      first
      | rfl
      | (split
         . exact absurd rfl (hx _)
         . rfl)
  | ex a b d => rfl
  | no => rfl
theorem kA {j:Int} (hj: -4611686018427387904<=j∧j < 4611686018427387904):Rq [.int j] h= .ok ⟨none,aw 0 j.toNat⟩ h:=by
 unfold Rq;exact if_pos (by omega)
noncomputable def Rv (x y:PV) (h2:PH):RV k4:=match x.seq?,y.seq? with
 | some xs,some ys=> .ok ⟨none,(xs.zip ys).map λp=> .tup [p.1,p.2]⟩ h2
 | _,_=> .no
noncomputable def SK(b:ME)(c:CF)(e:aq)(x:PV)(h1:PH):RV k4:=(b c e h1).bind (Rv x)
theorem LZ:Nd a b c e h=(a c e h).bind (SK b c e):=(rfl)
theorem HX:SK b c e x h=(b c e h).bind (Rv x):=(rfl)
theorem C5{xs ys:List PV}:Rv (.ktup xs) (.tup ys) h= .ok ⟨none,(xs.zip ys).map λp=> .tup [p.1,p.2]⟩ h:=(rfl)
theorem BP{xs ys:List PV}:Rv (.tup xs) (.tup ys) h= .ok ⟨none,(xs.zip ys).map λp=> .tup [p.1,p.2]⟩ h:=(rfl)
noncomputable def Rx(it:k4)(step:PV->aq->PH->RV Fl)(xs:List PV)(f:Fl)(h1:PH):RV Fl:=match f with
 | .nx e1=>bT it step xs e1 h1
 | .ct e1=>bT it step xs e1 h1
 | .bk e1=> .ok (.nx e1) h1
 | .rt v=> .ok (.rt v) h1
theorem gJ{xs:List PV}{step:PV->aq->PH->RV Fl}:bT ⟨none,xs⟩ step [] e h= .ok (.nx e) h:=(rfl)
theorem fI{xs ys:List PV}{step:PV->aq->PH->RV Fl}:bT ⟨none,xs⟩ step (y::ys) e h=(step y e h).bind (Rx ⟨none,xs⟩ step ys):=(rfl)
theorem EG{it:k4}{step:PV->aq->PH->RV Fl}(hf:it.j8 h=true):bT it step [] e h= .ok (.nx e) h:=by rw[bT,if_pos hf]
theorem GO{it:k4}{ys:List PV}{step:PV->aq->PH->RV Fl}(hf:it.j8 h=true):bT it step (y::ys) e h=(step y e h).bind (Rx it step ys):=by rw[bT,if_pos hf];rfl
theorem dc{it:k4}{xs:List PV}{step:PV->aq->PH->RV Fl}:Rx it step xs (.nx e) h=bT it step xs e h:=(rfl)
theorem yW{it:k4}{xs:List PV}{step:PV->aq->PH->RV Fl}:Rx it step xs (.rt v) h= .ok (.rt v) h:=(rfl)
noncomputable def MW(ys:List PV)(h2:PH):RV PV:= .ok (.ref h2.length) (h2++[.lst ys])
noncomputable def QZ(k:Nat)(g:MG)(t:MT)(a:ME)(c:CF)(e:aq)(it:k4)(h1:PH):RV PV:=(fT it (aN k g t a c e) it.items [] h1).bind MW
theorem QU{k:Nat}{i:MI}{g:MG}:iN k i g t a c e h=(i c e h).bind (QZ k g t a c e):=(rfl)
theorem Lr{k:Nat}{g:MG}{it:k4}:QZ k g t a c e it h=(fT it (aN k g t a c e) it.items [] h).bind MW:=(rfl)
theorem Kb{ys:List PV}:MW ys h= .ok (.ref h.length) (h++[.lst ys]):=(rfl)
noncomputable def CD(y:PV)(h4:PH):RV (Option PV):= .ok (some y) h4
noncomputable def uS(a:ME)(c:CF)(e2:aq)(b:Bool)(h3:PH):RV (Option PV):=if b=true then(a c e2 h3).bind CD else .ok none h3
noncomputable def Oq(t:MT)(a:ME)(c:CF)(e2:aq)(h2:PH):RV (Option PV):=(t c e2 h2).bind (uS a c e2)
theorem OF{k:Nat}{g:MG}:aN k g t a c e x h=(g x (e++Uc k none) h).bind (Oq t a c):=(rfl)
theorem LC:Oq t a c e h=(t c e h).bind (uS a c e):=(rfl)
theorem FN:uS a c e true h=(a c e h).bind CD:=(rfl)
theorem FV:uS a c e false h= .ok none h:=(rfl)
theorem ET{p:Prop}[Decidable p]:uS a c e (decide p) h=if p then(a c e h).bind CD else .ok none h:=by unfold uS;by_cases q:p<;>simp[q]
theorem Hx{p:Prop}[Decidable p]:uS a c e (!decide p) h=if p then .ok none h else(a c e h).bind CD:=by unfold uS;by_cases q:p<;>simp[q]
theorem Nn:CD y h= .ok (some y) h:=(rfl)
theorem cL{α :Type}{it:k4}(hf:it.j8 h=true){step:PV->PH->RV (Option PV)}{f: α ->Option PV}{g: α ->PV}: ∀(l:List α)(ys:List PV),(∀ x∈l,step (g x) h= .ok (f x) h)->l.length+ys.length<=16777216->fT it step (l.map g) ys h= .ok (ys++l.filterMap f) h
 | [],ys,_,_=>by rw[UN,fT,if_pos hf];simp
 | x::xs,ys,hs,hl=>by
  have hl':ys.length < sizeLine:=by rw[Ub] at hl;show ys.length < 16777216;omega
  rw[T9,fT,if_pos ⟨hf,hl'⟩,hs x Uk,c9];cases q:f x with
  | none=>exact(cL hf xs ys (λy m=>hs y (Uo _ m)) (by rw[Ub] at hl;omega)).trans (by rw[Wz q])
  | some y=>exact(cL hf xs (ys++[y]) (λz m=>hs z (Uo _ m)) (by rw[Ub] at hl;simp;omega)).trans (by rw[WA q];simp)
end
section
variable{h:PH}{i j:Int}{a b:Str}{x y z w u v:PV}{r xs ys:List PV}{p q:Bool}{n m:Nat}
theorem EL:qF (.int i) (.int j) h= .ok (.int (i - j)) h:=(rfl)
theorem EW:aY (.int i) (.int j) h= .ok (.int (i+j)) h:=(rfl)
theorem la(hl:xs.length+ys.length<=16777216):aY (.tup xs) (.tup ys) h= .ok (.tup (xs++ys)) h:=wW hl
theorem nI(e1:h[n]?=some (.lst xs))(e2:h[m]?=some (.lst ys))(hl:xs.length+ys.length<=16777216):aY (.ref n) (.ref m) h= .ok (.ref h.length) (h++[.lst (xs++ys)]):=by
 unfold aY;simp only[e1,e2];exact wW (by simpa using hl)
theorem yI(hj:0 < j):fh (.int i) (.int j) h= .ok (.int (i % j)) h:=by unfold fh p2;simp[hj,EB,c9]
theorem Ci(hj:0 < j/\j < 1073741824):oZ (.int i) (.int j) h= .ok (.int (i / j)) h:=by unfold oZ p2;simp[hj,EB,c9]
theorem rV(hj:0<=j/\j<=1000000/\i.natAbs < 18446744073709551616):E6 (.int i) (.int j) h= .ok (.int (i ^ j.toNat)) h:=by
 unfold E6 p2;simp only;rw[if_pos (by exact⟨hj.1,hj.2.1,by have:=hj.2.2;omega⟩)];rfl
theorem FH(hi: -18446744073709551616 < i/\i < 18446744073709551616):cY (.int i) (.int j) h= .ok (.int (i*j)) h:=if_pos (.inl (by omega))
theorem tX(hj: -18446744073709551616 < j/\j < 18446744073709551616):cY (.int i) (.int j) h= .ok (.int (i*j)) h:=if_pos (.inr (by omega))
theorem MU:Ck (.int i) (.int j) h= .ok (.bl (decide (i < j))) h:=(rfl)
theorem LM:Rn (.int i) (.int j) h= .ok (.bl (decide (i<=j))) h:=(rfl)
theorem mh:PR (.int i) (.int j) h= .ok (.bl (decide (j < i))) h:=(rfl)
theorem wk:RU (.int i) (.int j) h= .ok (.bl (decide (j<=i))) h:=(rfl)
theorem Fn:ki (.str a) (.str b) h= .ok (.bl (decide (a=b))) h:=by simp[ki,alike,iI]
theorem E5:ki (.int i) (.int j) h= .ok (.bl (decide (i=j))) h:=by simp[ki,alike,iI]
theorem Gx:gu (.str a) (.str b) h= .ok (.bl (!decide (a=b))) h:=by simp[gu,alike,iI,fG]
theorem FR:gu (.int i) (.int j) h= .ok (.bl (!decide (i=j))) h:=by simp[gu,alike,iI,fG]
theorem tH:ay (.tup (x::r)) (.int 0) h= .ok x h:=by
 simp only[ay,dC,oM];rw[if_pos (by decide),if_pos (by simp only[Ub];omega)];rfl
theorem jD:ay (.tup (x::y::r)) (.int 1) h= .ok y h:=by
 simp only[ay,dC,oM];rw[if_pos (by decide),if_pos (by simp only[Ub];omega)];rfl
theorem vd:ay (.tup (x::y::z::r)) (.int 2) h= .ok z h:=by
 simp only[ay,dC,oM];rw[if_pos (by decide),if_pos (by simp only[Ub];omega)];rfl
theorem zW:ay (.tup (x::y::z::w::r)) (.int 3) h= .ok w h:=by
 simp only[ay,dC,oM];rw[if_pos (by decide),if_pos (by simp only[Ub];omega)];rfl
theorem sr:ay (.tup (x::y::z::w::u::r)) (.int 4) h= .ok u h:=by
 simp only[ay,dC,oM];rw[if_pos (by decide),if_pos (by simp only[Ub];omega)];rfl
theorem Mf:ay (.tup (x::y::z::w::u::v::r)) (.int 5) h= .ok v h:=by
 simp only[ay,dC,oM];rw[if_pos (by decide),if_pos (by simp only[Ub];omega)];rfl
theorem ka(e:dC xs i=some v):ay (.tup xs) (.int i) h= .ok v h:=by simp only[ay,e]
theorem eE{α :Type}{xs:List α}{i:Int}{n:Nat}(e:i=(n:Int)){v: α}(q:xs[n]?=some v):dC xs i=some v:=by
 have hl:n < xs.length:=(T1.mp q).1;subst e;unfold dC oM;rw[if_pos (by omega),if_pos (by omega)];simpa using q
noncomputable def NX(y:PV)(h:PH)(o:Option PO):RV PV:=match o with
 | some (.dct kvs)=>(match hZ y with
  | some k=>(match cv kvs k with | some v=> .ok v h | none=> .no)
  | none=> .no)
 | some (.lst xs)=>(match y with
  | .int i=>(match dC xs i with | some v=> .ok v h | none=> .no)
  | _=> .no)
 | some (.kD xs)=>(match y with
  | .int i=>(match dC xs i with | some v=> .ok v h | none=> .no)
  | _=> .no)
 | none=> .no
theorem qr:ay (.ref n) y h=NX y h (h[n]?):=by
 unfold NX;simp only[ay]
 all_goals (generalize h[n]?=oo;rcases oo with _ | o<;>first | rfl | (cases o<;>rfl))
noncomputable def Pn(h:PH)(o:Option PV):RV PV:=match o with
 | some v=> .ok v h
 | none=> .no
theorem Sx{kvs:List (Key × PV)}:NX (.str a) h (some (.dct kvs))=Pn h (cv kvs (.inr a)):=(rfl)
theorem sJ:NX (.int i) h (some (.lst xs))=Pn h (dC xs i):=(rfl)
theorem Qr:NX (.int i) h (some (.kD xs))=Pn h (dC xs i):=(rfl)
theorem Hi:Pn h (some v)= .ok v h:=(rfl)
theorem yr{k:Key}{kvs:List (Key × PV)}:cv ((k,v)::kvs) k=some v:=by simp[cv]
theorem Bv{k k':Key}{kvs:List (Key × PV)}(ne:k'≠k):cv ((k',v)::kvs) k=cv kvs k:=by simp[cv,ne]
noncomputable def xr(n:Nat)(y v:PV)(h:PH)(o:Option PO):RV Unit:=match o with
 | some (.dct kvs)=>(match hZ y with
  | some k=>if kvs.length < sizeLine then .ok () (h.set n (.dct (gY kvs k v))) else .no
  | none=> .no)
 | some (.lst xs)=>(match y with
  | .int i=>(match oM xs.length i with | some j=> .ok () (h.set n (.lst (xs.set j v))) | none=> .no)
  | _=> .no)
 | _=> .no
theorem Ji:dZ (.ref n) y v h=xr n y v h (h[n]?):=by
 unfold xr;simp only[dZ]
 all_goals (generalize h[n]?=oo;rcases oo with _ | o<;>first | rfl | (cases o<;>rfl))
theorem kJ{kvs:List (Key × PV)}(hl:kvs.length < 16777216):xr n (.str a) v h (some (.dct kvs))= .ok () (h.set n (.dct (gY kvs (.inr a) v))):=if_pos hl
theorem ko{m:Nat}(e:i=(m:Int))(hm:m < xs.length):xr n (.int i) v h (some (.lst xs))= .ok () (h.set n (.lst (xs.set m v))):=by
 have:oM xs.length i=some m:=by unfold oM;rw[if_pos (by omega),if_pos (by omega)];congr 1;omega
 simp only[xr,this]
noncomputable def Si(n:Nat)(v:PV)(h:PH)(o:Option PO):RV PV:=match o with
 | some (.lst xs)=>if xs.length < sizeLine then .ok .non (h.set n (.lst (xs++[v]))) else .no
 | _=> .no
theorem Se:bj (.ref n) [v] h=Si n v h (h[n]?):=by
 unfold Si;simp only[bj]
 all_goals (generalize h[n]?=oo;rcases oo with _ | o<;>first | rfl | (cases o<;>rfl))
theorem oJ(hl:xs.length < 16777216):Si n v h (some (.lst xs))= .ok .non (h.set n (.lst (xs++[v]))):=if_pos hl
theorem len_T:cx [.tup xs] h= .ok (.int xs.length) h:=(rfl)
theorem PK(e:h[n]?=some (.kD xs)):cx [.ref n] h= .ok (.int xs.length) h:=by simp[cx,itemsOf,cP,e]
theorem Ma:y7 [.tup xs] h= .ok (.ref h.length) (h++[.lst xs]):=(rfl)
theorem QK:uj [.bl p] h= .ok (.int (if p then 1 else 0)) h:=(rfl)
theorem Qb:ee false .non h= .ok (.bl true) h:=(rfl)
theorem QH:ee false (.int i) h= .ok (.bl false) h:=by simp[ee]
theorem IP:ee false (.tup xs) h= .ok (.bl false) h:=by simp[ee]
theorem Mj:ee true .non h= .ok (.bl false) h:=(rfl)
section
variable{c:CF}{e:aq}{d k1 k2:ME}{rr:MA}{kvs:List (Key × PV)}{ff:PV->List PV->PH->RV PV}
noncomputable def RI(a:Str)(z:PV)(h:PH)(o:Option PO):RV PV:=match o with
 | some (.dct kvs)=> .ok ((cv kvs (.inr a)).getD z) h
 | _=> .no
noncomputable def Rr(x y z:PV)(h3:PH):RV PV:=match x,hZ y with
 | .ref n,some key=>(match h3[n]? with
  | some (.dct kvs)=> .ok ((cv kvs key).getD z) h3
  | _=> .no)
 | _,_=> .no
noncomputable def RB(b:ME)(c:CF)(e:aq)(x y:PV)(h2:PH):RV PV:=(b c e h2).bind (Rr x y)
noncomputable def Sl(a b:ME)(c:CF)(e:aq)(x:PV)(h1:PH):RV PV:=if fG h1 x=true then(a c e h1).bind (RB b c e x) else .no
noncomputable def R6(a b:ME)(c:CF)(e:aq)(n:Nat)(h:PH)(o:Option PO):RV PV:=match o with
 | some (.dct _)=>(a c e h).bind (RB b c e (.ref n))
 | _=> .no
theorem JH:yT d k1 k2 c e h=(d c e h).bind (Sl k1 k2 c e):=(rfl)
theorem Fx:Sl k1 k2 c e (.ref n) h=R6 k1 k2 c e n h (h[n]?):=by
 unfold Sl R6 fG;cases q:h[n]? with
 | none=>simp[q]
 | some o=>cases o<;>simp[q]
theorem Ek:R6 k1 k2 c e n h (some (.dct kvs))=(k1 c e h).bind (RB k2 c e (.ref n)):=(rfl)
theorem Ge:RB k2 c e x y h=(k2 c e h).bind (Rr x y):=(rfl)
theorem Fc:Rr (.ref n) (.str a) z h=RI a z h (h[n]?):=by
 unfold Rr RI hZ;simp only
theorem Ec:RI a z h (some (.dct kvs))= .ok ((cv kvs (.inr a)).getD z) h:=(rfl)
noncomputable def Sv(f:PV->List PV->PH->RV PV)(r:MA)(c:CF)(e:aq)(n:Nat)(h:PH)(o:Option PO):RV PV:=match o with
 | some (.lst _)=>(r c e h).bind (f (.ref n))
 | _=> .no
theorem O1:R5 ff b6 rr c e (.ref n) h=Sv ff rr c e n h (h[n]?):=by
 unfold R5 Sv b6;cases q:h[n]? with
 | none=>simp[q]
 | some o=>cases o<;>simp[q]
theorem Jx:Sv ff rr c e n h (some (.lst xs))=(rr c e h).bind (ff (.ref n)):=(rfl)
noncomputable def NJ(ys:List PV)(h:PH)(o:Option (List (Key × PV))):RV PV:=match o with
 | some kvs=>if ys.length < sizeLine then .ok (.ref h.length) (h++[.dct (cq [] kvs)]) else .no
 | none=> .no
theorem LA:uD [.tup ys] h=NJ ys h (jh ys):=by
 unfold uD NJ;cases q:jh ys<;>simp[q]
theorem Cu(hl:ys.length < 16777216):NJ ys h (some kvs)= .ok (.ref h.length) (h++[.dct (cq [] kvs)]):=if_pos hl
theorem CI:sA c e h= .ok (.ref h.length) (h++[.dct []]):=(rfl)
end
noncomputable def R9(h:PH)(o:Option PO):RV PV:=match o with
 | some (.lst xs)=> .ok (.tup xs) h
 | some (.kD xs)=> .ok (.tup xs) h
 | _=> .no
theorem sZ:bf [.ref n] h=R9 h (h[n]?):=by
 unfold R9;cases q:h[n]? with
 | none=>simp[bf,cP,q]
 | some o=>cases o<;>simp[bf,cP,q]
theorem nS:R9 h (some (.lst xs))= .ok (.tup xs) h:=(rfl)
noncomputable def RX(h:PH)(o:Option PO):RV PV:=match o with
 | some (.lst xs)=> .ok (.int xs.length) h
 | some (.kD xs)=> .ok (.int xs.length) h
 | some (.dct kvs)=> .ok (.int kvs.length) h
 | _=> .no
theorem Eo:cx [.ref n] h=RX h (h[n]?):=by
 unfold RX;cases q:h[n]? with
 | none=>simp[cx,itemsOf,cP,q]
 | some o=>cases o<;>simp[cx,itemsOf,cP,q]
theorem xD:RX h (some (.lst xs))= .ok (.int xs.length) h:=(rfl)
theorem jk{a:Str}: ∀{ss:List Str},((ss.map PV.str).any λz=>Hd z (.str a))=decide (a∈ss)
 | []=>by simp
 | x::t=>by
  rw[T9,Vl,jk];by_cases e:x=a
  . subst e;simp[Hd]
  . have e': ¬ a=x:=λz=>e z.symm;simp[Hd,e,e']
theorem all_strs: ∀{ss:List Str},((ss.map PV.str).all dY)=true
 | []=>rfl
 | x::t=>by rw[T9,WX,all_strs];rfl
theorem wq{ss:List Str}:ja (.str a) (.tup (ss.map PV.str)) h= .ok (.bl (decide (a∈ss))) h:=by
 have:isIn (.str a) (.tup (ss.map PV.str)) h=some (decide (a∈ss)):=by
  unfold isIn;simp only[itemsOf,all_strs,dY,Wy,if_true,jk]
 unfold ja;rw[this]
theorem yS{ss:List Str}:gF (.str a) (.tup (ss.map PV.str)) h= .ok (.bl (!decide (a∈ss))) h:=by
 have:isIn (.str a) (.tup (ss.map PV.str)) h=some (decide (a∈ss)):=by
  unfold isIn;simp only[itemsOf,all_strs,dY,Wy,if_true,jk]
 unfold gF;rw[this]
theorem in_K{ss:List Str}:ja (.str a) (.ktup (ss.map PV.str)) h= .ok (.bl (decide (a∈ss))) h:=by
 have:isIn (.str a) (.ktup (ss.map PV.str)) h=some (decide (a∈ss)):=by
  unfold isIn;simp only[itemsOf,all_strs,dY,Wy,if_true,jk]
 unfold ja;rw[this]
section
variable{c:CF}{e:aq}{d:ME}{kvs:List (Key × PV)}
noncomputable def S9(kvs:List (Key × PV))(x:PV)(h:PH):RV PV:=match hZ x with
 | some key=>(match cv kvs key with
  | some v=> .ok v h
  | none=> .no)
 | none=> .no
theorem OP:rQ kvs d c e h=(d c e h).bind (S9 kvs):=(rfl)
theorem Jy:S9 kvs (.str a) h=Pn h (cv kvs (.inr a)):=(rfl)
end
section
variable{c:CF}{e:aq}{d:ME}{l uu:MO}
noncomputable def Ku(uu:MO)(c:CF)(e:aq)(x:PV)(lo:Option Int)(h:PH):RV PV:=(uu c e h).bind (GP x lo)
noncomputable def Qc(l uu:MO)(c:CF)(e:aq)(x:PV)(h:PH):RV PV:=(l c e h).bind (Ku uu c e x)
theorem Ou:zo d l uu c e h=(d c e h).bind (Qc l uu c e):=(rfl)
theorem K5:Qc l uu c e x h=(l c e h).bind (Ku uu c e x):=(rfl)
theorem Ng{lo:Option Int}:Ku uu c e x lo h=(uu c e h).bind (GP x lo):=(rfl)
theorem N8:jn c e h= .ok none h:=(rfl)
noncomputable def SU(v:PV)(h1:PH):RV (Option Int):=match v with
 | .int i=> .ok (some i) h1
 | _=> .no
theorem O8:fO d c e h=(d c e h).bind SU:=(rfl)
theorem Jt:SU (.int i) h= .ok (some i) h:=(rfl)
theorem PZ{lo hi:Option Int}:GP (.tup xs) lo hi h= .ok (.tup (gx xs lo hi)) h:=(rfl)
noncomputable def RG(lo hi:Option Int)(h:PH)(o:Option PO):RV PV:=match o with
 | some (.lst xs)=> .ok (.ref h.length) (h++[.lst (gx xs lo hi)])
 | some (.kD xs)=> .ok (.ref h.length) (h++[.lst (gx xs lo hi)])
 | _=> .no
theorem Sj{lo hi:Option Int}:GP (.ref n) lo hi h=RG lo hi h (h[n]?):=by
 unfold RG;cases q:h[n]? with
 | none=>simp[GP,cP,q]
 | some o=>cases o<;>simp[GP,cP,q]
theorem QX{lo hi:Option Int}:RG lo hi h (some (.lst xs))= .ok (.ref h.length) (h++[.lst (gx xs lo hi)]):=(rfl)
theorem lD{lo:Int}(h0:0<=lo):gx xs (some lo) none=xs.drop lo.toNat:=by
 have e:lo=((lo.toNat:Nat):Int):=by omega
 unfold gx;rw[e,HT.nK,HT.kX];simp only[Vc];rcases Zv lo.toNat xs.length with z | z
 . rw[Xo z];exact VP (by rw[VW];omega)
 . rw[XQ z,Vv (Ua _),Vv z];simp
theorem tQ{hi:Int}(h0:0<=hi):gx xs none (some hi)=xs.take hi.toNat:=by
 have e:hi=((hi.toNat:Nat):Int):=by omega
 unfold gx;rw[e,HT.nK,HT.kX];simp only[Vc,ZY,aaO];rcases Zv hi.toNat xs.length with z | z
 . rw[Xo z]
 . rw[XQ z,VP (Ua _),VP z]
end
variable{o o':PO}{g:PH}{k:Nat}
theorem bA:(h++(o::g))[h.length]?=some o:=by rw[UD (Ua _)];simp
theorem bw:(h++g)[h.length+k]?=g[k]?:=by rw[UD (by omega)];congr 1;omega
theorem aD(hn:n < h.length):(h++g)[n]?=h[n]?:=UT hn
theorem jv:(h++g).set h.length o=h++g.set 0 o:=by rw[ZP _ _ (Ua _)];simp
theorem xg:(h++g).set (h.length+k) o=h++g.set k o:=by rw[ZP _ _ (by omega)];congr 2;omega
theorem aG(e:h[n]?=some o):n < h.length:=(T1.mp e).1
end
section
variable{h:PH}{i j:Int}{a b:Str}{x y z w u v:PV}{r xs ys:List PV}{p q:Bool}{n m:Nat}
theorem JY:qm [.int i,.ty "bool"] h= .ok (.bl false) h:=(rfl)
theorem Kx:qm [.int i,.ty "int"] h= .ok (.bl true) h:=(rfl)
theorem y9: ∀ bs:List Bool,wA (bs.map PV.bl)=some bs
 | []=>rfl
 | b::r=>by rw[T9,wA,y9 r];rfl
theorem QQ{bs:List Bool}(e:h[n]?=some (.lst (bs.map PV.bl))):HW [.ref n] h= .ok (.bl (bs.any id)) h:=by
 simp[HW,yY,cP,e,y9]
theorem o7:dC (x::r) 0=some x:=by simp only[dC,oM];rw[if_pos (by decide),if_pos (by simp only[Ub];omega)];rfl
theorem ud:dC (x::y::r) 1=some y:=by simp only[dC,oM];rw[if_pos (by decide),if_pos (by simp only[Ub];omega)];rfl
theorem xE:dC (x::y::z::r) 2=some z:=by simp only[dC,oM];rw[if_pos (by decide),if_pos (by simp only[Ub];omega)];rfl
theorem BC:dC (x::y::z::w::r) 3=some w:=by simp only[dC,oM];rw[if_pos (by decide),if_pos (by simp only[Ub];omega)];rfl
end
section
variable{c:CF}{e:aq}{h h1:PH}{a b:ME}{r:MP}{x y v:PV}{kvs:List (Key × PV)}{key:Key}{s:Str}{i:Int}{n:Nat}
noncomputable def NZ(n:Nat)(kvs:List (Key × PV))(h1:PH):RV PV:=if h1[n]?=some (.dct [])/\kvs.length<=15 then .ok (.ref n) (h1.set n (.dct (cq [] kvs))) else .no
noncomputable def Sn(key:Key)(v:PV)(kvs:List (Key × PV))(h3:PH):RV (List (Key × PV)):= .ok ((key,v)::kvs) h3
noncomputable def RW(key:Key)(r:MP)(c:CF)(e:aq)(v:PV)(h2:PH):RV (List (Key × PV)):=(r c e h2).bind (Sn key v)
noncomputable def SR(b:ME)(r:MP)(c:CF)(e:aq)(x:PV)(h1:PH):RV (List (Key × PV)):=match hZ x with
 | some key=>(b c e h1).bind (RW key r c e)
 | none=> .no
theorem kO:vx r c e h=(r c e (h++[.dct []])).bind (NZ h.length):=(rfl)
theorem pJ:BD c e h= .ok [] h:=(rfl)
theorem ou:fg a b r c e h=(a c e h).bind (SR b r c e):=(rfl)
theorem kn:SR b r c e (.str s) h=(b c e h).bind (RW (.inr s) r c e):=(rfl)
theorem oA:RW key r c e v h=(r c e h).bind (Sn key v):=(rfl)
theorem oy:Sn key v kvs h= .ok ((key,v)::kvs) h:=(rfl)
theorem Dj(h1:h[n]?=some (.dct []))(h2:kvs.length<=15):NZ n kvs h= .ok (.ref n) (h.set n (.dct (cq [] kvs))):=if_pos ⟨h1,h2⟩
theorem zd(h2:kvs.length<=15):NZ h.length kvs (h++[.dct []])= .ok (.ref h.length) (h++[.dct (cq [] kvs)]):=by
 rw[Dj bA h2,jv];rfl
end
section
variable{α :Type}{p:List α ->Prop}
theorem TC(h:p []): ∀ us:List α,us.length=0->p us:=λus e=>by rw[List.length_eq_zero_iff.mp e];exact h
theorem Oh{n:Nat}(h: ∀ a: α,∀ us:List α,us.length=n->p (a::us)): ∀ us:List α,us.length=n+1->p us:=λus e=>by
 cases us with
 | nil=>simp at e
 | cons a r=>exact h a r (by simpa using e)
theorem S3(h: ∀ a,p [a]): ∀ us:List α,us.length=1->p us:=Oh λa=>TC (h a)
theorem Tt(h: ∀ a b,p [a,b]): ∀ us:List α,us.length=2->p us:=Oh λa=>S3 (h a)
theorem SX(h: ∀ a b c,p [a,b,c]): ∀ us:List α,us.length=3->p us:=Oh λa=>Tt (h a)
theorem SM(h: ∀ a b c d,p [a,b,c,d]): ∀ us:List α,us.length=4->p us:=Oh λa=>SX (h a)
theorem TK(h: ∀ a b c d e,p [a,b,c,d,e]): ∀ us:List α,us.length=5->p us:=Oh λa=>SM (h a)
end
section
variable{X:Cx}{pg:Tb}{k:Nat}{e iter:Expr}{ma:ME}{mt:MT}{mI:MI}{scope:Scope}{ifs:List Expr}{pos spos py vp wp tp:Pos}{y v w:Str}{i j m n:Nat}
theorem GC.of{K:TV}(h:aac n i=true):GC K n (fQ i) (gN i):=Ga (Nat.le_of_ble_eq_true h)
theorem JD(hi:JI X pg k (.Name v vp) iter mI)
  (hb: ∀ cl C s₀ H₀ ex pn,(cV X pg k->QG (fj X [v] scope cl C s₀ H₀ ex pn) (.Name v vp) (fQ m))/\JF (fj X [v] scope cl C s₀ H₀ ex pn) pg k ifs mt/\JE (fj X [v] scope cl C s₀ H₀ ex pn) pg k e ma)
  (hm:aac X.N.length m=true:=by rfl) (hkind:scope.kind= .function:=by rfl) (hlc:iL scope.names X.env.scope.names X.N [v]=true:=by rfl) (hs: ∀ x,U2 iter X.env x=pure x:=by intro _;rfl) :
  JE X pg k (.ListComp e [⟨.Name v vp,iter,ifs,0⟩] scope pos) (iN 1 mI (gN m) mt ma):=uq [v] hkind hlc hi hb (GC.of hm) hs
theorem M9(hi:JI X pg k (.Tuple [.Name v vp,.Name w wp] j tp) iter mI)
  (hb: ∀ cl C s₀ H₀ ex pn,(cV X pg k->QG (fj X [v,w] scope cl C s₀ H₀ ex pn) (.Tuple [.Name v vp,.Name w wp] j tp) (v9 X.K 2 (m7 (fQ m) (m7 (fQ n) AZ))))/\JF (fj X [v,w] scope cl C s₀ H₀ ex pn) pg k ifs mt/\JE (fj X [v,w] scope cl C s₀ H₀ ex pn) pg k e ma)
  (hm:aac X.N.length m=true:=by rfl) (hn:aac X.N.length n=true:=by rfl) (hkind:scope.kind= .function:=by rfl) (hlc:iL scope.names X.env.scope.names X.N [v,w]=true:=by rfl) (hs: ∀ x,U2 iter X.env x=pure x:=by intro _;rfl) :
  JE X pg k (.ListComp e [⟨.Tuple [.Name v vp,.Name w wp] j tp,iter,ifs,0⟩] scope pos) (iN 2 mI (gT 2 (aW (gN m) (aW (gN n) gq))) mt ma):=uq [v,w] hkind hlc hi hb (BA (kI (GC.of hm) (kI (GC.of hn) yu))) hs
theorem NP(hN:X.N.Nodup)(hi:JI X pg k (.Name v vp) iter mI)
  (hb: ∀ cl C s₀ H₀ ex pn,(cV X pg k->QG (fj X [v] scope cl C s₀ H₀ ex pn) (.Name v vp) (fQ m))/\JF (fj X [v] scope cl C s₀ H₀ ex pn) pg k ifs mt/\JE (fj X [v] scope cl C s₀ H₀ ex pn) pg k e ma)
  (hm:aac X.N.length m=true:=by rfl) (hiy:X.N[i]?=some y:=by rfl) (hy:Loc X.env.scope y:=by first | exact ZX rfl | exact YY rfl) (hkind:scope.kind= .function:=by rfl) (hlc:iL scope.names X.env.scope.names X.N [v]=true:=by rfl)
  (hsw:WW (.ListComp e [⟨.Name v vp,iter,ifs,0⟩] scope pos) (some (.Name y py)) spos.line X.env=pure true:=by rfl) (hs: ∀ x,U2 iter X.env x=pure x:=by intro _;rfl)
  (hf:X.fn y=true\/X.env.scope.names.lookup y=some .local:=by first | exact .inl rfl | exact .inr rfl | assumption) :
  JS X pg k (.Assign [.Name y py] (.ListComp e [⟨.Name v vp,iter,ifs,0⟩] scope pos) spos) (ak (iN 1 mI (gN m) mt ma) (gN i)):=vP [v] i hkind hlc hN hiy hy hi hb (GC.of hm) hsw hs hf
theorem KQ(hN:X.N.Nodup)(hi:JI X pg k (.Tuple [.Name v vp,.Name w wp] j tp) iter mI)
  (hb: ∀ cl C s₀ H₀ ex pn,(cV X pg k->QG (fj X [v,w] scope cl C s₀ H₀ ex pn) (.Tuple [.Name v vp,.Name w wp] j tp) (v9 X.K 2 (m7 (fQ m) (m7 (fQ n) AZ))))/\JF (fj X [v,w] scope cl C s₀ H₀ ex pn) pg k ifs mt/\JE (fj X [v,w] scope cl C s₀ H₀ ex pn) pg k e ma)
  (hm:aac X.N.length m=true:=by rfl) (hn:aac X.N.length n=true:=by rfl) (hiy:X.N[i]?=some y:=by rfl) (hy:Loc X.env.scope y:=by first | exact ZX rfl | exact YY rfl) (hkind:scope.kind= .function:=by rfl) (hlc:iL scope.names X.env.scope.names X.N [v,w]=true:=by rfl)
  (hsw:WW (.ListComp e [⟨.Tuple [.Name v vp,.Name w wp] j tp,iter,ifs,0⟩] scope pos) (some (.Name y py)) spos.line X.env=pure true:=by rfl) (hs: ∀ x,U2 iter X.env x=pure x:=by intro _;rfl)
  (hf:X.fn y=true\/X.env.scope.names.lookup y=some .local:=by first | exact .inl rfl | exact .inr rfl | assumption) :
  JS X pg k (.Assign [.Name y py] (.ListComp e [⟨.Tuple [.Name v vp,.Name w wp] j tp,iter,ifs,0⟩] scope pos) spos) (ak (iN 2 mI (gT 2 (aW (gN m) (aW (gN n) gq))) mt ma) (gN i)):=vP [v,w] i hkind hlc hN hiy hy hi hb (BA (kI (GC.of hm) (kI (GC.of hn) yu))) hsw hs hf
end
end P3
end
section
open PySem PySem.W PyProof.Rows
namespace L2
open PySem PySem.Spec PyProof.Rows
theorem lx{a:Str}: ∀{us:List Value}{ss:List Str},Yh us ss-> ∀(i:Nat)(hu:i < us.length)(hs:i < ss.length),Yj a us[i]=(ss[i] == a)
 | _,_,.nil,i,hu,_=>absurd hu (Ya i)
 | _,_,.cons x t h,0,_,_=>rfl
 | _,_,.cons x t h,i+1,hu,hs=>lx h i (Zy hu) (Zy hs)
theorem wZ{a:Str}{ss:List Str}(h:a∈ss):ss.idxOf a < ss.length:=List.idxOf_lt_length_iff.mpr h
section
variable{X:Cx}
noncomputable def GD:V->List V->Hp->VK->Prop:=λx vs H Q=> ∃(l:Addr)(ss:List Str)(a:Str),x= .ref l/\vs=[.str a]/\H l=some (.lst (ss.map V.str))/\a∈ss/\Q .non (upd H l (.lst ((ss.map V.str).eraseIdx (ss.idxOf a))))
theorem zF:Rk X "list.remove" GD:=by
 intro pins s σ H x vs v us Q I rx rv h;obtain⟨l,ss,a,rfl,rfl,hH,ha,q⟩:=h;cases rx;obtain⟨u,rfl,t,rfl⟩:=rv.one;obtain⟨z,ai,n,r,hl,e⟩:=I.AN hH;have sa:=fW r;have ln:ai.length=ss.length:=by rw[<- hl,TZ]
 have hj:=wZ ha;refine V2 F.slot_list_remove ⟨_,e,rfl⟩ F.entry_list_remove (F.args_list_remove_2 _ _)
  (MeetsSeq.list_remove l ai.toArray n (.str a t) (Yj a) (λy hy=>eq_isStrOf a t sa y (by simpa using hy)) (ss.idxOf a) (by rw[Uh,ln];exact hj) ?_ ?_ (by rw[Uh,<- hl];exact z)) ⟨e,?_⟩
 . show Yj a (ai[ss.idxOf a]'(by rw[ln];exact hj))=true;rw[lx sa _ _ hj,aaE hj,beq_self_eq_true]
 . intro m hm hlt;have hm':m < ss.length:=by rw[Uh,ln] at hm;exact hm
   show Yj a (ai[m]'(by rw[ln];exact hm'))=false;rw[lx sa _ _ hm'];have:=Zz (p:=(· == a)) (xs:=ss) (i:=m) hlt
   simpa using this
 . refine⟨.non,_,I.OR (its':=ai.eraseIdx (ss.idxOf a)) hH e ?_ (r.eraseIdx _) ?_,rfl,q⟩
   . show ai.toArray.eraseIdxIfInBounds (ss.idxOf a)=(ai.eraseIdx (ss.idxOf a)).toArray;rw[List.eraseIdxIfInBounds_toArray]
   . have:=rS (ss.map V.str) (ss.idxOf a);omega
end
end L2
namespace P3
open PySem PySem.Spec PyProof.Rows L2
section
variable{X:Cx}{pg:Tb}{k:Nat}
theorem rl{α β :Type}(f: α -> β): ∀(l:List α)(i:Nat),(l.map f).eraseIdx i=(l.eraseIdx i).map f
 | [],i=>by simp
 | a::r,0=>rfl
 | a::r,i+1=>by simp[rl f r i]
noncomputable def qE(ss:List Str)(a:Str):List Str:=ss.eraseIdx (ss.idxOf a)
noncomputable def ku:PV->List PV->PH->RV PV:=λx vs h=>match x,vs with
 | .ref n,[.str a]=>(match h[n]? with
  | some (.lst xs)=>(match eO xs with
   | some ss=>if a∈ss then .ok .non (h.set n (.lst ((qE ss a).map PV.str))) else .no
   | none=> .no)
  | _=> .no)
 | _,_=> .no
theorem DN:cV X pg k-> ∃ r,IG X "list.remove" r/\RA X.K "list" r ku b6:=λA=>⟨_,zF,fun ρ h H x x' s r e=>oY s r e,fun ρ h H x x' xs us Q v h' s rx rs q P=>by
 unfold ku at q;split at q
 . rename_i n a;split at q
   . rename_i ys en;split at q
     . rename_i ss es;split at q
       . rename_i ha;cases q;obtain⟨b,vs,rfl,ea,e1,e2⟩:=s.lst en rx;obtain⟨u,rfl,r⟩:=aO rs;rw[rel] at r;subst r;rw[eV es,bW] at e2;subst e2;have g:Gr ρ H ρ (upd H b (.lst ((ss.map V.str).eraseIdx (ss.idxOf a)))):=Gr.write (.inl ⟨_,e1⟩);refine⟨b,ss,a,rfl,rfl,e1,ha,P _ ρ _ g (s.write en ea rfl rfl ⟨_,ba,?_⟩) (by rw[rel])⟩;rw[bW,qE,rl]
       . exact nomatch q
     . exact nomatch q
   . exact nomatch q
 . exact nomatch q⟩
end
section
variable{h:PH}{n:Nat}{ss:List Str}{a:Str}{y:PV}{r:List PV}
theorem RE(e:h[n]?=some (.lst (ss.map PV.str)))(ha:a∈ss):ku (.ref n) [.str a] h= .ok .non (h.set n (.lst ((qE ss a).map PV.str))):=by
 simp only[ku,e,dB,if_pos ha]
end
section
variable{X:Cx}{pg:Tb}{k j n:Nat}{es:List Expr}{t:t8}{pos:Pos}{vars:List Str}{scope:Scope}{cl:List (Str × Addr)}{C:Addr}{s0:T7}{H0:Hp}{ex:List Addr}{pn:List (Addr × Obj)}
theorem EV(A:cV X pg k)(h:KI (fj X vars scope cl C s0 H0 ex pn) es t)(hn:(Vn es (fj X vars scope cl C s0 H0 ex pn).env).length=n:=by rfl)(hst:(Vn es (fj X vars scope cl C s0 H0 ex pn).env).findIdx? (·.1)=none:=by rfl):QG (fj X vars scope cl C s0 H0 ex pn) (.Tuple es j pos) (v9 X.K n t):=DD A.calm h hn hst
end
theorem Dw{prog:Uy}{w:World}{A:UW}(hh:A.handled=none){it l:Addr}(hne:l≠it)(us:Array Value) :
  Draws prog w A it [it,l] us.size (λi v=>us[i]?=some v) (λi h=>h.IsTupleIter it l i/\h.IsTuple l us) where
 live:=λ_ _ z=>by obtain⟨⟨o,e,_⟩,_⟩:=z;exact⟨o,e⟩
 frame:=λ_ _ _ z kp=>by
  obtain⟨⟨o,e,r⟩,⟨o2,e2,r2⟩⟩:=z;exact⟨⟨o,kp it (by simp) o e,r⟩,⟨o2,kp l (by simp) o2 e2,r2⟩⟩
 item:=λi s Q E hi z q=>ic z.1 z.2 (x:=us[i]) (by simp [hi]) λh' a b=>q _ h' s.toks (by simp [hi]) ⟨a,by obtain ⟨o2,e2,r2⟩:=z.2;exact ⟨o2,b.extBut _ _ hne e2,r2⟩⟩ b
 done:=λs Q E z q=>mD hh z.1 z.2 (by simp) q
noncomputable def S5 (K : TV) (a : Addr) : It :=
  ⟨λi H => ∃ xs x, fc K H a xs /\ xs[i]? = some x,
   λi H v H' => ∃ p x, H p = none /\ v = .ref p /\ H' = upd H p (.tup [.int (i : Int), x]) /\ ∀ xs, fc K H a xs -> xs[i]? = some x,
   λi H => ∃ xs, fc K H a xs /\ xs.length = i⟩
theorem zU {P:Uy} {w:World} {K:TV} {els:List Expr} {j:Nat} {pos:Pos} {e it a:Addr} (hei:e≠it) (hea:e≠a) (hai:a≠it) :
  Turn P w K (.Tuple els j pos) (S5 K a) [e,it] e (λi h=>(∃ old,IsEnum h e it i old)∧h.IsTupleIter it a i) where
 mem:=by simp
 obj:=λi h z b hb=>by
  obtain⟨⟨old,e1⟩,⟨o4,e4,_,d4⟩⟩:=z;simp only[UH,or_false,Ui] at hb;rcases hb with rfl | rfl
  . exact⟨_,e1,λv q=>nomatch q⟩
  . exact⟨_,e4,λv q=>by rw[d4] at q;exact nomatch q⟩
 keep:=λi h h' z kp=>by
  obtain⟨⟨old,e1⟩,⟨o4,e4,d4⟩⟩:=z;exact⟨⟨old,kp _ (by simp) _ e1⟩,⟨o4,kp _ (by simp) _ e4,d4⟩⟩
 item:=by
  intro X hP hw hK hc i pins s σ H E I hf z hg;subst hP hw hK;obtain⟨xs,x,s1,ex⟩:=hg;obtain⟨us,ru,pu,_⟩:=I.tuple s1;obtain⟨ux,eu,rx⟩:=ru.get ex;obtain⟨⟨old,e1⟩,hit⟩:=z;have hlt:i < us.toArray.size:=by simpa using(T1.mp eu).1
  refine wpAny_pyNext_enum_itemD (Dw (A:=X.A.in1) (show X.A.in1.handled=none from I.ok.hd hc) hai us.toArray) e1 ⟨hit,pu⟩ hlt hei (by simp[hei,hea]) λy h1 tk f1 f2 f3 f4 f5 f6=>⟨_,rfl,?_⟩
  have hy:y=ux:=by
   have h2:us.toArray[i]?=some ux:=by simpa using eu
   rw[h2] at f1;cases f1;rfl
  subst hy;refine wpAny_letOwnedTupleGo_enum (s:={ s with heap:=h1,toks:=tk+1 }) f2 λh2 g1 g2=>?_;have ex1:=g2.extBut;have elt:e < s.heap.objs.size:=Ug e1;have new:h2.get? s.heap.objs.size=some { cls:= .type "tuple",data:= .seq #[.int i tk,y] }:=ex1 _ _ (Ws elt) f4;have hn:H s.heap.objs.size=none:=I.bq.fresh (Ua _);have I2:Inv X pins σ (upd H s.heap.objs.size (.tup [.int (i:Int),x])) { s with heap:=h2,toks:=tk+1 }:=by
   refine rM (turned:=[e,it]) I (λb o nb q=>?_) (λb hb=>hf b hb) (Ua _) ?_
   . simp only[Ui,UH,or_false,not_or] at nb;exact ex1 _ _ nb.1 (f6 b o nb.1 nb.2 q)
   . exact⟨by show 2<=sizeLine;decide,[.int i tk,y],.cons ⟨tk,rfl⟩ (.cons rx .nil),_,new,rfl,_,rfl,rfl⟩
  refine⟨.ref s.heap.objs.size,upd H s.heap.objs.size (.tup [.int (i:Int),x]),I2,rfl,⟨_,x,hn,rfl,rfl,λxs' q=>?_⟩,?_,λb hb=>?_⟩
  . rw[I.js q s1];exact ex
  . obtain⟨⟨o4,e4,c4⟩,_⟩:=f3;exact⟨⟨_,by simpa using g1⟩,⟨o4,ex1 _ _ hei.symm e4,c4⟩⟩
  . have hb0:=(hf b hb).1;have: ∃ o,s.heap.get? b=some o:=by
     obtain⟨o4,e4,_⟩:=hit;simp only[UH,or_false,Ui] at hb;rcases hb with rfl | rfl
     . exact⟨_,e1⟩
     . exact⟨_,e4⟩
    obtain⟨o,eo⟩:=this;rw[aA (Uw (Ug eo))];exact hb0
 done:=by
  intro X hP hw hK hc i pins s σ H E I hf z hg;subst hP hw hK;obtain⟨xs,s1,he⟩:=hg;obtain⟨us,ru,pu,_⟩:=I.tuple s1;obtain⟨⟨old,e1⟩,hit⟩:=z;have ei:i=us.toArray.size:=by have:=ru.length;simp;omega
  rw[ei] at hit;refine wpAny_pyNext_enum_endD (Dw (A:=X.A.in1) (show X.A.in1.handled=none from I.ok.hd hc) hai us.toArray) e1 ⟨hit,pu⟩ λh1 kp=>⟨rfl,CS (turned:=[e,it]) (t':=s.toks) I (λb o nb q=>?_) λb hb=>hf b hb⟩
  simp only[Ui,UH,or_false,not_or] at nb;exact kp b o nb.2 q
 self:=λA i s Q E z h=>by
  obtain⟨⟨old,e1⟩,_⟩:=z;exact wpAny_pyIter_enum e1 h
abbrev QC(h:Heap)(a:Addr):Heap:=VI (VI h (tI a)) { cls:= .type "enumerate",data:= .fields #[.none,.bool false,.ref h.objs.size,aat 0,.none,.none] }
theorem tf(a:Addr)(us:Array Value):Meets (WO.«enumerate.__new__» ⟨[.type "enumerate",.ref a],[]⟩) (λ_ R u=>u.heap.IsTuple a us/\R (.ok (.ret (.ref (u.heap.objs.size+1)))) { u with heap:=QC u.heap a }) :=
 .of_wp λprog w A R u hu=>by
  obtain⟨hp,gg,dd,tk,os⟩:=u;obtain⟨ha,hr⟩:=hu;have sub:=sub_enumerate;have fa:aaT (abf ⟨hp,gg,dd,tk,os⟩) a us:=ha
  wp_walk using VY fa
  refine wpAny_stack_any λz=>?_;refine Ud ?_;have fin1: ∀ v u,v=Ux (hp.objs.size+1)->u=(⟨QC hp a,gg,dd,tk,os⟩:T7)->R (.ok (.ret v)) u:=λv u e1 e2=>by rw[e1,e2];exact hr
  split
  . rename_i c _ _ _ _ _;cases c == W3 "enumerate" <;>(wp_walk using VY fa;exact⟨_,rfl,fin1 _ _ (by simp[Vr]) rfl⟩)
  . wp_walk using VY fa
    exact⟨_,rfl,fin1 _ _ (by simp[Vr]) rfl⟩
section
variable{X:Cx}{pg:Tb}{k:Nat}{a:Expr}{ma:ME}{p pos:Pos}{els:List Expr}{j:Nat}{tpos:Pos}
theorem Kh(h:Heap)(l:Addr):(∃ old,IsEnum (QC h l) (h.objs.size+1) h.objs.size ((0:Nat):Int) old)/\(QC h l).IsTupleIter h.objs.size l 0:=by
 have n1:(VI h (tI l)).objs.size=h.objs.size+1:=Vr ..;refine⟨⟨.none,?_⟩,⟨tI l,?_,rfl,rfl⟩⟩
 . rw[<- n1];exact Um _ rfl
 . refine T6 _ ?_;exact Um _ rfl
noncomputable def KC(K:TV)(ta:TA):TI:=fun σ H R=>ta σ H λvs H1=> ∃ a1 xs,vs=[.ref a1]/\fc K H1 a1 xs/\R (S5 K a1) H1
theorem Fy{ta:TA}(hg:Gl X "enumerate")(hm:X.mg "enumerate" =none)(ha:PA X [a] ta)(hs:UY [a] X.env=[(false,eval a X.env)]) :
  PI X (.Tuple els j tpos) (.Call (.Name "enumerate" p) [a] [] pos) (KC X.K ta):=by
 intro pins s σ H R I h;refine Call_ (iR I hg hm boot_enumerate (Vo (cC (ha pos pins s σ H _ I h) λus s1 ⟨vs,H1,I1,r1,a1,xs,e,q1,q⟩=>?_) (by rw[hs];rfl) (by rfl)));subst e;cases r1 with
 | cons ra rr =>
  cases rr
  cases ra
  obtain⟨u1,_,p1,_⟩:=I1.tuple q1
  refine callType_new F.called_enumerate (by decide) (F.typeCall_enumerate_1 _) (F.newCall_enumerate_1 _) (λobj=>F.args_object_init_2 obj _) F.entry_enumerate_new (tf a1 u1.toArray) ⟨p1,?_⟩
  obtain⟨⟨old,Z⟩,W⟩:=Kh s1.heap a1
  have lt1:a1 < s1.heap.objs.size:=by obtain⟨_,e,_⟩:=p1;exact Ug e
  refine⟨⟨_,Z,rfl⟩,wpAny_pyIter_enum Z ?_⟩
  have kp: ∀ c o,s1.heap.get? c=some o->(QC s1.heap a1).get? c=some o:=λc o e=>T6 _ (T6 _ e)
  refine⟨s1.heap.objs.size+1,[s1.heap.objs.size+1,s1.heap.objs.size],_,_,H1,rfl,I1.kept (t':=s1.toks) kp,zU (Ws (XM _)) (Ws (Wu lt1)) (Uw lt1),⟨⟨old,Z⟩,W⟩,λc hc=>?_,q⟩
  have hle:s1.heap.objs.size<=c:=by
   simp only[Ui,UH,or_false] at hc;rcases hc with rfl | rfl<;>omega
  exact I1.HM hle (I1.bq.fresh hle)
noncomputable def Bx(a:ME):MI:=λc e h=>(a c e h).bind λx h1=>match x.seq? with
 | some xs=> .ok ⟨none,xs.zipIdx.map λq=> .tup [.int (q.2:Int),q.1]⟩ h1
 | none=> .no
theorem Ic(hg:Gl X "enumerate")(ha:JE X pg k a ma)(hs1:noStar a=true:=by rfl):JI X pg k (.Tuple els j tpos) (.Call (.Name "enumerate" p) [a] [] pos) (Bx ma):=⟨λA=>by
 obtain⟨_,q1,s1⟩:=ha.h A;refine⟨_,⟨Fy hg (A.blt _ (by decide +kernel)) (qk q1 xu hs1).h (by rw[bX hs1];rfl)⟩,fun ρ h H e σ R it h' s r q P=>?_⟩;obtain⟨x,h1,e1,q⟩:=bind_eq.mp q;refine s1 ρ h H e σ _ x h1 s r e1 λx' ρ1 H1 g1 z1 r1=>?_;split at q
 . rename_i xs ex;cases q;obtain⟨a1,us,rfl,t1,d1⟩:=rel.seq ex r1;refine⟨a1,us,rfl,t1,P ρ1 H1 _ g1 z1 λi ρ3 h3 H3 g s3 _=>⟨λv ev=>?_,λei=>?_⟩⟩
   . rw[Uq] at ev;cases ez:xs.zipIdx[i]? with
     | none=>rw[ez] at ev;exact nomatch ev
     | some pr =>
      rw[ez] at ev
      cases ev
      have zx:xs[i]?=some pr.1/\pr.2=i:=by
       rw[List.getElem?_zipIdx] at ez;cases ey:xs[i]? with
       | none=>rw[ey] at ez;exact nomatch ez
       | some y=>rw[ey] at ez;cases ez;exact⟨rfl,by simp⟩
      obtain⟨u,f1,f2⟩:=(ao.gr g _ _ d1).get zx.1
      refine⟨⟨us,u,g.EC t1,f1⟩,?_⟩
      rintro v' H' ⟨p,u',hp,rfl,rfl,k1⟩
      have:=k1 us (g.EC t1)
      rw[f1] at this;cases this
      have gn:Gr ρ3 H3 ρ3 (upd H3 p (.tup [.int (i:Int),u])):=Gr.wx hp
      refine⟨ρ3,gn,s3.tup hp,?_⟩
      rw[rel]
      exact⟨p,_,rfl,ba,az.mpr ⟨_,_,rfl,by rw[rel,zx.2],ao.one (rel.gr gn _ _ f2)⟩⟩
   . refine⟨us,g.EC t1,?_⟩;have:i=xs.length:=by simpa using ei
     rw[<- d1.len];exact this.symm
 . exact nomatch q⟩
end
section
variable{c:CF}{e:aq}{h:PH}{a:ME}{xs:List PV}
noncomputable def SY(x:PV)(h1:PH):RV k4:=match x.seq? with
 | some xs=> .ok ⟨none,xs.zipIdx.map λq=> .tup [.int (q.2:Int),q.1]⟩ h1
 | none=> .no
theorem FY:Bx a c e h=(a c e h).bind SY:=(rfl)
theorem Bz:SY (.tup xs) h= .ok ⟨none,xs.zipIdx.map λq=> .tup [.int (q.2:Int),q.1]⟩ h:=(rfl)
end
section
variable{X:Cx}{pg:Tb}{k:Nat}
noncomputable def OC(K:TV):List V->Hp->VK->Prop:=λxs H Q=> ∃ p d,xs=[.ref p]/\bV K H d (.ref p)/\d.showable=true/\d.hasDict=false/\d.depth<=64/\d.shown.length<=sizeLine/\Q (.str d.shown) H
theorem Dc(gd:X.A.guards=some [])(hu:X.A.units+66 < cLine):aQ X (.builtin "repr") (OC X.K):=by
 intro pins s σ H xs us Q I r h;obtain⟨p,d,rfl,hd,h1,h2,h3,h4,q⟩:=h;obtain⟨u,rfl,ru⟩:=vals1 r;cases(show u=Ux p from ru);obtain⟨as,ra⟩:=bV.reads I d _ _ hd ru;exact repr_of_reads' ra h1 (λz=>by rw[h2] at z;exact nomatch z) gd (by omega) (λ_ _ z=>z) (λh' u tk kp=>⟨.str d.shown,H,I.kept kp,⟨u,rfl⟩,q⟩) h4
theorem yA: ∀(n b:Nat)(vs:List Value),vs.length=n->(∀ j v,vs[j]?=some v-> ∃ t,v=W7 ((b+j:Nat):Int) t)->Vals ((abg b n).map λi:Nat=>V.int (i:Int)) vs
 | 0,b,vs,hl,_=>by
  cases vs with
  | nil=>exact .nil
  | cons v r=>exact nomatch hl
 | n+1,b,vs,hl,h=>by
  cases vs with
  | nil=>exact nomatch hl
  | cons v r =>
   rw[aa5,T9]
   refine .cons ?_ (yA n (b+1) r (by simpa using hl) λj v e=>?_)
   . obtain⟨t,rfl⟩:=h 0 v rfl;exact⟨t,rfl⟩
   . obtain⟨t,rfl⟩:=h (j+1) v e;exact⟨t,by congr 2;omega⟩
variable{a:Expr}{ta:TA}{mr:MA}{p p2 p3 pos:Pos}
noncomputable def TF(ta:TA):TE:=fun σ H Q=>ta σ H λvs H1=> ∃ n:Nat,vs=[.int n]/\n<=100000/\ ∀ l,H1 l=none->Q (.ref l) (upd H1 l (.lst ((UR n).map λi:Nat=>V.int (i:Int))))
theorem zE(hL:Gl X "list")(mL:X.mg "list" =none)(hR:Gl X "range")(mR:X.mg "range" =none)(hd:X.A.handled=none)(ha:PA X [a] ta)(hs:UY [a] X.env=[(false,eval a X.env)])(hs2:UY [.Call (.Name "range" p2) [a] [] p3] X.env=[(false,eval (.Call (.Name "range" p2) [a] [] p3) X.env)]) :
  PE X (.Call (.Name "list" p) [.Call (.Name "range" p2) [a] [] p3] [] pos) (TF ta):=by
 intro pins s σ H Q I h;refine Call_ (iR I hL mL boot_list (Vo ?_ hs2 rfl));rw[hs2];refine Xp ?_;refine Call_ (iR I hR mR boot_range (Vo (cC (ha p3 pins s σ H _ I h) λus s1 ⟨vs,H1,I1,r1,q1⟩=>?_) hs rfl));obtain⟨n,e,hn,q⟩:=q1;subst e;cases r1 with
 | cons r rr =>
  cases rr
  obtain⟨t,rfl⟩:=r
  refine call_range_1 (YE ?_)
  have rs:Y6 0 (n:Int) 1=(n:Nat):=by rw[rangeSize_one];split<;>omega
  refine call_list_range hd (abB ..) (small_one (by omega) (by omega) (by omega) (by omega)) rs (by omega) λh' tk acc c' kp e it=>?_
  have I2:=I1.kept (t':=s1.toks+1+1) λb o e=>T6 { cls:=W3 "range",data:=Data.fields #[W7 0 s1.toks,W7 (n:Int) t,W7 1 (s1.toks+1)] } e
  refine⟨.ref _,_,I2.laid (t':=tk) kp (Ua _) (show aT X.prog X.w _ h' _ (.lst ((UR n).map λi:Nat=>V.int (i:Int))) from⟨?_,acc.toList,c',?_,by rw[e]⟩),rfl,q _ (I2.bq.fresh (Ua _))⟩
  . rw[TZ,VB];exact UM hn (by decide)
  . rw[List.range_eq_range'];refine yA n 0 acc.toList (by rw[VR];exact it.1) λj v e=>?_;obtain⟨t,rfl⟩:=it.2 j v (by rw[<- e,WY]);exact⟨t,by congr 1;omega⟩
theorem yc{K:TV}{ρ :List Addr}{H:Hp}: ∀ l:List Nat,ao K ρ H (l.map λi:Nat=>PV.int (0+(i:Int))) (l.map λi:Nat=>V.int (i:Int))
 | []=>by rw[UN,UN,ao]
 | i::l=>by rw[T9,T9];exact az.mpr ⟨_,_,rfl,by rw[rel,Wv],yc l⟩
noncomputable def RP(mr:MA):ME:=λc e h=>(mr c e h).bind λvs h1=>match vs with
 | [.int j]=>if 0<=j/\j<=100000 then .ok (.ref h1.length) (h1++[.lst (aw 0 j.toNat)]) else .no
 | _=> .no
theorem zI(hL:Gl X "list")(hR:Gl X "range")(ha:JA X pg k [a] mr)(hs:UY [a] X.env=[(false,eval a X.env)]:=by rfl):JE X pg k (.Call (.Name "list" p) [.Call (.Name "range" p2) [a] [] p3] [] pos) (RP mr):=⟨λA=>by
 obtain⟨_,q1,s1⟩:=ha.h A;refine⟨_,⟨zE hL (A.blt _ (by decide +kernel)) hR (A.blt _ (by decide +kernel)) A.room.hd q1.h hs rfl⟩,fun ρ h H e σ Q v h' s r q P=>?_⟩;obtain⟨vs,h1,e1,q⟩:=bind_eq.mp q;refine s1 ρ h H e σ _ vs h1 s r e1 λus ρ1 H1 g1 z1 r1=>?_;split at q
 . rename_i j;split at q
   . rename_i hj;cases q;obtain⟨u,rfl,r2⟩:=aO r1;rw[rel] at r2;subst r2;obtain⟨n,rfl⟩:=Vp hj.1;refine⟨n,rfl,by omega,λl hl=>?_⟩;exact dM z1 (yc (UR n)) (P.gr g1) l hl
   . exact nomatch q
 . exact nomatch q⟩
end
section
variable{c:CF}{e:aq}{h:PH}{r:MA}
noncomputable def SN(vs:List PV)(h1:PH):RV PV:=match vs with
 | [.int j]=>if 0<=j/\j<=100000 then .ok (.ref h1.length) (h1++[.lst (aw 0 j.toNat)]) else .no
 | _=> .no
theorem Jj:RP r c e h=(r c e h).bind SN:=(rfl)
theorem DP{j:Int}(hj:0<=j/\j<=100000):SN [.int j] h= .ok (.ref h.length) (h++[.lst (aw 0 j.toNat)]):=if_pos hj
end
end P3
end
section
open PySem PySem.W PyProof.Rows
namespace L2
open PySem PySem.Spec PyProof.Rows
open PySem.AutoSeq1 (wpAny_loadPart')
theorem E7{M:Model}{A:UW}{E:Value->T7->Prop}{s:T7}{β :Type}(f:Nat-> β ->Sem (ForInStep β))(J:List Nat-> β ->T7->Prop)(Q: β ->T7->Prop)
  (step: ∀ i r b u,J (i::r) b u->wpAny M A (f i b) (λz u'=>match z with
   | .yield b'=>J r b' u'
   | .done b'=>Q b' u') E u) (stop: ∀ b u,J [] b u->Q b u) (rg:Std.Legacy.Range) (b: β) (h:J (abg rg.start rg.size rg.step) b s):wpAny M A (forIn rg b f) Q E s:=by
 rw[Z4];exact wpAny_forIn_list f J Q step stop _ b h
theorem Ba(l:Addr)(ai:Array Value)(n:Nat)(di:Option Addr)(sl:Array (Option Value))(x:Value)(e:Value->Bool)(he: ∀ y,y∈ai->MeetsSeq.EqGives y x (e y))(j:Nat)(hj:j < ai.size)(h1:e ai[j]=true)(h0: ∀(m:Nat)(hm:m < ai.size),m < j->e ai[m]=false) :
  Meets (WO.«tuple.index» ⟨[.ref l,x],[]⟩) (λ_ R s=>s.heap.get? l=some { cls:= .type "tuple",dict:=di,data:= .seq ai n,slots:=sl }/\R (.ok (.ret (.int (j:Int) s.toks))) { s with toks:=s.toks+1 }) :=
 .of_wp λprog w A R u hu=>by
  obtain⟨hp,gg,dd,tk,os⟩:=u;obtain⟨hl,hr⟩:=hu
  wp_walk using wpAny_loadPart' hl,E7 _ (λrest b u'=>b=(none,())/\u'=(⟨hp,gg,dd,tk,os⟩:T7)/\ ∃ m,rest=abg m (ai.size - m)/\m<=j) _
  case step =>
   rintro i r b u' ⟨rfl,rfl,m,em,mj⟩
   have hm:m < ai.size:=by omega
   rw[show ai.size - m=(ai.size - (m+1))+1 by omega,aa5] at em
   obtain⟨rfl,rfl⟩:=List.cons.inj em
   have ei:ai[i]?=some ai[i]:=U7 hm
   rw[ei]
   refine TY (he ai[i] (Array.getElem_mem hm) prog w _ _ _ _ ?_)
   by_cases c:i=j
   . subst c;rw[h1]
     wp_walk
     exact⟨_,rfl,hr⟩
   . rw[h0 i hm (by omega)]
     wp_walk
     exact⟨rfl,rfl,i+1,rfl,by omega⟩
  case stop =>
   rintro b u' ⟨_,_,m,em,mj⟩
   have:=congrArg aa9 em
   rw[UE,List.length_range'] at this
   omega
  case h=>exact⟨rfl,rfl,0,by simp[abA],UQ _⟩
section
variable{X:Cx}
noncomputable def GB:V->List V->Hp->VK->Prop:=λx vs H Q=> ∃(l:Addr)(ss:List Str)(a:Str),x= .ref l/\vs=[.str a]/\H l=some (.lst (ss.map V.str))/\a∈ss/\Q (.int (ss.idxOf a:Nat)) H
theorem places{a:Str}{t:Tok}{ai:List Value}{ss:List Str}(sa:Yh ai ss)(ln:ai.length=ss.length)(ha:a∈ss) :
  ∃ hj:ss.idxOf a < ai.toArray.size,Yj a ai.toArray[ss.idxOf a]=true/\ ∀(m:Nat)(hm:m < ai.toArray.size),m < ss.idxOf a->Yj a ai.toArray[m]=false:=by
 have hj:=wZ ha;refine⟨by rw[Uh,ln];exact hj,?_,λm hm hlt=>?_⟩
 . show Yj a (ai[ss.idxOf a]'(by rw[ln];exact hj))=true;rw[lx sa _ _ hj,aaE hj];exact beq_self_eq_true a
 . have hm':m < ss.length:=by rw[<- ln];simpa using hm
   show Yj a (ai[m]'(by rw[ln];exact hm'))=false;have nf:=Zz (p:=(· == a)) (xs:=ss) (i:=m) hlt
   rw[lx sa _ _ hm'];simpa using nf
theorem Ad:Rk X "list.index" GB:=by
 intro pins s σ H x vs v us Q I rx rv h;obtain⟨l,ss,a,rfl,rfl,hH,ha,q⟩:=h;cases rx;obtain⟨u,rfl,t,rfl⟩:=rv.one;obtain⟨z,ai,n,r,hl,e⟩:=I.AN hH;have sa:=fW r;have ln:ai.length=ss.length:=by rw[<- hl,TZ]
 obtain⟨hj,h1,h0⟩:=places (t:=t) sa ln ha;have z2:ss.length<=sizeLine:=by rw[<- ln,<- hl];exact z
 refine V2 F.slot_list_index ⟨_,e,rfl⟩ F.entry_list_index (F.args_list_index_2 _ _)
  (MeetsSeq.list_index l ai.toArray n (.str a t) (Yj a) (λy hy=>eq_isStrOf a t sa y (by simpa using hy)) (ss.idxOf a) hj (by have:ss.idxOf a < ss.length:=wZ ha;have:sizeLine=16777216:=rfl;omega) h1 h0) ⟨e,?_⟩
 exact⟨.int (ss.idxOf a:Nat),H,I.tok _,⟨_,rfl⟩,q⟩
noncomputable def HI(K:TV):V->List V->Hp->VK->Prop:=λx vs H Q=> ∃(l:Addr)(ss:List Str)(a:Str),x= .ref l/\vs=[.str a]/\fc K H l (ss.map V.str)/\a∈ss/\Q (.int (ss.idxOf a:Nat)) H
theorem rR:Rk X "tuple.index" (HI X.K):=by
 intro pins s σ H x vs v us Q I rx rv h;obtain⟨l,ss,a,rfl,rfl,hH,ha,q⟩:=h;cases rx;obtain⟨u,rfl,t,rfl⟩:=rv.one;obtain⟨ai,r,⟨o,e,ec,n,ed⟩,z⟩:=I.tuple hH;have sa:=fW r;have ln:ai.length=ss.length:=by rw[<- r.length,TZ]
 obtain⟨hj,h1,h0⟩:=places (t:=t) sa ln ha;obtain⟨oc,od,oa,os⟩:=o;cases ec;cases ed;refine V2 F.slot_tuple_index ⟨_,e,rfl⟩ F.entry_tuple_index (F.args_tuple_index_2 _ _)
  (Ba l ai.toArray n od os (.str a t) (Yj a) (λy hy=>eq_isStrOf a t sa y (by simpa using hy)) (ss.idxOf a) hj h1 h0) ⟨e,?_⟩
 exact⟨.int (ss.idxOf a:Nat),H,I.tok _,⟨_,rfl⟩,q⟩
noncomputable def TL(r:V->List V->Hp->VK->Prop)(to:TE)(t:TA):TE:=fun σ H Q=>to σ H λx H1=>(∃ p xs,x= .ref p/\H1 p=some (.tup xs))/\t σ H1 λxs H2=>r x xs H2 Q
variable{o e:Expr}{to:TE}{t:TA}{name:Str}{apos cpos:Pos}{id:String}{r:V->List V->Hp->VK->Prop}
theorem P4(pa:aay "tuple")(slot:Slot "tuple" name id)(hty:typeOf (.builtin id)=pure (.type "method_descriptor"))(hm:IG X id r)(ho:PE X o to)(ha:PA X [e] t)
  (hbase:Wx o name X.env (eval o X.env)=eval o X.env) (hline:(apos.endLine == cpos.line)=true) (hs:UY [e] X.env=[(false,eval e X.env)]):PE X (.Call (.Attribute o name apos) [e] [] cpos) (TL r to t):=by
 intro pins s σ H Q I h;refine Zq hbase (by rw[hs];rfl) hline rfl (cC (ho pins s σ H _ I h) λv s1 ⟨x,H1,I1,r1,⟨p,xs,ex,hp⟩,q1⟩=>?_);subst ex;cases r1;obtain⟨_,ai,_,ob,g1,g2,n,g3,g4⟩:=I1.bq p _ hp;refine⟨"tuple",id,pa,slot,hty,⟨ob,g1,g2⟩,λa e=>by cases e;exact⟨ob,g1,g4⟩,?_⟩;have hA:=ha cpos pins s1 σ H1 _ I1 q1;rw[hs] at hA ⊢;refine XC rfl (XY ?_);exact cC hA λus s2 ⟨vs,H2,I2,r2,q2⟩=>hm pins s2 σ H2 (.ref p) vs (.ref p) us Q I2 rfl r2 q2
end
end L2
namespace P3
open PySem PySem.Spec PyProof.Rows L2
section
variable{X:Cx}{pg:Tb}{k:Nat}{d e:Expr}{md:ME}{mr:MA}{apos cpos:Pos}
noncomputable def hI:PV->List PV->PH->RV PV:=λx vs h=>match x,vs with
 | .ref n,[.str a]=>(match h[n]? with
  | some (.lst xs)=>(match eO xs with
   | some ss=>if a∈ss then .ok (.int (ss.idxOf a:Nat)) h else .no
   | none=> .no)
  | _=> .no)
 | _,_=> .no
theorem DU:cV X pg k-> ∃ r,IG X "list.index" r/\RA X.K "list" r hI b6:=λA=>⟨_,Ad,fun ρ h H x x' s r e=>oY s r e,fun ρ h H x x' xs us Q v h' s rx rs q P=>by
 unfold hI at q;split at q
 . rename_i n a;split at q
   . rename_i ys en;split at q
     . rename_i ss es;split at q
       . rename_i ha;cases q;obtain⟨b,vs,rfl,ea,e1,e2⟩:=s.lst en rx;obtain⟨u,rfl,r⟩:=aO rs;rw[rel] at r;subst r;rw[eV es,bW] at e2;subst e2;exact⟨b,ss,a,rfl,rfl,e1,ha,P _ ρ H (.refl _ _) s (by rw[rel])⟩
       . exact nomatch q
     . exact nomatch q
   . exact nomatch q
 . exact nomatch q⟩
noncomputable def zV(x:PV)(vs:List PV)(h:PH):RV PV:=match x,vs with
 | .tup xs,[.str a]=>(match eO xs with
  | some ss=>if a∈ss then .ok (.int (ss.idxOf a:Nat)) h else .no
  | none=> .no)
 | _,_=> .no
noncomputable def qC(x:PV)(vs:List PV)(h:PH):RV PV:=match x,vs with
 | .ktup xs,[.str a]=>(match eO xs with
  | some ss=>if a∈ss then .ok (.int (ss.idxOf a:Nat)) h else .no
  | none=> .no)
 | _,_=> .no
noncomputable def E8(md:ME)(mr:MA):ME:=λc e h=>(md c e h).bind λx h1=>(mr c e h1).bind λvs h2=>zV x vs h2
theorem zM(ho:JE X pg k d md)(ha:JA X pg k [e] mr)(hbase:Wx d "index" X.env (eval d X.env)=eval d X.env:=by rfl)(hline:(apos.endLine == cpos.line)=true:=by rfl)(hs:noStar e=true:=by rfl) :
  JE X pg k (.Call (.Attribute d "index" apos) [e] [] cpos) (E8 md mr):=⟨λA=>by
 obtain⟨_,q0,s0⟩:=ho.h A;obtain⟨_,q1,s1⟩:=ha.h A;refine⟨_,⟨P4 Y1 Y2 Y3 rR q0.h q1.h hbase hline (bX hs)⟩,fun ρ h H e σ Q v h' z r q P=>?_⟩;obtain⟨x,h1,e1,q⟩:=bind_eq.mp q;obtain⟨xs,h2,e2,q⟩:=bind_eq.mp q;unfold zV at q;split at q
 . rename_i ys a _;split at q
   . rename_i ss es;split at q
     . rename_i hm;cases q;refine s0 ρ h H e σ _ _ _ z r e1 λx' ρ1 H1 g1 z1 r1=>?_;have r1':=r1;rw[rel] at r1';obtain⟨p,vs,rfl,hp,_⟩:=r1';refine⟨⟨p,vs,rfl,hp⟩,?_⟩;refine s1 ρ1 h1 H1 e σ _ _ _ z1 (r.gr g1) e2 λus ρ2 H2 g2 z2 r2=>?_;have r3:=rel.gr g2 _ _ r1;rw[rel] at r3;obtain⟨p',vs',ep,hp',rv⟩:=r3;cases ep;obtain⟨u,rfl,ru⟩:=aO r2;rw[rel] at ru;subst ru;rw[eV es,bW] at rv;subst rv;exact⟨p,ss,a,rfl,rfl,.of hp',hm,P.gr (g1.trans g2) _ ρ2 H2 (.refl _ _) z2 (by rw[rel])⟩
     . exact nomatch q
   . exact nomatch q
 . exact nomatch q⟩
noncomputable def RT(v:PV)(mr:MA):ME:=λc e h=>(mr c e h).bind λvs h2=>qC v vs h2
theorem AR{x:Str}{v:PV}{p:Pos}(hc:pg.con x=some v)(hg:Gl X x)(ha:JA X pg k [e] mr)(hd:(x == ("__debug__" :Str))=false:=by decide)(hbase:Wx (.Name x p) "index" X.env (eval (.Name x p) X.env)=eval (.Name x p) X.env:=by rfl)(hline:(apos.endLine == cpos.line)=true:=by rfl)(hs:noStar e=true:=by rfl) :
  JE X pg k (.Call (.Attribute (.Name x p) "index" apos) [e] [] cpos) (RT v mr):=⟨λA=>by
 obtain⟨u,v',e1,e2,cn,e3⟩:=A.con x v hc;obtain⟨_,q1,s1⟩:=ha.h A;refine⟨_,Iu Y1 Y2 Y3 rR (ym hg e1 e2 hd) q1 hbase hline hs,fun ρ h H e σ Q w h' z r q P=>?_⟩;obtain⟨xs,h2,e2',q⟩:=bind_eq.mp q;unfold qC at q;split at q
 . rename_i ys a _;split at q
   . rename_i ss es;split at q
     . rename_i hm;cases q;have r0:=e3 ρ H;rw[rel] at r0;obtain⟨pa,vs,rfl,_,_⟩:=r0;obtain⟨o,o1,o2,o3⟩:=cn pa rfl;refine⟨.inr (.inl ⟨rfl,o,o1,o2,o3⟩),?_⟩;refine s1 ρ h H e σ _ _ _ z r e2' λus ρ2 H2 g2 z2 r2=>?_;obtain⟨p',vs',ep,sq,rv⟩:=rel.seq (x:= .ktup ys) rfl (e3 ρ2 H2);cases ep;obtain⟨u',rfl,ru⟩:=aO r2;rw[rel] at ru;subst ru;rw[eV es,bW] at rv;subst rv;exact⟨_,ss,a,rfl,rfl,sq,hm,P.gr g2 _ ρ2 H2 (.refl _ _) z2 (by rw[rel])⟩
     . exact nomatch q
   . exact nomatch q
 . exact nomatch q⟩
end
section
variable{c:CF}{e:aq}{h:PH}{d:ME}{r:MA}{x v:PV}{ss:List Str}{a:Str}{n:Nat}
theorem yM:RT v r c e h=(r c e h).bind (qC v):=(rfl)
theorem LO(ha:a∈ss):qC (.ktup (ss.map PV.str)) [.str a] h= .ok (.int (ss.idxOf a:Nat)) h:=by
 unfold qC;simp only[dB,if_pos ha]
noncomputable def Qi(r:MA)(c:CF)(e:aq)(x:PV)(h1:PH):RV PV:=(r c e h1).bind (zV x)
theorem kq:E8 d r c e h=(d c e h).bind (Qi r c e):=(rfl)
theorem hJ:Qi r c e x h=(r c e h).bind (zV x):=(rfl)
theorem iw(ha:a∈ss):zV (.tup (ss.map PV.str)) [.str a] h= .ok (.int (ss.idxOf a:Nat)) h:=by
 unfold zV;simp only[dB,if_pos ha]
theorem tK(e1:h[n]?=some (.lst (ss.map PV.str)))(ha:a∈ss):hI (.ref n) [.str a] h= .ok (.int (ss.idxOf a:Nat)) h:=by
 unfold hI;simp only[e1,dB,if_pos ha]
end
section
variable{X:Cx}{pg:Tb}{k:Nat}
noncomputable def LY:List V->Hp->VK->Prop:=λxs H Q=>(∃ b,xs=[.bl b]/\Q (.str (if b=true then Ul "True" else Ul "False")) H)\/(xs=[.non]/\Q (.str (Ul "None")) H)
theorem zS:aQ X (.builtin "repr") LY:=by
 intro pins s σ H xs us Q I r h;rcases h with⟨b,rfl,q⟩ | ⟨rfl,q⟩
 . obtain⟨u,rfl,ru⟩:=vals1 r;cases(show u=XJ b from ru);exact PySem.P.repr_of_bool ⟨.str _,H,I.tok _,⟨_,rfl⟩,q⟩
 . obtain⟨u,rfl,ru⟩:=vals1 r;cases(show u=Wc from ru);exact PySem.P.repr_of_none ⟨.str _,H,I.tok _,⟨_,rfl⟩,q⟩
noncomputable def Ai(d:V1):Prop:=d.showable=true/\d.hasDict=false/\d.depth<=64/\d.shown.length<=sizeLine
instance (d:V1):Decidable (Ai d):=by unfold Ai;infer_instance
noncomputable def bS:List PV->PH->RV PV:=λxs h=>match xs with
 | [.bl b]=> .ok (.str (if b=true then Ul "True" else Ul "False")) h
 | [.non]=> .ok (.str (Ul "None")) h
 | [.tup ys]=>(match dat 6 h (.tup ys) with
  | some d=>if Ai d then .ok (.str d.shown) h else .no
  | none=> .no)
 | [.ref n]=>(match dat 6 h (.ref n) with
  | some d=>if Ai d then .ok (.str d.shown) h else .no
  | none=> .no)
 | _=> .no
theorem FL:cV X pg k-> ∃ r,aQ X (.builtin "repr") r/\zg X.K r bS:=λA=>⟨_,(Dc A.room.gd (by have:=A.room.un;omega)).or zS,fun ρ h H xs us Q v h' s r q P=>by
 unfold bS at q;split at q
 . rename_i b;cases q;obtain⟨u,rfl,r1⟩:=aO r;rw[rel] at r1;subst r1;exact .inr (.inl ⟨b,rfl,P _ ρ H (.refl _ _) s (by rw[rel])⟩)
 . cases q;obtain⟨u,rfl,r1⟩:=aO r;rw[rel] at r1;subst r1;exact .inr (.inr ⟨rfl,P _ ρ H (.refl _ _) s (by rw[rel])⟩)
 . rename_i ys;split at q
   . rename_i d e;split at q
     . rename_i c;cases q;obtain⟨u,rfl,r1⟩:=aO r;have dv:=dat.v s 6 _ _ _ e r1;have r2:=r1;rw[rel] at r2;obtain⟨a,vs,rfl,_,_⟩:=r2;exact .inl ⟨a,d,rfl,dv,c.1,c.2.1,c.2.2.1,c.2.2.2,P _ ρ H (.refl _ _) s (by rw[rel])⟩
     . exact nomatch q
   . exact nomatch q
 . rename_i n;split at q
   . rename_i d e;split at q
     . rename_i c;cases q;obtain⟨u,rfl,r1⟩:=aO r;have dv:=dat.v s 6 _ _ _ e r1;have r2:=r1;rw[rel] at r2;obtain⟨a,_,rfl⟩:=r2;exact .inl ⟨a,d,rfl,dv,c.1,c.2.1,c.2.2.1,c.2.2.2,P _ ρ H (.refl _ _) s (by rw[rel])⟩
     . exact nomatch q
   . exact nomatch q
 . exact nomatch q⟩
end
section
variable{P:Uy}{w:World}{K:TV}{mg:Str->Option Value}{pg:Tb}
theorem aU.on{f:String}{ps:List Str}{n:Nat}{b:MS}{st:Stmt}{N:List Str}(a:At K mg (Ul f) st)(S:dO N ps (av st))(hl:N.length=ps.length+n)
  (hb: ∀(kV doc pm:Value)(an:Option Addr)(cdv ct:Value)(us:List Value),us.length=ps.length->WQ (Vi (Ul f) (Ul f) (cG st) (aZ st) (av st) .none kV doc pm an cdv ct) ⟨us,[]⟩=pure (ps.zip us))
  (h:N.Nodup-> ∀(base:Heap)(fa:Addr)(cdv:Value)(A:UW)(outer:List Env)(s:T7)(H:Hp)(E:XK)(k:Nat),yF (jH sd P w K mg base N (Ul f) (av st) fa cdv A outer s H E).qa pg k (aZ st) b):aU P w K mg pg f ⟨ps,n,b⟩ st N :=
 ⟨a,S,hl,hb,h S.nd⟩
end
noncomputable def eI(i:Int):ME:=eC (.int i)
noncomputable def eS(x:Str):ME:=eC (.str x)
noncomputable def eX(i:Nat)(j:Int):ME:=aj ay (aa i) (eI j)
noncomputable def mQ(a b:ME):MT:=aE (aj ki a b)
noncomputable def a1(a:ME):MA:=ab a ah
noncomputable def a2(a b:ME):MA:=ab a (a1 b)
noncomputable def a3(a b d:ME):MA:=ab a (a2 b d)
section
variable{a b d:ME}{c:CF}{e:aq}{h:PH}{i:Nat}{j:Int}{s:Str}{x y z v:PV}
theorem IF:eI j c e h= .ok (.int j) h:=rfl
theorem PB:eS s c e h= .ok (.str s) h:=rfl
noncomputable def xk(o:Option (Option PV))(j:Int)(h:PH):RV PV:=(LW o h).bind λx h1=>ay x (.int j) h1
theorem Q1:eX i j c e h=xk (e[i]?) j h:=rfl
theorem OE:xk (some (some v)) j h=ay v (.int j) h:=rfl
noncomputable def Ra(x y:PV)(h:PH):RV Bool:=(ki x y h).bind ua
noncomputable def Tf(b:ME)(c:CF)(e:aq)(x:PV)(h:PH):RV Bool:=(b c e h).bind (Ra x)
theorem QJ:mQ a b c e h=(a c e h).bind (Tf b c e):=by
 show((a c e h).bind _).bind ua=_;cases a c e h with
 | ok x h1 =>
  show((b c e h1).bind _).bind ua=(b c e h1).bind (Ra x)
  cases b c e h1<;>rfl
 | _=>rfl
theorem M0:Tf b c e x h=(b c e h).bind (Ra x):=rfl
theorem LP:Ra x y h=(ki x y h).bind ua:=rfl
noncomputable def Tq(x:PV)(h:PH):RV (List PV):= .ok [x] h
theorem Q0:a1 a c e h=(a c e h).bind Tq:=rfl
theorem J7:Tq x h= .ok [x] h:=rfl
noncomputable def Rc(x y:PV)(h:PH):RV (List PV):= .ok [x,y] h
noncomputable def SV(b:ME)(c:CF)(e:aq)(x:PV)(h:PH):RV (List PV):=(b c e h).bind (Rc x)
theorem IL:a2 a b c e h=(a c e h).bind (SV b c e):=by
 show(a c e h).bind _=_;cases a c e h with
 | ok x h1 =>
  show((b c e h1).bind _).bind _=(b c e h1).bind (Rc x)
  cases b c e h1<;>rfl
 | _=>rfl
theorem L4:SV b c e x h=(b c e h).bind (Rc x):=rfl
theorem MN:Rc x y h= .ok [x,y] h:=rfl
noncomputable def Rt(x y z:PV)(h:PH):RV (List PV):= .ok [x,y,z] h
noncomputable def Ru(d:ME)(c:CF)(e:aq)(x y:PV)(h:PH):RV (List PV):=(d c e h).bind (Rt x y)
noncomputable def Tc(b d:ME)(c:CF)(e:aq)(x:PV)(h:PH):RV (List PV):=(b c e h).bind (Ru d c e x)
theorem Qq:a3 a b d c e h=(a c e h).bind (Tc b d c e):=by
 show(a c e h).bind (L1 (a2 b d) c e)=_;cases a c e h with
 | ok x h1 =>
  show(a2 b d c e h1).bind _=(b c e h1).bind (Ru d c e x)
  rw[IL]
  cases b c e h1 with
  | ok y h2 =>
   show((d c e h2).bind _).bind _=(d c e h2).bind (Rt x y)
   cases d c e h2<;>rfl
  | _=>rfl
 | _=>rfl
theorem Kz:Tc b d c e x h=(b c e h).bind (Ru d c e x):=rfl
theorem Jn:Ru d c e x y h=(d c e h).bind (Rt x y):=rfl
theorem Ka:Rt x y z h= .ok [x,y,z] h:=rfl
end
end P3
end
section
open PySem PySem.W PyProof.Rows
set_option maxHeartbeats 5000000
namespace K20
open PySem L2 P3 PyProof.Rows
noncomputable def top(i:Nat):Stmt:=PySem.Challenge.pw_leastrecord_k20_who_waits.main.body.getD i (.Pass ⟨0,0,0,0⟩)
noncomputable def eU:List (Key × PV):=[(.inr "let",(.ktup [(.str "pocket"),(.str "sum")])),(.inr "leap",(.ktup [(.str "target"),(.str "sum")])),(.inr "get",(.ktup [(.str "pocket"),(.str "box")])),(.inr "put",(.ktup [(.str "box"),(.str "sum")])),(.inr "take",(.ktup [(.str "lock")])),(.inr "free",(.ktup [(.str "lock")])),(.inr "send",(.ktup [(.str "lane"),(.str "sum")])),(.inr "fetch",(.ktup [(.str "pocket"),(.str "lane")])),(.inr "say",(.ktup [(.str "door"),(.str "sum")])),(.inr "clock",(.ktup [(.str "pocket")])),(.inr "lot",(.ktup [(.str "pocket"),(.str "chances")])),(.inr "hear",(.ktup [(.str "pocket"),(.str "door")]))]
noncomputable def dj:List (Key × PV):=[(.inr "box",(.int 2)),(.inr "lock",(.int 3)),(.inr "lane",(.int 4)),(.inr "door",(.int 5))]
noncomputable def fE:List (Key × PV):=[(.inr "get",(.str "box")),(.inr "put",(.str "box")),(.inr "take",(.str "lock")),(.inr "free",(.str "lock")),(.inr "send",(.str "lane")),(.inr "fetch",(.str "lane")),(.inr "say",(.str "door"))]
noncomputable def o6:MS :=
  (ax (sN (eB qm (ab (aa 0) (ab (eC (.ty "int")) ah))) (EH (eB qm (ab (aa 0) (ab (eC (.ty "bool")) ah))))))
noncomputable def ip:Df:=⟨["thing"],0,o6⟩
noncomputable def kN:MS :=
  (ax (sN (ae "is_whole" (a1 (aa 0))) (r9 Rn Rn (aa 1) (aa 0) (aa 2))))
noncomputable def fA:Df:=⟨["thing", "least", "most"],0,kN⟩
noncomputable def pL:MS :=
  (ax (ae "is_between" (a3 (aa 0) (eI 0) (eI 999))))
noncomputable def iE:Df:=⟨["thing"],0,pL⟩
noncomputable def ky:MS :=
  (ag (ak (eX 0 0) (gN 2))
  (ag (bU (mQ (aa 2) (eS "num")) (ax (eX 0 1)) cz)
  (ag (bU (mQ (aa 2) (eS "of")) (ax (yT (eB uD (a1 (aa 1))) (eX 0 1) (eI 0))) cz)
  (ag (ak (ae "worth" (a2 (eX 0 1) (aa 1))) (gN 3))
  (ag (bU (mQ (aa 2) (eS "not")) (ax (uc (mQ (aa 3) (eI 0)) (eI 1) (eI 0))) cz)
  (ax (ae "joined_worth" (ab (aa 2) (ab (aa 3) (ab (ae "worth" (a2 (eX 0 2) (aa 1))) ah))))))))))
noncomputable def hV:Df:=⟨["tree", "pockets"],2,ky⟩
noncomputable def jg:MS :=
  (ag (bU (mQ (aa 0) (eS "add")) (ax (aj fh (aj aY (aa 1) (aa 2)) (eI 1000))) cz)
  (ag (bU (mQ (aa 0) (eS "sub")) (ax (aj fh (aj qF (aa 1) (aa 2)) (eI 1000))) cz)
  (ag (bU (mQ (aa 0) (eS "mul")) (ax (aj fh (aj cY (aa 1) (aa 2)) (eI 1000))) cz)
  (ag (bU (mQ (aa 0) (eS "less")) (ax (uc (aE (aj Ck (aa 1) (aa 2))) (eI 1) (eI 0))) cz)
  (ax (uc (aE (aj ki (aa 1) (aa 2))) (eI 1) (eI 0)))))))
noncomputable def dP:Df:=⟨["word", "one", "other"],0,jg⟩
noncomputable def fM:MS :=
  (ag (ak (aj ay (aa 0) (RT (.ktup [(.str "box"),(.str "lock"),(.str "lane"),(.str "door"),(.str "hand")]) (a1 (aa 1)))) (gN 2))
  (ag (bU (IA (mQ (aa 1) (eS "box")) (mQ (aa 1) (eS "hand"))) (ax (iN 1 (kj (aa 2)) (gN 3) aP (eX 3 0))) cz)
  (ax (eB y7 (a1 (aa 2))))))
noncomputable def dm:Df:=⟨["program", "sort"],1,fM⟩
noncomputable def mV:MS :=
  (ag (ak (ae "names_of" (a2 (aa 0) (aa 1))) (gN 3))
  (ax (uc (aE (aj ja (aa 2) (aa 3))) (eM hI b6 (aa 3) (a1 (aa 2))) (eC .non))))
noncomputable def gD:Df:=⟨["program", "sort", "name"],1,mV⟩
noncomputable def rE:MS :=
  (ax (aj ay (aj ay (eX 0 4) (aa 1)) (eI 1)))
noncomputable def ju:Df:=⟨["program", "hand"],0,rE⟩
noncomputable def k7:MS :=
  (ax (ae "rested" (ab (aa 0) (ab (aa 1) (ab (au (a3 (eI 0) (au ah) (au ah))) ah)))))
noncomputable def fw:Df:=⟨["program", "hand"],0,k7⟩
noncomputable def vO:MS :=
  (ag (ak (ae "rows_of" (a2 (aa 0) (aa 1))) (gN 3))
  (ag (ak (aa 2) (gN 4))
  (ag (kZ (cF (a1 (eI 200))) (gN 5) (ag (bU (aE (ae "is_rested" (a2 (aa 3) (aa 4)))) (ax (aa 4)) cz)
  (ak (ae "behind_own_row" (ab (aj ay (aa 3) (eX 4 0)) (a1 (aa 4)))) (gN 4))))
  (ag (bU (aE (ae "is_rested" (a2 (aa 3) (aa 4)))) (ax (aa 4)) cz)
  (ax (au (ab (eB cx (a1 (aa 3))) (a2 (eX 4 1) (eX 4 2)))))))))
noncomputable def kM:Df:=⟨["program", "hand", "seat"],3,vO⟩
noncomputable def iX:MS :=
  (ax (Qm (aj ki (eX 1 0) (eB cx (a1 (aa 0)))) (EH (ae "is_own_row" (ab (aj ay (aa 0) (eX 1 0)) (a1 (eX 1 2)))))))
noncomputable def eQ:Df:=⟨["rows", "seat"],0,iX⟩
noncomputable def kH:MS :=
  (ag (bU (mQ (eX 0 0) (eS "take")) (ax (aj ja (eX 0 1) (aa 1))) cz)
  (ag (bU (mQ (eX 0 0) (eS "free")) (ax (aj gF (eX 0 1) (aa 1))) cz)
  (ax (Qm (aj ki (eX 0 0) (eS "let")) (aj ki (eX 0 0) (eS "leap"))))))
noncomputable def fC:Df:=⟨["row", "held"],0,kH⟩
noncomputable def cM:MS :=
  (ag (ak (aj aY (eX 1 0) (eI 1)) (gN 2))
  (ag (bU (mQ (eX 0 0) (eS "let")) (ax (au (ab (aa 2) (ab (ae "laid" (ab (eX 1 1) (ab (eX 0 1) (ab (ae "worth" (a2 (eX 0 2) (eX 1 1))) ah)))) (a1 (eX 1 2)))))) cz)
  (ag (bU (si (mQ (eX 0 0) (eS "leap")) (aE (aj gu (ae "worth" (a2 (eX 0 2) (eX 1 1))) (eI 0)))) (ax (au (a3 (eX 0 1) (eX 1 1) (eX 1 2)))) cz)
  (ax (au (a3 (aa 2) (eX 1 1) (eX 1 2)))))))
noncomputable def bP:Df:=⟨["row", "seat"],1,cM⟩
noncomputable def wc:MS :=
  (ag (ak (iN 1 (kj (aa 0)) (gN 4) (aE (aj gu (eX 4 0) (aa 1))) (aa 4)) (gN 3))
  (ag (bU (aE (aj gu (aa 2) (eI 0))) (cJ (eM bj b6 (aa 3) (ab (au (a2 (aa 1) (aa 2))) ah))) cz)
  (ax (eB bf (ab (eB eT (a1 (aa 3))) ah)))))
noncomputable def nT:Df:=⟨["pockets", "name", "value"],1,wc⟩
noncomputable def ke:MS :=
  (ag (ak (ae "rows_of" (a2 (aa 0) (aa 1))) (gN 3))
  (ag (bU (aE (aj ki (eX 2 0) (eB cx (a1 (aa 3))))) (ax (eC .non)) cz)
  (ag (ak (aj ay (aa 3) (eX 2 0)) (gN 4))
  (ag (ak (eS "") (gN 5))
  (ag (ak (eC .non) (gN 6))
  (ag (kZ (Nd (rQ eU (eX 4 0)) (zo (aa 4) (fO (eI 1)) jn)) (gT 2 (aW (gN 7) (aW (gN 8) gq))) (bU (mQ (aa 7) (eS "sum")) (ak (ae "worth" (a2 (aa 8) (eX 2 1))) (gN 6)) (bU (mQ (aa 7) (eS "chances")) (ak (aa 8) (gN 6)) (bU (aE (aj gu (aa 7) (eS "pocket"))) (ak (aa 8) (gN 5)) cz))))
  (ax (au (a3 (eX 4 0) (aa 5) (aa 6))))))))))
noncomputable def fV:Df:=⟨["program", "hand", "seat"],6,ke⟩
noncomputable def c8:MS :=
  (ag (ak (aj ay (ae "rows_of" (a2 (aa 0) (aa 1))) (eX 2 0)) (gN 4))
  (ag (ak (eX 2 1) (gN 5))
  (ag (ak (eX 2 2) (gN 6))
  (ag (bU (aE (aj ja (eX 4 0) (eC (.ktup [(.str "get"),(.str "fetch"),(.str "clock"),(.str "lot"),(.str "hear")])))) (ak (ae "laid" (a3 (aa 5) (eX 4 1) (aa 3))) (gN 5)) (bU (mQ (eX 4 0) (eS "take")) (ak (eB bf (ab (eB eT (ab (aj aY (aa 6) (au (a1 (eX 4 1)))) ah)) ah)) (gN 6)) (bU (mQ (eX 4 0) (eS "free")) (ak (eB bf (ab (iN 1 (kj (aa 6)) (gN 7) (aE (aj gu (aa 7) (eX 4 1))) (aa 7)) ah)) (gN 6)) cz)))
  (ax (ae "rested" (ab (aa 0) (ab (aa 1) (ab (au (ab (aj aY (eX 2 0) (eI 1)) (a2 (aa 5) (aa 6)))) ah)))))))))
noncomputable def cb:Df:=⟨["program", "hand", "seat", "value"],3,c8⟩
noncomputable def kg:MS :=
  (ax (sN (ae "is_value" (a1 (aa 1))) (Qm (aj gu (eX 0 0) (eS "lot")) (aj Ck (aa 1) (eX 0 2)))))
noncomputable def fS:Df:=⟨["touch", "value"],0,kg⟩
noncomputable def jM:MS :=
  (ag (ak (ae "hands_of" (a1 (aa 0))) (gN 1))
  (ax (au (ab (eB bf (ab (iN 1 (kj (aa 1)) (gN 2) aP (eI 0)) ah)) (ab (eB bf (ab (iN 1 (kj (aa 1)) (gN 2) aP (ae "first_seat" (a2 (aa 0) (aa 2)))) ah)) (ab (eB bf (ab (iN 1 (kj (eX 0 0)) (gN 2) aP (au (a2 (eX 2 1) (eC .non)))) ah)) (ab (eB bf (ab (iN 1 (kj (eX 0 1)) (gN 2) aP (au (a2 (eC .non) (eC .non)))) ah)) (ab (eB bf (ab (iN 1 (kj (eX 0 2)) (gN 2) aP (au (a3 (eI 0) (eI 0) (au ah)))) ah)) (ab (eB bf (ab (iN 1 (kj (eX 0 3)) (gN 2) aP (eI 0)) ah)) ah)))))))))
noncomputable def eF:Df:=⟨["program"],1,jM⟩
noncomputable def jU:MS :=
  (ax (RP (ab (eB cx (a1 (eX 0 4))) ah)))
noncomputable def fN:Df:=⟨["program"],0,jU⟩
noncomputable def pE:MS :=
  (ax (aj ay (aj ay (aa 1) (rQ dj (aa 2))) (ae "number_of" (a3 (aa 0) (aa 2) (aa 3)))))
noncomputable def hX:Df:=⟨["program", "stand", "sort", "name"],0,pE⟩
noncomputable def d8:MS :=
  (ag (ak (ae "touch_of" (ab (aa 0) (ab (aa 2) (ab (aj ay (eX 1 1) (aa 2)) ah)))) (gN 3))
  (ag (bU (aE (rO (ee false) (aa 3))) (ax (eS "end")) cz)
  (ag (bU (mQ (eX 3 0) (eS "take")) (ag (ak (aj ay (ae "state_of" (ab (aa 0) (a3 (aa 1) (eS "lock") (eX 3 1)))) (eI 0)) (gN 4))
  (ax (uc (aE (rO (ee false) (aa 4))) (eC .non) (au (a3 (eS "lock") (eX 3 1) (aa 4)))))) cz)
  (ag (bU (si (mQ (eX 3 0) (eS "fetch")) (aE (aj ki (aj ay (ae "state_of" (ab (aa 0) (a3 (aa 1) (eS "lane") (eX 3 1)))) (eI 2)) (au ah)))) (ax (au (a2 (eS "letter") (eX 3 1)))) cz)
  (ax (eC .non))))))
noncomputable def cK:Df:=⟨["program", "stand", "hand"],2,d8⟩
noncomputable def yp:MS :=
  (ax (eB bf (ab (iN 1 (kj (ae "hands_of" (a1 (aa 0)))) (gN 2) aP (ae "wait_of" (a3 (aa 0) (aa 1) (aa 2)))) ah)))
noncomputable def nL:Df:=⟨["program", "stand"],0,yp⟩
noncomputable def uY:MS :=
  (ax (iN 2 (Bx (ae "waits" (a2 (aa 0) (aa 1)))) (gT 2 (aW (gN 2) (aW (gN 3) gq))) (aE (rO (ee false) (aa 3))) (aa 2)))
noncomputable def lB:Df:=⟨["program", "stand"],0,uY⟩
noncomputable def jX:MS :=
  (ag (ak (ae "waits" (a2 (aa 0) (aa 1))) (gN 2))
  (ax (sN (aj gF (eC .non) (aa 2)) (eB HW (ab (iN 1 (kj (aa 2)) (gN 3) aP (aj gu (aa 3) (eS "end"))) ah)))))
noncomputable def fF:Df:=⟨["program", "stand"],1,jX⟩
noncomputable def vg:MS :=
  (ax (rO (ee false) (ae "wait_of" (a3 (aa 0) (aa 1) (aa 2)))))
noncomputable def lE:Df:=⟨["program", "stand", "hand"],0,vg⟩
noncomputable def xh:MS :=
  (ag (ak (ae "due_touch" (ab (aa 0) (a3 (aa 1) (aa 2) (aa 3)))) (gN 4))
  (ag (ak (eX 4 0) (gN 5))
  (ag (ak (eX 4 1) (gN 6))
  (ag (bU (aE (aj ja (aa 5) (eC (.ktup [(.str "clock"),(.str "lot"),(.str "hear")])))) (ax (au (ab (ae "with_hand_on" (ab (aa 0) (a3 (aa 1) (aa 2) (aa 3)))) (ab (au (ab (aa 5) (a3 (aa 6) (aa 3) (eC .non)))) ah)))) cz)
  (ag (ak (rQ fE (aa 5)) (gN 7))
  (ag (ak (ae "meeting" (ab (aa 4) (ab (au (ab (aa 2) (ab (aj ay (eX 1 0) (aa 2)) ah))) (ab (ae "state_of" (ab (aa 0) (a3 (aa 1) (aa 7) (aa 6)))) ah)))) (gN 8))
  (ag (ak (ae "with_state" (ab (aa 0) (ab (aa 1) (a3 (aa 7) (aa 6) (eX 8 2))))) (gN 9))
  (ax (au (ab (ae "with_hand_on" (ab (aa 0) (a3 (aa 9) (aa 2) (eX 8 0)))) (ab (au (ab (aa 5) (a3 (aa 6) (eX 8 0) (eX 8 1)))) ah)))))))))))
noncomputable def oq:Df:=⟨["program", "stand", "hand", "gift"],6,xh⟩
noncomputable def nh:MS :=
  (ag (bU (vj (aE (ae "is_between" (ab (aa 2) (ab (eI 0) (ab (aj qF (eB cx (a1 (eX 0 4))) (eI 1)) ah)))))) pK cz)
  (ag (ak (ae "wait_of" (a3 (aa 0) (aa 1) (aa 2))) (gN 4))
  (ag (bU (mQ (aa 4) (eS "end")) pK cz)
  (ag (bU (aE (rO (ee true) (aa 4))) pK cz)
  (ag (ak (ae "touch_of" (ab (aa 0) (ab (aa 2) (ab (aj ay (eX 1 1) (aa 2)) ah)))) (gN 5))
  (ag (bU (vj (aE (ae "takes_gift" (a2 (aa 5) (aa 3))))) pK cz)
  (ax (aa 5))))))))
noncomputable def gB:Df:=⟨["program", "stand", "hand", "gift"],2,nh⟩
noncomputable def iy:MS :=
  (ax (uc (aE (aj ja (eX 0 0) (eC (.ktup [(.str "clock"),(.str "lot"),(.str "hear")])))) (ae "may_come" (a2 (aa 0) (aa 1))) (rO (ee false) (aa 1))))
noncomputable def dI:Df:=⟨["touch", "gift"],0,iy⟩
noncomputable def dA:MS :=
  (ag (ak (eX 0 0) (gN 3))
  (ag (ak (eX 0 2) (gN 4))
  (ag (bU (mQ (aa 3) (eS "get")) (ax (au (a3 (eX 2 0) (eX 2 1) (aa 2)))) cz)
  (ag (bU (mQ (aa 3) (eS "put")) (ax (au (ab (aa 4) (ab (eX 2 1) (ab (au (a2 (aa 4) (aa 1))) ah))))) cz)
  (ag (bU (mQ (aa 3) (eS "take")) (ax (au (ab (eC .non) (ab (eX 2 1) (ab (au (a2 (eX 1 0) (eX 2 1))) ah))))) cz)
  (ag (bU (mQ (aa 3) (eS "free")) (ax (au (ab (eC .non) (ab (eC .non) (ab (au (a2 (eC .non) (aa 1))) ah))))) cz)
  (ag (bU (mQ (aa 3) (eS "send")) (ax (au (ab (aa 4) (ab (eX 2 0) (ab (au (ab (aj aY (eX 2 0) (eI 1)) (ab (eX 2 1) (ab (aj aY (eX 2 2) (au (a1 (aa 4)))) ah)))) ah))))) cz)
  (ag (bU (mQ (aa 3) (eS "fetch")) (ax (au (ab (aj ay (eX 2 2) (eI 0)) (ab (eX 2 1) (ab (au (ab (eX 2 0) (ab (aj aY (eX 2 1) (eI 1)) (ab (zo (eX 2 2) (fO (eI 1)) jn) ah)))) ah))))) cz)
  (ax (au (ab (aa 4) (ab (aa 2) (ab (aj aY (aa 2) (eI 1)) ah)))))))))))))
noncomputable def cA:Df:=⟨["touch", "event", "state"],2,dA⟩
noncomputable def jf:MS :=
  (ag (ak (ae "seat_behind" (ab (aa 0) (ab (aa 2) (ab (aj ay (eX 1 1) (aa 2)) (a1 (aa 3)))))) (gN 4))
  (ag (ak (ae "replaced" (ab (aa 1) (ab (eI 0) (ab (ae "replaced" (ab (eX 1 0) (ab (aa 2) (ab (aj aY (aj ay (eX 1 0) (aa 2)) (eI 1)) ah)))) ah)))) (gN 5))
  (ax (ae "replaced" (ab (aa 5) (ab (eI 1) (ab (ae "replaced" (a3 (eX 1 1) (aa 2) (aa 4))) ah)))))))
noncomputable def dQ:Df:=⟨["program", "stand", "hand", "value"],2,jf⟩
noncomputable def kU:MS :=
  (ag (ak (rQ dj (aa 2)) (gN 5))
  (ax (ae "replaced" (ab (aa 1) (ab (aa 5) (ab (ae "replaced" (ab (aj ay (aa 1) (aa 5)) (ab (ae "number_of" (a3 (aa 0) (aa 2) (aa 3))) (a1 (aa 4))))) ah))))))
noncomputable def fz:Df:=⟨["program", "stand", "sort", "name", "state"],1,kU⟩
noncomputable def oh:MS :=
  (ax (aj aY (aj aY (zo (aa 0) jn (fO (aa 1))) (au (a1 (aa 2)))) (zo (aa 0) (fO (aj aY (aa 1) (eI 1))) jn)))
noncomputable def iA:Df:=⟨["parts", "place", "part"],0,oh⟩
noncomputable def jQ:MS :=
  (ag (ak (aj cY (eI 7919) (aa 1)) (gN 2))
  (ag (bU (aE (aj PR (eB cx (a1 (aa 0))) (eI 0))) (ak (aj aY (aj ay (aa 0) (aj fh (aa 1) (eB cx (a1 (aa 0))))) (aj cY (eI 1009) (aj oZ (aa 1) (eB cx (a1 (aa 0)))))) (gN 2)) cz)
  (ax (bG (ab (aj cY (aa 2) (eB uj (ab (aj RU (aa 2) (aj E6 (eI 10) (eI 18))) ah))) (a2 (aa 2) (eI 0)))))))
noncomputable def fU:Df:=⟨["_law_script", "_law_k"],1,jQ⟩
noncomputable def jl:MS :=
  (ag (fm dZ (aa 0) (eI 2) (aj aY (eX 0 2) (eI 1)))
  (ag (bU (aE (aj PR (eX 0 0) (eI 0))) (ag (ak (aj fh (eX 0 0) (aa 1)) (gN 2))
  (ag (fm dZ (aa 0) (eI 0) (aj oZ (eX 0 0) (aa 1)))
  (ax (aa 2)))) cz)
  (ag (ak (aj fh (aj cY (aj aY (aj fh (eX 0 1) (eI 2147483647)) (aj cY (eI 31) (eX 0 2))) (eI 48271)) (eI 2147483629)) (gN 3))
  (ag (ak (aj fh (aj cY (aj aY (aj oZ (aa 3) (eI 11)) (aj cY (eI 17) (eX 0 2))) (eI 69621)) (eI 2147483587)) (gN 3))
  (ax (aj fh (aj oZ (aa 3) (eI 7)) (aa 1)))))))
noncomputable def eP:Df:=⟨["_law_box_here", "_law_many"],2,jl⟩
noncomputable def d9:MS :=
  (ag (ak (ae "_law_take" (a2 (aa 0) (eI 8))) (gN 3))
  (ag (bU (IA (mQ (aa 2) (eI 0)) (aE (aj Ck (aa 3) (eI 2)))) (ax (au (ab (eS "num") (ab (aj ay (bG (ab (eI 0) (ab (eI 1) (ab (eI 2) (ab (eI 3) (a3 (eI 7) (eI 500) (eI 999))))))) (ae "_law_take" (a2 (aa 0) (eI 7)))) ah)))) cz)
  (ag (bU (aE (aj Ck (aa 3) (eI 5))) (ax (au (ab (eS "of") (ab (aj ay (aa 1) (ae "_law_take" (ab (aa 0) (ab (eB cx (a1 (aa 1))) ah)))) ah)))) cz)
  (ag (bU (mQ (aa 3) (eI 5)) (ax (au (ab (eS "not") (ab (ae "_law_sum" (ab (aa 0) (ab (aa 1) (ab (aj qF (aa 2) (eI 1)) ah)))) ah)))) cz)
  (ag (ak (aj ay (bG (ab (eS "add") (ab (eS "sub") (a3 (eS "mul") (eS "less") (eS "same"))))) (ae "_law_take" (a2 (aa 0) (eI 5)))) (gN 4))
  (ax (au (ab (aa 4) (ab (ae "_law_sum" (ab (aa 0) (ab (aa 1) (ab (aj qF (aa 2) (eI 1)) ah)))) (ab (ae "_law_sum" (ab (aa 0) (ab (aa 1) (ab (aj qF (aa 2) (eI 1)) ah)))) ah))))))))))
noncomputable def cI:Df:=⟨["_law_box_here", "_law_pockets", "_law_deep"],2,d9⟩
noncomputable def bO:MS :=
  (ag (ak (aj ay (aa 3) (ae "_law_take" (ab (aa 0) (ab (eB cx (a1 (aa 3))) ah)))) (gN 4))
  (ag (ak (aj ay (aa 2) (ae "_law_take" (ab (aa 0) (ab (eB cx (a1 (aa 2))) ah)))) (gN 5))
  (ag (bU (aE (aj ja (aa 4) (au (a2 (eS "clock") (eS "lot"))))) (ax (uc (mQ (aa 4) (eS "clock")) (au (a2 (eS "clock") (aa 5))) (au (ab (eS "lot") (ab (aa 5) (ab (aj ay (bG (ab (eI 2) (a3 (eI 3) (eI 7) (eI 1000)))) (ae "_law_take" (a2 (aa 0) (eI 4)))) ah)))))) cz)
  (ag (ak (aj ay (vx (fg (eS "get") (eI 0) (fg (eS "put") (eI 0) (fg (eS "take") (eI 1) (fg (eS "free") (eI 1) (fg (eS "send") (eI 2) (fg (eS "fetch") (eI 2) (fg (eS "say") (eI 3) (fg (eS "hear") (eI 3) BD))))))))) (aa 4)) (gN 6))
  (ag (ak (aj ay (aj ay (aa 1) (aa 6)) (ae "_law_take" (ab (aa 0) (ab (eB cx (ab (aj ay (aa 1) (aa 6)) ah)) ah)))) (gN 7))
  (ag (bU (aE (aj ja (aa 4) (au (a3 (eS "get") (eS "fetch") (eS "hear"))))) (ax (au (a3 (aa 4) (aa 5) (aa 7)))) cz)
  (ax (uc (aE (aj ja (aa 4) (au (a2 (eS "take") (eS "free"))))) (au (a2 (aa 4) (aa 7))) (au (ab (aa 4) (ab (aa 7) (ab (ae "_law_sum" (a3 (aa 0) (aa 2) (eI 2))) ah))))))))))))
noncomputable def aV:Df:=⟨["_law_box_here", "_law_names", "_law_pockets", "_law_kinds"],4,bO⟩
noncomputable def nq:MS :=
  (ag (ak (bG (a2 (eS "clock") (eS "lot"))) (gN 3))
  (ag (kZ (kj (bG (ab (au (ab (eI 0) (ab (bG (a2 (eS "get") (eS "put"))) ah))) (ab (au (ab (eI 1) (ab (bG (a2 (eS "take") (eS "free"))) ah))) (ab (au (ab (eI 2) (ab (bG (a2 (eS "send") (eS "fetch"))) ah))) (ab (au (ab (eI 3) (ab (bG (a2 (eS "say") (eS "hear"))) ah))) ah)))))) (gT 2 (aW (gN 4) (aW (gN 5) gq))) (bU (aE (aj gu (aj ay (aa 1) (aa 4)) (bG ah))) (ak (aj aY (aj aY (aa 3) (aa 5)) (aa 5)) (gN 3)) cz))
  (ag (ak (aj ay (bG (ab (ae "_law_take" (a2 (aa 0) (eI 4))) (ab (aj aY (eI 3) (ae "_law_take" (a2 (aa 0) (eI 8)))) ah))) (eB uj (ab (aj PR (ae "_law_take" (a2 (aa 0) (eI 6))) (eI 0)) ah))) (gN 6))
  (ag (ak (bG ah) (gN 7))
  (ag (kZ (cF (a1 (aa 6))) (gN 8) (ag (ak (ae "_law_take" (a2 (aa 0) (eI 8))) (gN 9))
  (bU (mQ (aa 9) (eI 0)) (cJ (eM bj b6 (aa 7) (ab (au (ab (eS "let") (ab (aj ay (aa 2) (ae "_law_take" (ab (aa 0) (ab (eB cx (a1 (aa 2))) ah)))) (ab (ae "_law_sum" (a3 (aa 0) (aa 2) (eI 2))) ah)))) ah))) (bU (mQ (aa 9) (eI 1)) (cJ (eM bj b6 (aa 7) (ab (au (ab (eS "leap") (ab (ae "_law_take" (ab (aa 0) (ab (aj aY (aa 6) (eI 1)) ah))) (ab (ae "_law_sum" (a3 (aa 0) (aa 2) (eI 2))) ah)))) ah))) (cJ (eM bj b6 (aa 7) (ab (ae "_law_touch_row" (ab (aa 0) (a3 (aa 1) (aa 2) (aa 3)))) ah)))))))
  (ax (eB bf (a1 (aa 7)))))))))
noncomputable def gE:Df:=⟨["_law_box_here", "_law_names", "_law_pockets"],7,nq⟩
noncomputable def fL:MS :=
  (ag (ak (bG (ab (eS "a") (ab (eS "ab") (ab (eS "putter") (ab (eS "b") (ab (eS "getx") (ab (eS "abc") (ab (eS "locked") (ab (eS "sayer") (ab (eS "c") (a3 (eS "hands") (eS "fetched") (eS "abcdefgh")))))))))))) (gN 1))
  (ag (ak (aj aY (aa 1) (bG (ab (eS "boxes") (ab (eS "locks") (ab (eS "lanes") (ab (eS "doors") (ab (eS "d") (a3 (eS "taken") (eS "abcd") (eS "lots"))))))))) (gN 1))
  (ag (ak (ae "_law_take" (a2 (aa 0) (eI 20))) (gN 2))
  (ag (ak (aj aY (zo (aa 1) (fO (aa 2)) jn) (zo (aa 1) jn (fO (aa 2)))) (gN 1))
  (ag (ak (bG ah) (gN 3))
  (ag (kZ (cF (a1 (eI 4))) (gN 4) (ag (ak (aj ay (bG (ab (eI 1) (ab (eI 2) (ab (eI 4) (a3 (eI 0) (eI 2) (eI 3)))))) (ae "_law_take" (a2 (aa 0) (eI 6)))) (gN 5))
  (cJ (eM bj b6 (aa 3) (ab (zo (aa 1) (fO (aj cY (eI 4) (aa 4))) (fO (aj aY (aj cY (eI 4) (aa 4)) (aa 5)))) ah)))))
  (ag (ak (eB bf (ab (iN 1 (kj (eX 3 0)) (gN 10) aP (au (ab (aa 10) (ab (aj ay (bG (ab (eI 0) (a3 (eI 5) (eI 999) (eI 1)))) (ae "_law_take" (a2 (aa 0) (eI 4)))) ah)))) ah)) (gN 6))
  (ag (ak (bG ah) (gN 7))
  (ag (kZ (cF (ab (aj ay (bG (ab (eI 2) (ab (eI 2) (ab (eI 3) (a3 (eI 4) (eI 1) (eI 2)))))) (ae "_law_take" (a2 (aa 0) (eI 6)))) ah)) (gN 8) (ag (ak (zo (bG (ab (eS "p") (ab (uc (aE (aj gu (eX 3 0) (bG ah))) (aj ay (eX 3 0) (eI 0)) (eS "q")) (ab (eS "pp") (ab (aj ay (aa 1) (aj aY (eI 16) (aa 8))) ah))))) jn (fO (aj aY (eI 1) (ae "_law_take" (a2 (aa 0) (eI 4)))))) (gN 9))
  (cJ (eM bj b6 (aa 7) (ab (au (ab (aj ay (aa 1) (aj aY (eI 16) (aa 8))) (ab (ae "_law_rows" (a3 (aa 0) (aa 3) (aa 9))) ah))) ah)))))
  (ax (au (ab (aa 6) (ab (eB bf (a1 (eX 3 1))) (ab (eB bf (a1 (eX 3 2))) (ab (eB bf (a1 (eX 3 3))) (ab (eB bf (a1 (aa 7))) ah))))))))))))))))
noncomputable def gh:Df:=⟨["_law_box_here"],9,fL⟩
noncomputable def bu:MS :=
  (ag (bU (mQ (eX 0 0) (eS "num")) (ax (eX 0 1)) cz)
  (ag (bU (mQ (eX 0 0) (eS "of")) (ax (yT (aa 1) (eX 0 1) (eI 0))) cz)
  (ag (ak (ae "_law_worth" (a2 (eX 0 1) (aa 1))) (gN 2))
  (ag (bU (mQ (eX 0 0) (eS "not")) (ax (eB uj (ab (aj ki (aa 2) (eI 0)) ah))) cz)
  (ag (ak (ae "_law_worth" (a2 (eX 0 2) (aa 1))) (gN 3))
  (ag (bU (aE (aj ja (eX 0 0) (au (a2 (eS "less") (eS "same"))))) (ax (uc (mQ (eX 0 0) (eS "less")) (eB uj (ab (aj Ck (aa 2) (aa 3)) ah)) (eB uj (ab (aj ki (aa 2) (aa 3)) ah)))) cz)
  (ax (aj fh (aj ay (vx (fg (eS "add") (aj aY (aa 2) (aa 3)) (fg (eS "sub") (aj qF (aa 2) (aa 3)) (fg (eS "mul") (aj cY (aa 2) (aa 3)) BD)))) (eX 0 0)) (eI 1000)))))))))
noncomputable def aR:Df:=⟨["_law_e", "_law_pockets"],2,bu⟩
noncomputable def eG:MS :=
  (ag (bU (IA (mQ (eX 0 0) (eS "take")) (mQ (eX 0 0) (eS "free"))) (ax (aj ki (aj ja (eX 0 1) (aa 1)) (aj ki (eX 0 0) (eS "take")))) cz)
  (ax (aj ja (eX 0 0) (au (a2 (eS "let") (eS "leap"))))))
noncomputable def cB:Df:=⟨["_law_row_here", "_law_held"],0,eG⟩
noncomputable def jq:MS :=
  (ag (ak (eI 0) (gN 4))
  (ag (xo (si (aE (aj Ck (aa 1) (eB cx (a1 (aa 0))))) (aE (ae "_law_is_own" (ab (aj ay (aa 0) (aa 1)) (a1 (aa 3)))))) (ag (bU (mQ (aa 4) (eI 200)) (ax (eB cx (a1 (aa 0)))) cz)
  (ag (ak (aj ay (aa 0) (aa 1)) (gN 5))
  (ag (ak (aj aY (aa 4) (eI 1)) (gN 4))
  (ag (ak (aj aY (aa 1) (eI 1)) (gN 1))
  (ag (bU (mQ (eX 5 0) (eS "let")) (fm dZ (aa 2) (eX 5 1) (ae "_law_worth" (a2 (eX 5 2) (aa 2)))) cz)
  (bU (si (mQ (eX 5 0) (eS "leap")) (aE (aj gu (ae "_law_worth" (a2 (eX 5 2) (aa 2))) (eI 0)))) (ak (eX 5 1) (gN 1)) cz)))))))
  (ax (aa 1))))
noncomputable def eR:Df:=⟨["_law_rows_here", "_law_at", "_law_pockets", "_law_held"],2,jq⟩
noncomputable def iG:MS :=
  (ag (ak (vx (fg (eS "counts") (bG ah) (fg (eS "seats") (bG ah) (fg (eS "doors") (iN 1 (kj (eX 0 3)) (gN 5) aP (eI 0)) BD)))) (gN 1))
  (ag (fm dZ (aa 1) (eS "boxes") (iN 1 (kj (eX 0 0)) (gN 5) aP (au (a2 (eX 5 1) (eC .non)))))
  (ag (fm dZ (aa 1) (eS "locks") (iN 1 (kj (eX 0 1)) (gN 5) aP (au (a2 (eC .non) (eC .non)))))
  (ag (fm dZ (aa 1) (eS "lanes") (iN 1 (kj (eX 0 2)) (gN 5) aP (au (a3 (eI 0) (eI 0) (au ah)))))
  (ag (kZ (kj (eX 0 4)) (gN 2) (ag (ak sA (gN 3))
  (ag (ak (ae "_law_rest" (ab (eX 2 1) (a3 (eI 0) (aa 3) (bG ah)))) (gN 4))
  (ag (cJ (eM bj b6 (aj ay (aa 1) (eS "counts")) (a1 (eI 0))))
  (cJ (eM bj b6 (aj ay (aa 1) (eS "seats")) (ab (au (a3 (aa 4) (aa 3) (bG ah))) ah)))))))
  (ax (aa 1)))))))
noncomputable def iu:Df:=⟨["_law_program_here"],4,iG⟩
noncomputable def kh:MS :=
  (ag (ak (aj ay (aj ay (eX 0 4) (aa 2)) (eI 1)) (gN 3))
  (ag (ak (aj ay (aj ay (aj ay (aa 1) (eS "seats")) (aa 2)) (eI 0)) (gN 4))
  (ax (uc (aE (aj Ck (aa 4) (eB cx (a1 (aa 3))))) (aj ay (aa 3) (aa 4)) (eC .non)))))
noncomputable def fH:Df:=⟨["_law_program_here", "_law_state", "_law_hand"],2,kh⟩
noncomputable def cH:MS :=
  (ag (ak (ae "_law_row" (a3 (aa 0) (aa 1) (aa 2))) (gN 3))
  (ag (bU (aE (rO (ee false) (aa 3))) (ax (eS "end")) cz)
  (ag (bU (mQ (eX 3 0) (eS "take")) (ag (ak (aj ay (aj ay (aj ay (aa 1) (eS "locks")) (E8 (eX 0 1) (a1 (eX 3 1)))) (eI 0)) (gN 4))
  (ax (uc (aE (rO (ee false) (aa 4))) (eC .non) (au (a3 (eS "lock") (eX 3 1) (aa 4)))))) cz)
  (ag (bU (si (mQ (eX 3 0) (eS "fetch")) (aE (aj ki (aj ay (aj ay (aj ay (aa 1) (eS "lanes")) (E8 (eX 0 2) (a1 (eX 3 2)))) (eI 2)) (au ah)))) (ax (au (a2 (eS "letter") (eX 3 2)))) cz)
  (ax (eC .non))))))
noncomputable def bZ:Df:=⟨["_law_program_here", "_law_state", "_law_hand"],2,cH⟩
noncomputable def ig:MS :=
  (ag (bU (mQ (eX 2 0) (eS "get")) (ag (ak (aj ay (aj ay (aa 1) (eS "boxes")) (eM hI b6 (iN 1 (kj (eX 0 0)) (gN 8) aP (eX 8 0)) (a1 (eX 2 2)))) (gT 2 (aW (gN 5) (aW (gN 6) gq))))
  (ag (fm dZ (aa 4) (eX 2 1) (aa 5))
  (ax (au (ab (eS "get") (a3 (eX 2 2) (aa 5) (aa 6))))))) cz)
  (ag (ak (eM hI b6 (iN 1 (kj (eX 0 0)) (gN 8) aP (eX 8 0)) (a1 (eX 2 1))) (gN 7))
  (ag (ak (aj ay (aj ay (aj ay (aa 1) (eS "boxes")) (aa 7)) (eI 1)) (gN 6))
  (ag (fm dZ (aj ay (aa 1) (eS "boxes")) (aa 7) (au (ab (ae "_law_worth" (a2 (eX 2 2) (aa 4))) (a1 (aa 3)))))
  (ax (au (ab (eS "put") (ab (eX 2 1) (ab (aj ay (aj ay (aj ay (aa 1) (eS "boxes")) (aa 7)) (eI 0)) (a1 (aa 6)))))))))))
noncomputable def dS:Df:=⟨["_law_program_here", "_law_state", "_law_row_here", "_law_event", "_law_pockets"],3,ig⟩
noncomputable def gK:MS :=
  (ag (ak (E8 (eX 0 1) (a1 (eX 2 1))) (gN 5))
  (ag (ak (aj ay (aj ay (aj ay (aa 1) (eS "locks")) (aa 5)) (eI 1)) (gN 6))
  (ag (bU (mQ (eX 2 0) (eS "take")) (ag (fm dZ (aj ay (aa 1) (eS "locks")) (aa 5) (au (a2 (eX 3 0) (aa 6))))
  (ag (cJ (eM bj b6 (aa 4) (a1 (eX 2 1))))
  (ax (au (ab (eS "take") (a3 (eX 2 1) (eC .non) (aa 6))))))) cz)
  (ag (fm dZ (aj ay (aa 1) (eS "locks")) (aa 5) (au (a2 (eC .non) (aa 3))))
  (ag (cJ (eM ku b6 (aa 4) (a1 (eX 2 1))))
  (ax (au (ab (eS "free") (a3 (eX 2 1) (eC .non) (eC .non))))))))))
noncomputable def cX:Df:=⟨["_law_program_here", "_law_state", "_law_row_here", "_law_event", "_law_held"],2,gK⟩
noncomputable def iC:MS :=
  (ag (bU (mQ (eX 2 0) (eS "send")) (ag (ak (E8 (eX 0 2) (a1 (eX 2 1))) (gN 4))
  (ag (ak (aj ay (aj ay (aa 1) (eS "lanes")) (aa 4)) (gT 3 (aW (gN 5) (aW (gN 6) (aW (gN 7) gq)))))
  (ag (ak (ae "_law_worth" (a2 (eX 2 2) (aa 3))) (gN 8))
  (ag (fm dZ (aj ay (aa 1) (eS "lanes")) (aa 4) (au (ab (aj aY (aa 5) (eI 1)) (ab (aa 6) (ab (aj aY (aa 7) (au (a1 (aa 8)))) ah)))))
  (ax (au (ab (eS "send") (a3 (eX 2 1) (aa 8) (aa 5))))))))) cz)
  (ag (ak (E8 (eX 0 2) (a1 (eX 2 2))) (gN 4))
  (ag (ak (aj ay (aj ay (aa 1) (eS "lanes")) (aa 4)) (gT 3 (aW (gN 5) (aW (gN 6) (aW (gN 7) gq)))))
  (ag (fm dZ (aj ay (aa 1) (eS "lanes")) (aa 4) (au (ab (aa 5) (ab (aj aY (aa 6) (eI 1)) (ab (zo (aa 7) (fO (eI 1)) jn) ah)))))
  (ag (fm dZ (aa 3) (eX 2 1) (eX 7 0))
  (ax (au (ab (eS "fetch") (a3 (eX 2 2) (eX 7 0) (aa 6))))))))))
noncomputable def dG:Df:=⟨["_law_program_here", "_law_state", "_law_row_here", "_law_pockets"],5,iC⟩
noncomputable def lN:MS :=
  (ag (ak (aj ay (aj ay (aa 1) (eS "seats")) (aa 2)) (gT 3 (aW (gN 4) (aW (gN 5) (aW (gN 6) gq)))))
  (ag (ak (ae "_law_row" (a3 (aa 0) (aa 1) (aa 2))) (gN 7))
  (ag (ak (au (ab (aa 2) (ab (aj ay (aj ay (aa 1) (eS "counts")) (aa 2)) ah))) (gN 8))
  (ag (bU (aE (aj ja (eX 7 0) (au (a2 (eS "get") (eS "put"))))) (ak (ae "_law_boxed" (ab (aa 0) (ab (aa 1) (a3 (aa 7) (aa 8) (aa 5))))) (gN 9)) (bU (aE (aj ja (eX 7 0) (au (a2 (eS "take") (eS "free"))))) (ak (ae "_law_locked" (ab (aa 0) (ab (aa 1) (a3 (aa 7) (aa 8) (aa 6))))) (gN 9)) (bU (aE (aj ja (eX 7 0) (au (a2 (eS "send") (eS "fetch"))))) (ak (ae "_law_laned" (ab (aa 0) (a3 (aa 1) (aa 7) (aa 5)))) (gN 9)) (bU (mQ (eX 7 0) (eS "say")) (ag (ak (E8 (eX 0 3) (a1 (eX 7 1))) (gN 10))
  (ag (ak (au (ab (eS "say") (ab (eX 7 1) (ab (ae "_law_worth" (a2 (eX 7 2) (aa 5))) (ab (aj ay (aj ay (aa 1) (eS "doors")) (aa 10)) ah))))) (gN 9))
  (fm dZ (aj ay (aa 1) (eS "doors")) (aa 10) (aj aY (aj ay (aj ay (aa 1) (eS "doors")) (aa 10)) (eI 1))))) (ag (fm dZ (aa 5) (eX 7 1) (aa 3))
  (ak (au (ab (eX 7 0) (ab (uc (mQ (eX 7 0) (eS "hear")) (eX 7 2) (eS "")) (a2 (aa 3) (eC .non))))) (gN 9)))))))
  (ag (fm dZ (aj ay (aa 1) (eS "counts")) (aa 2) (aj aY (eX 8 1) (eI 1)))
  (ag (fm dZ (aj ay (aa 1) (eS "seats")) (aa 2) (au (ab (ae "_law_rest" (ab (aj ay (aj ay (eX 0 4) (aa 2)) (eI 1)) (ab (aj aY (aa 4) (eI 1)) (a2 (aa 5) (aa 6))))) (a2 (aa 5) (aa 6)))))
  (ax (aa 9))))))))
noncomputable def mP:Df:=⟨["_law_program_here", "_law_state", "_law_hand", "_law_gift_here"],7,lN⟩
noncomputable def pH:MS :=
  (ax (iN 1 (cF (ab (eB cx (a1 (eX 0 4))) ah)) (gN 2) (aE (rO (ee false) (ae "_law_wait" (a3 (aa 0) (aa 1) (aa 2))))) (aa 2)))
noncomputable def iq:Df:=⟨["_law_program_here", "_law_state"],0,pH⟩
noncomputable def gy:MS :=
  (ag (bU (aE (aj gF (eX 1 0) (au (a3 (eS "clock") (eS "lot") (eS "hear"))))) (ax (eC .non)) cz)
  (ag (ak (uc (mQ (eX 1 0) (eS "lot")) (eX 1 2) (eI 1000)) (gN 2))
  (ax (aj ay (bG (ab (eI 0) (ab (aj qF (aa 2) (eI 1)) (ab (ae "_law_take" (a2 (aa 0) (aa 2))) (ab (ae "_law_take" (a2 (aa 0) (eI 2))) ah))))) (ae "_law_take" (a2 (aa 0) (eI 4)))))))
noncomputable def dz:Df:=⟨["_law_box_here", "_law_row_here"],1,gy⟩
noncomputable def iT:MS :=
  (ag (ak (iN 1 (cF (ab (eB cx (a1 (eX 0 4))) ah)) (gN 9) aP (ae "_law_wait" (a3 (aa 0) (aa 2) (aa 9)))) (gN 3))
  (ag (ak (iN 1 (cF (ab (eB cx (a1 (aa 3))) ah)) (gN 9) (aE (rO (ee false) (aj ay (aa 3) (aa 9)))) (aa 9)) (gN 4))
  (ag (kZ (cF (a1 (eI 2))) (gN 5) (ag (ak (ae "can_go" (a2 (aa 0) (aa 1))) (gN 6))
  (ag (bU (IA (vj (aE (eB qm (ab (aa 6) (ab (eC (.ty "list")) ah))))) (aE (aj gu (eB bS (a1 (aa 6))) (eB bS (a1 (aa 4)))))) (ax (eC (.bl false))) cz)
  (cJ (eM bj b6 (aa 6) (a1 (eC .non)))))))
  (ag (bU (aE (aj gu (eB bS (ab (ae "waits" (a2 (aa 0) (aa 1))) ah)) (eB bS (ab (eB bf (a1 (aa 3))) ah)))) (ax (eC (.bl false))) cz)
  (ag (kZ (cF (ab (eB cx (a1 (aa 3))) ah)) (gN 7) (bU (aE (aj gu (eB bS (ab (ae "may_go" (a3 (aa 0) (aa 1) (aa 7))) ah)) (eB bS (ab (rO (ee false) (aj ay (aa 3) (aa 7))) ah)))) (ax (eC (.bl false))) cz))
  (ag (ak (iN 1 (kj (aa 3)) (gN 9) (aE (aj gu (aa 9) (eS "end"))) (aa 9)) (gN 8))
  (ax (aj ki (eB bS (ab (ae "is_stuck" (a2 (aa 0) (aa 1))) ah)) (eB bS (ab (sN (aj ki (aa 4) (bG ah)) (aj gu (aa 8) (bG ah))) ah))))))))))
noncomputable def dJ:Df:=⟨["_law_program_here", "_law_stand", "_law_state"],6,iT⟩
noncomputable def DT:MS :=
  (ag (ak (ae "_law_box" (a2 (aa 0) (eI 0))) (gN 1))
  (ag (ak (bG (ab (ae "_law_program" (a1 (aa 1))) (ab (ae "_law_program" (a1 (aa 1))) ah))) (gN 2))
  (ag (ak (iN 1 (kj (aa 2)) (gN 11) aP (ae "_law_first" (a1 (aa 11)))) (gN 3))
  (ag (ak (iN 1 (kj (aa 2)) (gN 11) aP (ae "first_stand" (a1 (aa 11)))) (gN 4))
  (ag (kZ (cF (ab (aj cY (eI 2) (aj aY (eI 1) (ae "_law_take" (a2 (aa 1) (eI 12))))) ah)) (gN 5) (ag (ak (aj ay (aa 2) (aj fh (aa 5) (eI 2))) (gN 6))
  (ag (ak (aj ay (aa 3) (aj fh (aa 5) (eI 2))) (gN 7))
  (ag (bU (vj (aE (ae "_law_is_told" (ab (aa 6) (ab (aj ay (aa 4) (aj fh (aa 5) (eI 2))) (a1 (aa 7))))))) (ax (eC (.bl false))) cz)
  (ag (ak (ae "_law_can" (a2 (aa 6) (aa 7))) (gN 8))
  (bU (aE (aj gu (aa 8) (bG ah))) (ag (ak (aj ay (aa 8) (ae "_law_take" (ab (aa 1) (ab (eB cx (a1 (aa 8))) ah)))) (gN 9))
  (ag (ak (ae "_law_gift" (ab (aa 1) (ab (ae "_law_row" (a3 (aa 6) (aa 7) (aa 9))) ah))) (gN 10))
  (ag (fm dZ (aa 4) (aj fh (aa 5) (eI 2)) (aj ay (ae "gone" (ab (aa 6) (ab (aj ay (aa 4) (aj fh (aa 5) (eI 2))) (a2 (aa 9) (aa 10))))) (eI 0)))
  (cJ (ae "_law_go" (ab (aa 6) (a3 (aa 7) (aa 9) (aa 10)))))))) cz))))))
  (ax (sN (ae "_law_is_told" (a3 (eX 2 0) (eX 4 0) (eX 3 0))) (ae "_law_is_told" (a3 (eX 2 1) (eX 4 1) (eX 3 1))))))))))
noncomputable def Cp:Df:=⟨["_law_script"],10,DT⟩
structure cj(pg:Tb):Prop where
 wR:pg.fns "is_whole" =some ip
 tw:pg.fns "is_between" =some fA
 vX:pg.fns "is_value" =some iE
 nJ:pg.fns "worth" =some hV
 oB:pg.fns "joined_worth" =some dP
 wH:pg.fns "names_of" =some dm
 vD:pg.fns "number_of" =some gD
 AO:pg.fns "rows_of" =some ju
 tW:pg.fns "first_seat" =some fw
 BZ:pg.fns "rested" =some kM
 vz:pg.fns "is_rested" =some eQ
 tR:pg.fns "is_own_row" =some fC
 mJ:pg.fns "behind_own_row" =some bP
 Mn:pg.fns "laid" =some nT
 xP:pg.fns "touch_of" =some fV
 qK:pg.fns "seat_behind" =some cb
 xF:pg.fns "may_come" =some fS
 qi:pg.fns "first_stand" =some eF
 pA:pg.fns "hands_of" =some fN
 wK:pg.fns "state_of" =some hX
 zH:pg.fns "wait_of" =some cK
 G7:pg.fns "waits" =some nL
 Di:pg.fns "can_go" =some lB
 xI:pg.fns "is_stuck" =some fF
 C8:pg.fns "may_go" =some lE
 Dq:pg.fns "gone" =some oq
 vL:pg.fns "due_touch" =some gB
 tE:pg.fns "takes_gift" =some dI
 ef:pg.fns "meeting" =some cA
 pq:pg.fns "with_hand_on" =some dQ
 rW:pg.fns "with_state" =some fz
 xw:pg.fns "replaced" =some iA
 o8:pg.fns "_law_box" =some fU
 nr:pg.fns "_law_take" =some eP
 fR:pg.fns "_law_sum" =some cI
 cm:pg.fns "_law_touch_row" =some aV
 uR:pg.fns "_law_rows" =some gE
 pY:pg.fns "_law_program" =some gh
 fk:pg.fns "_law_worth" =some aR
 qq:pg.fns "_law_is_own" =some cB
 uV:pg.fns "_law_rest" =some eR
 sO:pg.fns "_law_first" =some iu
 xl:pg.fns "_law_row" =some fH
 uL:pg.fns "_law_wait" =some bZ
 kP:pg.fns "_law_boxed" =some dS
 jJ:pg.fns "_law_locked" =some cX
 kS:pg.fns "_law_laned" =some dG
 zv:pg.fns "_law_go" =some mP
 xb:pg.fns "_law_can" =some iq
 i6:pg.fns "_law_gift" =some dz
 pF:pg.fns "_law_is_told" =some dJ
 IW:pg.fns "law" =some Cp
 Ro:pg.con "SORTS" =some (.ktup [(.str "box"),(.str "lock"),(.str "lane"),(.str "door"),(.str "hand")])
 Ql:pg.con "WORTHS" =some (.int 1000)
 Bm:pg.con "MOST_OWN_ROWS" =some (.int 200)
 Iq:pg.con "POCKETING" =some (.ktup [(.str "get"),(.str "fetch"),(.str "clock"),(.str "lot"),(.str "hear")])
 Qo:pg.con "COUNTS" =some (.int 0)
 Rz:pg.con "SEATS" =some (.int 1)
 Qe:pg.con "GIFTED" =some (.ktup [(.str "clock"),(.str "lot"),(.str "hear")])
 eU:pg.yf "ROW_PARTS" =some eU
 dj:pg.yf "PLACE_OF" =some dj
 fE:pg.yf "MET_SORT" =some fE
noncomputable def Lk:List (String × Df):=[("is_whole",ip),("is_between",fA),("is_value",iE),("worth",hV),("joined_worth",dP),("names_of",dm),("number_of",gD),("rows_of",ju),("first_seat",fw),("rested",kM),("is_rested",eQ),("is_own_row",fC),("behind_own_row",bP),("laid",nT),("touch_of",fV),("seat_behind",cb),("may_come",fS),("first_stand",eF),("hands_of",fN),("state_of",hX),("wait_of",cK),("waits",nL),("can_go",lB),("is_stuck",fF),("may_go",lE),("gone",oq),("due_touch",gB),("takes_gift",dI),("meeting",cA),("with_hand_on",dQ),("with_state",fz),("replaced",iA),("_law_box",fU),("_law_take",eP),("_law_sum",cI),("_law_touch_row",aV),("_law_rows",gE),("_law_program",gh),("_law_worth",aR),("_law_is_own",cB),("_law_rest",eR),("_law_first",iu),("_law_row",fH),("_law_wait",bZ),("_law_boxed",dS),("_law_locked",cX),("_law_laned",dG),("_law_go",mP),("_law_can",iq),("_law_gift",dz),("_law_is_told",dJ),("law",Cp)]
noncomputable def conT:List (Str × PV):=[("SORTS",(.ktup [(.str "box"),(.str "lock"),(.str "lane"),(.str "door"),(.str "hand")])),("WORTHS",(.int 1000)),("MOST_OWN_ROWS",(.int 200)),("POCKETING",(.ktup [(.str "get"),(.str "fetch"),(.str "clock"),(.str "lot"),(.str "hear")])),("COUNTS",(.int 0)),("SEATS",(.int 1)),("GIFTED",(.ktup [(.str "clock"),(.str "lot"),(.str "hear")]))]
noncomputable def dcT:List (Str × List (Key × PV)):=[("ROW_PARTS",eU),("PLACE_OF",dj),("MET_SORT",fE)]
noncomputable def tb:Tb:=⟨λf=>(Lk.find? λp=>p.1 == f).map (·.2),λx=>(conT.find? λp=>decide (p.1=x)).map (·.2),λx=>(dcT.find? λp=>decide (p.1=x)).map (·.2)⟩
theorem aK{l:List (String × Df)}(nd:(l.map (·.1)).Nodup)(i:Nat){f:String}{d:Df}(e:l[i]?=some (f,d)):(l.find? λp=>p.1 == f).map (·.2)=some d:=by
 induction l generalizing i d with
 | nil=>exact nomatch e
 | cons x l ih =>
  rw[T9,Wq] at nd
  cases i with
  | zero =>
   rw[Y9] at e
   cases e
   rw[List.find?_cons_of_pos (by simp)];rfl
  | succ i =>
   rw[Us] at e
   have m:(f,d)∈l:=Ue e
   have ne: ¬ (x.1 == f)=true:=λz=>nd.1 (by rw[beq_iff_eq.mp z];exact UP.mpr ⟨_,m,rfl⟩)
   rw[List.find?_cons_of_neg (p:=λp:String × Df=>p.1 == f) ne]
   exact ih nd.2 i e
theorem aL:(Lk.map (·.1)).Nodup:=by decide +kernel
theorem has:cj tb:=⟨aK aL 0 rfl,aK aL 1 rfl,aK aL 2 rfl,aK aL 3 rfl,aK aL 4 rfl,aK aL 5 rfl,aK aL 6 rfl,aK aL 7 rfl,aK aL 8 rfl,aK aL 9 rfl,aK aL 10 rfl,aK aL 11 rfl,aK aL 12 rfl,aK aL 13 rfl,aK aL 14 rfl,aK aL 15 rfl,aK aL 16 rfl,aK aL 17 rfl,aK aL 18 rfl,aK aL 19 rfl,aK aL 20 rfl,aK aL 21 rfl,aK aL 22 rfl,aK aL 23 rfl,aK aL 24 rfl,aK aL 25 rfl,aK aL 26 rfl,aK aL 27 rfl,aK aL 28 rfl,aK aL 29 rfl,aK aL 30 rfl,aK aL 31 rfl,aK aL 32 rfl,aK aL 33 rfl,aK aL 34 rfl,aK aL 35 rfl,aK aL 36 rfl,aK aL 37 rfl,aK aL 38 rfl,aK aL 39 rfl,aK aL 40 rfl,aK aL 41 rfl,aK aL 42 rfl,aK aL 43 rfl,aK aL 44 rfl,aK aL 45 rfl,aK aL 46 rfl,aK aL 47 rfl,aK aL 48 rfl,aK aL 49 rfl,aK aL 50 rfl,aK aL 51 rfl,rfl,rfl,rfl,rfl,rfl,rfl,rfl,rfl,rfl,rfl⟩
local macro_rules
 | `(tactic| array_get_dec)=> `(tactic| (refine aU.on (by assumption) ⟨rfl,rfl,rfl,by decide +kernel,rfl,by decide +kernel,by decide +kernel⟩ rfl (λ_ _ _ _ _ _=>by first | exact S3 λ_=>rfl | exact Tt λ_ _=>rfl | exact SX λ_ _ _=>rfl | exact SM λ_ _ _ _=>rfl | exact TK λ_ _ _ _ _=>rfl) λ_ _ _ _ _ _ _ _ _ _=>?_;obtain⟨⟩:= ‹cj _›; repeat' first | (show JE _ _ _ _ _;first | exact Ni _ | exact NN | exact Mb | exact Mq | exact N2 | refine N3 Sy ?_ ?_ (λ_ _=>rfl) | refine EI (by assumption) rfl ?_ | refine Pu ?_ ?_ ?_ | refine zI rfl rfl ?_ | refine AR (by assumption) rfl ?_ | refine zM ?_ ?_ | refine ML ?_ | refine Ml ?_ | refine DW ?_ ?_ ?_ (BQ _) | refine DW ?_ ?_ ?_ rfl | refine Mt ?_ | refine BE ?_ ?_ ?_ ?_ ?_ | refine Lm ?_ | refine Ll ?_ ?_ | refine Pm ?_ ?_ | refine JQ ?_ | refine Dy ?_ ?_ ?_ | refine HC (by assumption) rfl ?_ (λ_ _=>rfl) | refine Ed ?_ ?_ ?_ | exact D4 | refine Ih ?_ rfl rfl (by intro z;cases z) (by decide) | refine EF ?_ ?_ ?_ ⟨rfl,rfl,rfl,rfl⟩ | refine JD ?_ (λ_ _ _ _ _ _=>⟨λ_=>?_,?_,?_⟩) | refine M9 ?_ (λ_ _ _ _ _ _=>⟨λ_=>?_,?_,?_⟩) | exact Ly (by assumption) rfl | refine DC OH rfl (by decide +kernel) PySem.boot_len ?_ | refine DC Py rfl (by decide +kernel) boot_isinstance ?_ | refine DC PD rfl (by decide +kernel) boot_any ?_ | refine DC AV rfl (by decide +kernel) boot_sorted ?_ | refine Hn Pd rfl (by decide +kernel) boot_int ?_ | refine Hn GY rfl (by decide +kernel) boot_tuple ?_ | refine Hn Mz rfl (by decide +kernel) boot_list ?_ | refine Hn KG rfl (by decide +kernel) boot_dict ?_ | refine DC FL rfl (by decide +kernel) boot_repr ?_ | exact uA rfl (by decide +kernel) boot_int | exact uA rfl (by decide +kernel) boot_bool | exact uA rfl (by decide +kernel) boot_list | exact uA rfl (by decide +kernel) boot_tuple | exact uA rfl (by decide +kernel) boot_dict | refine MQ Xv PySem.F.slot_list_append PySem.F.type_list_append Cm ?_ ?_ | refine MQ Xv PySem.F.slot_list_remove PySem.F.type_list_remove DN ?_ ?_ | refine MQ Xv PySem.F.slot_list_index PySem.F.type_list_index DU ?_ ?_) | (show JA _ _ _ _ _;first | exact Nk | refine Fv ?_ ?_) | (show yF _ _ _ _ _;first | exact Gh | refine Fe ?_ | refine Dr ?_ ?_) | (show JS _ _ _ _ _;first | refine NP (by assumption) ?_ (λ_ _ _ _ _ _=>⟨λ_=>?_,?_,?_⟩) | refine KQ (by assumption) ?_ (λ_ _ _ _ _ _=>⟨λ_=>?_,?_,?_⟩) | refine Kw (by assumption) rfl (by first | exact ZX rfl | exact YY rfl) ?_ | refine PY ?_ ?_ ?_ | refine M5 ?_ | refine FT ?_ | refine Nh Pe ?_ ?_ ?_ | refine Ld ?_ ?_ | refine MV ?_ ?_ ?_ abk | refine Bu ?_ ?_ abk | exact BF) | (show JT _ _ _ _ _;first | refine Dg ?_ ?_ ?_ (BQ _) | refine Dg ?_ ?_ ?_ rfl | refine Mv ?_ | refine Gv ?_ | refine JW.pt (El ?_ ?_) | refine JW.pt (Ir ?_ ?_) | refine Lz ?_ | refine KY ?_) | (show JW _ _ _ _ _;first | refine El ?_ ?_ | refine Ir ?_ ?_ | refine GF ?_ | refine Kv ?_) | (show JO _ _ _ _ _;first | exact HR | refine GQ ?_) | (show JP _ _ _ _ _ _ _;first | exact Ki | refine Hw ?_ ?_ ?_) | (show JG _ _ _ _ _;first | exact E2 (by assumption) rfl (by first | exact ZX rfl | exact YY rfl) | refine Lc ?_) | (show Qf _ _ _ _ _;first | exact GS | refine C9 ?_ ?_) | (show JI _ _ _ _ _ _;first | refine zJ rfl ?_ | refine Nq rfl ?_ ?_ | refine Ic rfl ?_ | refine Ks ?_) | (show JF _ _ _ _ _;first | exact ND | refine Jv ?_) | (show QG _ _ _;first | exact y0 (by assumption) rfl (by first | exact ZX rfl | exact YY rfl) | refine EV (by assumption) ?_) | (show KI _ _ _;first | exact yt | refine uk ?_ ?_) | exact Qs | exact L7 | exact Pa | exact LU | exact Pw | exact OW | exact Sh | exact SF | exact R0 | exact RZ | exact Sg | exact RM | exact So | exact Hy))
section
variable {P:Uy} {w:World} {K:TV} {mg:Str->Option Value} {pg:Tb}
theorem wy (T:cj pg) (a:At K mg "is_whole" (top 1)):aU P w K mg pg "is_whole" ip (top 1) ["thing"]:=by array_get_dec
theorem sV (T:cj pg) (a:At K mg "is_between" (top 2)):aU P w K mg pg "is_between" fA (top 2) ["thing", "least", "most"]:=by array_get_dec
theorem wJ (T:cj pg) (a:At K mg "is_value" (top 3)):aU P w K mg pg "is_value" iE (top 3) ["thing"]:=by array_get_dec
theorem FG (T:cj pg) (a:At K mg "worth" (top 8)):aU P w K mg pg "worth" hV (top 8) ["tree", "pockets", "word", "one"]:=by array_get_dec
theorem oU (T:cj pg) (a:At K mg "joined_worth" (top 9)):aU P w K mg pg "joined_worth" dP (top 9) ["word", "one", "other"]:=by array_get_dec
theorem wO (T:cj pg) (a:At K mg "names_of" (top 11)):aU P w K mg pg "names_of" dm (top 11) ["program", "sort", "ones"]:=by
 have z0:(ny ["program", "sort", "ones"] ["one"]).Nodup:=by decide +kernel
 array_get_dec
theorem ui (T:cj pg) (a:At K mg "number_of" (top 12)):aU P w K mg pg "number_of" gD (top 12) ["program", "sort", "name", "names"]:=by array_get_dec
theorem Ar (T:cj pg) (a:At K mg "rows_of" (top 13)):aU P w K mg pg "rows_of" ju (top 13) ["program", "hand"]:=by array_get_dec
theorem t4 (T:cj pg) (a:At K mg "first_seat" (top 17)):aU P w K mg pg "first_seat" fw (top 17) ["program", "hand"]:=by array_get_dec
theorem Dx (T:cj pg) (a:At K mg "rested" (top 18)):aU P w K mg pg "rested" kM (top 18) ["program", "hand", "seat", "rows", "here", "turn"]:=by array_get_dec
theorem uo (T:cj pg) (a:At K mg "is_rested" (top 19)):aU P w K mg pg "is_rested" eQ (top 19) ["rows", "seat"]:=by array_get_dec
theorem tD (T:cj pg) (a:At K mg "is_own_row" (top 20)):aU P w K mg pg "is_own_row" fC (top 20) ["row", "held"]:=by array_get_dec
theorem lT (T:cj pg) (a:At K mg "behind_own_row" (top 21)):aU P w K mg pg "behind_own_row" bP (top 21) ["row", "seat", "onward"]:=by array_get_dec
theorem Ls (T:cj pg) (a:At K mg "laid" (top 22)):aU P w K mg pg "laid" nT (top 22) ["pockets", "name", "value", "others"]:=by
 have z0:(ny ["pockets", "name", "value", "others"] ["pocket"]).Nodup:=by decide +kernel
 array_get_dec
theorem xX (T:cj pg) (a:At K mg "touch_of" (top 23)):aU P w K mg pg "touch_of" fV (top 23) ["program", "hand", "seat", "rows", "row", "thing", "value", "part", "entry"]:=by array_get_dec
theorem qM (T:cj pg) (a:At K mg "seat_behind" (top 24)):aU P w K mg pg "seat_behind" cb (top 24) ["program", "hand", "seat", "value", "row", "pockets", "held"]:=by
 have z0:(ny ["program", "hand", "seat", "value", "row", "pockets", "held"] ["lock"]).Nodup:=by decide +kernel
 array_get_dec
theorem xB (T:cj pg) (a:At K mg "may_come" (top 25)):aU P w K mg pg "may_come" fS (top 25) ["touch", "value"]:=by array_get_dec
theorem qe (T:cj pg) (a:At K mg "first_stand" (top 30)):aU P w K mg pg "first_stand" eF (top 30) ["program", "hands"]:=by
 have z0:(ny ["program", "hands"] ["hand"]).Nodup:=by decide +kernel
 have z1:(ny ["program", "hands"] ["box"]).Nodup:=by decide +kernel
 have z2:(ny ["program", "hands"] ["lock"]).Nodup:=by decide +kernel
 have z3:(ny ["program", "hands"] ["lane"]).Nodup:=by decide +kernel
 have z4:(ny ["program", "hands"] ["door"]).Nodup:=by decide +kernel
 array_get_dec
theorem ya (T:cj pg) (a:At K mg "hands_of" (top 31)):aU P w K mg pg "hands_of" fN (top 31) ["program"]:=by array_get_dec
theorem wB (T:cj pg) (a:At K mg "state_of" (top 32)):aU P w K mg pg "state_of" hX (top 32) ["program", "stand", "sort", "name"]:=by array_get_dec
theorem zA (T:cj pg) (a:At K mg "wait_of" (top 33)):aU P w K mg pg "wait_of" cK (top 33) ["program", "stand", "hand", "touch", "holder"]:=by array_get_dec
theorem G8 (T:cj pg) (a:At K mg "waits" (top 34)):aU P w K mg pg "waits" nL (top 34) ["program", "stand"]:=by
 have z0:(ny ["program", "stand"] ["hand"]).Nodup:=by decide +kernel
 array_get_dec
theorem Bn (T:cj pg) (a:At K mg "can_go" (top 35)):aU P w K mg pg "can_go" lB (top 35) ["program", "stand"]:=by
 have z0:(ny ["program", "stand"] ["hand", "wait"]).Nodup:=by decide +kernel
 array_get_dec
theorem xM (T:cj pg) (a:At K mg "is_stuck" (top 36)):aU P w K mg pg "is_stuck" fF (top 36) ["program", "stand", "told"]:=by
 have z0:(ny ["program", "stand", "told"] ["wait"]).Nodup:=by decide +kernel
 array_get_dec
theorem Co (T:cj pg) (a:At K mg "may_go" (top 43)):aU P w K mg pg "may_go" lE (top 43) ["program", "stand", "hand"]:=by array_get_dec
theorem KU (T:cj pg) (a:At K mg "gone" (top 44)):aU P w K mg pg "gone" oq (top 44) ["program", "stand", "hand", "gift", "touch", "kind", "thing", "sort", "met", "behind"]:=by array_get_dec
theorem uU (T:cj pg) (a:At K mg "due_touch" (top 45)):aU P w K mg pg "due_touch" gB (top 45) ["program", "stand", "hand", "gift", "wait", "touch"]:=by array_get_dec
theorem s9 (T:cj pg) (a:At K mg "takes_gift" (top 46)):aU P w K mg pg "takes_gift" dI (top 46) ["touch", "gift"]:=by array_get_dec
theorem zZ (T:cj pg) (a:At K mg "meeting" (top 47)):aU P w K mg pg "meeting" cA (top 47) ["touch", "event", "state", "kind", "value"]:=by array_get_dec
theorem pB (T:cj pg) (a:At K mg "with_hand_on" (top 48)):aU P w K mg pg "with_hand_on" dQ (top 48) ["program", "stand", "hand", "value", "seat", "counted"]:=by array_get_dec
theorem rY (T:cj pg) (a:At K mg "with_state" (top 49)):aU P w K mg pg "with_state" fz (top 49) ["program", "stand", "sort", "name", "state", "place"]:=by array_get_dec
theorem wG (T:cj pg) (a:At K mg "replaced" (top 50)):aU P w K mg pg "replaced" iA (top 50) ["parts", "place", "part"]:=by array_get_dec
theorem vZ (T:cj pg) (a:At K mg "_law_box" (top 52)):aU P w K mg pg "_law_box" fU (top 52) ["_law_script", "_law_k", "_law_cell"]:=by array_get_dec
theorem vT (T:cj pg) (a:At K mg "_law_take" (top 53)):aU P w K mg pg "_law_take" eP (top 53) ["_law_box_here", "_law_many", "_law_found", "_law_mixed"]:=by array_get_dec
theorem xT (T:cj pg) (a:At K mg "_law_sum" (top 54)):aU P w K mg pg "_law_sum" cI (top 54) ["_law_box_here", "_law_pockets", "_law_deep", "_law_way", "_law_word"]:=by array_get_dec
theorem mn (T:cj pg) (a:At K mg "_law_touch_row" (top 55)):aU P w K mg pg "_law_touch_row" aV (top 55) ["_law_box_here", "_law_names", "_law_pockets", "_law_kinds", "_law_kind", "_law_pocket", "_law_sort", "_law_thing"]:=by array_get_dec
theorem vy (T:cj pg) (a:At K mg "_law_rows" (top 56)):aU P w K mg pg "_law_rows" gE (top 56) ["_law_box_here", "_law_names", "_law_pockets", "_law_kinds", "_law_sort", "_law_more", "_law_many", "_law_rows_here", "_law_k", "_law_way"]:=by array_get_dec
theorem pN (T:cj pg) (a:At K mg "_law_program" (top 57)):aU P w K mg pg "_law_program" gh (top 57) ["_law_box_here", "_law_pool", "_law_turn", "_law_names", "_law_sort", "_law_many", "_law_boxes", "_law_hands", "_law_k", "_law_pockets"]:=by
 have z0:(ny ["_law_box_here", "_law_pool", "_law_turn", "_law_names", "_law_sort", "_law_many", "_law_boxes", "_law_hands", "_law_k", "_law_pockets"] ["_law_name"]).Nodup:=by decide +kernel
 array_get_dec
theorem tM (T:cj pg) (a:At K mg "_law_worth" (top 58)):aU P w K mg pg "_law_worth" aR (top 58) ["_law_e", "_law_pockets", "_law_one", "_law_other"]:=by array_get_dec
theorem qo (T:cj pg) (a:At K mg "_law_is_own" (top 59)):aU P w K mg pg "_law_is_own" cB (top 59) ["_law_row_here", "_law_held"]:=by array_get_dec
theorem uX (T:cj pg) (a:At K mg "_law_rest" (top 60)):aU P w K mg pg "_law_rest" eR (top 60) ["_law_rows_here", "_law_at", "_law_pockets", "_law_held", "_law_gone_over", "_law_row_here"]:=by array_get_dec
theorem sf (T:cj pg) (a:At K mg "_law_first" (top 61)):aU P w K mg pg "_law_first" iu (top 61) ["_law_program_here", "_law_state", "_law_hand", "_law_pockets", "_law_at"]:=by
 have z0:(ny ["_law_program_here", "_law_state", "_law_hand", "_law_pockets", "_law_at"] ["_law_name"]).Nodup:=by decide +kernel
 have z1:(ny ["_law_program_here", "_law_state", "_law_hand", "_law_pockets", "_law_at"] ["_law_one"]).Nodup:=by decide +kernel
 array_get_dec
theorem x8 (T:cj pg) (a:At K mg "_law_row" (top 62)):aU P w K mg pg "_law_row" fH (top 62) ["_law_program_here", "_law_state", "_law_hand", "_law_rows_here", "_law_at"]:=by array_get_dec
theorem uP (T:cj pg) (a:At K mg "_law_wait" (top 63)):aU P w K mg pg "_law_wait" bZ (top 63) ["_law_program_here", "_law_state", "_law_hand", "_law_row_here", "_law_holder"]:=by array_get_dec
theorem tL (T:cj pg) (a:At K mg "_law_boxed" (top 64)):aU P w K mg pg "_law_boxed" dS (top 64) ["_law_program_here", "_law_state", "_law_row_here", "_law_event", "_law_pockets", "_law_value", "_law_mark", "_law_place"]:=by
 have z0:(ny ["_law_program_here", "_law_state", "_law_row_here", "_law_event", "_law_pockets", "_law_value", "_law_mark", "_law_place"] ["_law_one"]).Nodup:=by decide +kernel
 array_get_dec
theorem qO (T:cj pg) (a:At K mg "_law_locked" (top 65)):aU P w K mg pg "_law_locked" cX (top 65) ["_law_program_here", "_law_state", "_law_row_here", "_law_event", "_law_held", "_law_place", "_law_mark"]:=by array_get_dec
theorem sS (T:cj pg) (a:At K mg "_law_laned" (top 66)):aU P w K mg pg "_law_laned" dG (top 66) ["_law_program_here", "_law_state", "_law_row_here", "_law_pockets", "_law_place", "_law_sent", "_law_fetched", "_law_letters", "_law_value"]:=by array_get_dec
theorem AH (T:cj pg) (a:At K mg "_law_go" (top 67)):aU P w K mg pg "_law_go" mP (top 67) ["_law_program_here", "_law_state", "_law_hand", "_law_gift_here", "_law_at", "_law_pockets", "_law_held", "_law_row_here", "_law_event", "_law_look", "_law_place"]:=by array_get_dec
theorem xn (T:cj pg) (a:At K mg "_law_can" (top 68)):aU P w K mg pg "_law_can" iq (top 68) ["_law_program_here", "_law_state"]:=by
 have z0:(ny ["_law_program_here", "_law_state"] ["_law_hand"]).Nodup:=by decide +kernel
 array_get_dec
theorem ug (T:cj pg) (a:At K mg "_law_gift" (top 69)):aU P w K mg pg "_law_gift" dz (top 69) ["_law_box_here", "_law_row_here", "_law_most"]:=by array_get_dec
theorem oV (T:cj pg) (a:At K mg "_law_is_told" (top 70)):aU P w K mg pg "_law_is_told" dJ (top 70) ["_law_program_here", "_law_stand", "_law_state", "_law_due", "_law_can_here", "_law_k", "_law_found", "_law_hand", "_law_held_up"]:=by
 have z0:(ny ["_law_program_here", "_law_stand", "_law_state", "_law_due", "_law_can_here", "_law_k", "_law_found", "_law_hand", "_law_held_up"] ["_law_hand"]).Nodup:=by decide +kernel
 have z1:(ny ["_law_program_here", "_law_stand", "_law_state", "_law_due", "_law_can_here", "_law_k", "_law_found", "_law_hand", "_law_held_up"] ["_law_wait_here"]).Nodup:=by decide +kernel
 array_get_dec
theorem Je (T:cj pg) (a:At K mg "law" (top 71)):aU P w K mg pg "law" Cp (top 71) ["_law_script", "_law_box_here", "_law_programs", "_law_states", "_law_stands", "_law_k", "_law_program_here", "_law_state", "_law_can_here", "_law_hand", "_law_gift_here"]:=by
 have z0:(ny ["_law_script", "_law_box_here", "_law_programs", "_law_states", "_law_stands", "_law_k", "_law_program_here", "_law_state", "_law_can_here", "_law_hand", "_law_gift_here"] ["_law_program_here"]).Nodup:=by decide +kernel
 array_get_dec
end
end K20
end
section
open PySem L2 P3
local macro_rules
 | `(tactic| simp? [$ls,*])=> `(tactic| simp? (disch:=omega) only [$ls,*])
 | `(tactic| simp? (disch:= $t) only [$ls,*])=> do
  let xs ← ("↓IF ↓PB ↓Q1 OE ↓QJ M0 LP ↓Q0 J7 ↓IL L4 MN ↓Qq Kz Jn Ka ↓IU DQ ↓OD ↓xU tY ↓PQ KZ ↓JZ Fo FF GZ ↓Qy M7 J4 Nc ↓KL Gq ↓P7 Np Lu Kd NA ↓KN ↓Hl Ee DS CL Bw ↓Lx ER FK HP Hj ↓EK BU ↓FZ ↓yX ↓pv rJ rC ↓LK Gw ↓LG H9 wW ↓yh ↓QN ↓Sd ↓Oy Lb L3 FE Gz FD ↓Ea yk Gd Fd F5 ↓Qk ↓EO CP ↓M8 Fi ↓KA Gb HD Hk Ff ↓JL GG G3 NS Pt NR NI LR NK O3 Lh Kg ↓L6 Hv Ij Ig JJ ↓oG kL BY ↓Jw Lv JX DZ BO Mo ↓om kA ↓LZ HX C5 BP ↓QU Lr Kb OF LC FN FV ET Hx Nn eN Bs lZ Gp nu List.getElem?_cons_zero List.getElem?_cons_succ List.set_cons_zero List.set_cons_succ List.map_cons List.map_nil List.cons_append List.nil_append List.replicate_succ List.replicate_zero List.length_cons List.length_nil EL EW la yI Ci rV FH MU LM mh wk Fn E5 Gx FR tH jD vd zW sr Mf qr Sx sJ Qr Hi yr Ji Se len_T Ma QK ↓JH Fx Ek Ge Fc Ec O1 Jx oJ LA Cu ↓CI bA bw jv xg sZ nS Eo xD ↓Ou K5 Ng ↓N8 ↓O8 Jt PZ Sj QX List.append_assoc List.length_append wq yS in_K ↓OP Jy Qb QH IP Mj cw decide_true decide_false Bool.not_true Bool.not_false if_true if_false reduceIte ite_self Bool.false_eq_true String.reduceEq String.reduceNe reduceCtorEq Int.reduceEq Int.reduceNe Int.reduceLT Int.reduceLE Int.reduceSub Int.reduceAdd Int.reduceMul Int.reduceToNat Int.reduceNeg".splitOn " ").toArray.mapM λw=>if w.startsWith "↓" then `(Lean.Parser.Tactic.simpLemma| ↓$(Lean.mkIdent (w.drop 1).toName):term) else `(Lean.Parser.Tactic.simpLemma| $(Lean.mkIdent w.toName):term)
  let ys : Lean.TSyntaxArray [`Lean.Parser.Tactic.simpStar,`Lean.Parser.Tactic.simpErase,`Lean.Parser.Tactic.simpLemma] := ls.getElems ++ xs.map (λx=>⟨x.raw⟩)
  `(tactic| simp (disch:= $t) only [$ys,*])
section
set_option maxHeartbeats 1000000
namespace K20
inductive Bo where | add | sub | mul | less | same
 deriving DecidableEq
noncomputable def Bo.w:Bo->Str
 | .add=> "add" | .sub=> "sub" | .mul=> "mul" | .less=> "less" | .same=> "same"
noncomputable def Bo.f:Bo->Int->Int->Int
 | .add,a,b=>(a+b) % 1000
 | .sub,a,b=>(a - b) % 1000
 | .mul,a,b=>a*b % 1000
 | .less,a,b=>if a < b then 1 else 0
 | .same,a,b=>if a=b then 1 else 0
inductive Sm where
 | num (n:Int) | of (x:Str) | un (a:Sm) | bin (o:Bo) (a b:Sm)
noncomputable def gP:Sm->PV
 | .num n=> .tup [.str "num",.int n]
 | .of x=> .tup [.str "of",.str x]
 | .un a=> .tup [.str "not",gP a]
 | .bin o a b=> .tup [.str o.w,gP a,gP b]
noncomputable def Sm.dp:Sm->Nat
 | .num _=>1 | .of _=>1 | .un a=>a.dp+1 | .bin _ a b=>max a.dp b.dp+1
noncomputable def Sm.ok:Sm->Prop
 | .num n=>0<=n/\n<=999 | .of _=>True | .un a=>a.ok | .bin _ a b=>a.ok/\b.ok
noncomputable def Sm.val(f:Str->Int):Sm->Int
 | .num n=>n
 | .of x=>f x
 | .un a=>if a.val f=0 then 1 else 0
 | .bin o a b=>o.f (a.val f) (b.val f)
theorem Sm.ox {f : Str -> Int} (hf : ∀ x, 0 <= f x /\ f x <= 999) : ∀ e : Sm, e.ok -> 0 <= e.val f /\ e.val f <= 999
  | .num n, h => h
  | .of x, _ => hf x
  | .un a, _ => by unfold Sm.val; split <;> omega
  | .bin o a b, _ => by
    unfold Sm.val Bo.f;cases o <;> simp only <;> first
      | (split <;> omega)
      | exact ⟨WV _ (by decide), by have := Wh (Sm.val f a + Sm.val f b) (show (0 : Int) < 1000 by decide); omega⟩
      | exact ⟨WV _ (by decide), by have := Wh (Sm.val f a - Sm.val f b) (show (0 : Int) < 1000 by decide); omega⟩
      | exact ⟨WV _ (by decide), by have := Wh (Sm.val f a * Sm.val f b) (show (0 : Int) < 1000 by decide); omega⟩
theorem eY: ∀ e:Sm,(gP e).flat=true
 | .num n=>rfl
 | .of x=>rfl
 | .un a=>by simp[gP,PV.flat,PV.bC,eY a]
 | .bin o a b=>by simp[gP,PV.flat,PV.bC,eY a,eY b]
abbrev Pk:=List (Str × Int)
noncomputable def t9(ps:Pk):PV:= .tup (ps.map eA)
noncomputable def fP:Pk->Str->Int
 | [],_=>0
 | q::r,x=>if q.1=x then q.2 else fP r x
structure Tx(ps:Pk):Prop where
 S4:(ps.map (·.1)).Pairwise jR
 mem: ∀ q∈ps,1<=q.2/\q.2<=999
 len:ps.length<=20
theorem yC: ∀{ps:Pk},(∀ q∈ps,1<=q.2/\q.2<=999)-> ∀ x,0<=fP ps x/\fP ps x<=999
 | [],_,x=>by simp[fP]
 | q::r,h,x=>by
  unfold fP;split
  . have:=h q Uk;omega
  . exact yC (λz hz=>h z (Uo _ hz)) x
theorem jc: ∀(ps:Pk),PV.bC (ps.map eA)=true
 | []=>rfl
 | q::r=>by simp[PV.bC,eA,PV.flat,jc r]
noncomputable def eL(ps:Pk):List (Key × PV):=ps.map λq=>(.inr q.1,.int q.2)
theorem vq: ∀(ps:Pk),jh (ps.map eA)=some (eL ps)
 | []=>rfl
 | q::r=>by simp[jh,eA,pairP?,hZ,vq r,eL]
theorem xG: ∀(ps:Pk)(x:Str),(cv (eL ps) (.inr x)).getD (.int 0)= .int (fP ps x)
 | [],x=>rfl
 | q::r,x=>by
  unfold fP eL;rw[T9];by_cases e:q.1=x
  . rw[if_pos e,e,yr];rfl
  . rw[if_neg e,Bv (by simpa using e)];exact xG r x
theorem Hr: ∀{kvs:List (Key × PV)}{k:Key}{v:PV},k ∉ kvs.map (λkv:Key × PV=>kv.1)->gY kvs k v=kvs++[(k,v)]:=by
 intro kvs k v h;unfold gY;rw[if_neg];simp only[Zh,decide_eq_true_eq,not_exists,not_and];exact λx hx e=>h (UP.mpr ⟨x,hx,e⟩)
theorem vI: ∀(more acc:List (Key × PV)),((acc++more).map (λkv:Key × PV=>kv.1)).Nodup->cq acc more=acc++more
 | [],acc,_=>by simp[cq]
 | p::r,acc,h=>by
  have h2:p.1 ∉ acc.map (λkv:Key × PV=>kv.1):=by
   rw[U3,W2] at h;intro m;exact h.2.2 p.1 m p.1 (by simp) rfl
  show cq (gY acc p.1 p.2) r=_;rw [Hr h2,vI r _ (by simpa using h)];simp
theorem B0 {ps : Pk} (nd : (ps.map (·.1)).Nodup) : cq [] (eL ps) = eL ps := by
  rw [vI _ _ ?_]; · rfl
  have e : ([] ++ eL ps).map (λkv : Key × PV => kv.1) = (ps.map (·.1)).map (VT (α := Int)) := by unfold eL; rw [UL, U5, U5]; rfl
  rw [e];exact List.Pairwise.map _ (λa b z e => z (ZT e)) nd
section
variable {pg:Tb} (T:cj pg)
include T
theorem QY(k:Nat)(o:Bo)(a b:Int)(h:PH)(ha:0<=a/\a<=999):run pg (k+1) "joined_worth" [.str o.w,.int a,.int b] h= .ok (.int (o.f a b)) h:=by
 rw[run_eq T.oB rfl];cases o<;>simp? [dP,jg,Bo.w,Bo.f]
 all_goals split<;>rfl
theorem je(h:PH){ps:Pk}(nd:(ps.map (·.1)).Nodup)(hm: ∀ q∈ps,1<=q.2/\q.2<=999)(hl:ps.length<=1000): ∀(e:Sm)(k:Nat),e.ok->e.dp<=k->run pg (k+1) "worth" [gP e,t9 ps] h= .ok (.int (e.val (fP ps))) h
 | .num n,k,ho,hk=>by
  rw[run_eq T.nJ rfl];simp? [hV,ky,gP,Sm.val]
 | .of x,k,ho,hk=>by
  rw[run_eq T.nJ rfl];have hz:(ps.map eA).length < 16777216:=by rw[TZ];omega
  simp? [hV,ky,gP,t9,Sm.val,vq,B0 nd,xG,Cu hz];exact bI rfl
 | .un a,k,ho,hk=>by
  obtain⟨k,rfl⟩: ∃ j,k=j+1:=⟨k - 1,by unfold Sm.dp at hk;omega⟩
  have ih:=je h nd hm hl a k ho (by unfold Sm.dp at hk;omega);rw[run_eq T.nJ rfl];simp? [hV,ky,gP,Sm.val,ih];split<;>rfl
 | .bin o a b,k,ho,hk=>by
  obtain⟨k,rfl⟩: ∃ j,k=j+1:=⟨k - 1,by unfold Sm.dp at hk;omega⟩
  have ih1:=je h nd hm hl a k ho.1 (by unfold Sm.dp at hk;omega);have ih2:=je h nd hm hl b k ho.2 (by unfold Sm.dp at hk;omega);have ij:=QY T k o (a.val (fP ps)) (b.val (fP ps)) h (Sm.ox (yC hm) a ho.1);rw[run_eq T.nJ rfl];cases o<;>(simp only[Bo.w] at ij;simp? [hV,ky,gP,Sm.val,ih1,ih2,ij,Bo.w])
end
theorem oC{h:PH}{n:Nat}{os:Pk}(e:h[n]?=some (.lst (os.map eA)))(hl:os.length < 64)(nd:(os.map (·.1)).Nodup):eT [.ref n] h= .ok (.ref h.length) (h++[.lst ((kr os).map eA)]):=by
 have hi:itemsOf h (.ref n)=some (os.map eA):=by simp[itemsOf,cP,e]
 show kK [.ref n] h=_;unfold kK;simp only[hi];cases os with
 | nil=>simp[eO,eZ,kr]
 | cons q r =>
  have e1:eO ((q::r).map eA)=none:=rfl
  rw[e1]
  simp only[uO]
  rw[if_pos ⟨hl,nd⟩]
noncomputable def lay(ps:Pk)(x:Str)(v:Int):Pk:=kr (ps.filter (λq=> !decide (q.1=x))++if v=0 then[] else[(x,v)])
theorem iD(ps:Pk):(kr ps).Perm ps:=Xg ps _
theorem zQ{ps:Pk}(nd:(ps.map (·.1)).Nodup):((kr ps).map (·.1)).Pairwise jR:=by
 have h1:(kr ps).Pairwise λa b=>p8 a.1 b.1=true:=Xt (λa b c=>jB a.1 b.1 c.1) (λa b=>by simpa using mE a.1 b.1) ps;have h2:((kr ps).map (·.1)).Nodup:=((iD ps).map _).nodup_iff.mpr nd
 rw[XD];rw[List.nodup_iff_pairwise_ne,XD] at h2;refine h1.imp₂ (λa b z1 z2=>?_) h2;rcases nU z2 with z | z
 . exact z
 . unfold p8 at z1;simp[z] at z1
theorem xt{ps:Pk}(nd:(ps.map (·.1)).Nodup): ∀ q∈ps,fP ps q.1=q.2:=by
 induction ps with
 | nil=>intro q m;cases m
 | cons p r ih =>
  intro q m
  rw[T9] at nd;rw[Wq] at nd
  unfold fP
  rcases Ui.mp m with e | m
  . rw[if_pos (by rw[e]),e]
  . rw[if_neg (λz=>nd.1 (by rw[z];exact UP.mpr ⟨q,m,rfl⟩))];exact ih nd.2 q m
theorem sH{ps:Pk}{x:Str}(h:x ∉ ps.map (·.1)):fP ps x=0:=by
 induction ps with
 | nil=>rfl
 | cons p r ih =>
  rw[T9,Ui,not_or] at h
  unfold fP
  rw[if_neg (λz=>h.1 z.symm)]
  exact ih h.2
theorem E1{ps qs:Pk}(p:ps.Perm qs)(nd:(qs.map (·.1)).Nodup)(x:Str):fP ps x=fP qs x:=by
 by_cases hx:x∈qs.map (·.1)
 . obtain⟨q,m,rfl⟩:=UP.mp hx;rw[xt nd q m,xt ((p.map (·.1)).nodup_iff.mpr nd) q (p.mem_iff.mpr m)]
 . rw[sH hx,sH λz=>hx ((p.map (·.1)).mem_iff.mp z)]
theorem xZ{ps:Pk}(nd:(ps.map (·.1)).Nodup)(x:Str)(v:Int):((ps.filter (λq=> !decide (q.1=x))++if v=0 then[] else[(x,v)]).map (·.1)).Nodup:=by
 rw[U3];refine W2.mpr ⟨(List.Sublist.map _ aai).nodup nd,?_,λa ha b hb e=>?_⟩
 . split<;>simp
 . split at hb
   . cases hb
   . obtain⟨q,m,rfl⟩:=UP.mp ha;have hb':b=x:=by simpa using hb
     have:=(VE.mp m).2;simp only[VA,decide_eq_false_iff_not] at this;exact this (e.trans hb')
theorem rU{ps:Pk}(nd:(ps.map (·.1)).Nodup)(x:Str)(v:Int)(y:Str):fP (lay ps x v) y=if y=x then v else fP ps y:=by
 rw[lay,E1 (iD _) (xZ nd x v)];have app: ∀(l m:Pk)(y:Str),fP (l++m) y=if y∈l.map (·.1) then fP l y else fP m y:=by
  intro l m y
  induction l with
  | nil=>rfl
  | cons q r ih =>
   rw[Vm,fP,fP,ih]
   by_cases e:q.1=y
   . rw[if_pos e,if_pos e,if_pos (by rw[T9,e];exact Uk)]
   . have e': ¬ y=q.1:=λz=>e z.symm;rw[if_neg e,if_neg e];simp only[T9,Ui,e',false_or]
 have fil: ∀ l:Pk,¬ y=x->fP (l.filter λq=> !decide (q.1=x)) y=fP l y:=by
  intro l ne
  induction l with
  | nil=>rfl
  | cons q r ih =>
   by_cases e:q.1=x
   . rw[U6 (by simp[e]),fP,if_neg (λz=>ne (z.symm.trans e)),ih]
   . rw[US (by simp[e]),fP,fP,ih]
 rw[app];by_cases e:y=x
 . rw[if_pos e,if_neg]
   . split
     . rename_i z;rw[z];rfl
     . rw[fP,if_pos e.symm]
   . intro z;obtain⟨q,m,rfl⟩:=UP.mp z;have:=(VE.mp m).2;simp[e] at this
 . rw[if_neg e,fil ps e];split
   . rfl
   . rename_i z;have h0:fP ps y=0:=by
      rw[<- fil ps e];exact sH z
     rw[h0];split
     . rfl
     . rw[fP,if_neg (λz=>e z.symm)];rfl
structure sG(L:List Str)(ps:Pk):Prop where
 S4:(ps.map (·.1)).Pairwise jR
 mem: ∀ q∈ps,q.1∈L/\1<=q.2/\q.2<=999
theorem sG.nd{L:List Str}{ps:Pk}(h:sG L ps):(ps.map (·.1)).Nodup:=h.S4.imp λ{a b} z e=>by subst e;exact j9 _ z
theorem sG.len{L:List Str}{ps:Pk}(h:sG L ps):ps.length<=L.length:=by
 have:=WJ h.nd (l₂ :=L) (λx hx=>by obtain⟨q,hq,rfl⟩:=UP.mp hx;exact(h.mem q hq).1);simpa using this
theorem sG.nil{L:List Str}:sG L []:=⟨.nil,λq m=>by cases m⟩
theorem wz{L:List Str}{ps:Pk}{x:Str}{v:Int}(h:sG L ps)(hx:x∈L)(h0:0<=v)(h9:v<=999):sG L (lay ps x v):=by
 refine⟨zQ (xZ h.nd x v),λq m=>?_⟩;rcases Va.mp ((iD _).mem_iff.mp m) with m | m
 . exact h.mem q (VE.mp m).1
 . split at m
   . cases m
   . rw[UX.mp m];exact⟨hx,show 1<=v by omega,h9⟩
theorem mS(x:Str): ∀ ps:Pk,(ps.filterMap λq=>if q.1=x then none else some (eA q))=(ps.filter (λq=> !decide (q.1=x))).map eA
 | []=>rfl
 | q::r=>by
  by_cases z:q.1=x
  . rw[Wz (by simp[z]),U6 (by simp[z]),mS x r]
  . rw[WA (by rw[if_neg z]),US (by simp[z]),T9,mS x r]
section
variable{pg:Tb}(T:cj pg)
include T
theorem yv(k:Nat)(h:PH){ps:Pk}(nd:(ps.map (·.1)).Nodup)(x:Str)(v:Int)(hl:(lay ps x v).length<=20)(hp:ps.length<=1000):run pg (k+1) "laid" [t9 ps,.str x,.int v] h= .ok (t9 (lay ps x v)) h:=by
 rw[run_eq T.Mn rfl];have e1:fT ⟨none,ps.map eA⟩ (aN 1 (gN 4) (aE (aj gu (eX 4 0) (aa 1))) (aa 4) (run pg k) [some (.tup (ps.map eA)),some (.str x),some (.int v),none]) (ps.map eA) [] h= .ok ([]++ps.filterMap λq=>if q.1=x then none else some (eA q)) h:=by
  refine cL rfl ps [] (λq m=>?_) (by simp;omega);simp? [eA];by_cases z:q.1=x<;>simp[z]
 rw[mS,UL] at e1;have hl':(ps.filter (λq=> !decide (q.1=x))++if v=0 then[] else[(x,v)]).length<=20:=by rw[<- (iD _).length_eq];exact hl
 have nd':=xZ nd x v;have hz:((ps.filter (λq=> !decide (q.1=x))).map eA).length < 16777216:=by
  rw[TZ];have:=Wk (λq:Str × Int=> !decide (q.1=x)) ps;omega
 by_cases hv:v=0
 . subst hv;rw[if_pos rfl,Vd] at hl' nd';have s1:=oC (h:=h++[.lst ((ps.filter (λq=> !decide (q.1=x))).map eA)]) (n:=h.length) bA (WL hl' (by decide)) nd';simp? [nT,wc,t9,e1,s1];rw[bI (v:= .tup _) (jc _),lay,if_pos rfl,Vd]
 . rw[if_neg hv] at hl' nd';have s1:=oC (h:=h++[.lst ((ps.filter (λq=> !decide (q.1=x))++[(x,v)]).map eA)]) (n:=h.length) bA (WL hl' (by decide)) nd';rw[U3] at s1;simp? [nT,wc,t9,e1,hv,oJ hz];rw[show Z1 eA [(x,v)]=[PV.tup [PV.str x,PV.int v]] from rfl] at s1;simp? [s1,T9,UN];rw[bI (v:= .tup _) (jc _),lay,if_neg hv]
end
inductive Rw where
 | let_ (x:Str) (e:Sm) | leap (k:Int) (e:Sm) | take (l:Str) | free (l:Str) | get (x b:Str) | put (b:Str) (e:Sm)
 | send (l:Str) (e:Sm) | fetch (x l:Str) | say (d:Str) (e:Sm) | clock (x:Str) | lot (x:Str) (n:Int) | hear (x d:Str)
noncomputable def Rw.w:Rw->Str
 | .let_ _ _=> "let" | .leap _ _=> "leap" | .take _=> "take" | .free _=> "free" | .get _ _=> "get" | .put _ _=> "put"
 | .send _ _=> "send" | .fetch _ _=> "fetch" | .say _ _=> "say" | .clock _=> "clock" | .lot _ _=> "lot" | .hear _ _=> "hear"
noncomputable def Rw.ps:Rw->List PV
 | .let_ x e=>[.str x,gP e] | .leap k e=>[.int k,gP e] | .take l=>[.str l] | .free l=>[.str l] | .get x b=>[.str x,.str b] | .put b e=>[.str b,gP e]
 | .send l e=>[.str l,gP e] | .fetch x l=>[.str x,.str l] | .say d e=>[.str d,gP e] | .clock x=>[.str x] | .lot x n=>[.str x,.int n] | .hear x d=>[.str x,.str d]
noncomputable def bh(r:Rw):PV:= .tup (.str r.w::r.ps)
noncomputable def bH(rs:List Rw):PV:= .tup (rs.map bh)
structure aF where
 row:Nat
 ps:Pk
 held:List Str
noncomputable def jL(hs:List Str):PV:= .tup (hs.map PV.str)
noncomputable def aC(s:aF):PV:= .tup [.int s.row,t9 s.ps,jL s.held]
noncomputable def own(held:List Str):Rw->Bool
 | .take l=>decide (l∈held)
 | .free l=> !decide (l∈held)
 | .let_ _ _=>true
 | .leap _ _=>true
 | _=>false
noncomputable def jG(e:Sm):Prop:=e.ok/\e.dp<=7
noncomputable def eW(L:List Str)(n:Nat):Rw->Prop
 | .let_ x e=>x∈L/\jG e
 | .leap k e=>0<=k/\k<=n/\jG e
 | .put _ e=>jG e
 | .send _ e=>jG e
 | .say _ e=>jG e
 | .get x _=>x∈L
 | .fetch x _=>x∈L
 | .clock x=>x∈L
 | .lot x m=>x∈L/\2<=m/\m<=1000
 | .hear x _=>x∈L
 | _=>True
noncomputable def behind(s:aF):Rw->aF
 | .let_ x e=>⟨s.row+1,lay s.ps x (e.val (fP s.ps)),s.held⟩
 | .leap k e=>if e.val (fP s.ps)=0 then⟨s.row+1,s.ps,s.held⟩ else⟨k.toNat,s.ps,s.held⟩
 | _=>⟨s.row+1,s.ps,s.held⟩
structure cR(L:List Str)(rs:List Rw)(s:aF):Prop where
 pk:sG L s.ps
 le:s.row<=rs.length
theorem qP: ∀ hs:List Str,PV.bC (hs.map PV.str)=true
 | []=>rfl
 | x::r=>by rw[T9,PV.bC,qP r];rfl
theorem j6(s:aF):(aC s).flat=true:=by
 simp[aC,PV.flat,PV.bC,t9,jc,jL,qP]
theorem Bt(r:Rw):(bh r).flat=true:=by
 cases r<;>simp[bh,Rw.ps,PV.flat,PV.bC,eY]
theorem lM: ∀ rs:List Rw,PV.bC (rs.map bh)=true
 | []=>rfl
 | x::r=>by rw[T9,PV.bC,lM r,Bt];rfl
noncomputable def bo(rs:List Rw)(s:aF):Bool:=match rs[s.row]? with
 | none=>true
 | some r=> !own s.held r
noncomputable def aX(rs:List Rw):Nat->aF->aF
 | 0,s=>if bo rs s then s else⟨rs.length,s.ps,s.held⟩
 | n+1,s=>if bo rs s then s else match rs[s.row]? with
  | none=>s
  | some r=>aX rs n (behind s r)
theorem jx{L:List Str}{rs:List Rw}{s:aF}{r:Rw}(h:cR L rs s)(hr:eW L rs.length r)(e:rs[s.row]?=some r):cR L rs (behind s r):=by
 have hlt:s.row < rs.length:=(T1.mp e).1;cases r with
 | let_ x e0 =>
  have hv:=Sm.ox (yC λq m=>(h.pk.mem q m).2) e0 hr.2.1
  exact⟨wz h.pk hr.1 hv.1 hv.2,hlt⟩
 | leap j e0 =>
  show cR L rs (if e0.val (fP s.ps)=0 then⟨s.row+1,s.ps,s.held⟩ else⟨j.toNat,s.ps,s.held⟩)
  split
  . exact ⟨h.pk,hlt⟩
  . exact ⟨h.pk,by have:=hr.2.1;have:=hr.1;show XS _<=rs.length;omega⟩
 | _=>exact ⟨h.pk,hlt⟩
theorem oH {L : List Str} {rs : List Rw} (hr : ∀ r ∈ rs, eW L rs.length r) : ∀ (n : Nat) (s : aF), cR L rs s -> cR L rs (aX rs n s)
  | 0, s, h => by unfold aX; split; · exact h
                  . exact ⟨h.pk, Nat.le_refl _⟩
  | n + 1, s, h => by
    unfold aX; split
    . exact h
    . split
      . exact h
      . rename_i r e; exact oH hr n _ (jx h (hr r (Ue e)) e)
theorem gZ{rs:List Rw}{s:aF}{r:Rw}(e:rs[s.row]?=some r):dC (rs.map bh) (s.row:Int)=some (bh r):=P3.eE rfl (by rw[Uq,e];rfl)
section
variable{pg:Tb}(T:cj pg)
include T
theorem Nb(k:Nat)(h:PH)(r:Rw)(held:List Str):run pg (k+1) "is_own_row" [bh r,jL held] h= .ok (.bl (own held r)) h:=by
 rw[run_eq T.tR rfl];cases r<;>simp? [fC,kH,bh,Rw.w,Rw.ps,jL,own]
theorem AY(k:Nat)(h:PH){L:List Str}(hL:L.length<=20){rs:List Rw}{s:aF}{r:Rw}(hs:cR L rs s)(hr:eW L rs.length r)(hrow:rs[s.row]?=some r):run pg (k+9) "behind_own_row" [bh r,aC s] h= .ok (aC (behind s r)) h:=by
 have nd:=hs.pk.nd;have hm: ∀ q∈s.ps,1<=q.2/\q.2<=999:=λq m=>(hs.pk.mem q m).2;have hl:=hs.pk.len;have w: ∀ e:Sm,jG e->run pg (k+8) "worth" [gP e,t9 s.ps] h= .ok (.int (e.val (fP s.ps))) h:=λe he=>je T h nd hm (by omega) e (k+7) he.1 (by have:=he.2;omega);rw[run_eq T.mJ rfl];cases r with
 | let_ x e =>
  have hb:=(jx hs hr hrow).pk.len
  have l1:=yv T (k+7) h nd x (e.val (fP s.ps)) (UM hb hL) (by omega)
  simp? [bP,cM,bh,Rw.w,Rw.ps,aC,behind,w e hr.2,l1]
  rfl
 | leap j e =>
  simp? [bP,cM,bh,Rw.w,Rw.ps,aC,behind,w e hr.2.2]
  by_cases z:e.val (fP s.ps)=0
  . simp only[z,if_true];rfl
  . have:((j.toNat:Nat):Int)=j:=by have:=hr.1;omega
    simp only[z,if_false,this]
 | _ =>
  simp? [bP,cM,bh,Rw.w,Rw.ps,aC,behind]
  rfl
theorem kQ(k:Nat)(h:PH){rs:List Rw}{s:aF}(hs:s.row<=rs.length):run pg (k+2) "is_rested" [bH rs,aC s] h= .ok (.bl (bo rs s)) h:=by
 rw[run_eq T.vz rfl];cases e:rs[s.row]? with
 | none =>
  have:s.row=rs.length:=by have:=Vx.mp e;omega
  have r1:bo rs s=true:=by unfold bo;rw[e]
  simp? [eQ,iX,bH,aC,r1,this,TZ]
 | some r =>
  have hlt:s.row < rs.length:=(T1.mp e).1
  have ne: ¬ (s.row:Int)=(rs.length:Int):=by omega
  have ix:=ka (h:=h) (gZ e)
  have o1:=Nb T k h r s.held
  simp? [eQ,iX,bH,aC,bo,e,ne,ix,o1,TZ]
noncomputable def mO(p:PV)(j:Int)(rs:List Rw):Prop:= ∃ a b c d hs nm,p= .tup [a,b,c,d,.tup hs]/\dC hs j=some (.tup [nm,bH rs])
theorem jO(k:Nat)(h:PH){p:PV}{j:Int}{rs:List Rw}(hp:mO p j rs):run pg (k+1) "rows_of" [p,.int j] h= .ok (bH rs) h:=by
 obtain⟨a,b,c,d,hs,nm,rfl,e⟩:=hp;rw[run_eq T.AO rfl];simp? [ju,rE,ka e]
theorem gM(k:Nat)(h:PH){L:List Str}(hL:L.length<=20){p:PV}{j:Int}{rs:List Rw}(hp:mO p j rs)(hr: ∀ r∈rs,eW L rs.length r){s:aF}(hs:cR L rs s):run pg (k+10) "rested" [p,.int j,aC s] h= .ok (aC (aX rs 200 s)) h:=by
 have rest: ∀(xs xs0:List PV)(s0 s:aF)(tv:Option PV),cR L rs s ->
   ((bT ⟨none,xs0⟩ (bM (gN 5) (ag (bU (aE (ae "is_rested" (a2 (aa 3) (aa 4)))) (ax (aa 4)) cz) (ak (ae "behind_own_row" (ab (aj ay (aa 3) (eX 4 0)) (a1 (aa 4)))) (gN 4))) (run pg (k+9))) xs
    [some p,some (.int j),some (aC s0),some (bH rs),some (aC s),tv] h).bind
    (AJ (ag (bU (aE (ae "is_rested" (a2 (aa 3) (aa 4)))) (ax (aa 4)) cz) (ax (au (ab (eB cx (a1 (aa 3))) (a2 (eX 4 1) (eX 4 2)))))) (run pg (k+9))))= .ok (.rt (aC (aX rs xs.length s))) h:=by
  intro xs xs0 s0
  induction xs with
  | nil =>
   intro s tv hs
   have q:=kQ T (k+7) h hs.le
   simp? [gJ,aX,UE,q]
   cases bo rs s<;>simp? [aC,bH,TZ,aX]
  | cons x xs ih =>
   intro s tv hs
   have q:=kQ T (k+7) h hs.le
   rw[fI]
   simp? [aX,Ub,q]
   cases e:rs[s.row]? with
   | none =>
    have r1:bo rs s=true:=by unfold bo;rw[e]
    simp? [r1,yW]
   | some r =>
    cases r1:bo rs s with
    | true=>simp? [r1,yW]
    | false =>
     have hm:=hr r (Ue e)
     have ix:=ka (h:=h) (gZ e)
     have be:=AY T k h hL hs hm e
     have i0:ay (aC s) (.int 0) h= .ok (.int s.row) h:=rfl
     have ix':ay (bH rs) (.int s.row) h= .ok (bh r) h:=ix
     simp? [r1,i0,ix',be,dc,ih _ _ (jx hs hm e)]
 rw[run_eq T.BZ rfl];have ro:=jO T (k+8) h hp;simp? [kM,vO,ro];have hh:=rest (aw 0 200) (aw 0 200) s s none hs;have len:(aw 0 200).length=200:=rfl;rw[len] at hh;exact(congrArg (fin h) hh).trans (by rw[lZ,nu])
end
section
variable{pg:Tb}(T:cj pg)
include T
theorem qN(k:Nat)(h:PH){L:List Str}(hL:L.length<=20){p:PV}{j:Int}{rs:List Rw}(hp:mO p j rs)(hr: ∀ r∈rs,eW L rs.length r):run pg (k+11) "first_seat" [p,.int j] h= .ok (aC (aX rs 200 ⟨0,[],[]⟩)) h:=by
 have:=gM T k h hL hp hr (s:=⟨0,[],[]⟩) ⟨.nil,UQ _⟩;rw[run_eq T.tW rfl];have e:PV.tup [.int 0,.tup [],.tup []]=aC ⟨0,[],[]⟩:=rfl;simp? [fw,k7,e,this]
end
noncomputable def Rw.fZ:Rw->Option Str
 | .get x _=>some x | .fetch x _=>some x | .clock x=>some x | .lot x _=>some x | .hear x _=>some x
 | _=>none
noncomputable def Rw.sum:Rw->Option Sm
 | .let_ _ e=>some e | .leap _ e=>some e | .put _ e=>some e | .send _ e=>some e | .say _ e=>some e
 | _=>none
theorem eW.sum{L:List Str}{n:Nat}{r:Rw}(h:eW L n r){e:Sm}(q:r.sum=some e):jG e:=by
 cases r<;>cases q
 . exact h.2
 . exact h.2.2
 . exact h
 . exact h
 . exact h
noncomputable def PV.num:PV->Int
 | .int i=>i
 | _=>0
noncomputable def after(s:aF)(v:PV):Rw->aF
 | .get x _=>⟨s.row+1,lay s.ps x (PV.num v),s.held⟩
 | .fetch x _=>⟨s.row+1,lay s.ps x (PV.num v),s.held⟩
 | .clock x=>⟨s.row+1,lay s.ps x (PV.num v),s.held⟩
 | .lot x _=>⟨s.row+1,lay s.ps x (PV.num v),s.held⟩
 | .hear x _=>⟨s.row+1,lay s.ps x (PV.num v),s.held⟩
 | .take l=>⟨s.row+1,s.ps,eZ (s.held++[l])⟩
 | .free l=>⟨s.row+1,s.ps,s.held.filter λz=> !decide (z=l)⟩
 | _=>⟨s.row+1,s.ps,s.held⟩
noncomputable def bQ(s:aF):Rw->PV
 | .let_ _ e=> .tup [.str "let",.str "",.int (e.val (fP s.ps))]
 | .leap k e=> .tup [.str "leap",.int k,.int (e.val (fP s.ps))]
 | .take l=> .tup [.str "take",.str l,.non]
 | .free l=> .tup [.str "free",.str l,.non]
 | .get _ b=> .tup [.str "get",.str b,.non]
 | .put b e=> .tup [.str "put",.str b,.int (e.val (fP s.ps))]
 | .send l e=> .tup [.str "send",.str l,.int (e.val (fP s.ps))]
 | .fetch _ l=> .tup [.str "fetch",.str l,.non]
 | .say d e=> .tup [.str "say",.str d,.int (e.val (fP s.ps))]
 | .clock _=> .tup [.str "clock",.str "",.non]
 | .lot _ n=> .tup [.str "lot",.str "",.int n]
 | .hear _ d=> .tup [.str "hear",.str d,.non]
noncomputable def pj(rs:List Rw)(s:aF):PV:=match rs[s.row]? with
 | none=> .non
 | some r=>bQ s r
theorem dB: ∀ ss:List Str,eO (ss.map PV.str)=some ss
 | []=>rfl
 | x::r=>by rw[T9,eO,dB r];rfl
theorem xY{h:PH}{ss:List Str}(hl:ss.length < 64):eT [.tup (ss.map PV.str)] h= .ok (.ref h.length) (h++[.lst ((eZ ss).map PV.str)]):=by
 simp only[eT,dB,if_pos hl]
theorem pT{xs:List PV}{x:PV}:gx (x::xs) (some 1) none=xs:=by rw[P3.lD (by decide)];rfl
noncomputable def Rw.parts:Rw->List PV
 | .let_ _ _=>[.str "pocket",.str "sum"] | .leap _ _=>[.str "target",.str "sum"] | .get _ _=>[.str "pocket",.str "box"] | .put _ _=>[.str "box",.str "sum"]
 | .take _=>[.str "lock"] | .free _=>[.str "lock"] | .send _ _=>[.str "lane",.str "sum"] | .fetch _ _=>[.str "pocket",.str "lane"] | .say _ _=>[.str "door",.str "sum"]
 | .clock _=>[.str "pocket"] | .lot _ _=>[.str "pocket",.str "chances"] | .hear _ _=>[.str "pocket",.str "door"]
theorem Hm(r:Rw):cv eU (.inr r.w)=some (.ktup r.parts):=by cases r<;>(simp only[Rw.w,Rw.parts];decide +kernel)
theorem iU(l:Str): ∀ ss:List Str,(ss.filterMap λz=>if z=l then none else some (PV.str z))=(ss.filter (λz=> !decide (z=l))).map PV.str
 | []=>rfl
 | q::r=>by
  by_cases z:q=l
  . rw[Wz (by simp[z]),U6 (by simp[z]),iU l r]
  . rw[WA (by rw[if_neg z]),US (by simp[z]),T9,iU l r]
noncomputable def toG:MG:=(gT 2 (aW (gN 7) (aW (gN 8) gq)))
noncomputable def wM:MS:=(bU (mQ (aa 7) (eS "sum")) (ak (ae "worth" (a2 (aa 8) (eX 2 1))) (gN 6)) (bU (mQ (aa 7) (eS "chances")) (ak (aa 8) (gN 6)) (bU (aE (aj gu (aa 7) (eS "pocket"))) (ak (aa 8) (gN 5)) cz)))
section
variable{c:CF}{h:PH}{a0 a1 b0 b1 a3 a4 a5 a6 a7 a8 x:Option PV}{y s1 w:PV}
theorem pP(q: ∀ g,ay s1 (.int 1) g= .ok b g)(z:c "worth" [y,b] h= .ok w h):bM toG wM c (.tup [.str "sum",y]) [a0,a1,some s1,a3,a4,a5,a6,a7,a8] h= .ok (.nx [a0,a1,some s1,a3,a4,a5,some w,some (.str "sum"),some y]) h:=by
 simp? [toG,wM,q,z]
theorem Ph:bM toG wM c (.tup [.str "chances",y]) [a0,a1,b0,a3,a4,a5,a6,a7,a8] h= .ok (.nx [a0,a1,b0,a3,a4,a5,some y,some (.str "chances"),some y]) h:=by
 simp? [toG,wM]
theorem zc:bM toG wM c (.tup [.str "pocket",y]) [a0,a1,b0,a3,a4,a5,a6,a7,a8] h= .ok (.nx [a0,a1,b0,a3,a4,a5,a6,some (.str "pocket"),some y]) h:=by
 simp? [toG,wM]
theorem pQ{p:Str}(q: ¬ p= "sum" /\ ¬ p= "chances" /\ ¬ p= "pocket"):bM toG wM c (.tup [.str p,y]) [a0,a1,b0,a3,a4,a5,a6,a7,a8] h= .ok (.nx [a0,a1,b0,a3,a4,some y,a6,some (.str p),some y]) h:=by
 simp? [toG,wM,q.1,q.2.1,q.2.2]
end
theorem HN{c:CF}{h:PH}(s:aF)(r:Rw)(w: ∀ e:Sm,r.sum=some e->c "worth" [gP e,t9 s.ps] h= .ok (.int (e.val (fP s.ps))) h)(xs:List PV)(a0 a1 a3 a4:Option PV) :
  ∃(t v:PV)(u7 u8:Option PV),bQ s r= .tup [.str r.w,t,v]/\bT ⟨none,xs⟩ (bM toG wM c) ((r.parts.zip r.ps).map λp=> .tup [p.1,p.2]) [a0,a1,some (aC s),a3,a4,some (.str ""),some .non,none,none] h= .ok (.nx [a0,a1,some (aC s),a3,a4,some t,some v,u7,u8]) h:=by
 have i1: ∀ g,ay (aC s) (.int 1) g= .ok (t9 s.ps) g:=λg=>rfl;have lp1: ∀{x:PV}{e e1:aq},bM toG wM c x e h= .ok (.nx e1) h->bT ⟨none,xs⟩ (bM toG wM c) [x] e h= .ok (.nx e1) h:=λq=>by rw[fI,q,eN,dc,gJ]
 have lp2: ∀{x y:PV}{e e1 e2:aq},bM toG wM c x e h= .ok (.nx e1) h->bM toG wM c y e1 h= .ok (.nx e2) h->bT ⟨none,xs⟩ (bM toG wM c) [x,y] e h= .ok (.nx e2) h:=λq q2=>by rw[fI,q,eN,dc,fI,q2,eN,dc,gJ]
 cases r with
 | let_ x e=>exact⟨_,_,_,_,rfl,lp2 zc (pP i1 (w e rfl))⟩
 | leap x e=>exact⟨_,_,_,_,rfl,lp2 (pQ (by decide +kernel)) (pP i1 (w e rfl))⟩
 | put x e=>exact⟨_,_,_,_,rfl,lp2 (pQ (by decide +kernel)) (pP i1 (w e rfl))⟩
 | send x e=>exact⟨_,_,_,_,rfl,lp2 (pQ (by decide +kernel)) (pP i1 (w e rfl))⟩
 | say x e=>exact⟨_,_,_,_,rfl,lp2 (pQ (by decide +kernel)) (pP i1 (w e rfl))⟩
 | take x=>exact⟨_,_,_,_,rfl,lp1 (pQ (by decide +kernel))⟩
 | free x=>exact⟨_,_,_,_,rfl,lp1 (pQ (by decide +kernel))⟩
 | clock x=>exact⟨_,_,_,_,rfl,lp1 zc⟩
 | lot x n=>exact⟨_,_,_,_,rfl,lp2 zc Ph⟩
 | _=>exact⟨_,_,_,_,rfl,lp2 zc (pQ (by decide +kernel))⟩
theorem rw_0(r:Rw)(g:PH):ay (bh r) (.int 0) g= .ok (.str r.w) g:=tH
theorem rw_pk{r:Rw}{x:Str}(h:r.fZ=some x)(g:PH):ay (bh r) (.int 1) g= .ok (.str x) g:=by cases r<;>cases h<;>exact jD
theorem eW.pk {L:List Str} {n:Nat} {r:Rw} (h:eW L n r) {x:Str} (q:r.fZ=some x):x∈L:=by
 cases r<;>cases q<;>first | exact h | exact h.1
theorem iP {s:aF} {v:PV} {r:Rw} {x:Str} (h:r.fZ=some x):after s v r=⟨s.row+1,lay s.ps x (PV.num v),s.held⟩:=by cases r<;>cases h<;>rfl
theorem N5 {r:Rw} {x:Str} (h:r.fZ=some x):r.w∈(["get", "fetch", "clock", "lot", "hear"]:List Str)∧ ¬ r.w= "take" /\ ¬ r.w= "free" :=by cases r<;>cases h<;>(simp only [Rw.w];decide +kernel)
theorem rw_cls (r:Rw):(∃ x,r.fZ=some x)∨(∃ l,r= .take l)∨(∃ l,r= .free l)∨((¬ r.w∈(["get", "fetch", "clock", "lot", "hear"]:List Str)∧ ¬ r.w= "take" /\ ¬ r.w= "free")∧ ∀ s v,after s v r=⟨s.row+1,s.ps,s.held⟩):=by
 cases r with
 | take l=>exact .inr (.inl ⟨l,rfl⟩)
 | free l=>exact .inr (.inr (.inl ⟨l,rfl⟩))
 | get x _=>exact .inl ⟨x,rfl⟩
 | fetch x _=>exact .inl ⟨x,rfl⟩
 | clock x=>exact .inl ⟨x,rfl⟩
 | lot x _=>exact .inl ⟨x,rfl⟩
 | hear x _=>exact .inl ⟨x,rfl⟩
 | _=>exact .inr (.inr (.inr ⟨by simp only[Rw.w];decide +kernel,λ_ _=>rfl⟩))
section
variable{pg:Tb}(T:cj pg)
include T
theorem mZ(k:Nat)(h:PH){L:List Str}(hL:L.length<=20){p:PV}{j:Int}{rs:List Rw}(hp:mO p j rs)(hr: ∀ r∈rs,eW L rs.length r){s:aF}(hs:cR L rs s):run pg (k+10) "touch_of" [p,.int j,aC s] h= .ok (pj rs s) h:=by
 have nd:=hs.pk.nd;have hm: ∀ q∈s.ps,1<=q.2/\q.2<=999:=λq m=>(hs.pk.mem q m).2;have hl:=hs.pk.len;have w: ∀ e:Sm,jG e->run pg (k+9) "worth" [gP e,t9 s.ps] h= .ok (.int (e.val (fP s.ps))) h:=λe he=>je T h nd hm (by omega) e (k+8) he.1 (by have:=he.2;omega);have ro:=jO T (k+8) h hp;have ro':run pg (k+9) "rows_of" [p,.int j] h= .ok (.tup (rs.map bh)) h:=ro;rw[run_eq T.xP rfl];cases e:rs[s.row]? with
 | none =>
  have:s.row=rs.length:=by have:=Vx.mp e;have:=hs.le;omega
  have t1:pj rs s= .non:=by unfold pj;rw[e]
  simp? [fV,ke,aC,t1,this,ro',TZ]
 | some r =>
  have hlt:s.row < rs.length:=(T1.mp e).1
  have ne: ¬ (s.row:Int)=(rs.length:Int):=by omega
  have ix:=ka (h:=h) (gZ e)
  have hrr:=hr r (Ue e)
  have t1:pj rs s=bQ s r:=by unfold pj;rw[e]
  rw[t1]
  have w': ∀ e:Sm,r.sum=some e->run pg (k+9) "worth" [gP e,t9 s.ps] h= .ok (.int (e.val (fP s.ps))) h:=λe q=>w e (hrr.sum q)
  obtain⟨t,v,u7,u8,et,lp⟩:=HN (h:=h) s r w' ((r.parts.zip r.ps).map λp=> .tup [p.1,p.2]) (some p) (some (.int j)) (some (.tup (rs.map bh))) (some (bh r))
  have r_0:=λg=>rw_0 r g
  have i0: ∀ g,ay (aC s) (.int 0) g= .ok (.int s.row) g:=λg=>rfl
  have sl: ∀ g,GP (bh r) (some 1) none g= .ok (.tup r.ps) g:=λg=>by unfold bh;rw[PZ,pT]
  have at_r:ay (.tup (rs.map bh)) (.int s.row) h= .ok (bh r) h:=ix
  rw[et]
  unfold toG wM at lp
  simp? [fV,ke,i0,ro',ne,at_r,r_0,sl,Hm,lp,TZ]
theorem nX(k:Nat)(h:PH){L:List Str}(hL:L.length<=20){p:PV}{j:Int}{rs:List Rw}(hp:mO p j rs)(hr: ∀ r∈rs,eW L rs.length r){s:aF}(hs:cR L rs s)(hh:s.held.length<=60){r:Rw}(e:rs[s.row]?=some r){v:PV}(hv: ∀ x,r.fZ=some x-> ∃ i:Int,v= .int i/\0<=i/\i<=999):run pg (k+11) "seat_behind" [p,.int j,aC s,v] h= .ok (aC (aX rs 200 (after s v r))) h:=by
 have ro:=jO T (k+9) h hp;have ro':run pg (k+10) "rows_of" [p,.int j] h= .ok (.tup (rs.map bh)) h:=ro;have hlt:s.row < rs.length:=(T1.mp e).1;have ix:=ka (h:=h) (gZ e);have hrr:=hr r (Ue e);have ink: ∀ a:Str,ja (.str a) (.ktup [(.str "get"),(.str "fetch"),(.str "clock"),(.str "lot"),(.str "hear")]) h= .ok (.bl (decide (a∈(["get", "fetch", "clock", "lot", "hear"]:List Str)))) h:=λa=>in_K (ss:=["get", "fetch", "clock", "lot", "hear"]);rw [run_eq T.qK rfl];have r0:run pg (k+10) "rested" [p,.int j,.tup [.int ((s.row:Int)+1),t9 s.ps,jL s.held]] h= .ok (aC (aX rs 200 ⟨s.row+1,s.ps,s.held⟩)) h:=gM T k h hL hp hr (s:=⟨s.row+1,s.ps,s.held⟩) ⟨hs.pk,hlt⟩;have r_0:=λg=>rw_0 r g;have at_r:ay (.tup (rs.map bh)) (.int s.row) h= .ok (bh r) h:=ix;rcases rw_cls r with⟨x,hx⟩ | ⟨l,rfl⟩ | ⟨l,rfl⟩ | ⟨⟨n5,nt,nf⟩,af⟩
 . obtain⟨i,rfl,h0,h9⟩:=hv x hx;have li:=wz hs.pk (hrr.pk hx) h0 h9;have l1:=yv T (k+9) h hs.pk.nd x i (UM li.len hL) (by have:=hs.pk.len;omega);have r1:run pg (k+10) "rested" [p,.int j,.tup [.int ((s.row:Int)+1),t9 (lay s.ps x i),jL s.held]] h=_:=gM T k h hL hp hr (s:=⟨s.row+1,lay s.ps x i,s.held⟩) ⟨li,hlt⟩;have n5:=(N5 hx).1;have x1:=λg=>rw_pk hx g;rw[iP hx];simp? [cb,c8,aC,ro',at_r,r_0,x1,ink,n5,l1,r1,PV.num]
 . have r1:=gM T k (h++[.lst ((eZ (s.held++[l])).map PV.str)]) hL hp hr (s:=⟨s.row+1,s.ps,eZ (s.held++[l])⟩) ⟨hs.pk,hlt⟩;have r1':run pg (k+10) "rested" [p,.int j,.tup [.int ((s.row:Int)+1),t9 s.ps,.tup ((eZ (s.held++[l])).map PV.str)]] (h++[.lst ((eZ (s.held++[l])).map PV.str)])=_:=r1;have s1:=xY (h:=h) (ss:=s.held++[l]) (by simp;omega);rw[U3] at s1;have hl2:(s.held.map PV.str).length+1<=16777216:=by simp;omega
   have s1':eT [.tup (s.held.map PV.str++[.str l])] h= .ok (.ref h.length) (h++[.lst ((eZ (s.held++[l])).map PV.str)]):=s1;simp? [cb,c8,aC,jL,ro',ix,bh,Rw.w,Rw.ps,ink,Ui,UH,or_false,or_true,true_or,false_or,after,TZ,s1',r1'];exact bI (j6 _)
 . have e1: ∀ e:aq,e=[some p,some (.int j),some (aC s),some v,some (bh (.free l)),some (t9 s.ps),some (jL s.held)]->fT ⟨none,s.held.map PV.str⟩ (aN 1 (gN 7) (aE (aj gu (aa 7) (eX 4 1))) (aa 7) (run pg (k+10)) e) (s.held.map PV.str) [] h= .ok ((s.held.filter (λz=> !decide (z=l))).map PV.str) h:=by
    rintro _ rfl;rw[<- iU];refine(cL rfl s.held [] (λq m=>?_) (by simp;omega)).trans (by rw[UL]);simp? [bh,Rw.w,Rw.ps];by_cases z:q=l<;>simp[z]
   have e1':=e1 _ rfl;have r1:=gM T k (h++[.lst ((s.held.filter (λz=> !decide (z=l))).map PV.str)]) hL hp hr (s:=⟨s.row+1,s.ps,s.held.filter (λz=> !decide (z=l))⟩) ⟨hs.pk,hlt⟩;have r1':run pg (k+10) "rested" [p,.int j,.tup [.int ((s.row:Int)+1),t9 s.ps,.tup ((s.held.filter (λz=> !decide (z=l))).map PV.str)]] (h++[.lst ((s.held.filter (λz=> !decide (z=l))).map PV.str)])=_:=r1;simp only[bh,aC,jL,Rw.w,Rw.ps] at e1';simp? [cb,c8,aC,jL,ro',ix,bh,Rw.w,Rw.ps,ink,Ui,UH,or_false,or_true,true_or,false_or,after,TZ,e1',r1'];exact bI (j6 _)
 . rw[af];simp? [cb,c8,aC,ro',at_r,r_0,ink,n5,nt,nf,r0]
end
structure qD(L:List Str)(D:Pk):Prop where
 nd:(D.map (·.1)).Nodup
 mem: ∀ q∈D,q.1∈L/\0<=q.2/\q.2<=999
noncomputable def putD(D:Pk)(x:Str)(v:Int):Pk:=if x∈D.map (·.1) then D.map (λq=>if q.1=x then(q.1,v) else q) else D++[(x,v)]
theorem xO(D:Pk)(x:Str)(v:Int):(D.map (λq=>if q.1=x then(q.1,v) else q)).map (·.1)=D.map (·.1):=by
 rw[U5];refine Xf λq _=>?_;show(if q.1=x then(q.1,v) else q).1=q.1;split<;>rfl
theorem jr(D:Pk)(x:Str)(v:Int):gY (eL D) (.inr x) (.int v)=eL (putD D x v):=by
 unfold gY putD;have e:((eL D).any λkv=>decide (kv.1= .inr x))=decide (x∈D.map (·.1)):=by
  rw[Wo];simp only[Zh,decide_eq_true_eq,eL,UP];constructor
  . rintro ⟨kv,⟨q,m,rfl⟩,e⟩;exact⟨q,m,ZT e⟩
  . rintro ⟨q,m,rfl⟩;exact⟨_,⟨q,m,rfl⟩,rfl⟩
 rw[e];by_cases h:x∈D.map (·.1)
 . rw[if_pos (by simpa only[decide_eq_true_eq] using h),if_pos h];unfold eL;rw[U5];rw[U5];refine Xf λq _=>?_;show(if (VT q.1:Key)=VT x then((VT q.1:Key),PV.int v) else(VT q.1,PV.int q.2))=_;by_cases z:q.1=x
   . rw[if_pos (by rw[z])];simp[z]
   . rw[if_neg (λe=>z (ZT e))];simp[z]
 . rw[if_neg (by simpa only[decide_eq_true_eq] using h),if_neg h];unfold eL;rw[U3];rfl
theorem wd(x:Str)(v:Int)(y:Str): ∀ D:Pk,x∈D.map (·.1)->fP (D.map (λq=>if q.1=x then(q.1,v) else q)) y=if y=x then v else fP D y
 | q::r,h=>by
  rw[T9,fP,fP];by_cases z:q.1=x
  . rw[if_pos z];by_cases w:y=x
    . subst w;rw[if_pos z,if_pos rfl]
    . rw[if_neg (λe=>w (e.symm.trans z)),if_neg w,if_neg (λe=>w (e.symm.trans z))];by_cases hr:x∈r.map (·.1)
      . rw[wd x v y r hr,if_neg w]
      . congr 1;refine(Xf λp m=>?_).trans (YM _);show(if p.1=x then(p.1,v) else p)=p;rw[if_neg (λe=>hr (UP.mpr ⟨p,m,e⟩))]
  . rw[if_neg z];have hr:x∈r.map (·.1):=by
     rcases Ui.mp h with e | m
     . exact absurd e.symm z
     . exact m
    rw[wd x v y r hr];by_cases w:q.1=y
    . rw[if_pos w,if_pos w,if_neg (λe=>z (w.trans e))]
    . rw[if_neg w,if_neg w]
theorem Cg(x:Str)(v:Int)(y:Str): ∀ D:Pk,x ∉ D.map (·.1)->fP (D++[(x,v)]) y=if y=x then v else fP D y
 | [],_=>by
  rw[UL,fP,fP];by_cases w:y=x
  . rw[if_pos w,if_pos w.symm]
  . rw[if_neg w,if_neg (λe=>w e.symm)];rfl
 | q::r,h=>by
  rw[T9,Ui,not_or] at h;rw[Vm,fP,fP,Cg x v y r h.2];by_cases w:q.1=y
  . rw[if_pos w,if_pos w,if_neg (λe=>h.1 (e.symm.trans w.symm))]
  . rw[if_neg w,if_neg w]
theorem nP(D:Pk)(x:Str)(v:Int)(y:Str):fP (putD D x v) y=if y=x then v else fP D y:=by
 unfold putD;split
 . rename_i h;exact wd x v y D h
 . rename_i h;exact Cg x v y D h
theorem nM{L:List Str}{D:Pk}{x:Str}{v:Int}(h:qD L D)(hx:x∈L)(h0:0<=v)(h9:v<=999):qD L (putD D x v):=by
 unfold putD;split
 . refine⟨by rw[xO];exact h.nd,λq m=>?_⟩;obtain⟨p,mp,rfl⟩:=UP.mp m;by_cases z:p.1=x
   . rw[if_pos z];exact⟨(h.mem p mp).1,h0,h9⟩
   . rw[if_neg z];exact h.mem p mp
 . rename_i hn;refine⟨?_,λq m=>?_⟩
   . rw[U3];refine W2.mpr ⟨h.nd,by simp,λa ha b hb e=>?_⟩;have hb':b=x:=by simpa using hb
     exact hn (by rw[<- hb',<- e];exact ha)
   . rcases Va.mp m with m | m
     . exact h.mem q m
     . rw[UX.mp m];exact⟨hx,h0,h9⟩
theorem qD.Bb{L:List Str}{D:Pk}(h:qD L D): ∀ x,0<=fP D x/\fP D x<=999:=λx=>by
 by_cases hx:x∈D.map (·.1)
 . obtain⟨q,m,rfl⟩:=UP.mp hx;rw[xt h.nd q m];exact(h.mem q m).2
 . rw[sH hx];decide
theorem Gy{t:aq->PH->RV Bool}{b:aq->PH->RV Fl}{f:Nat}{e:aq}{h h1:PH}(ht:t e h= .ok false h1):dq t b (f+1) e h= .ok (.nx e) h1:=by
 rw[dq,ht,c9];rfl
theorem Pb{t:aq->PH->RV Bool}{b:aq->PH->RV Fl}{f:Nat}{e e1:aq}{h h1 h2:PH}(ht:t e h= .ok true h1)(hb:b e h1= .ok (.nx e1) h2):dq t b (f+1) e h=dq t b f e1 h2:=by
 rw[dq,ht,c9,if_pos rfl,hb,c9]
theorem qD.len{L:List Str}{D:Pk}(h:qD L D):D.length<=L.length:=by
 have:=WJ h.nd (l₂ :=L) (λx hx=>by obtain⟨q,hq,rfl⟩:=UP.mp hx;exact(h.mem q hq).1);simpa using this
theorem m3(s:aF)(r:Rw):(behind s r).held=s.held:=by
 cases r with
 | leap j e0=>show(if e0.val (fP s.ps)=0 then(⟨s.row+1,s.ps,s.held⟩:aF) else⟨j.toNat,s.ps,s.held⟩).held=s.held;split<;>rfl
 | _=>rfl
theorem nV{rs:List Rw}{s:aF}(h:bo rs s=false): ∃ r,rs[s.row]?=some r/\own s.held r=true:=by
 unfold bo at h;cases e:rs[s.row]? with
 | none=>rw[e] at h;exact nomatch h
 | some r=>rw[e] at h;exact⟨r,rfl,by simpa using h⟩
theorem bp{a b:MS}{c:CF}{e e1:aq}{h h1:PH}(q:a c e h= .ok (.nx e1) h1):ag a b c e h=b c e1 h1:=by rw[Ea,q,eN,yk]
theorem IC{t:MT}{b:MS}{c:CF}{e:aq}{h:PH}:xo t b c e h=dq (t c) (b c) 100000 e h:=(rfl)
theorem ib(ss:List Str):(eZ ss).Perm ss:=Xg ss _
theorem dw{rs:List Rw}: ∀(n:Nat)(s:aF),(aX rs n s).held=s.held
 | 0,s=>by unfold aX;split<;>rfl
 | n+1,s=>by
  unfold aX;split
  . rfl
  . split
    . rfl
    . rw[dw n,m3]
noncomputable def oS(ns:List Int):PO:= .kD (ns.map PV.int)
noncomputable def bg(q:Int × Int × Int):PO:= .lst [.int q.1,.int q.2.1,.int q.2.2]
theorem MH{q:Int × Int × Int}{n:Nat}:(bg q).iM n=true:=rfl
section
variable{h:PH}{n:Nat}{x y z v:PV}{fr:PO}{q q':Int × Int × Int}{g g':PH}
theorem Qh:xr n (.int 0) v h (some (.lst [x,y,z]))= .ok () (h.set n (.lst [v,y,z])):=rfl
theorem Jh:xr n (.int 2) v h (some (.lst [x,y,z]))= .ok () (h.set n (.lst [x,y,v])):=rfl
theorem dF(hv:v.flat=true):P3.settle (fr::bg q::g) v (fr::bg q'::(g++g'))= .ok v (fr::bg q'::g) :=
 j7 (h:=fr::bg q::g) (g:=g') (i:=1) (o:=bg q) (o':=bg q') hv rfl rfl MH
theorem lF:P3.settle (fr::bg q::g) v (fr::bg q'::g)= .ok v (fr::bg q'::g):=m6 (h:=fr::bg q::g) (i:=1) (o:=bg q) (o':=bg q')
end
theorem Nv{xs:List PV}{c:Int}(c0:0<=c)(c1:c < xs.length): ∃ x∈xs,dC xs c=some x:=by
 obtain⟨n,rfl⟩:=Vp c0;exact⟨xs[n]'(by omega),WI _,P3.eE rfl (Uj (by omega))⟩
theorem l6{ss:List Str}{v:Int}(h0:0<=v)(h1:v < ss.length): ∃ x∈ss,dC (ss.map PV.str) v=some (.str x):=by
 obtain⟨n,en⟩:=Vp h0;subst en;have hn:n < ss.length:=by omega
 exact⟨ss[n],WI hn,P3.eE rfl (by rw[Uq,Uj hn];rfl)⟩
section
variable{pg:Tb}(T:cj pg)
include T
theorem cy(j:Nat)(fr:PO)(q:Int × Int × Int)(m:Int)(m0:0 < m)(m9:m<=1000000): ∃(v:Int)(q':Int × Int × Int),0<=v/\v < m/\ ∀ g,run pg (j+1) "_law_take" [.ref 1,.int m] (fr::bg q::g)= .ok (.int v) (fr::bg q'::g):=by
 obtain⟨a,b,c⟩:=q;have b0: ∀{q q':Int × Int × Int}{g:PH}{v:PV},P3.settle (fr::bg q::g) v (fr::bg q'::g)= .ok v (fr::bg q'::g):=lF;simp only[bg] at b0 ⊢;by_cases z:0 < a
 . refine⟨a % m,(a / m,b,c+1),WV _ (by omega),Wh _ m0,λg=>?_⟩;rw[run_eq T.nr rfl];have mm:0 < m/\m < 1073741824:=by omega
   simp? (disch:=first | omega | exact mm) only[eP,jl,Qh,Jh,o7,xE,z,mh];exact b0 (q:=(a,b,c)) (q':=(a / m,b,c+1))
 . let x:Int:=(b % 2147483647+31*(c+1))*48271 % 2147483629
   let y:Int:=(x / 11+17*(c+1))*69621 % 2147483587
   refine⟨y / 7 % m,(a,b,c+1),WV _ (by omega),Wh _ m0,λg=>?_⟩;rw[run_eq T.nr rfl];have m1: ∀(i:Int) h,cY (.int i) (.int 48271) h= .ok (.int (i*48271)) h:=λi h=>tX (by omega);have m2: ∀(i:Int) h,cY (.int i) (.int 69621) h= .ok (.int (i*69621)) h:=λi h=>tX (by omega);simp? [eP,jl,Jh,o7,ud,xE,z,m1,m2,mh];exact b0 (q:=(a,b,c)) (q':=(a,b,c+1))
theorem Jm(j:Nat)(ns:List Int)(hn:ns.length<=63): ∃ q,run pg (j+1) "_law_box" [.ref 0,.int 0] [oS ns]= .ok (.ref 1) [oS ns,bg q]:=by
 have ln:cx [.ref 0] [oS ns]= .ok (.int ns.length) [oS ns]:=by rw[PK (xs:=ns.map PV.int) rfl,TZ]
 have t18:(10:Int) ^ XS 18=1000000000000000000:=by decide +kernel
 have mB: ∀(i:Int)(p:Bool) h,cY (.int i) (.int (if p=true then 1 else 0)) h= .ok (.int (i*if p=true then 1 else 0)) h:=λi p h=>tX (by split<;>omega);by_cases z:0 < (ns.length:Int)
 . obtain⟨x,xm,ex⟩:=Nv (xs:=ns.map PV.int) (c:=0 % (ns.length:Int)) (WV _ (by omega)) (by rw[TZ];exact Wh _ z);obtain⟨i,_,rfl⟩:=UP.mp xm;have ix:ay (.ref 0) (.int (0 % (ns.length:Int))) [oS ns]= .ok (.int i) [oS ns]:=by rw[qr];show NX _ _ (some (.kD _))=_;rw[Qr,ex];rfl
   refine⟨((i+1009*(0 / (ns.length:Int)))*(if decide (1000000000000000000<=i+1009*(0 / (ns.length:Int)))=true then 1 else 0),i+1009*(0 / (ns.length:Int)),0),?_⟩;rw[run_eq T.o8 rfl];simp? [fU,jQ,ln,z,ix,mh,wk,rV,mB,t18];exact bR rfl
 . refine⟨(0,0,0),?_⟩;rw[run_eq T.o8 rfl];simp? [fU,jQ,ln,z,mh,wk,rV,mB,t18];exact bR rfl
end
theorem Ia{v:Int}(h0:0<=v)(h1:v < 5): ∃ o:Bo,dC [PV.str "add",.str "sub",.str "mul",.str "less",.str "same"] v=some (.str o.w):=by
 have:v=0\/v=1\/v=2\/v=3\/v=4:=by omega
 rcases this with rfl | rfl | rfl | rfl | rfl
 . exact⟨.add,rfl⟩
 . exact⟨.sub,rfl⟩
 . exact⟨.mul,rfl⟩
 . exact⟨.less,rfl⟩
 . exact⟨.same,rfl⟩
theorem HU{v:Int}(h0:0<=v)(h1:v < 7): ∃ n:Int,0<=n/\n<=999/\dC [PV.int 0,.int 1,.int 2,.int 3,.int 7,.int 500,.int 999] v=some (.int n):=by
 have:v=0\/v=1\/v=2\/v=3\/v=4\/v=5\/v=6:=by omega
 rcases this with rfl | rfl | rfl | rfl | rfl | rfl | rfl<;>exact⟨_,by decide,by decide,rfl⟩
noncomputable def Sm.OG(P:Str->Prop):Sm->Prop
 | .num _=>True
 | .of x=>P x
 | .un e=>e.OG P
 | .bin _ a b=>a.OG P/\b.OG P
section
variable{pg:Tb}(T:cj pg)
include T
theorem wm(j:Nat)(fr:PO){np:Nat}{ps:List Str}(p0:0 < ps.length)(p9:ps.length<=1000): ∀(d:Nat)(q:Int × Int × Int)(g:PH),g[np]?=some (.lst (ps.map PV.str)) ->
  ∃(e:Sm)(q':Int × Int × Int),e.ok/\e.dp<=d+1/\e.OG (· ∈ps)/\run pg (j+d+2) "_law_sum" [.ref 1,.ref (np+1+1),.int d] (fr::bg q::g)= .ok (gP e) (fr::bg q'::g):=by
 have num: ∀(k:Nat)(d:Int)(q:Int × Int × Int)(g:PH)(w:Int),d=0\/w < 2-> ∃(e:Sm)(q':Int × Int × Int)(G:PH),e.ok/\e.dp=1/\e.OG (· ∈ps)/\ ∀ rest:MS,∀ u:Option PV,
   ag (bU (IA (mQ (aa 2) (eI 0)) (aE (aj Ck (aa 3) (eI 2)))) (ax (au (ab (eS "num") (ab (aj ay (bG (ab (eI 0) (ab (eI 1) (ab (eI 2) (ab (eI 3) (a3 (eI 7) (eI 500) (eI 999))))))) (ae "_law_take" (a2 (aa 0) (eI 7)))) ah)))) cz) rest (run pg (k+1)) [some (.ref 1),some (.ref (np+1+1)),some (.int d),some (.int w),u] (fr::bg q::g)= .ok (.rt (gP e)) (fr::bg q'::(g++G)):=λk d q g w hw=>by
  obtain⟨a,q',a0,a1,ea⟩:=cy T k fr q 7 (by decide) (by decide);obtain⟨n,n0,n1,en⟩:=HU a0 a1;refine⟨.num n,q',[.lst [.int 0,.int 1,.int 2,.int 3,.int 7,.int 500,.int 999]],⟨n0,n1⟩,rfl,trivial,λrest u=>?_⟩;by_cases z:d=0
  . simp? [z,ea,en,gP]
  . have z2:w < 2:=hw.resolve_left z;simp? [z,z2,ea,en,gP]
 intro d
 induction d with
 | zero =>
  intro q g hp
  obtain⟨w,q1,w0,w1,ew⟩:=cy T j fr q 8 (by decide) (by decide)
  obtain⟨e,q',G,h1,h2,h3,h4⟩:=num j (((0:Nat):Int)) q1 g w (.inl rfl)
  refine⟨e,q',h1,by omega,h3,?_⟩
  rw[Nat.add_zero,run_eq T.fR rfl]
  simp? [cI,d9,ew,↓h4,dF (eY e)]
 | succ d ih =>
  intro q g hp
  have dd:((d+1:Nat):Int) - 1=(d:Int):=by omega
  have dn: ¬ ((d+1:Nat):Int)=0:=by omega
  have hlt:=aG hp
  obtain⟨w,q1,w0,w1,ew⟩:=cy T (j+d+1) fr q 8 (by decide) (by decide)
  rw[show j+(d+1)+2=(j+d+2)+1 by omega]
  by_cases c1:w < 2
  . obtain⟨e,q',G,h1,h2,h3,h4⟩:=num (j+d+1) ((d+1:Nat):Int) q1 g w (.inr c1);refine⟨e,q',h1,by omega,h3,?_⟩;rw[run_eq T.fR rfl];simp? [cI,d9,ew,↓h4,dF (eY e)]
  . by_cases c2:w < 5
    . obtain⟨a,q2,a0,a1,ea⟩:=cy T (j+d+1) fr q1 ps.length (by omega) (by omega);obtain⟨x,hx,ex⟩:=l6 a0 a1;refine⟨.of x,q2,trivial,by simp[Sm.dp],hx,?_⟩;rw[run_eq T.fR rfl];simp? [cI,d9,ew,dn,c1,c2,hp,ea,ex,gP,TZ];exact lF (v:=gP (.of x))
    . by_cases c3:w=5
      . obtain⟨e,q2,h1,h2,h3,h4⟩:=ih q1 g hp;refine⟨.un e,q2,h1,by unfold Sm.dp;omega,h3,?_⟩;subst c3;rw[run_eq T.fR rfl];simp? [cI,d9,ew,dn,dd,h4];exact lF (v:=gP (.un e))
      . let W:PH:=[.lst [.str "add",.str "sub",.str "mul",.str "less",.str "same"]]
        obtain⟨a,q2,a0,a1,ea⟩:=cy T (j+d+1) fr q1 5 (by decide) (by decide);obtain⟨o,eo⟩:=Ia a0 a1;have hp':(g++W)[np]?=some (.lst (ps.map PV.str)):=by rw[aD hlt];exact hp
        obtain⟨e,q3,h1,h2,h3,h4⟩:=ih q2 (g++W) hp';obtain⟨f,q4,i1,i2,i3,i4⟩:=ih q3 (g++W) hp';refine⟨.bin o e f,q4,⟨h1,i1⟩,by unfold Sm.dp;omega,⟨h3,i3⟩,?_⟩;rw[run_eq T.fR rfl];simp only[W] at h4 i4;simp? [cI,d9,ew,dn,dd,c1,c2,c3,ea,eo,h4,i4];exact dF (v:=gP (.bin o e f)) (eY _)
end
noncomputable def ub(x:Str):Bool:=decide (x.cps.size<=20)&&x.cps.toList.all λc=>decide (c < 16 ^ 8)
mutual
def Es:PV->Bool
 | .non=>true
 | .int i=>decide (0<=i/\i<=1000000)
 | .str x=>ub x
 | .tup xs=>jT xs
 | _=>false
def jT:List PV->Bool
 | []=>true
 | x::r=>Es x&&jT r
end
mutual
def LN:PV->Nat
 | .str x=>x.cps.size
 | .tup xs=>Ez xs
 | _=>0
def Ez:List PV->Nat
 | []=>0
 | x::r=>LN x+1+Ez r
end
mutual
def Lw:PV->Nat
 | .tup xs=>qJ xs+1
 | _=>0
def qJ:List PV->Nat
 | []=>0
 | x::r=>max (Lw x) (qJ r)
end
theorem uF{i:Int}(h0:0<=i)(h9:i<=1000000):(Yx i).shown.length<=13:=PyData.shown_int_le (by omega)
theorem Az{i:Int}(h0:0<=i)(h9:i<=1000000):i.natAbs.log2 < 1920:=by
 by_cases z:i.natAbs=0
 . rw[z];decide
 . rw[Nat.log2_lt z];exact Up (show i.natAbs < 2 ^ 20 by omega) (Nat.pow_le_pow_right (by decide) (by decide))
mutual
theorem Es.d: ∀(v:PV),Es v=true-> ∃ d:V1,(∀ sub,ir sub v=some d)/\d.showable=true/\d.hasDict=false/\d.depth=Lw v/\d.bulk=LN v/\Wi 13 d=true
 | .non,_=>⟨.none,λ_=>rfl,rfl,rfl,rfl,rfl,rfl⟩
 | .int i,h=>by
  rw[Es,decide_eq_true_eq] at h;exact⟨.int i,λ_=>rfl,by rw[Yb,decide_eq_true_eq];exact Az h.1 h.2,rfl,rfl,rfl,by rw[Wi,decide_eq_true_eq];exact uF h.1 h.2⟩
 | .str x,h=>by
  rw[Es,ub,Ut] at h;exact⟨.str x,λ_=>rfl,rfl,rfl,rfl,rfl,by rw[Wi];exact h.2⟩
 | .tup xs,h=>by
  rw[Es] at h;obtain⟨ds,e,h1,h2,h3,h4,h5⟩:=jT.d xs h;exact⟨.tuple ds,λsub=>by rw[ir,e];rfl,by rw[Yb];exact h1,by rw[Z5];exact h2,by rw[Yk,h3,Lw],by rw[abh,h4,LN],by rw[Wi];exact h5⟩
theorem jT.d: ∀(xs:List PV),jT xs=true-> ∃ ds:List V1,(∀ sub,bK sub xs=some ds)/\Yy ds=true/\YO ds=false/\Vt ds=qJ xs/\Z6 ds=Ez xs/\XH 13 ds=true
 | [],_=>⟨[],λ_=>rfl,rfl,rfl,rfl,rfl,rfl⟩
 | x::r,h=>by
  rw[jT,Ut] at h;obtain⟨d,e,h1,h2,h3,h4,h5⟩:=Es.d x h.1;obtain⟨ds,e',i1,i2,i3,i4,i5⟩:=jT.d r h.2;exact ⟨d::ds,λsub=>by rw [bK,e,e'],by rw [Yy,h1,i1];rfl,by rw [YO,h2,i2];rfl,by rw [Vt,h3,i3,qJ],by rw [Z6,h4,i4,Ez],by rw [XH,h5,i5];rfl⟩
end
theorem yz {ys : List PV} {ds : List V1} (h1 : Yy ds = true) (h2 : YO ds = false) (h3 : Vt ds <= 60) (h4 : Z6 ds <= 1000000) (h5 : XH 13 ds = true) : Ai (.tuple ds) /\ Ai (.list ds) :=
  ⟨⟨by rw [Yb]; exact h1, by rw [Z5]; exact h2, by rw [Yk]; omega, ZA (B := 13) (by decide) (by decide) (by rw [Wi]; exact h5) (by rw [abh]; omega)⟩,
   ⟨by rw [Yb]; exact h1, by rw [Z5]; exact h2, by rw [Yk]; omega, ZA (B := 13) (by decide) (by decide) (by rw [Wi]; exact h5) (by rw [abh]; omega)⟩⟩
theorem HG {ys:List PV} (h:jT ys=true) (hd:qJ ys<=60) (hb:Ez ys<=1000000): ∃ x:Str,∀ g,bS [.tup ys] g= .ok (.str x) g:=by
 obtain ⟨ds,e,h1,h2,h3,h4,h5⟩:=jT.d ys h;refine ⟨(Yl ds).shown,λg=>?_⟩;have e2:dat 6 g (.tup ys)=some (.tuple ds):=by unfold dat;rw[ir,e];rfl
 unfold bS;simp only[e2];exact if_pos (yz (ys:=ys) h1 h2 (by omega) (by omega) h5).1
theorem JK{ys:List PV}(h:jT ys=true)(hd:qJ ys<=60)(hb:Ez ys<=1000000): ∃ x:Str,∀(g:PH)(n:Nat),g[n]?=some (.lst ys)->bS [.ref n] g= .ok (.str x) g:=by
 obtain⟨ds,e,h1,h2,h3,h4,h5⟩:=jT.d ys h;refine⟨(WK ds).shown,λg n en=>?_⟩;have e2:dat 6 g (.ref n)=some (.list ds):=by unfold dat;simp only[ir,en,e,V4]
 unfold bS;simp only[e2];exact if_pos (yz (ys:=ys) h1 h2 (by omega) (by omega) h5).2
theorem nZ{x:Str}(h:ub x=true):x.cps.size<=20:=by rw[ub,Ut,decide_eq_true_eq] at h;exact h.1
theorem pI{f:Nat->Option V1}: ∀ ss:List Str,bK f (ss.map PV.str)=some (ss.map W5)
 | []=>rfl
 | x::r=>by rw[T9,bK,pI r];rfl
theorem vf{h:PH}{n k:Nat}{ss:List Str}(e:h[n]?=some (.lst (ss.map PV.str))):dat (k+1) h (.ref n)=some (.list (ss.map W5)):=by
 unfold dat;simp only[ir,e,pI,V4]
theorem ne_nil{h:PH}{n m:Nat}{ss:List Str}(e1:h[n]?=some (.lst (ss.map PV.str)))(e2:h[m]?=some (.lst []))(ok: ∀ x∈ss,V9 x=true):gu (.ref n) (.ref m) h= .ok (.bl (!decide (ss=[]))) h:=by
 have d1:=vf (k:=5) e1;have d2:=vf (k:=5) (ss:=[]) (n:=m) e2;have sc:iI (.ref n) (.ref m)=false:=rfl;have dp: ∀ xs:List Str,W6 (.list (xs.map W5))=xs.all V9:=λxs=>by
  rw[W6,PyProof.Rows.canLayAll_strs']
 have al:alike (.ref n) (.ref m) h=some (decide (ss=[])):=by
  unfold alike;rw[sc,d1,d2];have c1:(WK (ss.map W5)).canLay0=true:=by rw[dp];exact XO.mpr ok
  have c2:(WK (([]:List Str).map W5)).canLay0=true:=by rw[dp];rfl
  have c3:min (WK (ss.map W5)).depth (WK (([]:List Str).map W5)).depth<=64:=UM (XN _ _) (by decide);simp only[VG,if_false,c1,c2,c3,and_self,if_true];cases ss with
  | nil=>rfl
  | cons x r=>rfl
 have nd:fG h (.ref n)=false:=by simp only[fG,e1]
 unfold gu;rw[al,nd];rfl
theorem eJ{n:Nat}{xs:List PV}{h:PH}(e:h[n]?=some (.lst xs)):k4.j8 ⟨some n,xs⟩ h=true:=by
 unfold k4.j8;simp only[e,true_or,decide_true]
noncomputable def Aj(s:List Str):Prop:=s.length<=20/\ ∀ x∈s,ub x=true/\V9 x=true
noncomputable def tF(s0 s1 s2 s3:List Str)(x:Str):Prop:=x= "clock" \/x= "lot" \/(s0≠[]/\(x= "get" \/x= "put"))\/(s1≠[]/\(x= "take" \/x= "free"))\/(s2≠[]/\(x= "send" \/x= "fetch"))\/(s3≠[]/\(x= "say" \/x= "hear"))
structure AU(J:PH)(nn:Nat)(s0 s1 s2 s3:List Str):Prop where
 at_: ∃ b0 b1 b2 b3:Nat,J[nn]?=some (.lst [.ref (b0+1+1),.ref (b1+1+1),.ref (b2+1+1),.ref (b3+1+1)])/\J[b0]?=some (.lst (s0.map PV.str))/\J[b1]?=some (.lst (s1.map PV.str))/\J[b2]?=some (.lst (s2.map PV.str))/\J[b3]?=some (.lst (s3.map PV.str))
 ok:Aj s0/\Aj s1/\Aj s2/\Aj s3
theorem AU.app{J g:PH}{nn:Nat}{s0 s1 s2 s3:List Str}(h:AU J nn s0 s1 s2 s3):AU (J++g) nn s0 s1 s2 s3:=by
 obtain⟨b0,b1,b2,b3,e,e0,e1,e2,e3⟩:=h.at_;exact⟨⟨b0,b1,b2,b3,(aD (aG e)).trans e,(aD (aG e0)).trans e0,(aD (aG e1)).trans e1,(aD (aG e2)).trans e2,(aD (aG e3)).trans e3⟩,h.ok⟩
noncomputable def Rw.th:Rw->Option (Nat × Str)
 | .get _ b=>some (0,b) | .put b _=>some (0,b) | .take l=>some (1,l) | .free l=>some (1,l)
 | .send l _=>some (2,l) | .fetch _ l=>some (2,l) | .say d _=>some (3,d)
 | _=>none
noncomputable def LV(s0 s1 s2 s3:List Str):Nat->List Str
 | 0=>s0 | 1=>s1 | 2=>s2 | _=>s3
noncomputable def zR (s0 s1 s2 s3:List Str) (r:Rw):Prop:= ∀ k t,r.th=some (k,t)->t∈LV s0 s1 s2 s3 k
noncomputable def BM:List (Key × PV):=[(.inr "get",.int 0),(.inr "put",.int 0),(.inr "take",.int 1),(.inr "free",.int 1),(.inr "send",.int 2),(.inr "fetch",.int 2),(.inr "say",.int 3),(.inr "hear",.int 3)]
theorem Dp:cq [] BM=BM:=by decide +kernel
theorem vK (a:Str) (h:PH):ja (.str a) (.tup [.str "clock",.str "lot"]) h= .ok (.bl (decide (a∈(["clock", "lot"]:List Str)))) h:=wq (ss:=["clock", "lot"])
theorem BN (a:Str) (h:PH):ja (.str a) (.tup [.str "get",.str "fetch",.str "hear"]) h= .ok (.bl (decide (a∈(["get", "fetch", "hear"]:List Str)))) h:=wq (ss:=["get", "fetch", "hear"])
theorem IK (a:Str) (h:PH):ja (.str a) (.tup [.str "take",.str "free"]) h= .ok (.bl (decide (a∈(["take", "free"]:List Str)))) h:=wq (ss:=["take", "free"])
noncomputable def DY (r:Rw) (i:Nat) (t:Str):Prop:= ∀ k u,r.th=some (k,u)->k=i∧u=t
noncomputable def RowC (x:Str) (i:Nat):Prop:=(x∈(["get", "fetch", "hear"]:List Str)∧ ∀ y t:Str,∃ r:Rw,r.w=x∧r.ps=[.str y,.str t]∧(∀ L n,y∈L->eW L n r)∧DY r i t) ∨
 (¬ x∈(["get", "fetch", "hear"]:List Str)∧x∈(["take", "free"]:List Str)∧ ∀ t:Str,∃ r:Rw,r.w=x∧r.ps=[.str t]∧(∀ L n,eW L n r)∧DY r i t) ∨
 (¬ x∈(["get", "fetch", "hear"]:List Str)∧ ¬ x∈(["take", "free"]:List Str)∧ ∀ (t:Str) (e:Sm),∃ r:Rw,r.w=x∧r.ps=[.str t,gP e]∧(∀ L n,jG e->eW L n r)∧DY r i t)
theorem pU {r:Rw} {i:Nat} {t:Str} (e:r.th=some (i,t)):DY r i t:=λk u h=>by rw [e] at h;cases h;exact ⟨rfl,rfl⟩
theorem ES:RowC "get" 0:= .inl ⟨by decide +kernel,λy t=>⟨.get y t,rfl,rfl,λ_ _ h=>h,pU rfl⟩⟩
theorem Hs:RowC "put" 0:= .inr (.inr ⟨by decide +kernel,by decide +kernel,λt e=>⟨.put t e,rfl,rfl,λ_ _ h=>h,pU rfl⟩⟩)
theorem Dm:RowC "take" 1:= .inr (.inl ⟨by decide +kernel,by decide +kernel,λt=>⟨.take t,rfl,rfl,λ_ _=>trivial,pU rfl⟩⟩)
theorem CQ:RowC "free" 1:= .inr (.inl ⟨by decide +kernel,by decide +kernel,λt=>⟨.free t,rfl,rfl,λ_ _=>trivial,pU rfl⟩⟩)
theorem Cy:RowC "send" 2:= .inr (.inr ⟨by decide +kernel,by decide +kernel,λt e=>⟨.send t e,rfl,rfl,λ_ _ h=>h,pU rfl⟩⟩)
theorem Ah:RowC "fetch" 2:= .inl ⟨by decide +kernel,λy t=>⟨.fetch y t,rfl,rfl,λ_ _ h=>h,pU rfl⟩⟩
theorem GU:RowC "say" 3:= .inr (.inr ⟨by decide +kernel,by decide +kernel,λt e=>⟨.say t e,rfl,rfl,λ_ _ h=>h,pU rfl⟩⟩)
theorem DK:RowC "hear" 3:= .inl ⟨by decide +kernel,λy t=>⟨.hear y t,rfl,rfl,λ_ _ h=>h,λk u h=>nomatch h⟩⟩
theorem F0 {J:PH} {nn:Nat} {s0 s1 s2 s3:List Str} (N:AU J nn s0 s1 s2 s3) {x:Str} (h:tF s0 s1 s2 s3 x):x= "clock" ∨x= "lot" ∨
  ∃ (i:Nat) (b:Nat) (s:List Str) (rf:List PV),cv BM (.inr x)=some (.int i)∧ ¬ x∈(["clock", "lot"]:List Str)∧J[nn]?=some (.lst rf)∧dC rf i=some (.ref (b+1+1))∧J[b]?=some (.lst (s.map PV.str))∧s≠[]∧Aj s∧RowC x i∧s=LV s0 s1 s2 s3 i:=by
 obtain ⟨b0,b1,b2,b3,e,e0,e1,e2,e3⟩:=N.at_;obtain ⟨o0,o1,o2,o3⟩:=N.ok;rcases h with h | h | ⟨z,h⟩ | ⟨z,h⟩ | ⟨z,h⟩ | ⟨z,h⟩
 . exact .inl h
 . exact .inr (.inl h)
 . rcases h with rfl | rfl
   . exact .inr (.inr ⟨0,b0,s0,_,by decide +kernel,by decide +kernel,e,o7,e0,z,o0,ES,rfl⟩)
   . exact .inr (.inr ⟨0,b0,s0,_,by decide +kernel,by decide +kernel,e,o7,e0,z,o0,Hs,rfl⟩)
 . rcases h with rfl | rfl
   . exact .inr (.inr ⟨1,b1,s1,_,by decide +kernel,by decide +kernel,e,ud,e1,z,o1,Dm,rfl⟩)
   . exact .inr (.inr ⟨1,b1,s1,_,by decide +kernel,by decide +kernel,e,ud,e1,z,o1,CQ,rfl⟩)
 . rcases h with rfl | rfl
   . exact .inr (.inr ⟨2,b2,s2,_,by decide +kernel,by decide +kernel,e,xE,e2,z,o2,Cy,rfl⟩)
   . exact .inr (.inr ⟨2,b2,s2,_,by decide +kernel,by decide +kernel,e,xE,e2,z,o2,Ah,rfl⟩)
 . rcases h with rfl | rfl
   . exact .inr (.inr ⟨3,b3,s3,_,by decide +kernel,by decide +kernel,e,BC,e3,z,o3,GU,rfl⟩)
   . exact .inr (.inr ⟨3,b3,s3,_,by decide +kernel,by decide +kernel,e,BC,e3,z,o3,DK,rfl⟩)
theorem EX{c:Int}(c0:0<=c)(c1:c < 4): ∃ n:Int,2<=n/\n<=1000/\dC [PV.int 2,.int 3,.int 7,.int 1000] c=some (.int n):=by
 rcases(show c=0\/c=1\/c=2\/c=3 by omega) with rfl | rfl | rfl | rfl<;>exact⟨_,by decide,by decide,rfl⟩
section
variable{pg:Tb}(T:cj pg)
include T
theorem FP(j:Nat)(fr:PO){nn np nk:Nat}{ps ks s0 s1 s2 s3 L:List Str}(p0:0 < ps.length)(p9:ps.length<=1000)(hL: ∀ x∈ps,x∈L)(k0:0 < ks.length)(k9:ks.length<=1000)(hK: ∀ x∈ks,tF s0 s1 s2 s3 x)(q:Int × Int × Int){J:PH}(N:AU J nn s0 s1 s2 s3)(ep:J[np]?=some (.lst (ps.map PV.str)))(ek:J[nk]?=some (.lst (ks.map PV.str))) :
  ∃(r:Rw)(q':Int × Int × Int),(∀ n,eW L n r)/\zR s0 s1 s2 s3 r/\run pg (j+5) "_law_touch_row" [.ref 1,.ref (nn+1+1),.ref (np+1+1),.ref (nk+1+1)] (fr::bg q::J)= .ok (bh r) (fr::bg q'::J):=by
 obtain⟨a,q1,a0,a1,ea⟩:=cy T (j+3) fr q ks.length (by omega) (by omega);obtain⟨x,hx,ex⟩:=l6 a0 a1;obtain⟨b,q2,b0,b1,eb⟩:=cy T (j+3) fr q1 ps.length (by omega) (by omega);obtain⟨y,hy,ey⟩:=l6 b0 b1;have yL:=hL y hy;rcases F0 N (hK x hx) with rfl | rfl | ⟨i,bb,s,rf,v1,v2,v3,v4,v5,v6,v7,cl,sv⟩
 . refine ⟨.clock y,q2,λ_=>yL,(λ_ _ h=>nomatch h),?_⟩;have m1:(Ul "clock")∈(["clock", "lot"]:List Str):=by decide +kernel
   rw [run_eq T.cm rfl];simp? [aV,bO,ek,ep,TZ,ea,ex,eb,ey,vK,m1,bh,Rw.w,Rw.ps];exact lF
 . obtain ⟨c,q3,c0,c1,ec⟩:=cy T (j+3) fr q2 4 (by decide) (by decide);obtain ⟨n,n0,n9,en⟩:=EX c0 c1;refine ⟨.lot y n,q3,λ_=>⟨yL,n0,n9⟩,(λ_ _ h=>nomatch h),?_⟩;have m1:(Ul "lot")∈(["clock", "lot"]:List Str):=by decide +kernel
   rw [run_eq T.cm rfl];simp? [aV,bO,ek,ep,TZ,ea,ex,eb,ey,vK,m1,ec,en,bh,Rw.w,Rw.ps];exact dF rfl
 . have sp:0 < s.length:=aaj.mpr v6;have sl:=v7.1;obtain⟨c,q3,c0,c1,ec⟩:=cy T (j+3) fr q2 s.length (by omega) (by omega);obtain⟨t,ht,et⟩:=l6 c0 c1;have rin: ∀{r:Rw},DY r i t->zR s0 s1 s2 s3 r:=λh k u e=>by obtain⟨rfl,rfl⟩:=h k u e;rw[<- sv];exact ht
   have old: ∀{n:Nat}{o:PO}(g:PH),J[n]?=some o->(J++g)[n]?=some o:=λg e=>(aD (aG e)).trans e;have dk:NZ (J.length+1+1) [((.inr "get" :Key),PV.int 0),(.inr "put",.int 0),(.inr "take",.int 1),(.inr "free",.int 1),(.inr "send",.int 2),(.inr "fetch",.int 2),(.inr "say",.int 3),(.inr "hear",.int 3)] (fr::bg q2::(J++[.dct []]))= .ok (.ref (J.length+1+1)) (fr::bg q2::(J++[.dct BM])):=by
    have:=zd (h:=fr::bg q2::J) (kvs:=BM) (by simp[BM]);rw[Dp] at this;exact this
   have w3:=old [.dct BM] v3;have w5:=old [.dct BM] v5;rcases cl with⟨g1,g2⟩ | ⟨g1,g2,g3⟩ | ⟨g1,g2,g3⟩
   . obtain⟨r,r1,r2,r3,r4⟩:=g2 y t;have rv:bh r= .tup [.str x,.str y,.str t]:=by unfold bh;rw[r1,r2]
     refine⟨r,q3,λn=>r3 L n yL,rin r4,?_⟩;rw[rv,run_eq T.cm rfl];simp? [aV,bO,ek,ep,TZ,ea,ex,eb,ey,vK,v2,kO,ou,kn,oA,oy,pJ,dk,v1,w3,v4,w5,ec,et,BN,g1];exact dF rfl
   . obtain⟨r,r1,r2,r3,r4⟩:=g3 t;have rv:bh r= .tup [.str x,.str t]:=by unfold bh;rw[r1,r2]
     refine⟨r,q3,λn=>r3 L n,rin r4,?_⟩;rw[rv,run_eq T.cm rfl];simp? [aV,bO,ek,ep,TZ,ea,ex,eb,ey,vK,v2,kO,ou,kn,oA,oy,pJ,dk,v1,w3,v4,w5,ec,et,BN,g1,IK,g2];exact dF rfl
   . obtain⟨e,q4,h1,h2,h3,h4⟩:=wm T j fr p0 p9 2 q3 (J++[.dct BM]) (old [.dct BM] ep);have hs:jG e:=⟨h1,by omega⟩
     obtain⟨r,r1,r2,r3,r4⟩:=g3 t e;have rv:bh r= .tup [.str x,.str t,gP e]:=by unfold bh;rw[r1,r2]
     refine⟨r,q4,λn=>r3 L n hs,rin r4,?_⟩;have h4':run pg (j+4) "_law_sum" [.ref 1,.ref (np+1+1),.int 2] (fr::bg q3::(J++[.dct BM]))=_:=h4;rw[rv,run_eq T.cm rfl];simp? [aV,bO,ek,ep,TZ,ea,ex,eb,ey,vK,v2,kO,ou,kn,oA,oy,pJ,dk,v1,w3,v4,w5,ec,et,BN,g1,IK,g2,h4'];exact dF (v:= .tup [.str x,.str t,gP e]) (by simp[PV.flat,PV.bC,eY])
end
structure KE(H:PH)(nd:Nat)(e:PV × List Str × List Str):Prop where
 at_: ∃(i:Int)(q b:Nat)(rf:List PV),e.1= .tup [.int i,.ref q]/\H[nd]?=some (.lst rf)/\dC rf i=some (.ref b)/\H[b]?=some (.lst (e.2.2.map PV.str))/\H[q]?=some (.lst (e.2.1.map PV.str))
 ok: ∀ x∈e.2.2,V9 x=true
 le:e.2.1.length<=4
theorem KE.app{H g:PH}{nd:Nat}{e:PV × List Str × List Str}(h:KE H nd e):KE (H++g) nd e:=by
 obtain⟨i,q,b,rf,h1,h2,h3,h4,h5⟩:=h.at_;exact⟨⟨i,q,b,rf,h1,(aD (aG h2)).trans h2,h3,(aD (aG h4)).trans h4,(aD (aG h5)).trans h5⟩,h.ok,h.le⟩
noncomputable def kG:MG:=(gT 2 (aW (gN 4) (aW (gN 5) gq)))
noncomputable def kB:MS:=(bU (aE (aj gu (aj ay (aa 1) (aa 4)) (bG ah))) (ak (aj aY (aj aY (aa 3) (aa 5)) (aa 5)) (gN 3)) cz)
theorem Qt(c:CF){H:PH}{nd cc:Nat}{ks:List Str}{e:PV × List Str × List Str}(E:KE H nd e)(e4:H[cc]?=some (.lst (ks.map PV.str)))(hl:ks.length<=900)(a0 a2 u4 u5 n6 n7 n8 n9:Option PV) :
  ∃(g':PH)(c':Nat)(ks':List Str)(v4 v5:Option PV),(H++g')[c']?=some (.lst (ks'.map PV.str))/\cc<=c'/\ks.length<=ks'.length/\ks'.length<=ks.length+10/\(∀ x∈ks',x∈ks\/(e.2.2≠[]/\x∈e.2.1)) /\
   bM kG kB c e.1 [a0,some (.ref nd),a2,some (.ref cc),u4,u5,n6,n7,n8,n9] H= .ok (.nx [a0,some (.ref nd),a2,some (.ref c'),v4,v5,n6,n7,n8,n9]) (H++g'):=by
 obtain⟨i,q,b,rf,h1,e1,e2,e3,e5⟩:=E.at_;obtain⟨it,qs,ss⟩:=e;simp only at h1 e3 e5 ⊢;subst h1;have hq:qs.length<=4:=E.le;have l3:=aG e3;have l4:=aG e4;have l5:=aG e5;have ne:=ne_nil (h:=H++[.lst []]) (n:=b) (m:=H.length) (ss:=ss) (by rw[aD l3];exact e3) bA E.ok;by_cases z:ss=[]
 . refine⟨[.lst []],cc,ks,some (.int i),some (.ref q),by rw[aD l4];exact e4,Ua _,Ua _,by omega,λx m=> .inl m,?_⟩;simp? [kG,kB,e1,e2,ne,z]
 . have ad1:=nI (h:=H++[.lst []]) (n:=cc) (m:=q) (by rw[aD l4];exact e4) (by rw[aD l5];exact e5) (by rw[TZ,TZ];omega);have ad2:aY (.ref (H.length+(0+1))) (.ref q) (H++[.lst [],.lst (ks.map PV.str++qs.map PV.str)])= .ok (.ref (H.length+(0+1+1))) (H++[.lst [],.lst (ks.map PV.str++qs.map PV.str),.lst (ks.map PV.str++qs.map PV.str++qs.map PV.str)]):=by
    have:=nI (h:=H++[.lst [],.lst (ks.map PV.str++qs.map PV.str)]) (n:=H.length+(0+1)) (m:=q) (xs:=ks.map PV.str++qs.map PV.str) (ys:=qs.map PV.str) (by rw[bw];rfl) (by rw[aD l5];exact e5) (by rw[Ur,TZ,TZ];omega);simpa using this
   refine⟨[.lst [],.lst (ks.map PV.str++qs.map PV.str),.lst (ks.map PV.str++qs.map PV.str++qs.map PV.str)],H.length+(0+1+1),ks++qs++qs,some (.int i),some (.ref q),by rw[bw,U3,U3];rfl,by omega,by simp only[Ur];omega,by simp only[Ur];omega,λx m=>?_,?_⟩
   . rcases Va.mp m with m | m
     . rcases Va.mp m with m | m
       . exact .inl m
       . exact .inr ⟨z,m⟩
     . exact .inr ⟨z,m⟩
   . simp? [kG,kB,e1,e2,ne,z,ad1,ad2]
theorem Q3(c:CF){nd n0:Nat}(xs0:List PV)(a0 a2 n6 n7 n8 n9:Option PV): ∀(es:List (PV × List Str × List Str))(H:PH)(cc:Nat)(ks:List Str)(u4 u5:Option PV),(∀ e∈es,KE H nd e)->H[cc]?=some (.lst (ks.map PV.str))->H[n0]?=some (.lst xs0)->ks.length+10*es.length<=900 ->
  ∃(g':PH)(c':Nat)(ks':List Str)(v4 v5:Option PV),(H++g')[c']?=some (.lst (ks'.map PV.str))/\cc<=c'/\ks.length<=ks'.length/\ks'.length<=ks.length+10*es.length/\(∀ x∈ks',x∈ks\/ ∃ e∈es,e.2.2≠[]/\x∈e.2.1) /\
   bT ⟨some n0,xs0⟩ (bM kG kB c) (es.map (·.1)) [a0,some (.ref nd),a2,some (.ref cc),u4,u5,n6,n7,n8,n9] H= .ok (.nx [a0,some (.ref nd),a2,some (.ref c'),v4,v5,n6,n7,n8,n9]) (H++g'):=by
 intro es
 induction es with
 | nil=>intro H cc ks u4 u5 _ e4 e0 _;exact⟨[],cc,ks,u4,u5,by rw[Vd];exact e4,Ua _,Ua _,by simp,λx m=> .inl m,by rw[Vd];exact EG (eJ e0)⟩
 | cons e es ih =>
  intro H cc ks u4 u5 hE e4 e0 hl
  rw[Ub] at hl
  obtain⟨g1,c1,k1,v4,v5,f1,f0,f2,f3,f4,f5⟩:=Qt c (hE e Uk) e4 (by omega) a0 a2 u4 u5 n6 n7 n8 n9
  obtain⟨g2,c2,k2,w4,w5,i1,i0,i2,i3,i4,i5⟩:=ih (H++g1) c1 k1 v4 v5 (λx m=>(hE x (Uo _ m)).app) f1 ((aD (aG e0)).trans e0) (by omega)
  refine⟨g1++g2,c2,k2,w4,w5,by rw[<- UA];exact i1,by omega,by omega,by rw[Ub];omega,λx m=>?_,?_⟩
  . rcases i4 x m with m | ⟨e',m',z⟩
    . rcases f4 x m with m | z
      . exact .inl m
      . exact .inr ⟨e,Uk,z⟩
    . exact .inr ⟨e',Uo _ m',z⟩
  . rw[T9,GO (eJ e0),f5,eN,dc,i5,UA]
theorem F3{a b c:Int}(a0:0<=a)(a1:a < 4)(b0:0<=b)(b1:b < 8)(c0:c=0\/c=1): ∃ m:Int,0<=m/\m<=10/\dC [PV.int a,.int (3+b)] c=some (.int m):=by
 rcases c0 with rfl | rfl
 . exact⟨a,a0,by omega,o7⟩
 . exact⟨3+b,by omega,by omega,ud⟩
noncomputable def N1:MS:=(ag (ak (ae "_law_take" (a2 (aa 0) (eI 8))) (gN 9)) (bU (mQ (aa 9) (eI 0)) (cJ (eM bj b6 (aa 7) (ab (au (ab (eS "let") (ab (aj ay (aa 2) (ae "_law_take" (ab (aa 0) (ab (eB cx (a1 (aa 2))) ah)))) (ab (ae "_law_sum" (a3 (aa 0) (aa 2) (eI 2))) ah)))) ah))) (bU (mQ (aa 9) (eI 1)) (cJ (eM bj b6 (aa 7) (ab (au (ab (eS "leap") (ab (ae "_law_take" (ab (aa 0) (ab (aj aY (aa 6) (eI 1)) ah))) (ab (ae "_law_sum" (a3 (aa 0) (aa 2) (eI 2))) ah)))) ah))) (cJ (eM bj b6 (aa 7) (ab (ae "_law_touch_row" (ab (aa 0) (a3 (aa 1) (aa 2) (aa 3)))) ah))))))
section
variable{pg:Tb}(T:cj pg)
include T
theorem AX(j:Nat)(fr:PO){nn np nk:Nat}{ps ks s0 s1 s2 s3 L:List Str}(p0:0 < ps.length)(p9:ps.length<=1000)(hL: ∀ x∈ps,x∈L)(k0:0 < ks.length)(k9:ks.length<=1000)(hK: ∀ x∈ks,tF s0 s1 s2 s3 x){J:PH}(N:AU J nn s0 s1 s2 s3)(ep:J[np]?=some (.lst (ps.map PV.str)))(ek:J[nk]?=some (.lst (ks.map PV.str))){m:Nat}(m9:m<=10)(xs0:List PV)(a4 a5:Option PV) :
  ∀(ai:List PV)(rs:List Rw)(q:Int × Int × Int)(a8 a9:Option PV),rs.length+ai.length<=1000 ->
  ∃(rs':List Rw)(q':Int × Int × Int)(b8 b9:Option PV),rs'.length=ai.length/\(∀ r∈rs',eW L m r/\zR s0 s1 s2 s3 r) /\
   bT ⟨none,xs0⟩ (bM (gN 8) N1 (run pg (j+5))) ai [some (.ref 1),some (.ref (nn+1+1)),some (.ref (np+1+1)),some (.ref (nk+1+1)),a4,a5,some (.int m),some (.ref (J.length+1+1)),a8,a9] (fr::bg q::(J++[.lst (rs.map bh)])) =
   .ok (.nx [some (.ref 1),some (.ref (nn+1+1)),some (.ref (np+1+1)),some (.ref (nk+1+1)),a4,a5,some (.int m),some (.ref (J.length+1+1)),b8,b9]) (fr::bg q'::(J++[.lst ((rs++rs').map bh)])):=by
 intro ai
 induction ai with
 | nil=>intro rs q a8 a9 _;exact⟨[],q,a8,a9,rfl,(λr m=>nomatch m),by rw[Vd];exact gJ⟩
 | cons x ai ih =>
  intro rs q a8 a9 hl
  rw[Ub] at hl
  obtain⟨w,q1,w0,w1,ew⟩:=cy T (j+4) fr q 8 (by decide) (by decide)
  have hz:(rs.map bh).length < 16777216:=by rw[TZ];omega
  have ep':(J++[PO.lst (rs.map bh)])[np]?=some (.lst (ps.map PV.str)):=by rw[aD (aG ep)];exact ep
  have ek':(J++[PO.lst (rs.map bh)])[nk]?=some (.lst (ks.map PV.str)):=by rw[aD (aG ek)];exact ek
  suffices st: ∃(r:Rw)(q2:Int × Int × Int)(u9:Option PV),(eW L m r/\zR s0 s1 s2 s3 r)/\bM (gN 8) N1 (run pg (j+5)) x [some (.ref 1),some (.ref (nn+1+1)),some (.ref (np+1+1)),some (.ref (nk+1+1)),a4,a5,some (.int m),some (.ref (J.length+1+1)),a8,a9] (fr::bg q::(J++[.lst (rs.map bh)]))= .ok (.nx [some (.ref 1),some (.ref (nn+1+1)),some (.ref (np+1+1)),some (.ref (nk+1+1)),a4,a5,some (.int m),some (.ref (J.length+1+1)),some x,u9]) (fr::bg q2::(J++[.lst (rs.map bh++[bh r])])) by
   obtain⟨r,q2,u9,hr,st⟩:=st;obtain⟨rs',q',b8,b9,i1,i2,i3⟩:=ih (rs++[r]) q2 (some x) u9 (by simp only[Ur,Ub,UE];omega);refine⟨r::rs',q',b8,b9,by rw[Ub,Ub,i1],λz m=>?_,?_⟩
   . rcases Ui.mp m with rfl | m
     . exact hr
     . exact i2 z m
   . rw[U3,T9,UN] at i3;rw[fI,st,eN,dc,i3,UA];rfl
  by_cases z0:w=0
  . subst z0;obtain⟨b,q2,b0,b1,eb⟩:=cy T (j+4) fr q1 ps.length (by omega) (by omega);obtain⟨y,hy,ey⟩:=l6 b0 b1;obtain⟨e,q3,h1,h2,h3,h4⟩:=wm T (j+1) fr p0 p9 2 q2 (J++[.lst (rs.map bh)]) ep';have h4':run pg (j+5) "_law_sum" [.ref 1,.ref (np+1+1),.int 2] (fr::bg q2::(J++[.lst (rs.map bh)]))=_:=h4;have hs:jG e:=⟨h1,by omega⟩
    refine⟨.let_ y e,q3,some (.int 0),⟨⟨hL y hy,hs⟩,(λ_ _ h=>nomatch h)⟩,?_⟩;simp? [N1,ew,ep',TZ,eb,ey,h4',oJ hz,bh,Rw.w,Rw.ps]
  by_cases z1:w=1
  . subst z1;obtain⟨b,q2,b0,b1,eb⟩:=cy T (j+4) fr q1 ((m:Int)+1) (by omega) (by omega);obtain⟨e,q3,h1,h2,h3,h4⟩:=wm T (j+1) fr p0 p9 2 q2 (J++[.lst (rs.map bh)]) ep';have h4':run pg (j+5) "_law_sum" [.ref 1,.ref (np+1+1),.int 2] (fr::bg q2::(J++[.lst (rs.map bh)]))=_:=h4;have hs:jG e:=⟨h1,by omega⟩
    refine⟨.leap b e,q3,some (.int 1),⟨⟨b0,by omega,hs⟩,(λ_ _ h=>nomatch h)⟩,?_⟩;simp? [N1,ew,eb,h4',oJ hz,bh,Rw.w,Rw.ps]
  . obtain⟨r,q2,h1,h2,h3⟩:=FP T j fr p0 p9 hL k0 k9 hK q1 N.app ep' ek';refine⟨r,q2,some (.int w),⟨h1 m,h2⟩,?_⟩;simp? [N1,ew,z0,z1,h3,oJ hz]
end
noncomputable def kF:MS:=(kZ (kj (bG (ab (au (ab (eI 0) (ab (bG (a2 (eS "get") (eS "put"))) ah))) (ab (au (ab (eI 1) (ab (bG (a2 (eS "take") (eS "free"))) ah))) (ab (au (ab (eI 2) (ab (bG (a2 (eS "send") (eS "fetch"))) ah))) (ab (au (ab (eI 3) (ab (bG (a2 (eS "say") (eS "hear"))) ah))) ah)))))) kG kB)
theorem N4(c:CF)(fr:PO)(q:Int × Int × Int){nn:Nat}{s0 s1 s2 s3:List Str}{J:PH}(N:AU J nn s0 s1 s2 s3)(a0 a2:Option PV) :
  ∃(g':PH)(nk:Nat)(ks:List Str)(v4 v5:Option PV),(J++g')[nk]?=some (.lst (ks.map PV.str))/\0 < ks.length/\ks.length<=1000/\(∀ x∈ks,tF s0 s1 s2 s3 x) /\
   kF c [a0,some (.ref (nn+1+1)),a2,some (.ref (J.length+1+1)),none,none,none,none,none,none] (fr::bg q::(J++[.lst [.str "clock",.str "lot"]]))= .ok (.nx [a0,some (.ref (nn+1+1)),a2,some (.ref (nk+1+1)),v4,v5,none,none,none,none]) (fr::bg q::(J++g')):=by
 obtain ⟨b0,b1,b2,b3,e,e0,e1,e2,e3⟩:=N.at_;obtain ⟨o0,o1,o2,o3⟩:=N.ok
 let m:=J.length
 let es:List (PV × List Str × List Str):=[(.tup [.int 0,.ref (m+(0+1)+1+1)],["get", "put"],s0),(.tup [.int 1,.ref (m+(0+1+1)+1+1)],["take", "free"],s1),(.tup [.int 2,.ref (m+(0+1+1+1)+1+1)],["send", "fetch"],s2),(.tup [.int 3,.ref (m+(0+1+1+1+1)+1+1)],["say", "hear"],s3)]
 let Y:PH:=[.lst [.str "clock",.str "lot"],.lst [.str "get",.str "put"],.lst [.str "take",.str "free"],.lst [.str "send",.str "fetch"],.lst [.str "say",.str "hear"],.lst (es.map (·.1))]
 have old: ∀ {n:Nat} {o:PO},J[n]?=some o->(fr::bg q::(J++Y))[n+1+1]?=some o:=λe=>by
  rw [Us,Us];exact (aD (aG e)).trans e
 have new: ∀(i:Nat),(fr::bg q::(J++Y))[m+i+1+1]?=Y[i]?:=λi=>by
  rw[Us,Us];exact bw
 have hE: ∀ x∈es,KE (fr::bg q::(J++Y)) (nn+1+1) x:=λx mx=>by
  simp only[es,Ui,UH,or_false] at mx;rcases mx with rfl | rfl | rfl | rfl
  . exact⟨⟨0,_,b0+1+1,_,rfl,old e,o7,old e0,by rw[new];rfl⟩,λx m=>(o0.2 x m).2,by simp⟩
  . exact ⟨⟨1,_,b1+1+1,_,rfl,old e,ud,old e1,by rw [new];rfl⟩,λx m=>(o1.2 x m).2,by simp⟩
  . exact ⟨⟨2,_,b2+1+1,_,rfl,old e,xE,old e2,by rw [new];rfl⟩,λx m=>(o2.2 x m).2,by simp⟩
  . exact ⟨⟨3,_,b3+1+1,_,rfl,old e,BC,old e3,by rw [new];rfl⟩,λx m=>(o3.2 x m).2,by simp⟩
 obtain ⟨g1,c1,ks,v4,v5,f1,f0,f2,f3,f4,f5⟩:=Q3 c (nd:=nn+1+1) (n0:=m+(0+1+1+1+1+1)+1+1) (es.map (·.1)) a0 a2 none none none none es (fr::bg q::(J++Y)) (m+1+1) ["clock", "lot"] none none hE (new 0) (by rw [new];rfl) (by simp [es])
 obtain ⟨nk,rfl⟩: ∃ nk,c1=nk+1+1:=⟨c1 - 2,by omega⟩
 refine ⟨Y++g1,nk,ks,v4,v5,?_,Up (by simp) f2,UM f3 (by simp [es]),λx mx=>?_,?_⟩
 . rw [Vm,Vm,Us,Us,UA] at f1;exact f1
 . rcases f4 x mx with mx | ⟨e',m',z,mx⟩
   . simp only[Ui,UH,or_false] at mx;rcases mx with h | h
     . exact .inl h
     . exact .inr (.inl h)
   . simp only[es,Ui,UH,or_false] at m';rcases m' with rfl | rfl | rfl | rfl<;>simp only[Ui,UH,or_false] at mx z
     . exact .inr (.inr (.inl ⟨z,mx⟩))
     . exact .inr (.inr (.inr (.inl ⟨z,mx⟩)))
     . exact .inr (.inr (.inr (.inr (.inl ⟨z,mx⟩))))
     . exact .inr (.inr (.inr (.inr (.inr ⟨z,mx⟩))))
 . simp only[es,T9,UN,Y,m,Vm,UA] at f5;simp? [kF,f5];rfl
section
variable{pg:Tb}(T:cj pg)
include T
theorem Gf(j:Nat)(fr:PO){nn np:Nat}{ps s0 s1 s2 s3 L:List Str}(p0:0 < ps.length)(p9:ps.length<=1000)(hL: ∀ x∈ps,x∈L)(q:Int × Int × Int){J:PH}(N:AU J nn s0 s1 s2 s3)(ep:J[np]?=some (.lst (ps.map PV.str))) :
  ∃(rs:List Rw)(q':Int × Int × Int),rs.length<=10/\(∀ r∈rs,eW L rs.length r/\zR s0 s1 s2 s3 r)/\run pg (j+6) "_law_rows" [.ref 1,.ref (nn+1+1),.ref (np+1+1)] (fr::bg q::J)= .ok (bH rs) (fr::bg q'::J):=by
 obtain⟨g1,nk,ks,v4,v5,f1,f2,f3,f4,f5⟩:=N4 (run pg (j+5)) fr q N (some (.ref 1)) (some (.ref (np+1+1)));obtain⟨a,q1,a0,a1,ea⟩:=cy T (j+4) fr q 4 (by decide) (by decide);obtain⟨b,q2,b0,b1,eb⟩:=cy T (j+4) fr q1 8 (by decide) (by decide);obtain⟨d,q3,d0,d1,ed⟩:=cy T (j+4) fr q2 6 (by decide) (by decide);obtain⟨mi,m0,m9,em⟩:=F3 a0 a1 b0 b1 (c:=if decide (0 < d)=true then 1 else 0) (by split<;>simp);obtain⟨m,rfl⟩:=Vp m0;have N':AU (J++(g1++[.lst [.int a,.int (3+b)]])) nn s0 s1 s2 s3:=N.app;obtain⟨rs,q4,b8,b9,h1,h2,h3⟩:=AX T j fr p0 p9 hL f2 f3 f4 N' (by rw[aD (aG ep)];exact ep) (by rw[<- UA,aD (aG f1)];exact f1) (m:=m) (by omega) (aw 0 m) v4 v5 (aw 0 m) [] q3 none none (by simp[aw];omega);have lr:(aw 0 m).length=m:=by unfold aw;simp
 rw[lr] at h1;refine⟨rs,q4,by omega,by rw[h1];exact h2,?_⟩;rw[UN,UL] at h3;have tn:XS (m:Int)=m:=Vc m;unfold kF kG kB at f5;unfold N1 at h3;simp only[Ur,Ub,UE,UA,Vm,UL] at h3;rw[run_eq T.uR rfl];simp? [gE,nq,↓f5,ea,eb,ed,em,mh,tn,h3];exact dF (v:=bH rs) (lM rs)
end
noncomputable def bF (h:Str × List Rw):PV:= .tup [.str h.1,bH h.2]
noncomputable def Ke:List Str:=["a", "ab", "putter", "b", "getx", "abc", "locked", "sayer", "c", "hands", "fetched", "abcdefgh"]
noncomputable def P8:List Str:=["boxes", "locks", "lanes", "doors", "d", "taken", "abcd", "lots"]
noncomputable def lQ:List Str:=Ke++P8
theorem D7: ∀ x∈lQ,ub x=true∧V9 x=true:=by decide +kernel
noncomputable def DO (pl:List Str):Prop:=pl.length=20∧ ∀ x∈pl,ub x=true∧V9 x=true
theorem Ay{pl:List Str}(h:DO pl)(lo hi:Option Int): ∃ ss:List Str,gx (pl.map PV.str) lo hi=ss.map PV.str/\Aj ss:=by
 unfold gx;refine⟨(pl.drop (HT.cQ (pl.map PV.str).length 0 lo)).take (HT.cQ (pl.map PV.str).length (pl.map PV.str).length hi - HT.cQ (pl.map PV.str).length 0 lo),by rw[aap,abv],?_,λx m=>h.2 x (Z7 (X4 m))⟩;have:=h.1;simp only[Ve,VW];omega
theorem xJ{xs:List Int}{v:Int}(h0:0<=v)(h1:v < xs.length): ∃ x∈xs,dC (xs.map PV.int) v=some (.int x):=by
 obtain⟨n,en⟩:=Vp h0;subst en;have hn:n < xs.length:=by omega
 exact⟨xs[n],WI hn,P3.eE rfl (by rw[Uq,Uj hn];rfl)⟩
noncomputable def B9(b:Nat)(X:PH)(r:PV):Prop:= ∃(i:Nat)(ss:List Str),r= .ref (b+i+1+1)/\X[i]?=some (.lst (ss.map PV.str))/\Aj ss
theorem B9.more{b:Nat}{X:PH}{r:PV}(h:B9 b X r)(Y:PH):B9 b (X++Y) r:=by
 obtain⟨i,ss,h1,h2,h3⟩:=h;exact⟨i,ss,h1,(aD (aG h2)).trans h2,h3⟩
noncomputable def Rf:MS:=(ag (ak (aj ay (bG (ab (eI 1) (ab (eI 2) (ab (eI 4) (a3 (eI 0) (eI 2) (eI 3)))))) (ae "_law_take" (a2 (aa 0) (eI 6)))) (gN 5)) (cJ (eM bj b6 (aa 3) (ab (zo (aa 1) (fO (aj cY (eI 4) (aa 4))) (fO (aj aY (aj cY (eI 4) (aa 4)) (aa 5)))) ah))))
noncomputable def RC:ME:=(au (ab (aa 10) (ab (aj ay (bG (ab (eI 0) (a3 (eI 5) (eI 999) (eI 1)))) (ae "_law_take" (a2 (aa 0) (eI 4)))) ah)))
section
variable{pg:Tb}(T:cj pg)
include T
theorem xV(j:Nat)(fr:PO){np:Nat}{pl:List Str}(hp:DO pl){J:PH}(ep:J[np]?=some (.lst (pl.map PV.str)))(xs0:List PV)(e2 e6 e7 e8 e9:Option PV) :
  ∀(ai:List Int)(refs:List PV)(X:PH)(q:Int × Int × Int)(e4 e5:Option PV),refs.length+ai.length<=1000->(∀ r∈refs,B9 (J.length+1) X r) ->
  ∃(refs':List PV)(X':PH)(q':Int × Int × Int)(f4 f5:Option PV),refs'.length=refs.length+ai.length/\(∀ r∈refs',B9 (J.length+1) X' r) /\
   bT ⟨none,xs0⟩ (bM (gN 4) Rf (run pg (j+1))) (ai.map PV.int) [some (.ref 1),some (.ref (np+1+1)),e2,some (.ref (J.length+1+1)),e4,e5,e6,e7,e8,e9] (fr::bg q::(J++ .lst refs::X))= .ok (.nx [some (.ref 1),some (.ref (np+1+1)),e2,some (.ref (J.length+1+1)),f4,f5,e6,e7,e8,e9]) (fr::bg q'::(J++ .lst refs'::X')):=by
 intro ai
 induction ai with
 | nil=>intro refs X q e4 e5 _ h;exact⟨refs,X,q,e4,e5,rfl,h,gJ⟩
 | cons i ai ih =>
  intro refs X q e4 e5 hl h
  rw[Ub] at hl
  let W:List PV:=[.int 1,.int 2,.int 4,.int 0,.int 2,.int 3]
  obtain⟨a,q1,a0,a1,ea⟩:=cy T j fr q 6 (by decide) (by decide)
  obtain⟨m,mm,em⟩:=xJ (xs:=[1,2,4,0,2,3]) a0 (by simpa using a1)
  have em':dC [PV.int 1,.int 2,.int 4,.int 0,.int 2,.int 3] a=some (.int m):=em
  obtain⟨ss,ec,hs⟩:=Ay hp (some (4*i)) (some (4*i+m))
  have old: ∀ Y:PH,(J++Y)[np]?=some (.lst (pl.map PV.str)):=λY=>(aD (aG ep)).trans ep
  have hz:refs.length < 16777216:=by omega
  obtain⟨refs',X',q',f4,f5,h1,h2,h3⟩:=ih (refs++[.ref (J.length+1+(X.length+1)+1+1)]) (X++[.lst W,.lst (ss.map PV.str)]) q1 (some (.int i)) (some (.int m)) (by simp only[Ur,Ub,UE];omega) (λr mr=>by
   rcases Va.mp mr with mr | mr
   . exact(h r mr).more _
   . rw[UX.mp mr];exact⟨X.length+1,ss,rfl,by rw[bw];rfl,hs⟩)
  refine⟨refs',X',q',f4,f5,by rw[h1];simp only[Ur,Ub,UE];omega,h2,?_⟩
  have st:bM (gN 4) Rf (run pg (j+1)) (.int i) [some (.ref 1),some (.ref (np+1+1)),e2,some (.ref (J.length+1+1)),e4,e5,e6,e7,e8,e9] (fr::bg q::(J++ .lst refs::X))= .ok (.nx [some (.ref 1),some (.ref (np+1+1)),e2,some (.ref (J.length+1+1)),some (.int i),some (.int m),e6,e7,e8,e9]) (fr::bg q1::(J++ .lst (refs++[.ref (J.length+1+(X.length+1)+1+1)])::(X++[.lst W,.lst (ss.map PV.str)]))):=by
   have ar:J.length+(X.length+(0+1)+1)=J.length+1+(X.length+1):=by omega
   simp? [Rf,W,ea,em',old,ec,oJ hz,ar]
  rw[T9,fI,st,eN,dc]
  exact h3
theorem Cq(j:Nat)(fr:PO){b:Nat}{s0:List Str}(e1 e2 e3 e4 e5 e6 e7 e8 e9:Option PV) :
  ∀(xs:List Str)(ys:List PV)(J:PH)(q:Int × Int × Int),J[b]?=some (.lst (s0.map PV.str))->ys.length+xs.length<=1000-> ∃(bs:List (Str × Int))(X:PH)(q':Int × Int × Int),bs.map (·.1)=xs/\(∀ z∈bs,0<=z.2/\z.2<=999) /\
   P3.fT ⟨some (b+1+1),s0.map PV.str⟩ (aN 1 (gN 10) aP RC (run pg (j+1)) [some (.ref 1),e1,e2,e3,e4,e5,e6,e7,e8,e9]) (xs.map PV.str) ys (fr::bg q::J)= .ok (ys++bs.map eA) (fr::bg q'::(J++X)):=by
 have fi: ∀{J:PH}(q:Int × Int × Int),J[b]?=some (.lst (s0.map PV.str))->k4.j8 ⟨some (b+1+1),s0.map PV.str⟩ (fr::bg q::J)=true:=λ{J} q h=>eJ (show J[b]?=_ from h);intro xs
 induction xs with
 | nil=>intro ys J q h1 _;exact⟨[],[],q,rfl,λz m=>(nomatch m),by rw[UN,P3.fT,if_pos (fi q h1)];simp⟩
 | cons x xs ih =>
  intro ys J q h1 hl
  rw[Ub] at hl
  obtain⟨a,q1,a0,a1,ea⟩:=cy T j fr q 4 (by decide) (by decide)
  obtain⟨m,mm,em⟩:=xJ (xs:=[0,5,999,1]) a0 (by simpa using a1)
  have em':dC [PV.int 0,.int 5,.int 999,.int 1] a=some (.int m):=em
  have hm:0<=m/\m<=999:=by
   simp only[Ui,UH,or_false] at mm;omega
  obtain⟨bs,X,q',i1,i2,i3⟩:=ih (ys++[eA (x,m)]) (J++[.lst [.int 0,.int 5,.int 999,.int 1]]) q1 ((aD (aG h1)).trans h1) (by simp only[Ur,Ub,UE];omega)
  refine⟨(x,m)::bs,.lst [.int 0,.int 5,.int 999,.int 1]::X,q',by rw[T9,i1],λz mz=>?_,?_⟩
  . rcases Ui.mp mz with rfl | mz
    . exact hm
    . exact i2 z mz
  have hz:ys.length < sizeLine:=Up (show ys.length < 1001 by omega) (by decide)
  have st:aN 1 (gN 10) aP RC (run pg (j+1)) [some (.ref 1),e1,e2,e3,e4,e5,e6,e7,e8,e9] (.str x) (fr::bg q::J)= .ok (some (eA (x,m))) (fr::bg q1::(J++[.lst [.int 0,.int 5,.int 999,.int 1]])):=by
   simp? [RC,ea,em',eA]
  rw[T9,P3.fT,if_pos ⟨fi q h1,hz⟩,st,c9]
  simpa using i3
end
noncomputable def kf(s0 s1 s2 s3:List Str)(h:Str × List Rw):Prop:=h.2.length<=10/\ ∃ L:List Str,L.length<=6/\(∀ x∈L,ub x=true)/\ ∀ r∈h.2,eW L h.2.length r/\zR s0 s1 s2 s3 r
noncomputable def Ri:ME:=(uc (aE (aj gu (eX 3 0) (bG ah))) (aj ay (eX 3 0) (eI 0)) (eS "q"))
noncomputable def Rl:MS:=(ag (ak (zo (bG (ab (eS "p") (ab Ri (ab (eS "pp") (ab (aj ay (aa 1) (aj aY (eI 16) (aa 8))) ah))))) jn (fO (aj aY (eI 1) (ae "_law_take" (a2 (aa 0) (eI 4)))))) (gN 9)) (cJ (eM bj b6 (aa 7) (ab (au (ab (aj ay (aa 1) (aj aY (eI 16) (aa 8))) (ab (ae "_law_rows" (a3 (aa 0) (aa 3) (aa 9))) ah))) ah))))
theorem AG(h:Str × List Rw):(bF h).flat=true:=by simp[bF,PV.flat,PV.bC,bH,lM]
section
variable{pg:Tb}(T:cj pg)
include T
omit T in
theorem wX{nn:Nat}{s0 s1 s2 s3:List Str}{W:PH}(N:AU W nn s0 s1 s2 s3)(c:CF)(A B:PO)(a0 a1 a2 a4 a5 a6 a7 a8 a9:Option PV): ∃ x:Str,ub x=true/\Ri c [a0,a1,a2,some (.ref (nn+1+1)),a4,a5,a6,a7,a8,a9] (A::B::W)= .ok (.str x) (A::B::(W++[.lst []])):=by
 obtain⟨b0,b1,b2,b3,e,e0,_⟩:=N.at_;have o0:=N.ok.1;have i0: ∀ X:PH,ay (.ref (nn+1+1)) (.int 0) (A::B::(W++X))= .ok (.ref (b0+1+1)) (A::B::(W++X)):=λX=>by
  have z:(A::B::(W++X))[nn+1+1]?=some (.lst [.ref (b0+1+1),.ref (b1+1+1),.ref (b2+1+1),.ref (b3+1+1)]):=(aD (aG e)).trans e;rw[qr,z,sJ,o7];rfl
 have i0':=i0 [];rw[Vd] at i0';have z0:(A::B::(W++[.lst []]))[b0+1+1]?=some (.lst (s0.map PV.str)):=(aD (aG e0)).trans e0;have zn:(A::B::(W++[PO.lst []]))[W.length+1+1]?=some (.lst []):=by rw[Us,Us];exact bA
 have ne:=ne_nil (h:=A::B::(W++[.lst []])) (n:=b0+1+1) (m:=W.length+1+1) (ss:=s0) z0 zn (λx m=>(o0.2 x m).2);cases s0 with
 | nil =>
  refine⟨"q",by decide +kernel,?_⟩
  simp? [Ri,i0',ne]
 | cons x r =>
  refine⟨x,(o0.2 x Uk).1,?_⟩
  have i1:ay (.ref (b0+1+1)) (.int 0) (A::B::(W++[.lst []]))= .ok (.str x) (A::B::(W++[.lst []])):=by
   rw[qr,z0,sJ,T9,o7];rfl
  have i2:=i0 [.lst []]
  simp? [Ri,i0',ne,i2,i1]
theorem xy(j:Nat)(fr:PO){np nn:Nat}{pl s0 s1 s2 s3:List Str}(hp:DO pl){J:PH}(ep:J[np]?=some (.lst (pl.map PV.str)))(N:AU J nn s0 s1 s2 s3)(xs0:List PV)(e2 e4 e5 e6:Option PV) :
  ∀(ai:List Nat)(hs:List (Str × List Rw))(X:PH)(q:Int × Int × Int)(e8 e9:Option PV),(∀ i∈ai,i < 4)->hs.length+ai.length<=1000->(∀ h∈hs,kf s0 s1 s2 s3 h) ->
  ∃(hs':List (Str × List Rw))(X':PH)(q':Int × Int × Int)(f8 f9:Option PV),hs'.length=hs.length+ai.length/\(∀ h∈hs',kf s0 s1 s2 s3 h) /\
   bT ⟨none,xs0⟩ (bM (gN 8) Rl (run pg (j+6))) (ai.map λi:Nat=>PV.int (0+(i:Int))) [some (.ref 1),some (.ref (np+1+1)),e2,some (.ref (nn+1+1)),e4,e5,e6,some (.ref (J.length+1+1)),e8,e9] (fr::bg q::(J++ .lst (hs.map bF)::X))= .ok (.nx [some (.ref 1),some (.ref (np+1+1)),e2,some (.ref (nn+1+1)),e4,e5,e6,some (.ref (J.length+1+1)),f8,f9]) (fr::bg q'::(J++ .lst (hs'.map bF)::X')):=by
 intro ai
 induction ai with
 | nil=>intro hs X q e8 e9 _ _ h;exact⟨hs,X,q,e8,e9,rfl,h,gJ⟩
 | cons i ai ih =>
  intro hs X q e8 e9 hi hl h
  rw[Ub] at hl
  have i4:=hi i Uk
  have iz:(0:Int)+(i:Int)=(i:Int):=Wv _
  have pl12:=hp.1
  obtain ⟨y,hy,ey⟩:=l6 (ss:=pl) (v:=16+(i:Int)) (by omega) (by omega)
  obtain ⟨x,hx,ex⟩:=wX (N.app (g:= .lst (hs.map bF)::X)) (run pg (j+6)) fr (bg q) (some (.ref 1)) (some (.ref (np+1+1))) e2 e4 e5 e6 (some (.ref (J.length+1+1))) (some (.int i)) e9
  obtain ⟨w,q1,w0,w1,ew⟩:=cy T (j+5) fr q 4 (by decide) (by decide)
  let F:List Str:=["p",x, "pp",y]
  let ps:List Str:=F.take (1+w).toNat
  have hF: ∀ z∈F,ub z=true:=λz m=>by
   simp only [F,Ui,UH,or_false] at m;rcases m with rfl | rfl | rfl | rfl
   . decide +kernel
   . exact hx
   . decide +kernel
   . exact(hp.2 _ hy).1
  have cu:gx [PV.str "p",.str x,.str "pp",.str y] none (some (1+w))=ps.map PV.str:=by
   rw[P3.tQ (by omega)];show _=Z1 PV.str (List.take _ F);rw[aap];rfl
  have pl0:0 < ps.length:=by simp only[ps,F,Ve,Ub,UE];omega
  have pl9:ps.length<=4:=by simp only[ps,F,Ve,Ub,UE];omega
  let Y:PH:=[.lst [],.lst [.str "p",.str x,.str "pp",.str y],.lst (ps.map PV.str)]
  let W:PH:=J++ .lst (hs.map bF)::(X++Y)
  have oldJ: ∀ Z:PH,(J++Z)[np]?=some (.lst (pl.map PV.str)):=λZ=>(aD (aG ep)).trans ep
  have epW:W[J.length+(X.length+(0+1+1)+1)]?=some (.lst (ps.map PV.str)):=by
   show(J++_)[_]?=_;rw[bw,Us,bw];rfl
  obtain⟨rs,q2,r1,r2,r3⟩:=Gf T j fr (L:=ps) (ps:=ps) pl0 (by omega) (λz m=>m) q1 (J:=W) (N.app (g:= .lst (hs.map bF)::(X++Y))) epW
  have ho:kf s0 s1 s2 s3 (y,rs):=⟨r1,ps,by omega,λz m=>hF z (X4 m),r2⟩
  obtain⟨hs',X',q',f8,f9,h1,h2,h3⟩:=ih (hs++[(y,rs)]) (X++Y) q2 (some (.int i)) (some (.ref (J.length+(X.length+(0+1+1)+1)+1+1))) (λz m=>hi z (Uo _ m)) (by simp only[Ur,Ub,UE];omega) (λz m=>by
   rcases Va.mp m with m | m
   . exact h z m
   . rw[UX.mp m];exact ho)
  refine⟨hs',X',q',f8,f9,by rw[h1];simp only[Ur,Ub,UE];omega,h2,?_⟩
  have hz:(hs.map bF).length < 16777216:=by rw[TZ];omega
  have st:bM (gN 8) Rl (run pg (j+6)) (.int i) [some (.ref 1),some (.ref (np+1+1)),e2,some (.ref (nn+1+1)),e4,e5,e6,some (.ref (J.length+1+1)),e8,e9] (fr::bg q::(J++ .lst (hs.map bF)::X))= .ok (.nx [some (.ref 1),some (.ref (np+1+1)),e2,some (.ref (nn+1+1)),e4,e5,e6,some (.ref (J.length+1+1)),some (.int i),some (.ref (J.length+(X.length+(0+1+1)+1)+1+1))]) (fr::bg q2::(J++ .lst (hs.map bF++[bF (y,rs)])::(X++Y))):=by
   simp only[W,Y] at r3;simp only[Vm,UA] at ex;simp? [Rl,Y,ex,oldJ,ey,ew,cu,r3,oJ hz,bF]
  rw[T9,fI,iz,st,eN,dc]
  rw[U3,T9,UN] at h3
  exact h3
end
structure Rh(bs:List (Str × Int))(s1 s2 s3:List Str)(hs:List (Str × List Rw))(p:PV):Prop where
 at_:p= .tup [.tup (bs.map eA),.tup (s1.map PV.str),.tup (s2.map PV.str),.tup (s3.map PV.str),.tup (hs.map bF)]
 bx:bs.length<=20/\ ∀ z∈bs,ub z.1=true/\0<=z.2/\z.2<=999
 nm:Aj s1/\Aj s2/\Aj s3
 many:1<=hs.length/\hs.length<=4
 hd: ∀ h∈hs,kf (bs.map (·.1)) s1 s2 s3 h
theorem q8: ∀ ss:List Str,PV.bC (ss.map PV.str)=true
 | []=>rfl
 | _::r=>by rw[T9,PV.bC,q8 r];rfl
theorem oz: ∀ hs:List (Str × List Rw),PV.bC (hs.map bF)=true
 | []=>rfl
 | h::r=>by rw[T9,PV.bC,AG,oz r];rfl
noncomputable def xC:MS:=(ag (ak (eB bf (ab (iN 1 (kj (eX 3 0)) (gN 10) aP RC) ah)) (gN 6)) (ag (ak (bG ah) (gN 7)) (ag (kZ (cF (ab (aj ay (bG (ab (eI 2) (ab (eI 2) (ab (eI 3) (a3 (eI 4) (eI 1) (eI 2)))))) (ae "_law_take" (a2 (aa 0) (eI 6)))) ah)) (gN 8) Rl) (ax (au (ab (aa 6) (ab (eB bf (a1 (eX 3 1))) (ab (eB bf (a1 (eX 3 2))) (ab (eB bf (a1 (eX 3 3))) (ab (eB bf (a1 (aa 7))) ah))))))))))
section
variable{pg:Tb}(T:cj pg)
include T
theorem G5(j:Nat)(fr:PO){np nn:Nat}{pl s0 s1 s2 s3:List Str}(hp:DO pl){J:PH}(ep:J[np]?=some (.lst (pl.map PV.str)))(N:AU J nn s0 s1 s2 s3)(q:Int × Int × Int)(e2 e4 e5:Option PV) :
  ∃(bs:List (Str × Int))(hs:List (Str × List Rw))(p:PV)(q':Int × Int × Int)(X:PH),Rh bs s1 s2 s3 hs p/\xC (run pg (j+6)) [some (.ref 1),some (.ref (np+1+1)),e2,some (.ref (nn+1+1)),e4,e5,none,none,none,none] (fr::bg q::J)= .ok (.rt p) (fr::bg q'::(J++X)):=by
 obtain⟨b0,b1,b2,b3,e,x0,x1,x2,x3⟩:=N.at_;obtain⟨o0,o1,o2,o3⟩:=N.ok;obtain⟨bs,X1,q1,h1,h2,h3⟩:=Cq T (j+5) fr (b:=b0) (s0:=s0) (some (.ref (np+1+1))) e2 (some (.ref (nn+1+1))) e4 e5 none none none none s0 [] J q x0 (by have:=o0.1;simp;omega);rw[UL] at h3
 let J2:PH:=J++(X1++[.lst (bs.map eA)])
 obtain⟨a,q2,a0,a1,ea⟩:=cy T (j+5) fr q1 6 (by decide) (by decide);obtain⟨m,mm,em⟩:=xJ (xs:=[2,2,3,4,1,2]) a0 (by simpa using a1);have em':dC [PV.int 2,.int 2,.int 3,.int 4,.int 1,.int 2] a=some (.int m):=em;have hm:1<=m/\m<=4:=by
  simp only[Ui,UH,or_false] at mm;omega
 have old: ∀{n:Nat}{o:PO}(Y:PH),J[n]?=some o->(J++Y)[n]?=some o:=λY e=>(aD (aG e)).trans e;obtain⟨hs,X2,q3,f8,f9,i1,i2,i3⟩:=xy T j fr hp (J:=J2) (old _ ep) N.app (aw 0 m.toNat) e2 e4 e5 (some (.tup (bs.map eA))) (UR m.toNat) [] [.lst [.int 2,.int 2,.int 3,.int 4,.int 1,.int 2]] q2 none none (λi z=>by have:=Vj.mp z;omega) (by simp;omega) (λh z=>nomatch z);rw[show(UR m.toNat).map (λi:Nat=>PV.int (0+(i:Int)))=aw 0 m.toNat from rfl] at i3;rw[VB,UE,Nat.zero_add] at i1;refine⟨bs,hs,_,q3,X1++ .lst (bs.map eA):: .lst (hs.map bF)::X2,⟨rfl,⟨?_,?_⟩,⟨o1,o2,o3⟩,by omega,by rw[h1];exact i2⟩,?_⟩
 . have:=congrArg aa9 h1;rw[TZ] at this;rw[this];exact o0.1
 . intro z mz;have:=h2 z mz;exact⟨(o0.2 z.1 (by rw[<- h1];exact UP.mpr ⟨z,mz,rfl⟩)).1,this⟩
 . have w: ∀(Y:PH)(i:Int)(b:Nat),dC [PV.ref (b0+1+1),.ref (b1+1+1),.ref (b2+1+1),.ref (b3+1+1)] i=some (.ref (b+1+1))-> ∀ A B:PO,ay (.ref (nn+1+1)) (.int i) (A::B::(J++Y))= .ok (.ref (b+1+1)) (A::B::(J++Y)):=λY i b z A B=>by
    have z2:(A::B::(J++Y))[nn+1+1]?=_:=old Y e;rw[qr,z2,sJ,z];rfl
   have tu: ∀(Y:PH)(b:Nat)(ss:List Str),J[b]?=some (.lst (ss.map PV.str))-> ∀ A B:PO,bf [.ref (b+1+1)] (A::B::(J++Y))= .ok (.tup (ss.map PV.str)) (A::B::(J++Y)):=λY b ss z A B=>by
    have z2:(A::B::(J++Y))[b+1+1]?=_:=old Y z;rw[sZ,z2,nS]
   have w0:=w [] 0 b0 o7;rw[Vd] at w0;have l0: ∀ A B:PO,(A::B::J)[b0+1+1]?=some (.lst (s0.map PV.str)):=λA B=>x0;simp only[J2,UN,UA,Vm,UL,Ur,Ub,UE] at i3;simp? [xC,w0,l0,x0,h3,ea,em',i3,w _ 1 b1 ud,w _ 2 b2 xE,w _ 3 b3 BC,tu _ b1 s1 x1,tu _ b2 s2 x2,tu _ b3 s3 x3]
end
section
variable{pg:Tb}(T:cj pg)
include T
theorem pD(j:Nat)(fr:PO)(q:Int × Int × Int)(g:PH) :
  ∃(bs:List (Str × Int))(s1 s2 s3:List Str)(hs:List (Str × List Rw))(p:PV)(q':Int × Int × Int),Rh bs s1 s2 s3 hs p/\run pg (j+7) "_law_program" [.ref 1] (fr::bg q::g)= .ok p (fr::bg q'::g):=by
 let g2:PH:=g++[.lst (Ke.map PV.str),.lst (P8.map PV.str)]
 obtain⟨t,q1,t0,t1,et⟩:=cy T (j+5) fr q 20 (by decide) (by decide);have c1:gx (lQ.map PV.str) (some t) none=(lQ.drop t.toNat).map PV.str:=by rw[P3.lD t0,abv]
 have c2:gx (lQ.map PV.str) none (some t)=(lQ.take t.toNat).map PV.str:=by rw[P3.tQ t0,aap]
 let pl:List Str:=lQ.drop t.toNat++lQ.take t.toNat
 have hp:DO pl:=by
  refine⟨?_,λx m=>?_⟩
  . have:lQ.length=20:=rfl;simp only[pl,Ur,VW,Ve,this];omega
  . rcases Va.mp m with m | m
    . exact D7 x (Z7 m)
    . exact D7 x (X4 m)
 let J1:PH:=g2++[.lst (lQ.map PV.str),.lst ((lQ.drop t.toNat).map PV.str),.lst ((lQ.take t.toNat).map PV.str),.lst (pl.map PV.str)]
 have ep:J1[g2.length+(0+1+1+1)]?=some (.lst (pl.map PV.str)):=by show(g2++_)[_]?=_;rw[bw];rfl
 have lJ:J1.length=g2.length+(0+1+1+1+1):=by simp[J1]
 obtain⟨refs,X,q2,f4,f5,h1,h2,h3⟩:=xV T (j+5) fr hp ep (aw 0 4) (some (.int t)) none none none none [0,1,2,3] [] [] q1 none none (by decide) (λr m=>nomatch m);obtain⟨r0,r1,r2,r3,rfl⟩: ∃ r0 r1 r2 r3,refs=[r0,r1,r2,r3]:=by
  match refs,h1 with
  | [a,b,c,d],_=>exact⟨a,b,c,d,rfl⟩
 have at_: ∀(Y:PO)(i:Nat),(J1++Y::X)[J1.length+1+i]?=X[i]?:=λY i=>by rw[Nat.add_assoc,bw,Nat.add_comm 1 i,Us]
 obtain⟨i0,s0,rfl,z0,n0⟩:=h2 r0 (.head _);obtain⟨i1,s1,rfl,z1,n1⟩:=h2 r1 (.tail _ (.head _));obtain⟨i2,s2,rfl,z2,n2⟩:=h2 r2 (.tail _ (.tail _ (.head _)));obtain⟨i3,s3,rfl,z3,n3⟩:=h2 r3 (.tail _ (.tail _ (.tail _ (.head _))));have N:AU (J1++ .lst [.ref (J1.length+1+i0+1+1),.ref (J1.length+1+i1+1+1),.ref (J1.length+1+i2+1+1),.ref (J1.length+1+i3+1+1)]::X) J1.length s0 s1 s2 s3 :=
  ⟨⟨_,_,_,_,bA,(at_ _ i0).trans z0,(at_ _ i1).trans z1,(at_ _ i2).trans z2,(at_ _ i3).trans z3⟩,n0,n1,n2,n3⟩
 obtain⟨bs,hs,p,q3,Z,pk,tl⟩:=G5 T j fr hp ((aD (aG ep)).trans ep) N q2 (some (.int t)) f4 f5;refine⟨bs,s1,s2,s3,hs,p,q3,pk,?_⟩;have pf:p.flat=true:=by
  rw[pk.at_];simp only[PV.flat,PV.bC,jc,q8,oz,Wy]
 have ad:aY (.ref (g2.length+(0+1)+1+1)) (.ref (g2.length+(0+1+1)+1+1)) (fr::bg q1::(g2++[.lst (lQ.map PV.str),.lst ((lQ.drop t.toNat).map PV.str),.lst ((lQ.take t.toNat).map PV.str)]))= .ok (.ref (g2.length+(0+1+1+1)+1+1)) (fr::bg q1::J1):=by
  have e1:(fr::bg q1::(g2++[PO.lst (lQ.map PV.str),.lst ((lQ.drop t.toNat).map PV.str),.lst ((lQ.take t.toNat).map PV.str)]))[g2.length+(0+1)+1+1]?=some (.lst ((lQ.drop t.toNat).map PV.str)):=by rw[Us,Us,bw];rfl
  have e2:(fr::bg q1::(g2++[PO.lst (lQ.map PV.str),.lst ((lQ.drop t.toNat).map PV.str),.lst ((lQ.take t.toNat).map PV.str)]))[g2.length+(0+1+1)+1+1]?=some (.lst ((lQ.take t.toNat).map PV.str)):=by rw[Us,Us,bw];rfl
  refine(nI e1 e2 (by simp only[TZ,VW,Ve];have:lQ.length=20:=rfl;omega)).trans ?_;simp[J1,pl]
 have A:fL (run pg (j+6)) [some (.ref 1),none,none,none,none,none,none,none,none,none] (fr::bg q::g)= .ok (.rt p) (fr::bg q3::(J1++ .lst [.ref (J1.length+1+i0+1+1),.ref (J1.length+1+i1+1+1),.ref (J1.length+1+i2+1+1),.ref (J1.length+1+i3+1+1)]::X++Z)):=by
  show ag _ (ag _ (ag _ (ag _ (ag _ (ag _ xC))))) _ _ _=_;refine(bp (e1:=[some (.ref 1),some (.ref (g.length+1+1)),none,none,none,none,none,none,none,none]) (h1:=fr::bg q::(g++[.lst (Ke.map PV.str)])) ?_).trans ?_
  . simp? [UN];rfl
  refine(bp (e1:=[some (.ref 1),some (.ref (g2.length+1+1)),none,none,none,none,none,none,none,none]) (h1:=fr::bg q::(g2++[.lst (lQ.map PV.str)])) ?_).trans ?_
  . have ad0:aY (.ref (g.length+1+1)) (.ref (g.length+(0+1)+1+1)) (fr::bg q::(g++[.lst (Ke.map PV.str),.lst (P8.map PV.str)]))= .ok (.ref (g2.length+1+1)) (fr::bg q::(g2++[.lst (lQ.map PV.str)])):=by
     have e1:(fr::bg q::(g++[PO.lst (Ke.map PV.str),.lst (P8.map PV.str)]))[g.length+1+1]?=some (.lst (Ke.map PV.str)):=by rw[Us,Us];exact bA
     have e2:(fr::bg q::(g++[PO.lst (Ke.map PV.str),.lst (P8.map PV.str)]))[g.length+(0+1)+1+1]?=some (.lst (P8.map PV.str)):=by rw[Us,Us,bw];rfl
     refine(nI e1 e2 (by decide)).trans ?_;simp[g2,lQ]
    have l8:(.lst [.str "boxes",.str "locks",.str "lanes",.str "doors",.str "d",.str "taken",.str "abcd",.str "lots"]:PO)= .lst (P8.map PV.str):=rfl;simp? [l8,ad0]
  refine(bp (e1:=[some (.ref 1),some (.ref (g2.length+1+1)),some (.int t),none,none,none,none,none,none,none]) (h1:=fr::bg q1::(g2++[.lst (lQ.map PV.str)])) ?_).trans ?_
  . simp? [et]
  refine(bp (e1:=[some (.ref 1),some (.ref (g2.length+(0+1+1+1)+1+1)),some (.int t),none,none,none,none,none,none,none]) (h1:=fr::bg q1::J1) ?_).trans ?_
  . simp? [c1,c2,ad]
  refine(bp (e1:=[some (.ref 1),some (.ref (g2.length+(0+1+1+1)+1+1)),some (.int t),some (.ref (J1.length+1+1)),none,none,none,none,none,none]) (h1:=fr::bg q1::(J1++[.lst []])) ?_).trans ?_
  . simp? [UN]
  refine(bp (h1:=fr::bg q2::(J1++ .lst [.ref (J1.length+1+i0+1+1),.ref (J1.length+1+i1+1+1),.ref (J1.length+1+i2+1+1),.ref (J1.length+1+i3+1+1)]::X)) ?_).trans tl;have r4:aw 0 (4:Int).toNat=aw 0 4:=rfl;unfold Rf at h3;simp? [↓oG,↓om,kA,eN,kL,r4];exact h3
 rw[run_eq T.pY rfl];show fin _ (fL (run pg (j+6)) [some (.ref 1),none,none,none,none,none,none,none,none,none] (fr::bg q::g))=_;rw[A,lZ];show P3.settle _ _ (fr::bg q3::(g++_++_++_++_))=_;rw[UA,UA,UA];exact dF pf
end
noncomputable def qx (a b:Int):List (Key × PV):=[(.inr "add",.int (a+b)),(.inr "sub",.int (a - b)),(.inr "mul",.int (a*b))]
theorem Bc (a b:Int):cq [] (qx a b)=qx a b:=by simp [qx,cq,gY,cw]
theorem ve (a:Str) (h:PH):ja (.str a) (.tup [.str "less",.str "same"]) h= .ok (.bl (decide (a∈(["less", "same"]:List Str)))) h:=wq (ss:=["less", "same"])
theorem NM (o:Bo) (a b:Int):(o= .less∨o= .same)∨(¬ o.w∈(["less", "same"]:List Str)∧ ∃ n:Int,cv (qx a b) (.inr o.w)=some (.int n)∧n % 1000=o.f a b):=by
 cases o with
 | less=>exact .inl (.inl rfl)
 | same=>exact .inl (.inr rfl)
 | add=>exact .inr ⟨by simp only[Bo.w];decide +kernel,_,by simp[qx,cv,Bo.w,cw],rfl⟩
 | sub=>exact .inr ⟨by simp only[Bo.w];decide +kernel,_,by simp[qx,cv,Bo.w,cw],rfl⟩
 | mul=>exact .inr ⟨by simp only[Bo.w];decide +kernel,_,by simp[qx,cv,Bo.w,cw],rfl⟩
section
variable{pg:Tb}(T:cj pg)
include T
theorem oQ{D:Pk}{n:Nat}(hf: ∀ x,0<=fP D x/\fP D x<=999): ∀(e:Sm)(k:Nat)(h:PH),h[n]?=some (.dct (eL D))->e.ok->e.dp<=k->run pg (k+1) "_law_worth" [gP e,.ref n] h= .ok (.int (e.val (fP D))) h
 | .num i,k,h,hn,_,_=>by
  rw[run_eq T.fk rfl];simp? [aR,bu,gP,Sm.val]
 | .of x,k,h,hn,_,_=>by
  have g:=xG D x;rw[run_eq T.fk rfl];simp? [aR,bu,gP,Sm.val,hn,g]
 | .un a,0,h,hn,_,hd=>by unfold Sm.dp at hd;omega
 | .un a,k+1,h,hn,ok,hd=>by
  have i1:=oQ hf a k h hn ok (by unfold Sm.dp at hd;omega);have sm:gP (.un a)= .tup [.str "not",gP a]:=rfl;rw[run_eq T.fk rfl,sm,Sm.val];by_cases z:a.val (fP D)=0
  . simp? [aR,bu,i1,z]
  . simp? [aR,bu,i1,z]
 | .bin o a b,0,h,hn,_,hd=>by unfold Sm.dp at hd;omega
 | .bin o a b,k+1,h,hn,ok,hd=>by
  have i1:=oQ hf a k h hn ok.1 (by unfold Sm.dp at hd;omega);have i2:=oQ hf b k h hn ok.2 (by unfold Sm.dp at hd;omega);have sm:gP (.bin o a b)= .tup [.str o.w,gP a,gP b]:=rfl;have n1: ¬ o.w= "num" /\ ¬ o.w= "of" /\ ¬ o.w= "not" :=by cases o<;>(simp only[Bo.w];decide +kernel)
  have va:=Sm.ox hf a ok.1;rw[run_eq T.fk rfl,sm,Sm.val];generalize a.val (fP D)=x at i1 va;generalize b.val (fP D)=y at i2;rcases NM o x y with (rfl | rfl) | ⟨z,n,z1,z2⟩
  . have m1:(Ul "less")∈(["less", "same"]:List Str):=by decide +kernel
    by_cases c:x < y
    . simp? [aR,bu,Bo.w,Bo.f,i1,i2,ve,m1,c]
    . simp? [aR,bu,Bo.w,Bo.f,i1,i2,ve,m1,c]
  . have m1:(Ul "same")∈(["less", "same"]:List Str):=by decide +kernel
    by_cases c:x=y
    . simp? [aR,bu,Bo.w,Bo.f,i1,i2,ve,m1,c]
    . simp? [aR,bu,Bo.w,Bo.f,i1,i2,ve,m1,c]
  . have dk:NZ h.length [((.inr "add" :Key),PV.int (x+y)),(.inr "sub",.int (x - y)),(.inr "mul",.int (x*y))] (h++[.dct []])= .ok (.ref h.length) (h++[.dct (qx x y)]):=by
     have:=zd (h:=h) (kvs:=qx x y) (by simp[qx]);rw[Bc] at this;exact this
    rw[<- z2];simp? [aR,bu,n1.1,n1.2.1,n1.2.2,i1,i2,ve,z,kO,ou,kn,oA,oy,pJ,dk,z1];exact bI rfl
omit T in
theorem Of{h:PH}{n:Nat}{ss:List Str}(e:h[n]?=some (.lst (ss.map PV.str)))(a:Str):ja (.str a) (.ref n) h= .ok (.bl (decide (a∈ss))) h:=by
 have:isIn (.str a) (.ref n) h=some (decide (a∈ss)):=by
  unfold isIn;simp only[itemsOf,cP,e,all_strs,dY,Wy,if_true,jk]
 unfold ja;rw [this]
theorem IJ (k:Nat) (h:PH) (r:Rw) {n:Nat} {hl held:List Str} (e:h[n]?=some (.lst (hl.map PV.str))) (hm: ∀ y,y∈hl↔y∈held):run pg (k+1) "_law_is_own" [bh r,.ref n] h= .ok (.bl (own held r)) h:=by
 have r0:=λg=>rw_0 r g;have il: ∀ a:Str,ja (.str a) (.tup [.str "let",.str "leap"]) h= .ok (.bl (decide (a∈(["let", "leap"]:List Str)))) h:=λa=>wq (ss:=["let", "leap"]);have ie:=Of e;have eb: ∀ b c:Bool,ki (.bl b) (.bl c) h= .ok (.bl (b == c)) h:=λb c=>by cases b<;>cases c<;>rfl
 rw [run_eq T.qq rfl];cases r with
 | take l=>simp? [cB,eG,bh,Rw.w,Rw.ps,ie,eb,own,hm];simp
 | free l=>simp? [cB,eG,bh,Rw.w,Rw.ps,ie,eb,own,hm];simp
 | _=>simp? [cB,eG,r0,bh,Rw.w,Rw.ps,il,own,Ui,UH,or_false,or_true,true_or,false_or]
end
theorem set_same{h:PH}{n:Nat}{o:PO}(e:h[n]?=some o):h.set n o=h:=by
 obtain⟨l,e⟩:=T1.mp e;rw[<- e];exact ZQ l
theorem l7{h:PH}{n:Nat}{o:PO}(l:n < h.length):(h.set n o)[n]?=some o:=by rw[UO l]
theorem br{h:PH}{n m:Nat}{o:PO}(ne:n≠m):(h.set n o)[m]?=h[m]?:=Vb ne
noncomputable def rT:MT:=(si (aE (aj Ck (aa 1) (eB cx (a1 (aa 0))))) (aE (ae "_law_is_own" (ab (aj ay (aa 0) (aa 1)) (a1 (aa 3))))))
noncomputable def rA:MS:=(ag (bU (mQ (eX 5 0) (eS "let")) (fm dZ (aa 2) (eX 5 1) (ae "_law_worth" (a2 (eX 5 2) (aa 2)))) cz) (bU (si (mQ (eX 5 0) (eS "leap")) (aE (aj gu (ae "_law_worth" (a2 (eX 5 2) (aa 2))) (eI 0)))) (ak (eX 5 1) (gN 1)) cz))
noncomputable def rB:MS:=(ag (bU (mQ (aa 4) (eI 200)) (ax (eB cx (a1 (aa 0)))) cz) (ag (ak (aj ay (aa 0) (aa 1)) (gN 5)) (ag (ak (aj aY (aa 4) (eI 1)) (gN 4)) (ag (ak (aj aY (aa 1) (eI 1)) (gN 1)) rA))))
theorem nN{L:List Str}{D:Pk}(hL:L.length<=20)(h:qD L D):(eL D).length < 16777216:=by unfold eL;rw[TZ];have:=h.len;omega
section
variable{pg:Tb}(T:cj pg)
include T
theorem OI(k:Nat){h:PH}{d:Nat}{L:List Str}(hL:L.length<=20){rs:List Rw}{t:aF}{r:Rw}{D:Pk}(ed:h[d]?=some (.dct (eL D)))(e:rs[t.row]?=some r)(ho:own t.held r=true)(hr:eW L rs.length r)(hD:qD L D)(hf: ∀ x,fP D x=fP t.ps x)(nd:(t.ps.map (·.1)).Nodup)(u3 u4:Option PV) :
  ∃ D':Pk,qD L D'/\(∀ x,fP D' x=fP (behind t r).ps x)/\rA (run pg (k+9)) [some (bH rs),some (.int ((t.row:Int)+1)),some (.ref d),u3,u4,some (bh r)] h= .ok (.nx [some (bH rs),some (.int (behind t r).row),some (.ref d),u3,u4,some (bh r)]) (h.set d (.dct (eL D'))):=by
 have ff:fP D=fP t.ps:=funext hf;have w: ∀ e0:Sm,jG e0->run pg (k+9) "_law_worth" [gP e0,.ref d] h= .ok (.int (e0.val (fP t.ps))) h:=λe0 he=>by
  rw[<- ff];exact oQ T hD.Bb e0 (k+8) _ ed he.1 (by have:=he.2;omega)
 have hl9:=nN hL hD;have up:(t.row:Int)+1=((t.row+1:Nat):Int):=by omega
 cases r with
 | let_ x e0 =>
  have hv:=Sm.ox (f:=fP t.ps) (by rw[<- ff];exact hD.Bb) e0 hr.2.1
  refine⟨putD D x (e0.val (fP t.ps)),nM hD hr.1 hv.1 hv.2,λy=>by rw[nP,behind,rU nd,hf],?_⟩
  simp? [rA,bh,Rw.w,Rw.ps,w e0 hr.2,ed,kJ hl9,jr,behind,up]
 | leap j e0 =>
  refine⟨D,hD,λy=>?_,?_⟩
  . rw[hf];show _=fP (if e0.val (fP t.ps)=0 then(⟨t.row+1,t.ps,t.held⟩:aF) else⟨j.toNat,t.ps,t.held⟩).ps y;split<;>rfl
  . rw[set_same ed];by_cases z:e0.val (fP t.ps)=0
    . simp? [rA,bh,Rw.w,Rw.ps,w e0 hr.2.2,behind,z,up]
    . have jj:((j.toNat:Nat):Int)=j:=by have:=hr.1;omega
      simp? [rA,bh,Rw.w,Rw.ps,w e0 hr.2.2,behind,z,jj]
 | take l=>exact⟨D,hD,hf,by rw[set_same ed];simp? [rA,bh,Rw.w,Rw.ps,behind,up]⟩
 | free l=>exact⟨D,hD,hf,by rw[set_same ed];simp? [rA,bh,Rw.w,Rw.ps,behind,up]⟩
 | _=>exact nomatch ho
theorem AK(k:Nat){d l:Nat}(dl:d≠l){hl:List Str}{L:List Str}(hL:L.length<=20){rs:List Rw}(hr: ∀ r∈rs,eW L rs.length r): ∀(m i:Nat)(t:aF)(D:Pk)(h:PH)(u5:Option PV)(f:Nat),i+m=200->m+2<=f->h[d]?=some (.dct (eL D))->h[l]?=some (.lst (hl.map PV.str))->(∀ y,y∈hl↔y∈t.held)->cR L rs t->qD L D->(∀ x,fP D x=fP t.ps x) ->
  ∃(D':Pk)(fl:Fl),qD L D'/\(∀ x,fP D' x=fP (aX rs m t).ps x)/\(fl= .rt (.int (aX rs m t).row)\/ ∃ u2 u3 u4 u5,fl= .nx [some (bH rs),some (.int (aX rs m t).row),u2,u3,u4,u5]) /\
  dq (rT (run pg (k+9))) (rB (run pg (k+9))) f [some (bH rs),some (.int t.row),some (.ref d),some (.ref l),some (.int i),u5] h= .ok fl (h.set d (.dct (eL D'))):=by
 have ln: ∀ h,cx [bH rs] h= .ok (.int rs.length) h:=λh=>by unfold bH;rw[len_T,TZ]
 have ix: ∀{t:aF}{r:Rw}(h:PH),rs[t.row]?=some r->ay (bH rs) (.int t.row) h= .ok (bh r) h:=λh e=>ka (gZ e);have stop: ∀(i:Nat)(t:aF)(h:PH)(u5:Option PV)(f:Nat),h[l]?=some (.lst (hl.map PV.str))->(∀ y,y∈hl↔y∈t.held)->bo rs t=true->dq (rT (run pg (k+9))) (rB (run pg (k+9))) (f+1) [some (bH rs),some (.int t.row),some (.ref d),some (.ref l),some (.int i),u5] h= .ok (.nx [some (bH rs),some (.int t.row),some (.ref d),some (.ref l),some (.int i),u5]) h:=λi t h u5 f el hm r1=>by
  refine Gy ?_;cases e:rs[t.row]? with
  | none =>
   have z: ¬ (t.row:Int) < (rs.length:Int):=by have:=Vx.mp e;omega
   simp? [rT,ln,z]
  | some r =>
   have lt:=(T1.mp e).1
   have z:(t.row:Int) < (rs.length:Int):=by omega
   have ow:=IJ T (k+8) h r el hm
   have on:own t.held r=false:=by unfold bo at r1;rw[e] at r1;simpa using r1
   rw[on] at ow
   simp? [rT,ln,z,ix h e,ow]
 have go: ∀(i:Nat)(t:aF)(h:PH)(u5:Option PV)(r:Rw),h[l]?=some (.lst (hl.map PV.str))->(∀ y,y∈hl↔y∈t.held)->rs[t.row]?=some r->own t.held r=true->rT (run pg (k+9)) [some (bH rs),some (.int t.row),some (.ref d),some (.ref l),some (.int i),u5] h= .ok true h:=λi t h u5 r el hm e ho=>by
  have lt:=(T1.mp e).1;have z:(t.row:Int) < (rs.length:Int):=by omega
  have ow:=IJ T (k+8) h r el hm;rw[ho] at ow;simp? [rT,ln,z,ix h e,ow]
 intro m
 induction m with
 | zero =>
  intro i t D h u5 f hi hf ed el hm hs hD hp
  obtain⟨f,rfl⟩: ∃ j,f=j+1:=⟨f - 1,by omega⟩
  cases r1:bo rs t with
  | true =>
   have fr:aX rs 0 t=t:=by unfold aX;rw[if_pos r1]
   exact⟨D,_,hD,by rw[fr];exact hp,.inr ⟨_,_,_,_,by rw[fr]⟩,by rw[set_same ed];exact stop i t h u5 f el hm r1⟩
  | false =>
   obtain⟨r,e,ho⟩:=nV r1
   have fr:aX rs 0 t=⟨rs.length,t.ps,t.held⟩:=by unfold aX;rw[if_neg (by simp[r1])]
   have i200:(i:Int)=200:=by omega
   refine⟨D,.rt (.int rs.length),hD,by rw[fr];exact hp,.inl (by rw[fr]),?_⟩
   rw[set_same ed,dq,go i t h u5 r el hm e ho,c9,if_pos rfl]
   have st:rB (run pg (k+9)) [some (bH rs),some (.int t.row),some (.ref d),some (.ref l),some (.int i),u5] h= .ok (.rt (.int rs.length)) h:=by
    simp? [rB,i200,ln]
   rw[st,c9]
 | succ m ih =>
  intro i t D h u5 f hi hf ed el hm hs hD hp
  obtain⟨f,rfl⟩: ∃ j,f=j+1:=⟨f - 1,by omega⟩
  cases r1:bo rs t with
  | true =>
   have fr:aX rs (m+1) t=t:=by unfold aX;rw[if_pos r1]
   exact⟨D,_,hD,by rw[fr];exact hp,.inr ⟨_,_,_,_,by rw[fr]⟩,by rw[set_same ed];exact stop i t h u5 f el hm r1⟩
  | false =>
   obtain⟨r,e,ho⟩:=nV r1
   have hrr:=hr r (Ue e)
   have fr:aX rs (m+1) t=aX rs m (behind t r):=by
    rw[aX,if_neg (by simp[r1]),e]
   obtain⟨D1,a1,a2,a3⟩:=OI T k hL ed e ho hrr hD hp hs.pk.nd (some (.ref l)) (some (.int ((i+1:Nat):Int)))
   obtain⟨D',fl,b1,b2,b3,b4⟩:=ih (i+1) (behind t r) D1 (h.set d (.dct (eL D1))) (some (bh r)) f (by omega) (by omega) (l7 (aG ed)) ((br dl).trans el) (by rw[m3];exact hm) (jx hs hrr e) a1 a2
   refine⟨D',fl,b1,by rw[fr];exact b2,by rw[fr];exact b3,?_⟩
   have i200: ¬ (i:Int)=200:=by omega
   have up:(i:Int)+1=((i+1:Nat):Int):=by omega
   rw[Pb (go i t h u5 r el hm e ho) (e1:=[some (bH rs),some (.int (behind t r).row),some (.ref d),some (.ref l),some (.int ((i+1:Nat):Int)),some (bh r)]) (h2:=h.set d (.dct (eL D1))) ?_]
   . rw[b4,List.set_set]
   . simp? [rB,i200,ix h e,up,a3]
theorem yn(k:Nat)(h:PH){d l:Nat}(dl:d≠l){hl L:List Str}(hL:L.length<=20){rs:List Rw}(hr: ∀ r∈rs,eW L rs.length r){t:aF}{D:Pk}(ed:h[d]?=some (.dct (eL D)))(el:h[l]?=some (.lst (hl.map PV.str)))(hm: ∀ y,y∈hl↔y∈t.held)(hs:cR L rs t)(hD:qD L D)(hp: ∀ x,fP D x=fP t.ps x): ∃ D':Pk,qD L D'/\(∀ x,fP D' x=fP (aX rs 200 t).ps x) /\
  run pg (k+10) "_law_rest" [bH rs,.int t.row,.ref d,.ref l] h= .ok (.int (aX rs 200 t).row) (h.set d (.dct (eL D'))):=by
 obtain⟨D',fl,a1,a2,a3,a4⟩:=AK T k dl hL hr 200 0 t D h none 100000 (by decide) (by decide) ed el hm hs hD hp;refine⟨D',a1,a2,?_⟩;rw[run_eq T.uV rfl];have a4':dq (rT (run pg (k+9))) (rB (run pg (k+9))) 100000 [some (bH rs),some (.int t.row),some (.ref d),some (.ref l),some (.int 0),none] h= .ok fl (h.set d (.dct (eL D'))):=a4;unfold rT rB rA at a4';have se: ∀ v:PV,P3.settle h v (h.set d (.dct (eL D')))= .ok v (h.set d (.dct (eL D'))):=λv=>m6 (o:= .dct (eL D));rcases a3 with rfl | ⟨u2,u3,u4,u5,rfl⟩
 . simp? [eR,jq,IC,a4',se]
 . simp? [eR,jq,IC,a4',se]
end
structure Pg where
 bs:List (Str × Int)
 s1:List Str
 s2:List Str
 s3:List Str
 hs:List (Str × List Rw)
noncomputable def Pg.v(P:Pg):PV:= .tup [.tup (P.bs.map eA),.tup (P.s1.map PV.str),.tup (P.s2.map PV.str),.tup (P.s3.map PV.str),.tup (P.hs.map bF)]
noncomputable def Pg.nm(P:Pg):Nat->List Str:=LV (P.bs.map (·.1)) P.s1 P.s2 P.s3
structure Pg.Ok(P:Pg):Prop where
 bx:P.bs.length<=20/\ ∀ z∈P.bs,ub z.1=true/\0<=z.2/\z.2<=999
 nm:Aj P.s1/\Aj P.s2/\Aj P.s3
 many:1<=P.hs.length/\P.hs.length<=4
 hd: ∀ h∈P.hs,kf (P.bs.map (·.1)) P.s1 P.s2 P.s3 h
theorem Rh.pg{bs:List (Str × Int)}{s1 s2 s3:List Str}{hs:List (Str × List Rw)}{p:PV}(h:Rh bs s1 s2 s3 hs p):p=Pg.v ⟨bs,s1,s2,s3,hs⟩/\Pg.Ok ⟨bs,s1,s2,s3,hs⟩:=⟨h.at_,h.bx,h.nm,h.many,h.hd⟩
theorem Pg.hand(P:Pg){i:Nat}{x:Str × List Rw}(e:P.hs[i]?=some x):mO P.v (i:Int) x.2:=⟨_,_,_,_,_,_,rfl,P3.eE rfl (by rw[Uq,e];rfl)⟩
noncomputable def BG(x:Str × List Rw)(L:List Str):Prop:=L.length<=6/\(∀ y∈L,ub y=true)/\ ∀ r∈x.2,eW L x.2.length r
noncomputable def IQ(x:Str × List Rw):List Str:=Classical.epsilon (BG x)
theorem gI{s0 s1 s2 s3:List Str}{x:Str × List Rw}(h:kf s0 s1 s2 s3 x):BG x (IQ x):=by
 obtain⟨_,L,l1,l2,l3⟩:=h;exact Classical.epsilon_spec (p:=BG x) ⟨L,l1,l2,λr m=>(l3 r m).1⟩
structure Wd where
 cD:List Int
 bL:List aF
 iO:List (Int × PV)
 dX:List (Option Int × PV)
 cU:List (Int × Int × List Int)
 kl:List Int
noncomputable def gO(b:Int × PV):PV:= .tup [.int b.1,b.2]
noncomputable def KP:Option Int->PV
 | none=> .non
 | some i=> .int i
noncomputable def ft(l:Option Int × PV):PV:= .tup [KP l.1,l.2]
noncomputable def fq(n:Int × Int × List Int):PV:= .tup [.int n.1,.int n.2.1,.tup (n.2.2.map PV.int)]
noncomputable def aI(S:Wd):PV:= .tup [.tup (S.cD.map PV.int),.tup (S.bL.map aC),.tup (S.iO.map gO),.tup (S.dX.map ft),.tup (S.cU.map fq),.tup (S.kl.map PV.int)]
noncomputable def uG(N:Nat)(v:PV):Prop:=v= .non\/ ∃ a b:Int,v= .tup [.int a,.int b]/\0<=a/\a < 4/\0<=b/\b<=N
theorem uG.flat{N:Nat}{v:PV}(h:uG N v):v.flat=true:=by
 rcases h with rfl | ⟨a,b,rfl,_⟩<;>rfl
structure OX(P:Pg)(N:Nat)(x:Str × List Rw)(s:aF):Prop where
 so:cR (IQ x) x.2 s
 nd:s.held.Nodup
 le:s.held.length<=N
 re:bo x.2 s=true
 nm: ∀ l∈s.held,l∈P.s1
structure ia(P:Pg)(N:Nat)(S:Wd):Prop where
 lc:S.cD.length=P.hs.length
 ls:S.bL.length=P.hs.length
 l0:S.iO.length=P.bs.length
 l1:S.dX.length=P.s1.length
 l2:S.cU.length=P.s2.length
 l3:S.kl.length=P.s3.length
 ct: ∀ c∈S.cD,0<=c/\c<=N
 bx: ∀ b∈S.iO,(0<=b.1/\b.1<=999)/\uG N b.2
 lk: ∀ l∈S.dX,(∀ i,l.1=some i->0<=i/\i < 4)/\uG N l.2
 ln: ∀ n∈S.cU,(0<=n.1/\n.1<=N)/\(0<=n.2.1/\n.2.1<=N)/\n.2.2.length<=N/\ ∀ v∈n.2.2,0<=v/\v<=999
 dr: ∀ d∈S.kl,0<=d/\d<=N
 se: ∀(j:Nat)(x:Str × List Rw)(s:aF),P.hs[j]?=some x->S.bL[j]?=some s->OX P N x s
noncomputable def iK(P:Pg)(S:Wd):Option Rw->PV
 | none=> .str "end"
 | some (.take l)=>match S.dX[(P.nm 1).idxOf l]? with
  | some (some i,_)=> .tup [.str "lock",.str l,.int i]
  | _=> .non
 | some (.fetch _ l)=>match S.cU[(P.nm 2).idxOf l]? with
  | some (_,_,[])=> .tup [.str "letter",.str l]
  | _=> .non
 | some _=> .non
noncomputable def rowAt(P:Pg)(S:Wd)(j:Nat):Option Rw:=match P.hs[j]?,S.bL[j]? with
 | some x,some s=>x.2[s.row]?
 | _,_=>none
noncomputable def bE(P:Pg)(S:Wd)(j:Nat):PV:=iK P S (rowAt P S j)
theorem dN{P:Pg}{S:Wd}{j:Nat}{x:Str × List Rw}{s:aF}(e1:P.hs[j]?=some x)(e2:S.bL[j]?=some s):rowAt P S j=x.2[s.row]?:=by unfold rowAt;rw[e1,e2]
theorem bY{P:Pg}(ok:P.Ok){j:Nat}{x:Str × List Rw}(e:P.hs[j]?=some x){r:Rw}(m:r∈x.2){k:Nat}{t:Str}(q:r.th=some (k,t)):t∈P.nm k:=by
 obtain⟨_,L,_,_,l3⟩:=ok.hd x (Ue e);exact(l3 r m).2 k t q
theorem bD{α :Type}{l:List α}{ns:List Str}{t:Str}(hl:l.length=ns.length)(m:t∈ns): ∃ z,l[ns.idxOf t]?=some z/\z∈l:=by
 have h:ns.idxOf t < l.length:=by rw[hl];exact Ym m
 exact⟨l[ns.idxOf t],Uj h,WI h⟩
theorem bz{α :Type}{f: α ->PV}{l:List α}{n:Nat}{z: α}(e:l[n]?=some z):dC (l.map f) (n:Int)=some (f z):=P3.eE rfl (by rw[Uq,e];rfl)
theorem i8{P:Pg}{S:Wd}{N:Nat}(W:ia P N S){j:Nat}(h:j < P.hs.length): ∃ x s c,P.hs[j]?=some x/\S.bL[j]?=some s/\S.cD[j]?=some c/\OX P N x s:=by
 have h1:j < S.bL.length:=by rw[W.ls];exact h
 have h2:j < S.cD.length:=by rw[W.lc];exact h
 exact⟨P.hs[j],S.bL[j],S.cD[j],Uj h,Uj h1,Uj h2,W.se j _ _ (Uj h) (Uj h1)⟩
theorem iB{rs:List Rw}: ∀(n:Nat)(s:aF),bo rs (aX rs n s)=true
 | 0,s=>by
  unfold aX;split
  . assumption
  . unfold bo;rw[Wj (Ua _)]
 | n+1,s=>by
  unfold aX;split
  . assumption
  . split
    . rename_i e;unfold bo;rw[e]
    . exact iB n _
theorem IM{α :Type}{l:List α}{g f: α ->PV}{st:PV->PH->RV (Option PV)}{H:PH}(hl:l.length<=1000)(he: ∀ x∈l,st (g x) H= .ok (some (f x)) H):fT ⟨none,l.map g⟩ st (l.map g) [] H= .ok (l.map f) H :=
 (cL rfl l [] (f:=λx=>some (f x)) (g:=g) he (by simp;omega)).trans (by rw[UL,Wa])
noncomputable def gW:Nat->Str
 | 0=> "box" | 1=> "lock" | 2=> "lane" | _=> "door"
noncomputable def Bg(S:Wd):Nat->List PV
 | 0=>S.iO.map gO | 1=>S.dX.map ft | 2=>S.cU.map fq | _=>S.kl.map PV.int
section
variable{pg:Tb}(T:cj pg)
include T
theorem Cn (k:Nat) (h:PH) (P:Pg) (ok:P.Ok) (i:Nat):run pg (k+1) "names_of" [P.v,.str (gW i)] h= .ok (.ref h.length) (h++[.lst ((P.nm i).map PV.str)]):=by
 have b20:=ok.bx.1;rw [run_eq T.wH rfl];have ik: ∀ (a:Str) (n:Nat),a∈(["box", "lock", "lane", "door", "hand"]:List Str)->(["box", "lock", "lane", "door", "hand"]:List Str).idxOf a=n->qC (.ktup [(.str "box"),(.str "lock"),(.str "lane"),(.str "door"),(.str "hand")]) [.str a] h= .ok (.int (n:Nat)) h:=λa n m e=>by rw [<- e];exact LO (ss:=["box", "lock", "lane", "door", "hand"]) m
 match i with
 | 0 =>
  have q:qC (.ktup [(.str "box"),(.str "lock"),(.str "lane"),(.str "door"),(.str "hand")]) [.str "box"] h= .ok (.int 0) h:=ik "box" 0 (by decide +kernel) (by decide +kernel)
  have lc: ∀ E:aq,E=[some P.v,some (.str "box"),some (.tup (P.bs.map eA))]->fT ⟨none,P.bs.map eA⟩ (aN 1 (gN 3) aP (eX 3 0) (run pg k) E) (P.bs.map eA) [] h= .ok ((P.bs.map (·.1)).map PV.str) h:=by
   rintro _ rfl;rw[U5];refine IM (l:=P.bs) (f:=PV.str ∘ λz:Str × Int=>z.1) (by omega) λx _=>?_;simp? [eA];rfl
  have lc':=lc _ rfl
  unfold Pg.v at lc'
  simp? [dm,fM,Pg.v,gW,Pg.nm,LV,yM,q,lc']
  exact bR rfl
 | 1 =>
  have q:=ik "lock" 1 (by decide +kernel) (by decide +kernel)
  have q':qC (.ktup [(.str "box"),(.str "lock"),(.str "lane"),(.str "door"),(.str "hand")]) [.str "lock"] h= .ok (.int 1) h:=q
  simp? [dm,fM,Pg.v,gW,Pg.nm,LV,yM,q']
  exact bR rfl
 | 2 =>
  have q:=ik "lane" 2 (by decide +kernel) (by decide +kernel)
  have q':qC (.ktup [(.str "box"),(.str "lock"),(.str "lane"),(.str "door"),(.str "hand")]) [.str "lane"] h= .ok (.int 2) h:=q
  simp? [dm,fM,Pg.v,gW,Pg.nm,LV,yM,q']
  exact bR rfl
 | (n+3) =>
  have q:=ik "door" 3 (by decide +kernel) (by decide +kernel)
  have q':qC (.ktup [(.str "box"),(.str "lock"),(.str "lane"),(.str "door"),(.str "hand")]) [.str "door"] h= .ok (.int 3) h:=q
  simp? [dm,fM,Pg.v,gW,Pg.nm,LV,yM,q']
  exact bR rfl
theorem rh(k:Nat)(h:PH){P:Pg}(ok:P.Ok){i:Nat}{t:Str}(m:t∈P.nm i):run pg (k+2) "number_of" [P.v,.str (gW i),.str t] h= .ok (.int ((P.nm i).idxOf t:Nat)) h:=by
 have n1:=Cn T k h P ok i;have e:(h++[PO.lst ((P.nm i).map PV.str)])[h.length]?=some (.lst ((P.nm i).map PV.str)):=bA;have i1:=Of e t;have i2:=tK e m;rw[run_eq T.vD rfl];simp? [gD,mV,n1,i1,m,i2];exact bI rfl
theorem oP(k:Nat)(h:PH){P:Pg}(ok:P.Ok)(S:Wd){i:Nat}(i4:i < 4){t:Str}(m:t∈P.nm i){z:PV}(e:(Bg S i)[(P.nm i).idxOf t]?=some z):run pg (k+3) "state_of" [P.v,aI S,.str (gW i),.str t] h= .ok z h:=by
 have n1:=rh T k h ok m;have a1:dC (Bg S i) (((P.nm i).idxOf t:Nat):Int)=some z:=P3.eE rfl e;have ix: ∀ g,ay (.tup (Bg S i)) (.int (((P.nm i).idxOf t:Nat):Int)) g= .ok z g:=λg=>ka a1;have pl:cv dj (.inr (gW i))=some (.int ((2+i:Nat):Int)):=by
  match i,i4 with
  | 0,_=>simp only[gW];decide +kernel
  | 1,_=>simp only[gW];decide +kernel
  | 2,_=>simp only[gW];decide +kernel
  | 3,_=>simp only[gW];decide +kernel
 have st: ∀ g,ay (aI S) (.int ((2+i:Nat):Int)) g= .ok (.tup (Bg S i)) g:=λg=>by
  match i,i4 with
  | 0,_=>exact vd
  | 1,_=>exact zW
  | 2,_=>exact sr
  | 3,_=>exact Mf
 rw[run_eq T.wK rfl];simp? [hX,pE,pl,st,n1,ix]
end
theorem lay_ints: ∀ ls:List Int,U0 (ls.map Yx)=true
 | []=>rfl
 | i::r=>by rw[T9,U0,lay_ints r];rfl
theorem jY{f:Nat->Option V1}: ∀ ls:List Int,bK f (ls.map PV.int)=some (ls.map Yx)
 | []=>rfl
 | x::r=>by rw[T9,bK,jY r];rfl
theorem nH{ls:List Int}{h:PH}:ki (.tup (ls.map PV.int)) (.tup []) h= .ok (.bl (decide (ls=[]))) h:=by
 have d1:dat 6 h (.tup (ls.map PV.int))=some (.tuple (ls.map Yx)):=by unfold dat;rw[ir,jY];rfl
 have d2:dat 6 h (.tup [])=some (.tuple []):=rfl;have sc:iI (.tup (ls.map PV.int)) (.tup [])=false:=rfl;have c1:(Yl (ls.map Yx)).canLay0=true:=by rw[W6,lay_ints]
 have c2:(Yl []).canLay0=true:=rfl;have c3:min (Yl (ls.map Yx)).depth (Yl []).depth<=64:=UM (XN _ _) (by decide);have al:alike (.tup (ls.map PV.int)) (.tup []) h=some (decide (ls=[])):=by
  unfold alike;rw[sc,d1,d2];simp only[VG,if_false,c1,c2,c3,and_self,if_true];cases ls<;>rfl
 unfold ki;rw[al]
theorem DB(s:aF)(r:Rw): ∃ t v,bQ s r= .tup [.str r.w,t,v]:=by cases r<;>exact⟨_,_,rfl⟩
theorem pX(r:Rw):(∃ l,r= .take l)\/(∃ x l,r= .fetch x l)\/(¬ r.w= "take" /\ ¬ r.w= "fetch" /\ ∀ P S,iK P S (some r)= .non):=by
 cases r with
 | take l=>exact .inl ⟨l,rfl⟩
 | fetch x l=>exact .inr (.inl ⟨x,l,rfl⟩)
 | _=>exact .inr (.inr ⟨by simp only[Rw.w];decide +kernel,by simp only[Rw.w];decide +kernel,λ_ _=>rfl⟩)
section
variable{pg:Tb}(T:cj pg)
include T
theorem kc(k:Nat)(h:PH){P:Pg}(ok:P.Ok){N:Nat}{S:Wd}(W:ia P N S){j:Nat}(hj:j < P.hs.length):run pg (k+11) "wait_of" [P.v,aI S,.int j] h= .ok (bE P S j) h:=by
 obtain⟨x,s,c,ex,es,ec,so⟩:=i8 W hj;obtain⟨l1,l2,l3⟩:=gI (ok.hd x (Ue ex));have to:=mZ T k h (by omega) (P.hand ex) l3 so.so;have i1: ∀ g,ay (aI S) (.int 1) g= .ok (.tup (S.bL.map aC)) g:=λg=>jD;have i2: ∀ g,ay (.tup (S.bL.map aC)) (.int j) g= .ok (aC s) g:=λg=>ka (bz es);rw[run_eq T.zH rfl];unfold bE;rw[dN ex es];unfold pj at to;cases e:x.2[s.row]? with
 | none =>
  rw[e] at to
  simp? [cK,d8,i1,i2,to,iK]
 | some r =>
  rw[e] at to
  have mr:=Ue e
  rcases pX r with⟨l,rfl⟩ | ⟨y,l,rfl⟩ | ⟨n1,n2,n3⟩
  . have m:=bY ok ex mr (k:=1) (t:=l) rfl;obtain⟨z,ez,mz⟩:=bD (l:=S.dX) (ns:=P.nm 1) W.l1 m;have so:=oP T (k+7) h ok S (i:=1) (by decide) m (z:=ft z) (by show(S.dX.map ft)[_]?=_;rw[Uq,ez];rfl);have so':run pg (k+10) "state_of" [P.v,aI S,.str "lock",.str l] h= .ok (ft z) h:=so;obtain⟨zh,zm⟩:=z;simp only[iK,ez];cases zh with
    | none=>simp? [cK,d8,i1,i2,to,bQ,so',ft,KP]
    | some i=>simp? [cK,d8,i1,i2,to,bQ,so',ft,KP]
  . have m:=bY ok ex mr (k:=2) (t:=l) rfl;obtain⟨z,ez,mz⟩:=bD (l:=S.cU) (ns:=P.nm 2) W.l2 m;have so:=oP T (k+7) h ok S (i:=2) (by decide) m (z:=fq z) (by show(S.cU.map fq)[_]?=_;rw[Uq,ez];rfl);have so':run pg (k+10) "state_of" [P.v,aI S,.str "lane",.str l] h= .ok (fq z) h:=so;obtain⟨a,b,ls⟩:=z;simp only[iK,ez];cases ls with
    | nil =>
     have q:=nH (ls:=[]) (h:=h)
     rw[UN] at q
     simp? [cK,d8,i1,i2,to,bQ,so',fq,q]
    | cons i r =>
     have q:=nH (ls:=i::r) (h:=h)
     have ne:decide (i::r=[])=false:=rfl
     rw[ne,T9] at q
     simp? [cK,d8,i1,i2,to,bQ,so',fq,q]
  . obtain⟨t,v,et⟩:=DB s r;have to':run pg (k+10) "touch_of" [P.v,.int j,aC s] h= .ok (bQ s r) h:=to;rw[et] at to';rw[n3];simp? [cK,d8,i1,i2,to',n1,n2]
end
noncomputable def jW(P:Pg)(S:Wd):List PV:=(UR P.hs.length).map (bE P S)
noncomputable def cO(P:Pg)(S:Wd):List Nat:=(UR P.hs.length).filter λj=>decide (bE P S j= .non)
noncomputable def sT(ws:List PV):Bool:= !decide (PV.non∈ws)&&ws.any λv=> !decide (v= .str "end")
noncomputable def lg(v:PV):Prop:=v= .non\/v= .str "end" \/(∃(l:Str)(i:Int),v= .tup [.str "lock",.str l,.int i]/\ub l=true/\V9 l=true/\0<=i/\i < 4)\/(∃ l:Str,v= .tup [.str "letter",.str l]/\ub l=true/\V9 l=true)
theorem Ii{P:Pg}(ok:P.Ok){N:Nat}{S:Wd}(W:ia P N S){j:Nat}(hj:j < P.hs.length):lg (bE P S j):=by
 obtain⟨x,s,c,ex,es,ec,so⟩:=i8 W hj;unfold bE;rw[dN ex es];cases e:x.2[s.row]? with
 | none=>exact .inr (.inl rfl)
 | some r =>
  have mr:=Ue e
  rcases pX r with⟨l,rfl⟩ | ⟨y,l,rfl⟩ | ⟨n1,n2,n3⟩
  . have m:=bY ok ex mr (k:=1) (t:=l) rfl;obtain⟨z,ez,mz⟩:=bD (l:=S.dX) (ns:=P.nm 1) W.l1 m;have hn:=ok.nm.1.2 l m;obtain⟨zh,zm⟩:=z;simp only[iK,ez];cases zh with
    | none=>exact .inl rfl
    | some i =>
     have:=(W.lk _ mz).1 i rfl
     exact .inr (.inr (.inl ⟨l,i,rfl,hn.1,hn.2,this.1,this.2⟩))
  . have m:=bY ok ex mr (k:=2) (t:=l) rfl;obtain⟨z,ez,mz⟩:=bD (l:=S.cU) (ns:=P.nm 2) W.l2 m;have hn:=ok.nm.2.1.2 l m;obtain⟨a,b,ls⟩:=z;simp only[iK,ez];cases ls with
    | nil=>exact .inr (.inr (.inr ⟨l,rfl,hn.1,hn.2⟩))
    | cons i r=>exact .inl rfl
  . rw[n3];exact .inl rfl
theorem lg.flat{v:PV}(h:lg v):v.flat=true:=by
 rcases h with rfl | rfl | ⟨l,i,rfl,_⟩ | ⟨l,rfl,_⟩<;>rfl
theorem DG{P:Pg}(ok:P.Ok){N:Nat}{S:Wd}(W:ia P N S): ∀ v∈jW P S,lg v:=λv m=>by
 obtain⟨j,mj,rfl⟩:=UP.mp m;exact Ii ok W (Vj.mp mj)
theorem yK: ∀{ws:List PV},(∀ v∈ws,lg v)->PV.bC ws=true
 | [],_=>rfl
 | v::r,h=>by rw[PV.bC,(h v Uk).flat,yK λz m=>h z (Uo _ m)];rfl
theorem lg.d{v:PV}(h:lg v): ∃ d:V1,(∀ sub,ir sub v=some d)/\d.canLay0=true/\d.depth<=1/\V5 d .none=decide (v= .non)/\V5 d (.str "end")=decide (v= .str "end"):=by
 rcases h with rfl | rfl | ⟨l,i,rfl,_,h2,_⟩ | ⟨l,rfl,_,h2⟩
 . exact⟨.none,λ_=>rfl,rfl,UQ _,rfl,rfl⟩
 . exact⟨.str "end",λ_=>rfl,by decide +kernel,UQ _,rfl,by decide +kernel⟩
 . refine⟨.tuple [.str "lock",.str l,.int i],λ_=>rfl,?_,by simp[Yk,Vt],?_,?_⟩
   . have:V9 "lock" =true:=by decide +kernel
     simp only[W6,U0,h2,this,Wy]
   . simp[V5]
   . simp[V5]
 . refine⟨.tuple [.str "letter",.str l],λ_=>rfl,?_,by simp[Yk,Vt],?_,?_⟩
   . have:V9 "letter" =true:=by decide +kernel
     simp only[W6,U0,h2,this,Wy]
   . simp[V5]
   . simp[V5]
theorem Eh(v x:PV)(r:List PV):(decide (v=x)||decide (x∈r))=decide (x∈v::r):=by
 by_cases a:v=x
 . subst a;simp
 . have a': ¬ x=v:=λe=>a e.symm;simp only[a,decide_false,aan,Ui,a',false_or]
theorem Lo: ∀{ws:List PV},(∀ v∈ws,lg v)-> ∃ ds:List V1,(∀ sub,bK sub ws=some ds)/\U0 ds=true/\Vt ds<=1/\(ds.any λz=>V5 z .none)=decide (PV.non∈ws)
 | [],_=>⟨[],λ_=>rfl,rfl,UQ _,rfl⟩
 | v::r,h=>by
  obtain⟨d,d1,d2,d3,d4,_⟩:=(h v Uk).d;obtain⟨ds,e1,e2,e3,e4⟩:=Lo λz m=>h z (Uo _ m);refine⟨d::ds,λsub=>by rw[bK,d1,e1],by rw[U0,d2,e2];rfl,by rw[Vt];omega,?_⟩;rw[Vl,d4,e4,Eh]
theorem Im: ∀{ws:List PV},(ws.all dY)=true->(ws.any λz=>Hd z .non)=decide (PV.non∈ws)
 | [],_=>rfl
 | v::r,h=>by
  rw[WX,Ut] at h;have:Hd v .non=decide (v= .non):=by
   cases v<;>first | rfl | simp[Hd]
  rw[Vl,Im h.2,this,Eh]
theorem Hz{ws:List PV}(h: ∀ v∈ws,lg v)(g:PH):gF .non (.tup ws) g= .ok (.bl (!decide (PV.non∈ws))) g:=by
 obtain⟨ds,e1,e2,e3,e4⟩:=Lo h;have al:isIn .non (.tup ws) g=some (decide (PV.non∈ws)):=by
  unfold isIn;simp only[itemsOf];by_cases z:(ws.all dY)=true
  . rw[if_pos (by rw[z];rfl),Im z]
  . rw[if_neg (by simpa [dY] using z)];have d0:dat 6 g .non=some .none:=rfl;have c:U0 ds=true/\abE.canLay0=true/\min (Vt ds) abE.depth<=60:=⟨e2,rfl,by omega⟩
    simp only[d0,e1,e4];exact if_pos c
 unfold gF;rw[al]
theorem Cz{v:PV}(h:lg v)(g:PH):gu v (.str "end") g= .ok (.bl (!decide (v= .str "end"))) g:=by
 obtain⟨d,d1,d2,d3,_,d5⟩:=h.d;have al:alike v (.str "end") g=some (decide (v= .str "end")):=by
  have dv:dat 6 g v=some d:=by unfold dat;exact d1 _
  have de:dat 6 g (.str "end")=some (.str "end"):=rfl;have c:d.canLay0=true/\(W5 "end").canLay0=true/\min d.depth (W5 "end").depth<=64:=⟨d2,by decide +kernel,by omega⟩
  rcases h with rfl | rfl | ⟨l,i,rfl,_⟩ | ⟨l,rfl,_⟩
  . rfl
  . rfl
  . unfold alike;rw[show iI (.tup [.str "lock",.str l,.int i]) (.str "end")=false from rfl,dv,de];simp only[VG,if_false];rw[if_pos c,d5]
  . unfold alike;rw[show iI (.tup [.str "letter",.str l]) (.str "end")=false from rfl,dv,de];simp only[VG,if_false];rw[if_pos c,d5]
 have nd:fG g v=false:=by rcases h with rfl | rfl | ⟨l,i,rfl,_⟩ | ⟨l,rfl,_⟩<;>rfl
 unfold gu;rw[al,nd];rfl
theorem Am(m:Nat)(w:Nat->PV):((UR m).map w).zipIdx=(UR m).map λj=>(w j,j):=by
 refine aa6 (by simp) λi h1 h2=>?_;simp
theorem fD{α β :Type}(p: α ->Bool)(f: α -> β): ∀ l:List α,(l.filterMap λj=>if p j=true then some (f j) else none)=(l.filter p).map f
 | []=>rfl
 | x::r=>by
  by_cases z:p x=true
  . rw[WA (by rw[if_pos z]),US z,T9,fD p f r]
  . rw[Wz (by rw[if_neg z]),U6 z,fD p f r]
noncomputable def gU(j:Nat):PV:= .int (j:Int)
theorem mU{x:PV}{h:PH}:ee false x h= .ok (.bl (decide (x= .non))) h:=rfl
section
variable{pg:Tb}(T:cj pg)
include T
theorem vS(k:Nat)(h:PH)(P:Pg)(ok:P.Ok):run pg (k+1) "hands_of" [P.v] h= .ok (.ref h.length) (h++[.lst (aw 0 P.hs.length)]):=by
 have:=ok.many;rw[run_eq T.pA rfl];have tn:XS ((P.hs.length:Nat):Int)=P.hs.length:=Vc _;simp? [fN,jU,Pg.v,Jj,DP,TZ,tn];exact bR rfl
theorem oE(k:Nat)(h:PH){P:Pg}(ok:P.Ok){N:Nat}{S:Wd}(W:ia P N S):run pg (k+12) "waits" [P.v,aI S] h= .ok (.tup (jW P S)) h:=by
 have hm:=ok.many;have ho:=vS T (k+10) h P ok
 let H:PH:=h++[.lst (aw 0 P.hs.length)]
 have lc:fT ⟨some h.length,aw 0 P.hs.length⟩ (aN 1 (gN 2) aP (ae "wait_of" (a3 (aa 0) (aa 1) (aa 2))) (run pg (k+11)) [some P.v,some (aI S)]) (aw 0 P.hs.length) [] H= .ok (jW P S) H:=by
  refine(cL (eJ bA) (UR P.hs.length) [] (f:=λi=>some (bE P S i)) (g:=λi:Nat=>PV.int (0+(i:Int))) (λi m=>?_) (by simp;omega)).trans (by rw[UL,Wa];rfl);have iz:(0:Int)+(i:Int)=(i:Int):=Wv _;have w:=kc T k H ok W (Vj.mp m);show aN _ _ _ _ _ _ _ H= .ok _ H
  clear_value H
  simp? [iz,w]
 have lc':fT ⟨some h.length,aw 0 P.hs.length⟩ (aN 1 (gN 2) aP (ae "wait_of" (a3 (aa 0) (aa 1) (aa 2))) (run pg (k+11)) [some P.v,some (aI S)]) (aw 0 P.hs.length) [] (h++[.lst (aw 0 P.hs.length)])= .ok (jW P S) (h++[.lst (aw 0 P.hs.length)]):=lc;rw[run_eq T.G7 rfl];simp? [nL,yp,ho,lc'];exact bI (v:= .tup _) (yK (DG ok W))
theorem zD(k:Nat)(h:PH){P:Pg}(ok:P.Ok){N:Nat}{S:Wd}(W:ia P N S):run pg (k+13) "can_go" [P.v,aI S] h= .ok (.ref h.length) (h++[.lst ((cO P S).map gU)]):=by
 have hm:=ok.many;have wa:=oE T k h ok W;have lc:fT ⟨none,(jW P S).zipIdx.map λq=> .tup [.int (q.2:Int),q.1]⟩ (aN 2 (gT 2 (aW (gN 2) (aW (gN 3) gq))) (aE (rO (ee false) (aa 3))) (aa 2) (run pg (k+12)) [some P.v,some (aI S)]) ((jW P S).zipIdx.map λq=> .tup [.int (q.2:Int),q.1]) [] h= .ok ((cO P S).map gU) h:=by
  unfold jW;rw[Am,U5];refine(cL rfl (UR P.hs.length) [] (f:=λj=>if decide (bE P S j= .non)=true then some (gU j) else none) (g:=(λq:PV × Nat=>PV.tup [.int (q.2:Int),q.1]) ∘ λj=>(bE P S j,j)) (λi m=>?_) (by simp;omega)).trans (by rw[UL,fD];rfl);show aN _ _ _ _ _ _ (.tup [.int (i:Int),bE P S i]) h=_;by_cases z:bE P S i= .non
  . simp? [z,mU,gU]
  . simp? [z,mU,gU]
 rw[run_eq T.Di rfl];simp? [lB,uY,FY,wa,Bz,lc];exact bR rfl
theorem As(k:Nat)(h:PH){P:Pg}(ok:P.Ok){N:Nat}{S:Wd}(W:ia P N S){j:Nat}(hj:j < P.hs.length):run pg (k+12) "may_go" [P.v,aI S,.int j] h= .ok (.bl (decide (bE P S j= .non))) h:=by
 have w:=kc T k h ok W hj;rw[run_eq T.C8 rfl];simp? [lE,vg,w,mU]
theorem Ej(k:Nat)(h:PH){P:Pg}(ok:P.Ok){N:Nat}{S:Wd}(W:ia P N S):run pg (k+13) "is_stuck" [P.v,aI S] h= .ok (.bl (sT (jW P S))) h:=by
 have hm:=ok.many;have wa:=oE T k h ok W;have wo:=DG ok W;have hl:(jW P S).length<=4:=by unfold jW;rw[TZ,VB];omega
 have lc:fT ⟨none,jW P S⟩ (aN 1 (gN 3) aP (aj gu (aa 3) (eS "end")) (run pg (k+12)) [some P.v,some (aI S),some (.tup (jW P S))]) (jW P S) [] h= .ok (((jW P S).map λv=> !decide (v= .str "end")).map PV.bl) h:=by
  have:=IM (l:=jW P S) (g:=id) (f:=λv=>PV.bl (!decide (v= .str "end"))) (st:=aN 1 (gN 3) aP (aj gu (aa 3) (eS "end")) (run pg (k+12)) [some P.v,some (aI S),some (.tup (jW P S))]) (H:=h) (by omega) (λv m=>by
   have q:=Cz (wo v m) h;simp? [id,q])
  rw[YM] at this;rw[this,U5];rfl
 have ni:=λg=>Hz wo g;have an:=QQ (h:=h++[.lst (((jW P S).map λv=> !decide (v= .str "end")).map PV.bl)]) (n:=h.length) (bs:=(jW P S).map λv=> !decide (v= .str "end")) bA;rw[run_eq T.xI rfl];unfold sT;by_cases z:PV.non∈jW P S
 . simp? [fF,jX,wa,ni,z,Xz]
 . simp? [fF,jX,wa,ni,z,lc,an,Xn];rw[bI rfl,List.any_map];rfl
end
noncomputable def ji(j:Nat)(c:Int):PV:= .tup [.int (j:Int),.int c]
noncomputable def Rw.tg:Rw->Str
 | .hear _ d=>d
 | r=>match r.th with
  | some (_,t)=>t
  | none=> ""
noncomputable def met(P:Pg)(S:Wd)(j:Nat)(c:Int)(s:aF)(g:PV):Rw->Wd × PV × PV
 | .get _ b=>(S,.int ((S.iO[(P.nm 0).idxOf b]?).getD (0,.non)).1,((S.iO[(P.nm 0).idxOf b]?).getD (0,.non)).2)
 | .put b e=>({ S with iO:=S.iO.set ((P.nm 0).idxOf b) (e.val (fP s.ps),ji j c) },.int (e.val (fP s.ps)),((S.iO[(P.nm 0).idxOf b]?).getD (0,.non)).2)
 | .take l=>({ S with dX:=S.dX.set ((P.nm 1).idxOf l) (some (j:Int),((S.dX[(P.nm 1).idxOf l]?).getD (none,.non)).2) },.non,((S.dX[(P.nm 1).idxOf l]?).getD (none,.non)).2)
 | .free l=>({ S with dX:=S.dX.set ((P.nm 1).idxOf l) (none,ji j c) },.non,.non)
 | .send l e=>({ S with cU:=S.cU.set ((P.nm 2).idxOf l) (((S.cU[(P.nm 2).idxOf l]?).getD (0,0,[])).1+1,((S.cU[(P.nm 2).idxOf l]?).getD (0,0,[])).2.1,((S.cU[(P.nm 2).idxOf l]?).getD (0,0,[])).2.2++[e.val (fP s.ps)]) },.int (e.val (fP s.ps)),.int ((S.cU[(P.nm 2).idxOf l]?).getD (0,0,[])).1)
 | .fetch _ l=>({ S with cU:=S.cU.set ((P.nm 2).idxOf l) (((S.cU[(P.nm 2).idxOf l]?).getD (0,0,[])).1,((S.cU[(P.nm 2).idxOf l]?).getD (0,0,[])).2.1+1,((S.cU[(P.nm 2).idxOf l]?).getD (0,0,[])).2.2.tail) },.int (((S.cU[(P.nm 2).idxOf l]?).getD (0,0,[])).2.2.headD 0),.int ((S.cU[(P.nm 2).idxOf l]?).getD (0,0,[])).2.1)
 | .say d e=>({ S with kl:=S.kl.set ((P.nm 3).idxOf d) ((S.kl[(P.nm 3).idxOf d]?).getD 0+1) },.int (e.val (fP s.ps)),.int ((S.kl[(P.nm 3).idxOf d]?).getD 0))
 | _=>(S,g,.non)
noncomputable def jN(S:Wd)(j:Nat)(c:Int)(t:aF):Wd:={ S with cD:=S.cD.set j (c+1),bL:=S.bL.set j t }
noncomputable def cZ(r:Rw)(v m:PV):PV:= .tup [.str r.w,.str r.tg,v,m]
noncomputable def fY(P:Pg)(S:Wd)(j:Nat)(c:Int)(rs:List Rw)(s:aF)(g:PV)(r:Rw):Wd:=jN (met P S j c s g r).1 j c (aX rs 200 (after s (met P S j c s g r).2.1 r))
noncomputable def d6:Rw->Bool
 | .clock _=>true | .lot _ _=>true | .hear _ _=>true
 | _=>false
noncomputable def gH (r:Rw) (g:PV):Prop:=(d6 r=true-> ∃ i:Int,g= .int i∧0<=i∧i<=999∧ ∀ x n,r= .lot x n->i < n)∧(d6 r=false->g= .non)
theorem bJ {α :Type} (f: α ->PV) (l:List α) (n:Nat) (z: α):(l.map f).set n (f z)=(l.set n z).map f:=List.map_set.symm
theorem oF {r:Rw} {i:Nat} {t:Str} (h:r.th=some (i,t)):cv fE (.inr r.w)=some (.str (gW i))∧ ¬ r.w∈(["clock", "lot", "hear"]:List Str)∧i < 4∧d6 r=false∧r.tg=t:=by
 cases r<;>cases h<;>exact ⟨by simp only [Rw.w,gW];decide +kernel,by simp only [Rw.w];decide +kernel,by decide,rfl,rfl⟩
theorem jz {r:Rw} (h:d6 r=true):r.w∈(["clock", "lot", "hear"]:List Str)∧r.th=none∧ ∀ P S j c s g,met P S j c s g r=(S,g,.non):=by
 cases r<;>first | exact ⟨by simp only [Rw.w];decide +kernel,rfl,λ_ _ _ _ _ _=>rfl⟩ | exact nomatch h
theorem oT {r:Rw} (s:aF) (h:d6 r=true): ∃ tv,bQ s r= .tup [.str r.w,.str r.tg,tv]∧((∃ x n,r= .lot x n∧tv= .int n)∨ ¬ r.w= "lot"):=by
 cases r<;>first | exact ⟨_,rfl,.inl ⟨_,_,rfl,rfl⟩⟩ | exact ⟨_,rfl,.inr (by simp only [Rw.w];decide +kernel)⟩ | exact nomatch h
theorem vh{r:Rw}{i:Nat}{t:Str}(s:aF)(h:r.th=some (i,t)): ∃ tv,bQ s r= .tup [.str r.w,.str t,tv]:=by
 cases r<;>cases h<;>exact⟨_,rfl⟩
theorem i7{rs:List Rw}{s:aF}{r:Rw}(h:bo rs s=true)(e:rs[s.row]?=some r):own s.held r=false/\((∃ i t,r.th=some (i,t))\/d6 r=true):=by
 unfold bo at h;rw[e] at h;have ho:own s.held r=false:=by simpa using h
 refine⟨ho,?_⟩;cases r<;>first | exact .inr rfl | exact .inl ⟨_,_,rfl⟩ | exact nomatch ho
section
variable{pg:Tb}(T:cj pg)
include T
theorem dy(k:Nat)(h:PH)(xs:List PV)(n:Nat)(v:PV)(hn:n < xs.length)(hx:xs.length<=1000):run pg (k+1) "replaced" [.tup xs,.int (n:Int),v] h= .ok (.tup (xs.set n v)) h:=by
 have c1:gx xs none (some (n:Int))=xs.take n:=by rw[P3.tQ (by omega)];rfl
 have c2:gx xs (some ((n:Int)+1)) none=xs.drop (n+1):=by rw[P3.lD (by omega)];congr 1
 have a1: ∀ g,aY (.tup (xs.take n)) (.tup [v]) g= .ok (.tup (xs.take n++[v])) g:=λg=>la (by simp only[Ve,Ub,UE];omega);have a2: ∀ g,aY (.tup (xs.take n++[v])) (.tup (xs.drop (n+1))) g= .ok (.tup (xs.take n++[v]++xs.drop (n+1))) g:=λg=>la (by simp only[Ur,Ve,VW,Ub,UE];omega);have es:xs.set n v=xs.take n++[v]++xs.drop (n+1):=by rw[List.set_eq_take_append_cons_drop,if_pos hn];simp
 rw[es,run_eq T.xw rfl];simp? [iA,oh,c1,c2,a1,↓a2]
theorem p7(k:Nat)(h:PH){i a b:Int}(h0:a<=i)(h9:i<=b):run pg (k+2) "is_between" [.int i,.int a,.int b] h= .ok (.bl true) h:=by
 have w:run pg (k+1) "is_whole" [.int i] h= .ok (.bl true) h:=by
  rw[run_eq T.wR rfl];simp? [ip,o6,Kx,JY]
 rw [run_eq T.tw rfl];simp? [fA,kN,w,h0,h9]
theorem He (k:Nat) (h:PH) {r:Rw} {g:PV} (s:aF) (hg:gH r g) (hc:(∃ i t,r.th=some (i,t))∨d6 r=true):run pg (k+5) "takes_gift" [bQ s r,g] h= .ok (.bl true) h:=by
 have ink: ∀ a:Str,ja (.str a) (.ktup [(.str "clock"),(.str "lot"),(.str "hear")]) h= .ok (.bl (decide (a∈(["clock", "lot", "hear"]:List Str)))) h:=λa=>in_K (ss:=["clock", "lot", "hear"]);rw [run_eq T.tE rfl];rcases hc with ⟨i,t,ht⟩ | hq
 . obtain ⟨_,n2,_,n4,_⟩:=oF ht;obtain⟨tv,et⟩:=vh s ht;have eg:=hg.2 n4;subst eg;rw[et];simp? [dI,iy,ink,n2]
 . obtain⟨m1,_⟩:=jz hq;obtain⟨i,rfl,i0,i9,il⟩:=hg.1 hq;obtain⟨tv,et,cl⟩:=oT s hq;have iv:run pg (k+3) "is_value" [.int i] h= .ok (.bl true) h:=by
    have:=p7 T k h i0 i9;rw[run_eq T.vX rfl];simp? [iE,pL,this]
   have mc:run pg (k+4) "may_come" [bQ s r,.int i] h= .ok (.bl true) h:=by
    rw[run_eq T.xF rfl];rcases cl with⟨x,n,rfl,rfl⟩ | cl
    . have lt:=il x n rfl;rw[et];simp? [fS,kg,iv,Rw.w,lt]
    . rw[et];simp? [fS,kg,iv,cl]
   rw[et] at mc ⊢;simp? [dI,iy,ink,m1,mc]
theorem CM(k:Nat)(h:PH){P:Pg}(ok:P.Ok){N:Nat}{S:Wd}(W:ia P N S){j:Nat}{x:Str × List Rw}{s:aF}{r:Rw}(ex:P.hs[j]?=some x)(es:S.bL[j]?=some s)(er:x.2[s.row]?=some r)(hw:bE P S j= .non){g:PV}(hg:gH r g):run pg (k+12) "due_touch" [P.v,aI S,.int j,g] h= .ok (bQ s r) h:=by
 have hj:j < P.hs.length:=(T1.mp ex).1;have so:=W.se j x s ex es;obtain⟨l1,l2,l3⟩:=gI (ok.hd x (Ue ex));have to:=mZ T (k+1) h (by omega) (P.hand ex) l3 so.so;unfold pj at to;rw[er] at to;have to':run pg (k+11) "touch_of" [P.v,.int j,aC s] h= .ok (bQ s r) h:=to;have i1: ∀ g,ay (aI S) (.int 1) g= .ok (.tup (S.bL.map aC)) g:=λg=>jD;have i2: ∀ g,ay (.tup (S.bL.map aC)) (.int j) g= .ok (aC s) g:=λg=>ka (bz es);have i4: ∀ g,ay P.v (.int 4) g= .ok (.tup (P.hs.map bF)) g:=λg=>sr;have w:=kc T k h ok W hj;rw[hw] at w;have bt:=p7 T (k+9) h (i:=(j:Int)) (a:=0) (b:=(P.hs.length:Int) - 1) (by omega) (by omega);have tg:=He T (k+6) h s hg (i7 so.re er).2;have en:ki .non (.str "end") h= .ok (.bl false) h:=rfl;rw[run_eq T.vL rfl];simp? [gB,nh,i4,TZ,bt,w,en,i1,i2,to',tg]
theorem pR(k:Nat)(h:PH){P:Pg}(ok:P.Ok){N:Nat}{S:Wd}(W:ia P N S)(N9:N<=60){j:Nat}{x:Str × List Rw}{s:aF}{c:Int}{r:Rw}(ex:P.hs[j]?=some x)(es:S.bL[j]?=some s)(ec:S.cD[j]?=some c)(er:x.2[s.row]?=some r){S1:Wd}(h1:S1.cD=S.cD)(h2:S1.bL=S.bL){v:PV}(hv: ∀ x,r.fZ=some x-> ∃ i:Int,v= .int i/\0<=i/\i<=999):run pg (k+12) "with_hand_on" [P.v,aI S1,.int j,v] h= .ok (aI (jN S1 j c (aX x.2 200 (after s v r)))) h:=by
 have so:=W.se j x s ex es;have hm:=ok.many;obtain⟨l1,l2,l3⟩:=gI (ok.hd x (Ue ex))
 let t:=aX x.2 200 (after s v r)
 have sb:run pg (k+11) "seat_behind" [P.v,.int j,aC s,v] h= .ok (aC t) h:=nX T k h (by omega) (P.hand ex) l3 so.so (UM so.le N9) er hv;have lj:j < P.hs.length:=(T1.mp ex).1;have i0: ∀ g,ay (aI S1) (.int 0) g= .ok (.tup (S.cD.map PV.int)) g:=λg=>by rw[<- h1];exact tH
 have i1: ∀ g,ay (aI S1) (.int 1) g= .ok (.tup (S.bL.map aC)) g:=λg=>by rw[<- h2];exact jD
 have i2: ∀ g,ay (.tup (S.bL.map aC)) (.int j) g= .ok (aC s) g:=λg=>ka (bz es);have i3: ∀ g,ay (.tup (S.cD.map PV.int)) (.int j) g= .ok (.int c) g:=λg=>ka (bz ec);have lc:S.cD.length=P.hs.length:=W.lc;have ls:S.bL.length=P.hs.length:=W.ls;have r1:=dy T (k+10) h (S.cD.map PV.int) j (.int (c+1)) (by rw[TZ];omega) (by rw[TZ];omega);rw[bJ PV.int] at r1;have r2:=dy T (k+10) h (S.bL.map aC) j (aC t) (by rw[TZ];omega) (by rw[TZ];omega);rw[bJ aC] at r2
 let B:List PV:=[.tup (S1.iO.map gO),.tup (S1.dX.map ft),.tup (S1.cU.map fq),.tup (S1.kl.map PV.int)]
 have e1:aI S1= .tup (.tup (S.cD.map PV.int):: .tup (S.bL.map aC)::B):=by rw[<- h1,<- h2];rfl
 have r3:=dy T (k+10) h (.tup (S.cD.map PV.int):: .tup (S.bL.map aC)::B) 0 (.tup ((S.cD.set j (c+1)).map PV.int)) (by simp[B]) (by simp[B]);rw[<- e1] at r3;have r3':run pg (k+11) "replaced" [aI S1,.int 0,.tup ((S.cD.set j (c+1)).map PV.int)] h= .ok (.tup (.tup ((S.cD.set j (c+1)).map PV.int):: .tup (S.bL.map aC)::B)) h:=r3;have r4:=dy T (k+10) h (.tup ((S.cD.set j (c+1)).map PV.int):: .tup (S.bL.map aC)::B) 1 (.tup ((S.bL.set j t).map aC)) (by simp[B]) (by simp[B]);have r4':run pg (k+11) "replaced" [.tup (.tup ((S.cD.set j (c+1)).map PV.int):: .tup (S.bL.map aC)::B),.int 1,.tup ((S.bL.set j t).map aC)] h= .ok (aI (jN S1 j c t)) h:=by
  refine(show _=RV.ok (PV.tup (.tup ((S.cD.set j (c+1)).map PV.int):: .tup ((S.bL.set j t).map aC)::B)) h from r4).trans ?_;unfold jN aI;rw[h1,h2]
 show _=RV.ok (aI (jN S1 j c t)) h;rw[run_eq T.pq rfl]
 clear_value B t
 simp? [dQ,jf,i0,i1,i2,i3,sb,r1,r2,r3',r4']
end
noncomputable def L5(S:Wd)(i n:Nat)(z:PV):PV:= .tup ([.tup (S.cD.map PV.int),.tup (S.bL.map aC),.tup (S.iO.map gO),.tup (S.dX.map ft),.tup (S.cU.map fq),.tup (S.kl.map PV.int)].set (2+i) (.tup ((Bg S i).set n z)))
theorem MF{α :Type}{l:List α}{n:Nat}{z: α}(e:l[n]?=some z):l.set n z=l:=by
 obtain⟨h,rfl⟩:=T1.mp e;exact ZQ h
theorem BR{P:Pg}{N:Nat}{S:Wd}(W:ia P N S){i:Nat}(i4:i < 4):(Bg S i).length=(P.nm i).length:=by
 match i,i4 with
 | 0,_=>show(S.iO.map gO).length=(P.bs.map (·.1)).length;rw[TZ,TZ];exact W.l0
 | 1,_=>show(S.dX.map ft).length=P.s1.length;rw[TZ];exact W.l1
 | 2,_=>show(S.cU.map fq).length=P.s2.length;rw[TZ];exact W.l2
 | 3,_=>show(S.kl.map PV.int).length=P.s3.length;rw[TZ];exact W.l3
theorem K7{P:Pg}(ok:P.Ok){i:Nat}(i4:i < 4):(P.nm i).length<=20:=by
 match i,i4 with
 | 0,_=>show(P.bs.map (·.1)).length<=20;rw[TZ];exact ok.bx.1
 | 1,_=>exact ok.nm.1.1
 | 2,_=>exact ok.nm.2.1.1
 | 3,_=>exact ok.nm.2.2.1
section
variable{pg:Tb}(T:cj pg)
include T
theorem qA(k:Nat)(h:PH){P:Pg}(ok:P.Ok){N:Nat}{S:Wd}(W:ia P N S){i:Nat}(i4:i < 4){t:Str}(m:t∈P.nm i)(z:PV):run pg (k+3) "with_state" [P.v,aI S,.str (gW i),.str t,z] h= .ok (L5 S i ((P.nm i).idxOf t) z) h:=by
 have n1:=rh T k h ok m;have hn:(P.nm i).idxOf t < (Bg S i).length:=by rw[BR W i4];exact Ym m
 have hx:=K7 ok i4;rw[<- BR W i4] at hx;have pl:cv dj (.inr (gW i))=some (.int ((2+i:Nat):Int)):=by
  match i,i4 with
  | 0,_=>simp only[gW];decide +kernel
  | 1,_=>simp only[gW];decide +kernel
  | 2,_=>simp only[gW];decide +kernel
  | 3,_=>simp only[gW];decide +kernel
 have st: ∀ g,ay (aI S) (.int ((2+i:Nat):Int)) g= .ok (.tup (Bg S i)) g:=λg=>by
  match i,i4 with
  | 0,_=>exact vd
  | 1,_=>exact zW
  | 2,_=>exact sr
  | 3,_=>exact Mf
 have r1:=dy T (k+1) h (Bg S i) ((P.nm i).idxOf t) z hn (by omega);have r2:=dy T (k+1) h [.tup (S.cD.map PV.int),.tup (S.bL.map aC),.tup (S.iO.map gO),.tup (S.dX.map ft),.tup (S.cU.map fq),.tup (S.kl.map PV.int)] (2+i) (.tup ((Bg S i).set ((P.nm i).idxOf t) z)) (by simp only[Ub,UE];omega) (by simp only[Ub,UE];omega);have r2':run pg (k+2) "replaced" [aI S,.int ((2+i:Nat):Int),.tup ((Bg S i).set ((P.nm i).idxOf t) z)] h= .ok (L5 S i ((P.nm i).idxOf t) z) h:=r2;rw[run_eq T.rW rfl];simp? [fz,kU,pl,st,n1,r1,r2']
theorem gc(k:Nat)(h:PH){P:Pg}(ok:P.Ok){N:Nat}{S:Wd}(W:ia P N S)(N9:N<=60){j:Nat}{x:Str × List Rw}{s:aF}{c:Int}{r:Rw}(ex:P.hs[j]?=some x)(es:S.bL[j]?=some s)(ec:S.cD[j]?=some c)(er:x.2[s.row]?=some r)(hw:bE P S j= .non)
  {i:Nat} {t:Str} (ht:r.th=some (i,t)) {z v m z':PV} (ez:(Bg S i)[(P.nm i).idxOf t]?=some z) (me:run pg (k+12) "meeting" [bQ s r,ji j c,z] h= .ok (.tup [v,m,z']) h) {S1:Wd} (h0:L5 S i ((P.nm i).idxOf t) z'=aI S1) (h1:S1.cD=S.cD) (h2:S1.bL=S.bL) (hv: ∀ x,r.fZ=some x-> ∃ i:Int,v= .int i/\0<=i/\i<=999) :
  run pg (k+13) "gone" [P.v,aI S,.int j,.non] h= .ok (.tup [aI (jN S1 j c (aX x.2 200 (after s v r))),cZ r v m]) h:=by
 obtain⟨q1,q2,q3,q4,q5⟩:=oF ht;have tm:=bY ok ex (Ue er) ht;obtain⟨tv,et⟩:=vh s ht;have du:=CM T k h ok W ex es er hw (g:= .non) ⟨λe=>(nomatch (q4.symm.trans e)),λ_=>rfl⟩;have so:=oP T (k+9) h ok S q3 tm ez;have ws:=qA T (k+9) h ok W q3 tm z';rw[h0] at ws;have ho:=pR T k h ok W N9 ex es ec er h1 h2 hv;have i0: ∀ g,ay (aI S) (.int 0) g= .ok (.tup (S.cD.map PV.int)) g:=λg=>tH;have i3: ∀ g,ay (.tup (S.cD.map PV.int)) (.int j) g= .ok (.int c) g:=λg=>ka (bz ec);have ink: ∀ a:Str,ja (.str a) (.ktup [(.str "clock"),(.str "lot"),(.str "hear")]) h= .ok (.bl (decide (a∈(["clock", "lot", "hear"]:List Str)))) h:=λa=>in_K (ss:=["clock", "lot", "hear"]);unfold ji at me;unfold cZ;rw [et] at du me;rw[q5,run_eq T.Dq rfl];simp? [oq,xh,du,ink,q2,q1,i0,i3,so,me,ws,ho]
theorem zq(k:Nat)(h:PH){P:Pg}(ok:P.Ok){N:Nat}{S:Wd}(W:ia P N S)(N9:N<=60){j:Nat}{x:Str × List Rw}{s:aF}{c:Int}{r:Rw}(ex:P.hs[j]?=some x)(es:S.bL[j]?=some s)(ec:S.cD[j]?=some c)(er:x.2[s.row]?=some r)(hw:bE P S j= .non)(hq:d6 r=true){g:PV}(hg:gH r g) :
  run pg (k+13) "gone" [P.v,aI S,.int j,g] h= .ok (.tup [aI (jN S j c (aX x.2 200 (after s g r))),cZ r g .non]) h:=by
 obtain⟨q1,q2,q3⟩:=jz hq;obtain⟨tv,et,_⟩:=oT s hq;have du:=CM T k h ok W ex es er hw hg;obtain ⟨i,rfl,i0,i9,_⟩:=hg.1 hq;have ho:=pR T k h ok W N9 ex es ec er (S1:=S) rfl rfl (v:= .int i) (λ_ _=>⟨i,rfl,i0,i9⟩);have ink: ∀ a:Str,ja (.str a) (.ktup [(.str "clock"),(.str "lot"),(.str "hear")]) h= .ok (.bl (decide (a∈(["clock", "lot", "hear"]:List Str)))) h:=λa=>in_K (ss:=["clock", "lot", "hear"]);unfold cZ;rw [et] at du;rw [run_eq T.Dq rfl];simp? [oq,xh,du,ink,q1,ho]
theorem Gn(k:Nat)(h:PH){P:Pg}(ok:P.Ok){N:Nat}{S:Wd}(W:ia P N S)(N9:N<=60){j:Nat}{x:Str × List Rw}{s:aF}{c:Int}{r:Rw}(ex:P.hs[j]?=some x)(es:S.bL[j]?=some s)(ec:S.cD[j]?=some c)(er:x.2[s.row]?=some r)(hw:bE P S j= .non){g:PV}(hg:gH r g) :
  run pg (k+13) "gone" [P.v,aI S,.int j,g] h= .ok (.tup [aI (fY P S j c x.2 s g r),cZ r (met P S j c s g r).2.1 (met P S j c s g r).2.2]) h:=by
 have so:=W.se j x s ex es;have mr:=Ue er;rcases(i7 so.re er).2 with⟨i,t,ht⟩ | hq
 . obtain⟨q1,q2,q3,q4,q5⟩:=oF ht;have eg:=hg.2 q4;subst eg;have tm:=bY ok ex mr ht;cases r with
   | get y b =>
    obtain⟨z,ez,mz⟩:=bD (l:=S.iO) (ns:=P.nm 0) (by rw[W.l0];exact(TZ ..).symm) (bY ok ex mr (k:=0) (t:=b) rfl)
    have hz:=W.bx z mz
    have:=gc T k h ok W N9 ex es ec er hw (r:= .get y b) (i:=0) (t:=b) rfl (z:=gO z) (v:= .int z.1) (m:=z.2) (z':=gO z) (S1:=S) (by show(S.iO.map gO)[_]?=_;rw[Uq,ez];rfl) (by
     rw[run_eq T.ef rfl];simp? [cA,dA,bQ,gO,ji]) (by
     show PV.tup [_,_,.tup ((S.iO.map gO).set _ (gO z)),_,_,_]=_;rw[bJ gO,MF ez];rfl) rfl rfl (λ_ _=>⟨z.1,rfl,hz.1.1,hz.1.2⟩)
    simp only[fY,met,ez,Uz]
    exact this
   | put b e =>
    obtain⟨z,ez,mz⟩:=bD (l:=S.iO) (ns:=P.nm 0) (by rw[W.l0];exact(TZ ..).symm) (bY ok ex mr (k:=0) (t:=b) rfl)
    have:=gc T k h ok W N9 ex es ec er hw (r:= .put b e) (i:=0) (t:=b) rfl (z:=gO z) (v:= .int (e.val (fP s.ps))) (m:=z.2) (z':=gO (e.val (fP s.ps),ji j c)) (S1:={ S with iO:=S.iO.set ((P.nm 0).idxOf b) (e.val (fP s.ps),ji j c) }) (by show(S.iO.map gO)[_]?=_;rw[Uq,ez];rfl) (by
     rw[run_eq T.ef rfl];simp? [cA,dA,bQ,gO,ji]) (by
     show PV.tup [_,_,.tup ((S.iO.map gO).set _ (gO _)),_,_,_]=_;rw[bJ gO];rfl) rfl rfl (λ_ q=>nomatch q)
    simp only[fY,met,ez,Uz]
    exact this
   | take l =>
    obtain⟨z,ez,mz⟩:=bD (l:=S.dX) (ns:=P.nm 1) W.l1 (bY ok ex mr (k:=1) (t:=l) rfl)
    have:=gc T k h ok W N9 ex es ec er hw (r:= .take l) (i:=1) (t:=l) rfl (z:=ft z) (v:= .non) (m:=z.2) (z':=ft (some (j:Int),z.2)) (S1:={ S with dX:=S.dX.set ((P.nm 1).idxOf l) (some (j:Int),z.2) }) (by show(S.dX.map ft)[_]?=_;rw[Uq,ez];rfl) (by
     rw[run_eq T.ef rfl];simp? [cA,dA,bQ,ft,KP,ji]) (by
     show PV.tup [_,_,_,.tup ((S.dX.map ft).set _ (ft _)),_,_]=_;rw[bJ ft];rfl) rfl rfl (λ_ q=>nomatch q)
    simp only[fY,met,ez,Uz]
    exact this
   | free l =>
    obtain⟨z,ez,mz⟩:=bD (l:=S.dX) (ns:=P.nm 1) W.l1 (bY ok ex mr (k:=1) (t:=l) rfl)
    have:=gc T k h ok W N9 ex es ec er hw (r:= .free l) (i:=1) (t:=l) rfl (z:=ft z) (v:= .non) (m:= .non) (z':=ft (none,ji j c)) (S1:={ S with dX:=S.dX.set ((P.nm 1).idxOf l) (none,ji j c) }) (by show(S.dX.map ft)[_]?=_;rw[Uq,ez];rfl) (by
     rw[run_eq T.ef rfl];simp? [cA,dA,bQ,ft,KP,ji]) (by
     show PV.tup [_,_,_,.tup ((S.dX.map ft).set _ (ft _)),_,_]=_;rw[bJ ft];rfl) rfl rfl (λ_ q=>nomatch q)
    simp only[fY,met]
    exact this
   | send l e =>
    obtain⟨z,ez,mz⟩:=bD (l:=S.cU) (ns:=P.nm 2) W.l2 (bY ok ex mr (k:=2) (t:=l) rfl)
    have hz:=(W.ln z mz).2.2.1
    have ad: ∀ g,aY (.tup (z.2.2.map PV.int)) (.tup [.int (e.val (fP s.ps))]) g= .ok (.tup ((z.2.2++[e.val (fP s.ps)]).map PV.int)) g:=λg=>by
     rw[la (by simp only[TZ,Ub,UE];omega),U3];rfl
    have:=gc T k h ok W N9 ex es ec er hw (r:= .send l e) (i:=2) (t:=l) rfl (z:=fq z) (v:= .int (e.val (fP s.ps))) (m:= .int z.1) (z':=fq (z.1+1,z.2.1,z.2.2++[e.val (fP s.ps)])) (S1:={ S with cU:=S.cU.set ((P.nm 2).idxOf l) (z.1+1,z.2.1,z.2.2++[e.val (fP s.ps)]) }) (by show(S.cU.map fq)[_]?=_;rw[Uq,ez];rfl) (by
     rw[run_eq T.ef rfl];simp? [cA,dA,bQ,fq,ji,↓ad]) (by
     show PV.tup [_,_,_,_,.tup ((S.cU.map fq).set _ (fq _)),_]=_;rw[bJ fq];rfl) rfl rfl (λ_ q=>nomatch q)
    simp only[fY,met,ez,Uz]
    exact this
   | fetch y l =>
    obtain⟨z,ez,mz⟩:=bD (l:=S.cU) (ns:=P.nm 2) W.l2 (bY ok ex mr (k:=2) (t:=l) rfl)
    have hz:=(W.ln z mz).2.2.2
    obtain⟨za,zb,zl⟩:=z
    obtain⟨i,ls,rfl⟩: ∃ i ls,zl=i::ls:=by
     cases zl with
     | cons i ls=>exact⟨i,ls,rfl⟩
     | nil =>
      unfold bE at hw
      rw[dN ex es,er] at hw
      simp only[iK,ez] at hw
      exact nomatch hw
    have hi:=hz i Uk
    have:=gc T k h ok W N9 ex es ec er hw (r:= .fetch y l) (i:=2) (t:=l) rfl (z:=fq (za,zb,i::ls)) (v:= .int i) (m:= .int zb) (z':=fq (za,zb+1,ls)) (S1:={ S with cU:=S.cU.set ((P.nm 2).idxOf l) (za,zb+1,ls) }) (by show(S.cU.map fq)[_]?=_;rw[Uq,ez];rfl) (by
     rw[run_eq T.ef rfl];simp? [cA,dA,bQ,fq,ji,pT]) (by
     show PV.tup [_,_,_,_,.tup ((S.cU.map fq).set _ (fq _)),_]=_;rw[bJ fq];rfl) rfl rfl (λ_ _=>⟨i,rfl,hi.1,hi.2⟩)
    simp only[fY,met,ez,Uz,abr,Yc]
    exact this
   | say d e =>
    obtain⟨z,ez,mz⟩:=bD (l:=S.kl) (ns:=P.nm 3) W.l3 (bY ok ex mr (k:=3) (t:=d) rfl)
    have:=gc T k h ok W N9 ex es ec er hw (r:= .say d e) (i:=3) (t:=d) rfl (z:= .int z) (v:= .int (e.val (fP s.ps))) (m:= .int z) (z':= .int (z+1)) (S1:={ S with kl:=S.kl.set ((P.nm 3).idxOf d) (z+1) }) (by show(S.kl.map PV.int)[_]?=_;rw[Uq,ez];rfl) (by
     rw[run_eq T.ef rfl];simp? [cA,dA,bQ,ji]) (by
     show PV.tup [_,_,_,_,_,.tup ((S.kl.map PV.int).set _ (.int _))]=_;rw[bJ PV.int];rfl) rfl rfl (λ_ q=>nomatch q)
    simp only[fY,met,ez,Uz]
    exact this
   | _=>exact nomatch ht
 . obtain⟨_,_,q3⟩:=jz hq;rw[fY,q3];exact zq T k h ok W N9 ex es ec er hw hq hg
end
noncomputable def qu(n:Nat):List (Key × PV):=[(.inr "counts",.ref (n+1)),(.inr "seats",.ref (n+2)),(.inr "doors",.ref (n+3)),(.inr "boxes",.ref (n+4)),(.inr "locks",.ref (n+5)),(.inr "lanes",.ref (n+6))]
theorem dH(n:Nat):cv (qu n) (.inr "counts")=some (.ref (n+1))/\cv (qu n) (.inr "seats")=some (.ref (n+2))/\cv (qu n) (.inr "doors")=some (.ref (n+3))/\cv (qu n) (.inr "boxes")=some (.ref (n+4))/\cv (qu n) (.inr "locks")=some (.ref (n+5))/\cv (qu n) (.inr "lanes")=some (.ref (n+6)):=by
 refine⟨?_,?_,?_,?_,?_,?_⟩<;>simp[qu,cv,cw]
noncomputable def Hu(n j:Nat)(s:aF):PV:= .tup [.int s.row,.ref (n+7+3*j),.ref (n+9+3*j)]
noncomputable def sL(n:Nat)(ss:List aF):List PV:=ss.mapIdx (Hu n)
theorem IY{n j:Nat}{ss:List aF}{s:aF}(e:ss[j]?=some s):(sL n ss)[j]?=some (Hu n j s):=by unfold sL;rw[X5,e];rfl
theorem Cd(n:Nat)(ss:List aF):(sL n ss).length=ss.length:=by unfold sL;simp
theorem Nm(n j:Nat)(ss:List aF)(t:aF):(sL n ss).set j (Hu n j t)=sL n (ss.set j t):=by
 refine aaR λi=>?_;unfold sL;rw[aaU,X5,X5,aaU,List.length_mapIdx];by_cases e:j=i
 . subst e;by_cases l:j < ss.length<;>simp[l]
 . simp[e]
noncomputable def cell(n:Nat)(S:Wd):Nat->PO
 | 0=> .dct (qu n) | 1=> .lst (S.cD.map PV.int) | 2=> .lst (sL n S.bL) | 3=> .lst (S.kl.map PV.int)
 | 4=> .lst (S.iO.map gO) | 5=> .lst (S.dX.map ft) | _=> .lst (S.cU.map fq)
noncomputable def TQ(H:PH)(d l:Nat)(L:List Str)(s:aF):Prop:= ∃(D:Pk)(hl:List Str),H[d]?=some (.dct (eL D))/\H[l]?=some (.lst (hl.map PV.str))/\qD L D/\(∀ x,fP D x=fP s.ps x)/\hl.Nodup/\ ∀ y,y∈hl↔y∈s.held
structure Rep(H:PH)(n:Nat)(P:Pg)(S:Wd)(ss:List aF):Prop where
 c: ∀ i,i < 7->H[n+i]?=some (cell n S i)
 p: ∀(j:Nat)(x:Str × List Rw)(s:aF),P.hs[j]?=some x->ss[j]?=some s->TQ H (n+7+3*j) (n+9+3*j) (IQ x) s
structure Fr(n m:Nat)(H H':PH):Prop where
 len:H'.length=H.length
 off: ∀ i,i < n\/n+7+3*m<=i->H'[i]?=H[i]?
theorem Fr.refl{n m:Nat}{H:PH}:Fr n m H H:=⟨rfl,λ_ _=>rfl⟩
theorem Fr.set{n m i:Nat}{H H':PH}{o:PO}(f:Fr n m H H')(h1:n<=i)(h2:i < n+7+3*m):Fr n m H (H'.set i o) :=
 ⟨by rw[UI];exact f.len,λk hk=>by rw[br (by omega)];exact f.off k hk⟩
theorem Rep.same{H H':PH}{n:Nat}{P:Pg}{S:Wd}{ss:List aF}(R:Rep H n P S ss)(e: ∀ i,n<=i->i < n+7+3*P.hs.length->H'[i]?=H[i]?):Rep H' n P S ss:=by
 refine⟨λi hi=>by rw[e _ (by omega) (by omega)];exact R.c i hi,λj x s ex es=>?_⟩;obtain⟨D,hl,h1,h2,h3⟩:=R.p j x s ex es;have lj:=(T1.mp ex).1;exact⟨D,hl,by rw[e _ (by omega) (by omega)];exact h1,by rw[e _ (by omega) (by omega)];exact h2,h3⟩
theorem Rep.app{H:PH}{n:Nat}{P:Pg}{S:Wd}{ss:List aF}(R:Rep H n P S ss)(G:PH):Rep (H++G) n P S ss:=by
 refine⟨λi hi=>(aD (aG (R.c i hi))).trans (R.c i hi),λj x s ex es=>?_⟩;obtain⟨D,hl,h1,h2,h3⟩:=R.p j x s ex es;exact⟨D,hl,(aD (aG h1)).trans h1,(aD (aG h2)).trans h2,h3⟩
theorem Rep.set{H:PH}{n:Nat}{P:Pg}{S S':Wd}{ss:List aF}(R:Rep H n P S ss){i:Nat}(hi:i < 7)(e: ∀ k,k < 7->k≠i->cell n S' k=cell n S k):Rep (H.set (n+i) (cell n S' i)) n P S' ss:=by
 refine⟨λk hk=>?_,λj x s ex es=>?_⟩
 . by_cases z:k=i
   . subst z;exact l7 (aG (R.c k hk))
   . rw[br (by omega),e k hk z];exact R.c k hk
 . obtain⟨D,hl,h1,h2,h3⟩:=R.p j x s ex es;exact⟨D,hl,by rw[br (by omega)];exact h1,by rw[br (by omega)];exact h2,h3⟩
theorem Rep.put{H:PH}{n:Nat}{P:Pg}{S:Wd}{ss:List aF}(R:Rep H n P S ss){j:Nat}{x:Str × List Rw}{s s':aF}(ex:P.hs[j]?=some x)(es:ss[j]?=some s){D:Pk}(hD:qD (IQ x) D)(hf: ∀ y,fP D y=fP s'.ps y)(hh:s'.held=s.held):Rep (H.set (n+7+3*j) (.dct (eL D))) n P S (ss.set j s'):=by
 refine⟨λk hk=>by rw[br (by omega)];exact R.c k hk,λi y t ey et=>?_⟩;have lj:=(T1.mp es).1;by_cases z:j=i
 . subst z;rw[UO lj] at et;rw[ex] at ey;cases et;cases ey;obtain⟨D0,hl,h1,h2,h3,h4,h5,h6⟩:=R.p j x s ex es;exact⟨D,hl,l7 (aG h1),by rw[br (by omega)];exact h2,hD,hf,h5,by rw[hh];exact h6⟩
 . rw[Vb z] at et;obtain⟨D0,hl,h1,h2,h3⟩:=R.p i y t ey et;exact⟨D0,hl,by rw[br (by omega)];exact h1,by rw[br (by omega)];exact h2,h3⟩
theorem Rep.hold{H:PH}{n:Nat}{P:Pg}{S:Wd}{ss:List aF}(R:Rep H n P S ss){j:Nat}{x:Str × List Rw}{s s':aF}(ex:P.hs[j]?=some x)(es:ss[j]?=some s){hl:List Str}(nd:hl.Nodup)(hm: ∀ y,y∈hl↔y∈s'.held)(hp:s'.ps=s.ps):Rep (H.set (n+9+3*j) (.lst (hl.map PV.str))) n P S (ss.set j s'):=by
 refine⟨λk hk=>by rw[br (by omega)];exact R.c k hk,λi y t ey et=>?_⟩;have lj:=(T1.mp es).1;by_cases z:j=i
 . subst z;rw[UO lj] at et;rw[ex] at ey;cases et;cases ey;obtain⟨D0,hl0,h1,h2,h3,h4,h5,h6⟩:=R.p j x s ex es;exact⟨D0,hl,by rw[br (by omega)];exact h1,l7 (aG h2),h3,by rw[hp];exact h4,nd,hm⟩
 . rw[Vb z] at et;obtain⟨D0,hl0,h1,h2,h3⟩:=R.p i y t ey et;exact⟨D0,hl0,by rw[br (by omega)];exact h1,by rw[br (by omega)];exact h2,h3⟩
noncomputable def Fm:Option Rw->PV
 | none=> .non
 | some r=>bh r
structure Cells(H:PH)(n:Nat)(S:Wd):Prop where
 e0:H[n]?=some (.dct (qu n))
 e1:H[n+1]?=some (.lst (S.cD.map PV.int))
 e2:H[n+2]?=some (.lst (sL n S.bL))
 e3:H[n+3]?=some (.lst (S.kl.map PV.int))
 e4:H[n+4]?=some (.lst (S.iO.map gO))
 e5:H[n+5]?=some (.lst (S.dX.map ft))
 e6:H[n+6]?=some (.lst (S.cU.map fq))
theorem Rep.cells{H:PH}{n:Nat}{P:Pg}{S:Wd}{ss:List aF}(R:Rep H n P S ss):Cells H n S :=
 ⟨R.c 0 (by decide),R.c 1 (by decide),R.c 2 (by decide),R.c 3 (by decide),R.c 4 (by decide),R.c 5 (by decide),R.c 6 (by decide)⟩
section
variable{pg:Tb}(T:cj pg)
include T
theorem jV(k:Nat){H:PH}{n:Nat}{P:Pg}{S:Wd}{N:Nat}(W:ia P N S)(C:Cells H n S){j:Nat}(hj:j < P.hs.length):run pg (k+1) "_law_row" [P.v,.ref n,.int j] H= .ok (Fm (rowAt P S j)) H:=by
 obtain⟨x,s,c,ex,es,ec,so⟩:=i8 W hj;obtain⟨v1,v2,v3,v4,v5,v6⟩:=dH n;have i4: ∀ g,ay P.v (.int 4) g= .ok (.tup (P.hs.map bF)) g:=λg=>sr;have ih: ∀ g,ay (.tup (P.hs.map bF)) (.int j) g= .ok (bF x) g:=λg=>ka (bz ex);have i1: ∀ g,ay (bF x) (.int 1) g= .ok (bH x.2) g:=λg=>jD;have se:dC (sL n S.bL) (j:Int)=some (Hu n j s):=P3.eE rfl (IY es);have s0: ∀ g,ay (Hu n j s) (.int 0) g= .ok (.int s.row) g:=λg=>tH;have ln: ∀ h,cx [bH x.2] h= .ok (.int x.2.length) h:=λh=>by unfold bH;rw[len_T,TZ]
 rw[run_eq T.xl rfl,dN ex es];cases e:x.2[s.row]? with
 | none =>
  have z: ¬ (s.row:Int) < (x.2.length:Int):=by have:=Vx.mp e;omega
  simp? [fH,kh,i4,ih,i1,C.e0,v2,C.e2,se,s0,ln,z,Fm]
 | some r =>
  have z:(s.row:Int) < (x.2.length:Int):=by have:=(T1.mp e).1;omega
  have ix: ∀ h,ay (bH x.2) (.int s.row) h= .ok (bh r) h:=λh=>ka (gZ e)
  simp? [fH,kh,i4,ih,i1,C.e0,v2,C.e2,se,s0,ln,z,ix,Fm]
theorem mW(k:Nat){H:PH}{n:Nat}{P:Pg}(ok:P.Ok){S:Wd}{N:Nat}(W:ia P N S)(C:Cells H n S){j:Nat}(hj:j < P.hs.length):run pg (k+2) "_law_wait" [P.v,.ref n,.int j] H= .ok (bE P S j) H:=by
 have ro:=jV T k W C hj;obtain⟨x,s,c,ex,es,ec,so⟩:=i8 W hj;obtain⟨v1,v2,v3,v4,v5,v6⟩:=dH n;have j1: ∀ g,ay P.v (.int 1) g= .ok (.tup (P.s1.map PV.str)) g:=λg=>jD;have j2: ∀ g,ay P.v (.int 2) g= .ok (.tup (P.s2.map PV.str)) g:=λg=>vd;unfold bE;rw[dN ex es] at ro ⊢;rw[run_eq T.uL rfl];cases e:x.2[s.row]? with
 | none =>
  rw[e] at ro
  simp? [bZ,cH,ro,Fm,iK]
 | some r =>
  rw[e] at ro
  have mr:=Ue e
  rcases pX r with⟨l,rfl⟩ | ⟨y,l,rfl⟩ | ⟨n1,n2,n3⟩
  . have m:l∈P.s1:=bY ok ex mr (k:=1) (t:=l) rfl;obtain⟨z,ez,mz⟩:=bD (l:=S.dX) (ns:=P.s1) W.l1 m;have ez':S.dX[(P.nm 1).idxOf l]?=some z:=ez;have at_:=bz (f:=ft) ez;obtain⟨zh,zm⟩:=z;simp only[iK,ez'];cases zh with
    | none=>simp? [bZ,cH,ro,Fm,bh,Rw.w,Rw.ps,C.e0,v5,C.e5,j1,kq,hJ,iw m,at_,ft,KP]
    | some i=>simp? [bZ,cH,ro,Fm,bh,Rw.w,Rw.ps,C.e0,v5,C.e5,j1,kq,hJ,iw m,at_,ft,KP]
  . have m:l∈P.s2:=bY ok ex mr (k:=2) (t:=l) rfl;obtain⟨z,ez,mz⟩:=bD (l:=S.cU) (ns:=P.s2) W.l2 m;have ez':S.cU[(P.nm 2).idxOf l]?=some z:=ez;have at_:=bz (f:=fq) ez;obtain⟨a,b,ls⟩:=z;simp only[iK,ez'];cases ls with
    | nil =>
     have q:=nH (ls:=[]) (h:=H)
     rw[UN] at q
     simp? [bZ,cH,ro,Fm,bh,Rw.w,Rw.ps,C.e0,v6,C.e6,j2,kq,hJ,iw m,at_,fq,q]
    | cons i r =>
     have q:=nH (ls:=i::r) (h:=H)
     have ne:decide (i::r=[])=false:=rfl
     rw[ne,T9] at q
     simp? [bZ,cH,ro,Fm,bh,Rw.w,Rw.ps,C.e0,v6,C.e6,j2,kq,hJ,iw m,at_,fq,q]
  . have r0:=λg=>rw_0 r g;have rn: ∀ g,ee false (bh r) g= .ok (.bl false) g:=λg=>IP;rw[n3];simp? [bZ,cH,ro,Fm,rn,r0,n1,n2]
theorem wF(k:Nat){H:PH}{n:Nat}{P:Pg}(ok:P.Ok){S:Wd}{N:Nat}(W:ia P N S)(C:Cells H n S):run pg (k+3) "_law_can" [P.v,.ref n] H= .ok (.ref H.length) (H++[.lst ((cO P S).map gU)]):=by
 have hm:=ok.many;have i4: ∀ g,ay P.v (.int 4) g= .ok (.tup (P.hs.map bF)) g:=λg=>sr;have tn:XS ((P.hs.length:Nat):Int)=P.hs.length:=Vc _;have lc:fT ⟨none,aw 0 P.hs.length⟩ (aN 1 (gN 2) (aE (rO (ee false) (ae "_law_wait" (a3 (aa 0) (aa 1) (aa 2))))) (aa 2) (run pg (k+2)) [some P.v,some (.ref n)]) (aw 0 P.hs.length) [] H= .ok ((cO P S).map gU) H:=by
  refine(cL rfl (UR P.hs.length) [] (f:=λj=>if decide (bE P S j= .non)=true then some (gU j) else none) (g:=λi:Nat=>PV.int (0+(i:Int))) (λi m=>?_) (by simp;omega)).trans (by rw[UL,fD];rfl);have iz:(0:Int)+(i:Int)=(i:Int):=Wv _;have w:=mW T k ok W C (Vj.mp m);by_cases z:bE P S i= .non
  . simp? [iz,w,z,mU,gU]
  . simp? [iz,w,z,mU,gU]
 rw[run_eq T.xb rfl];simp? [iq,pH,i4,TZ,tn,lc];exact bR rfl
end
mutual
theorem CH(n:Nat): ∀ v:PV,v.flat=true->v.iM n=true
 | .tup xs,h=>by rw[PV.flat] at h;rw[PV.iM];exact gR n xs h
 | .ktup xs,h=>by rw[PV.flat] at h;rw[PV.iM];exact gR n xs h
 | .non,_=>rfl
 | .bl _,_=>rfl
 | .int _,_=>rfl
 | .str _,_=>rfl
 | .ty _,_=>rfl
 | .ref _,h=>nomatch h
theorem gR(n:Nat): ∀ xs:List PV,PV.bC xs=true->PV.jd n xs=true
 | [],_=>rfl
 | x::r,h=>by
  rw[PV.bC,Ut] at h;rw[PV.jd,CH n x h.1,gR n r h.2];rfl
end
theorem lL{α :Type}{f: α ->PV}: ∀{l:List α},(∀ x∈l,(f x).flat=true)->PV.bC (l.map f)=true
 | [],_=>rfl
 | x::r,h=>by rw[T9,PV.bC,h x Uk,lL λz m=>h z (Uo _ m)];rfl
theorem KO(n:Nat)(D:Pk):(PO.dct (eL D)).iM n=true:=by
 show PV.jd n ((eL D).map λkv=>kv.2)=true;unfold eL;rw[U5];exact gR n _ (lL (f:=(λkv:Key × PV=>kv.2) ∘ λq:Str × Int=>((.inr q.1:Key),PV.int q.2)) λ_ _=>rfl)
theorem fJ{h h':PH}{v:PV}(e:h'.length=h.length):P3.settle h v h'= .ok v h':=by
 unfold P3.settle;split
 . rw [<- e,Zf]
 . rfl
theorem yR {h g:PH} {n:Nat} {o:PO} (l:n < h.length):(h++g).set n o=h.set n o++g:=Z3 _ _ l
theorem B2 {r:Rw} (h:d6 r=false): ¬ r.w∈(["clock", "lot", "hear"]:List Str):=by
 cases r<;>first | (simp only [Rw.w];decide +kernel) | exact nomatch h
theorem zP {L:List Str} {n:Nat} {r:Rw} (hr:eW L n r) (h:d6 r=true):(∃ x m,r= .lot x m∧2<=m∧m<=1000)∨(¬ r.w= "lot" /\ ∀ x m,¬ r= .lot x m):=by
 cases r with
 | lot x m=>exact .inl ⟨x,m,rfl,hr.2⟩
 | clock x=>exact .inr ⟨by simp only[Rw.w];decide +kernel,λ_ _ e=>nomatch e⟩
 | hear x d=>exact .inr ⟨by simp only[Rw.w];decide +kernel,λ_ _ e=>nomatch e⟩
 | _=>exact nomatch h
theorem Fs{m a b w:Int}(m0:2<=m)(a0:0<=a)(a1:a < m)(b0:0<=b)(b1:b < 2)(w0:0<=w)(w1:w < 4): ∃ v:Int,0<=v/\v < m/\dC [PV.int 0,.int (m - 1),.int a,.int b] w=some (.int v):=by
 rcases(show w=0\/w=1\/w=2\/w=3 by omega) with rfl | rfl | rfl | rfl
 . exact⟨0,by omega,by omega,o7⟩
 . exact⟨m - 1,by omega,by omega,ud⟩
 . exact⟨a,a0,a1,xE⟩
 . exact⟨b,b0,by omega,BC⟩
section
variable{pg:Tb}(T:cj pg)
include T
theorem u0 (j:Nat) (fr:PO) (q:Int × Int × Int) {L:List Str} {n:Nat} {r:Rw} (hr:eW L n r): ∃ (g:PV) (q':Int × Int × Int),gH r g∧ ∀ G,run pg (j+2) "_law_gift" [.ref 1,bh r] (fr::bg q::G)= .ok g (fr::bg q'::G):=by
 have r0:=λg=>rw_0 r g;have nin: ∀ (a:Str) h,gF (.str a) (.tup [.str "clock",.str "lot",.str "hear"]) h= .ok (.bl (!decide (a∈(["clock", "lot", "hear"]:List Str)))) h:=λa h=>yS (ss:=["clock", "lot", "hear"]);cases hq:d6 r with
 | false =>
  have ng:=B2 hq
  refine⟨.non,q,⟨λe=>(nomatch (hq.symm.trans e)),λ_=>rfl⟩,λG=>?_⟩
  rw[run_eq T.i6 rfl]
  simp? [dz,gy,r0,nin,ng]
 | true =>
  obtain⟨m1,_⟩:=jz hq
  have fin_: ∀ m:Int,2<=m->m<=1000-> ∃(v:Int)(q':Int × Int × Int),0<=v/\v < m/\ ∀(G:PH)(e1:Option PV),∃ X:PH,(ax (aj ay (bG (ab (eI 0) (ab (aj qF (aa 2) (eI 1)) (ab (ae "_law_take" (a2 (aa 0) (aa 2))) (ab (ae "_law_take" (a2 (aa 0) (eI 2))) ah))))) (ae "_law_take" (a2 (aa 0) (eI 4))))) (run pg (j+1)) [some (.ref 1),e1,some (.int m)] (fr::bg q::G)= .ok (.rt (.int v)) (fr::bg q'::(G++X)):=λm m0 m9=>by
   obtain⟨a,q1,a0,a1,ea⟩:=cy T j fr q m (by omega) (by omega);obtain⟨b,q2,b0,b1,eb⟩:=cy T j fr q1 2 (by decide) (by decide);obtain⟨w,q3,w0,w1,ew⟩:=cy T j fr q2 4 (by decide) (by decide);obtain⟨v,v0,v1,ev⟩:=Fs m0 a0 a1 b0 b1 w0 w1;refine⟨v,q3,v0,v1,λG e1=>⟨[.lst [.int 0,.int (m - 1),.int a,.int b]],?_⟩⟩;simp? [ea,eb,ew,ev]
  rcases zP hr hq with⟨x,m,rfl,m0,m9⟩ | ⟨nl,nl2⟩
  . obtain⟨v,q',v0,v1,fv⟩:=fin_ m m0 m9;refine⟨.int v,q',⟨λ_=>⟨v,rfl,v0,by omega,λx n e=>by cases e;exact v1⟩,λe=>(nomatch e)⟩,λG=>?_⟩;obtain⟨X,fx⟩:=fv G (some (bh (.lot x m)));rw[run_eq T.i6 rfl];simp only[bh,Rw.w,Rw.ps] at fx m1;simp? [dz,gy,bh,Rw.w,Rw.ps,nin,m1,↓fx];exact dF rfl
  . obtain⟨v,q',v0,v1,fv⟩:=fin_ 1000 (by decide) (by decide);refine⟨.int v,q',⟨λ_=>⟨v,rfl,v0,by omega,λx n e=>absurd e (nl2 x n)⟩,λe=>(nomatch (hq.symm.trans e))⟩,λG=>?_⟩;obtain⟨X,fx⟩:=fv G (some (bh r));rw[run_eq T.i6 rfl];simp? [dz,gy,r0,nin,m1,nl,↓fx];exact dF rfl
end
theorem sM{P:Pg}{N:Nat}{S:Wd}(W:ia P N S){b:Int × PV}(m:b∈S.iO):(gO b).flat=true:=by
 simp[gO,PV.flat,PV.bC,((W.bx b m).2).flat]
theorem ur{c:CF}{E:aq}{P:Pg}(ok:P.Ok){H:PH}{e1 e2 e3 e4 e5 e6 e7:Option PV}:fT ⟨none,P.bs.map eA⟩ (aN 1 (gN 8) aP (eX 8 0) c [some P.v,e1,e2,e3,e4,e5,e6,e7]) (P.bs.map eA) [] H= .ok ((P.nm 0).map PV.str) H:=by
 show _=RV.ok ((P.bs.map (·.1)).map PV.str) H
 have b20:=ok.bx.1;rw[U5];refine IM (l:=P.bs) (f:=PV.str ∘ λz:Str × Int=>z.1) (by omega) λx _=>?_;simp? [eA];rfl
section
variable{pg:Tb}(T:cj pg)
include T
theorem Av(k:Nat){H:PH}{n d:Nat}{P:Pg}(ok:P.Ok){S:Wd}{N:Nat}(W:ia P N S)(C:Cells H n S){L:List Str}(hL:L.length<=20){D:Pk}(ed:H[d]?=some (.dct (eL D)))(hD:qD L D){y b:Str}(m:b∈P.nm 0){z:Int × PV}(ez:S.iO[(P.nm 0).idxOf b]?=some z)(ev:PV):run pg (k+1) "_law_boxed" [P.v,.ref n,bh (.get y b),ev,.ref d] H= .ok (.tup [.str "get",.str b,.int z.1,z.2]) (H.set d (.dct (eL (putD D y z.1)))):=by
 obtain⟨v1,v2,v3,v4,v5,v6⟩:=dH n;have i0: ∀ g,ay P.v (.int 0) g= .ok (.tup (P.bs.map eA)) g:=λg=>tH;have old: ∀{i:Nat}{o:PO}(X:PH),H[i]?=some o->(H++X)[i]?=some o:=λX e=>(aD (aG e)).trans e;have c0:=old [.lst ((P.nm 0).map PV.str)] C.e0;have c4:=old [.lst ((P.nm 0).map PV.str)] C.e4;have cd:=old [.lst ((P.nm 0).map PV.str)] ed;have ix:=tK (h:=H++[.lst ((P.nm 0).map PV.str)]) (n:=H.length) bA m;have at_:=bz (f:=gO) ez;have zf:=sM W (Ue ez);have ld:=aG ed;rw[run_eq T.kP rfl];simp? (disch:=first | assumption | omega) only[dS,ig,bh,Rw.w,Rw.ps,i0,ur (E:=[]) ok,C.e0,c0,v4,c4,cd,ix,at_,gO,kJ (nN hL hD),jr,yR];refine j7 ?_ ed rfl (KO _ _);simp only[gO,PV.flat,PV.bC,XX,Xn] at zf ⊢;exact zf
theorem An(k:Nat){H:PH}{n d:Nat}{P:Pg}(ok:P.Ok){S:Wd}{N:Nat}(W:ia P N S)(C:Cells H n S){D:Pk}(ed:H[d]?=some (.dct (eL D))){L:List Str}(hD:qD L D){b:Str}{e:Sm}(he:jG e)(m:b∈P.nm 0){z:Int × PV}(ez:S.iO[(P.nm 0).idxOf b]?=some z){ev:PV}(evf:ev.flat=true):run pg (k+9) "_law_boxed" [P.v,.ref n,bh (.put b e),ev,.ref d] H= .ok (.tup [.str "put",.str b,.int (e.val (fP D)),z.2]) (H.set (n+4) (.lst ((S.iO.set ((P.nm 0).idxOf b) (e.val (fP D),ev)).map gO))):=by
 obtain⟨v1,v2,v3,v4,v5,v6⟩:=dH n;have i0: ∀ g,ay P.v (.int 0) g= .ok (.tup (P.bs.map eA)) g:=λg=>tH;have old: ∀{i:Nat}{o:PO}(X:PH),H[i]?=some o->(H++X)[i]?=some o:=λX e=>(aD (aG e)).trans e;have c0:=old [.lst ((P.nm 0).map PV.str)] C.e0;have c4:=old [.lst ((P.nm 0).map PV.str)] C.e4;have cd:=old [.lst ((P.nm 0).map PV.str)] ed;have ix:=tK (h:=H++[.lst ((P.nm 0).map PV.str)]) (n:=H.length) bA m;have at_:=bz (f:=gO) ez;have zf:=sM W (Ue ez);have ld:=aG C.e4;have lk:(P.nm 0).idxOf b < S.iO.length:=(T1.mp ez).1;have w:=oQ T hD.Bb e (k+7) _ cd he.1 (by have:=he.2;omega)
 let B:=S.iO.set ((P.nm 0).idxOf b) (e.val (fP D),ev)
 have at2:dC (B.map gO) ((P.nm 0).idxOf b:Int)=some (gO (e.val (fP D),ev)):=bz (UO lk);have bB:(S.iO.map gO).set ((P.nm 0).idxOf b) (.tup [.int (e.val (fP D)),ev])=B.map gO:=bJ gO S.iO _ (e.val (fP D),ev);have pl:=λh v=>ko (h:=h) (n:=n+4) (xs:=S.iO.map gO) (v:=v) (i:=((P.nm 0).idxOf b:Int)) rfl (by rw[TZ];exact lk);rw[run_eq T.kP rfl];have o0: ∀ o:PO,(H.set (n+4) o++[.lst ((P.nm 0).map PV.str)])[n]?=some (.dct (qu n)):=λo=>by rw[aD (by rw[UI];exact aG C.e0),br (by omega)];exact C.e0
 have o4: ∀ o:PO,(H.set (n+4) o++[.lst ((P.nm 0).map PV.str)])[n+4]?=some o:=λo=>by rw[aD (by rw[UI];exact ld)];exact l7 ld
 have uf:(PO.lst (B.map gO)).iM H.length=true:=gR _ _ (lL λq mq=>by
  rcases U8 mq with mq | rfl
  . exact sM W mq
  . simp[gO,PV.flat,PV.bC,evf])
 show _=RV.ok _ (H.set (n+4) (.lst (B.map gO)))
 clear_value B
 simp only[gO] at at2 at_ zf;simp? (disch:=first | assumption | omega) only[dS,ig,bh,Rw.w,Rw.ps,i0,ur (E:=[]) ok,c0,v4,c4,ix,at_,w,pl,bB,yR,o0,o4,at2];refine j7 ?_ C.e4 rfl uf;simp only[PV.flat,PV.bC,XX,Xn] at zf ⊢;exact zf
theorem uN(k:Nat){H:PH}{n d:Nat}{P:Pg}{S:Wd}(C:Cells H n S){hl:List Str}(eh:H[d]?=some (.lst (hl.map PV.str)))(hd:n+6 < d)(hh:hl.length<=1000){l:Str}(m:l∈P.s1){z:Option Int × PV}(ez:S.dX[P.s1.idxOf l]?=some z)(j:Nat)(c:Int):run pg (k+1) "_law_locked" [P.v,.ref n,bh (.take l),ji j c,.ref d] H= .ok (.tup [.str "take",.str l,.non,z.2]) ((H.set (n+5) (.lst ((S.dX.set (P.s1.idxOf l) (some (j:Int),z.2)).map ft))).set d (.lst ((hl++[l]).map PV.str))):=by
 obtain⟨v1,v2,v3,v4,v5,v6⟩:=dH n;have j1: ∀ g,ay P.v (.int 1) g= .ok (.tup (P.s1.map PV.str)) g:=λg=>jD;have at_:=bz (f:=ft) ez;have ld:=aG C.e5;have lk:P.s1.idxOf l < S.dX.length:=(T1.mp ez).1
 let B:=S.dX.set (P.s1.idxOf l) (some (j:Int),z.2)
 have bB:(S.dX.map ft).set (P.s1.idxOf l) (.tup [.int (j:Int),z.2])=B.map ft:=bJ ft S.dX _ (some (j:Int),z.2);have pl:=λh v=>ko (h:=h) (n:=n+5) (xs:=S.dX.map ft) (v:=v) (i:=(P.s1.idxOf l:Int)) rfl (by rw[TZ];exact lk);have od: ∀ o:PO,(H.set (n+5) o)[d]?=some (.lst (hl.map PV.str)):=λo=>by rw[br (by omega)];exact eh
 have hz:(hl.map PV.str).length < 16777216:=by rw[TZ];omega
 show _=RV.ok _ ((H.set (n+5) (.lst (B.map ft))).set d (.lst ((hl++[l]).map PV.str)));rw[U3,run_eq T.jJ rfl]
 clear_value B
 simp only[ft] at at_;simp? (disch:=first | assumption | omega) only[cX,gK,bh,Rw.w,Rw.ps,ji,j1,kq,hJ,iw m,C.e0,v5,C.e5,at_,pl,bB,od,oJ hz];exact fJ (by rw[UI,UI])
theorem uK(k:Nat){H:PH}{n d:Nat}{P:Pg}{S:Wd}(C:Cells H n S){hl:List Str}(eh:H[d]?=some (.lst (hl.map PV.str)))(hd:n+6 < d){l:Str}(hm:l∈hl)(m:l∈P.s1){z:Option Int × PV}(ez:S.dX[P.s1.idxOf l]?=some z)(j:Nat)(c:Int):run pg (k+1) "_law_locked" [P.v,.ref n,bh (.free l),ji j c,.ref d] H= .ok (.tup [.str "free",.str l,.non,.non]) ((H.set (n+5) (.lst ((S.dX.set (P.s1.idxOf l) (none,ji j c)).map ft))).set d (.lst ((qE hl l).map PV.str))):=by
 obtain⟨v1,v2,v3,v4,v5,v6⟩:=dH n;have j1: ∀ g,ay P.v (.int 1) g= .ok (.tup (P.s1.map PV.str)) g:=λg=>jD;have at_:=bz (f:=ft) ez;have lk:P.s1.idxOf l < S.dX.length:=(T1.mp ez).1
 let B:=S.dX.set (P.s1.idxOf l) (none,ji j c)
 have bB:(S.dX.map ft).set (P.s1.idxOf l) (.tup [.non,.tup [.int (j:Int),.int c]])=B.map ft:=bJ ft S.dX _ (none,ji j c);have pl:=λh v=>ko (h:=h) (n:=n+5) (xs:=S.dX.map ft) (v:=v) (i:=(P.s1.idxOf l:Int)) rfl (by rw[TZ];exact lk);have od: ∀ o:PO,(H.set (n+5) o)[d]?=some (.lst (hl.map PV.str)):=λo=>by rw[br (by omega)];exact eh
 have rm:=λo=>RE (h:=H.set (n+5) o) (n:=d) (od o) hm;show _=RV.ok _ ((H.set (n+5) (.lst (B.map ft))).set d (.lst ((qE hl l).map PV.str)));rw[run_eq T.jJ rfl]
 clear_value B
 simp only[ft] at at_;simp? (disch:=first | assumption | omega) only[cX,gK,bh,Rw.w,Rw.ps,ji,j1,kq,hJ,iw m,C.e0,v5,C.e5,at_,pl,bB,od,rm];exact fJ (by rw[UI,UI])
theorem v8(k:Nat){H:PH}{n d:Nat}{P:Pg}{S:Wd}(C:Cells H n S){D:Pk}(ed:H[d]?=some (.dct (eL D))){L:List Str}(hD:qD L D){l:Str}{e:Sm}(he:jG e)(m:l∈P.s2){z:Int × Int × List Int}(ez:S.cU[P.s2.idxOf l]?=some z)(hz:z.2.2.length<=1000):run pg (k+9) "_law_laned" [P.v,.ref n,bh (.send l e),.ref d] H= .ok (.tup [.str "send",.str l,.int (e.val (fP D)),.int z.1]) (H.set (n+6) (.lst ((S.cU.set (P.s2.idxOf l) (z.1+1,z.2.1,z.2.2++[e.val (fP D)])).map fq))):=by
 obtain⟨v1,v2,v3,v4,v5,v6⟩:=dH n;have j2: ∀ g,ay P.v (.int 2) g= .ok (.tup (P.s2.map PV.str)) g:=λg=>vd;have at_:=bz (f:=fq) ez;have lk:P.s2.idxOf l < S.cU.length:=(T1.mp ez).1;have w:=oQ T hD.Bb e (k+7) _ ed he.1 (by have:=he.2;omega)
 let B:=S.cU.set (P.s2.idxOf l) (z.1+1,z.2.1,z.2.2++[e.val (fP D)])
 have bB:(S.cU.map fq).set (P.s2.idxOf l) (.tup [.int (z.1+1),.int z.2.1,.tup ((z.2.2++[e.val (fP D)]).map PV.int)])=B.map fq:=bJ fq S.cU _ (z.1+1,z.2.1,z.2.2++[e.val (fP D)]);have pl:=λh v=>ko (h:=h) (n:=n+6) (xs:=S.cU.map fq) (v:=v) (i:=(P.s2.idxOf l:Int)) rfl (by rw[TZ];exact lk);have ad: ∀ g,aY (.tup (z.2.2.map PV.int)) (.tup [.int (e.val (fP D))]) g= .ok (.tup ((z.2.2++[e.val (fP D)]).map PV.int)) g:=λg=>by
  rw[la (by simp only[TZ,Ub,UE];omega),U3];rfl
 show _=RV.ok _ (H.set (n+6) (.lst (B.map fq)));rw[run_eq T.kS rfl]
 clear_value B
 simp only[fq] at at_;simp? (disch:=first | assumption | omega) only[dG,iC,bh,Rw.w,Rw.ps,j2,kq,hJ,iw m,C.e0,v6,C.e6,at_,w,↓ad,pl,bB];exact fJ (by rw[UI])
theorem vR(k:Nat){H:PH}{n d:Nat}{P:Pg}{S:Wd}(C:Cells H n S){D:Pk}(ed:H[d]?=some (.dct (eL D)))(hd:n+6 < d){L:List Str}(hL:L.length<=20)(hD:qD L D){y l:Str}(m:l∈P.s2){a b i:Int}{ls:List Int}(ez:S.cU[P.s2.idxOf l]?=some (a,b,i::ls)):run pg (k+1) "_law_laned" [P.v,.ref n,bh (.fetch y l),.ref d] H= .ok (.tup [.str "fetch",.str l,.int i,.int b]) ((H.set (n+6) (.lst ((S.cU.set (P.s2.idxOf l) (a,b+1,ls)).map fq))).set d (.dct (eL (putD D y i)))):=by
 obtain⟨v1,v2,v3,v4,v5,v6⟩:=dH n;have j2: ∀ g,ay P.v (.int 2) g= .ok (.tup (P.s2.map PV.str)) g:=λg=>vd;have at_:=bz (f:=fq) ez;have lk:P.s2.idxOf l < S.cU.length:=(T1.mp ez).1
 let B:=S.cU.set (P.s2.idxOf l) (a,b+1,ls)
 have bB:(S.cU.map fq).set (P.s2.idxOf l) (.tup [.int a,.int (b+1),.tup (ls.map PV.int)])=B.map fq:=bJ fq S.cU _ (a,b+1,ls);have pl:=λh v=>ko (h:=h) (n:=n+6) (xs:=S.cU.map fq) (v:=v) (i:=(P.s2.idxOf l:Int)) rfl (by rw[TZ];exact lk);have od: ∀ o:PO,(H.set (n+6) o)[d]?=some (.dct (eL D)):=λo=>by rw[br (by omega)];exact ed
 show _=RV.ok _ ((H.set (n+6) (.lst (B.map fq))).set d (.dct (eL (putD D y i))));rw[run_eq T.kS rfl]
 clear_value B
 simp only[fq,T9] at at_;simp? (disch:=first | assumption | omega) only[dG,iC,bh,Rw.w,Rw.ps,j2,kq,hJ,iw m,C.e0,v6,C.e6,at_,pT,pl,bB,od,kJ (nN hL hD),jr];exact fJ (by rw[UI,UI])
end
theorem Bf(s:aF)(v:PV)(r:Rw):(after s v r).row=s.row+1:=by cases r<;>rfl
theorem uE{L:List Str}{rs:List Rw}{s:aF}{r:Rw}{v:PV}(hs:cR L rs s)(e:rs[s.row]?=some r)(hr:eW L rs.length r)(hv: ∀ x,r.fZ=some x-> ∃ i:Int,v= .int i/\0<=i/\i<=999):cR L rs (after s v r):=by
 have hlt:s.row < rs.length:=(T1.mp e).1;rcases rw_cls r with⟨x,hx⟩ | ⟨l,rfl⟩ | ⟨l,rfl⟩ | ⟨_,af⟩
 . obtain⟨i,rfl,h0,h9⟩:=hv x hx;rw[iP hx];exact⟨wz hs.pk (hr.pk hx) h0 h9,hlt⟩
 . exact⟨hs.pk,hlt⟩
 . exact⟨hs.pk,hlt⟩
 . rw[af];exact⟨hs.pk,hlt⟩
theorem pS{P:Pg}{S:Wd}{j:Nat}{x:Str × List Rw}{s:aF}{y l:Str}(ex:P.hs[j]?=some x)(es:S.bL[j]?=some s)(er:x.2[s.row]?=some (.fetch y l))(hw:bE P S j= .non){z:Int × Int × List Int}(ez:S.cU[(P.nm 2).idxOf l]?=some z): ∃ a b i ls,z=(a,b,i::ls):=by
 obtain⟨za,zb,zl⟩:=z;cases zl with
 | cons i ls=>exact⟨za,zb,i,ls,rfl⟩
 | nil =>
  unfold bE at hw
  rw[dN ex es,er] at hw
  simp only[iK,ez] at hw
  exact nomatch hw
theorem sI{P:Pg}{N:Nat}{S:Wd}(W:ia P N S):S.iO.length=(P.nm 0).length:=by rw[W.l0];exact(TZ ..).symm
theorem wQ{P:Pg}(ok:P.Ok){N:Nat}{S:Wd}(W:ia P N S){j:Nat}{x:Str × List Rw}{s:aF}{c:Int}{r:Rw}(ex:P.hs[j]?=some x)(es:S.bL[j]?=some s)(er:x.2[s.row]?=some r)(hw:bE P S j= .non){g:PV}(hg:gH r g): ∀ y,r.fZ=some y-> ∃ i:Int,(met P S j c s g r).2.1= .int i/\0<=i/\i<=999:=by
 have mr:=Ue er;have gi:d6 r=true-> ∃ i:Int,(met P S j c s g r).2.1= .int i/\0<=i/\i<=999:=λhq=>by
  obtain⟨i,rfl,h0,h9,_⟩:=hg.1 hq;rw[(jz hq).2.2];exact⟨i,rfl,h0,h9⟩
 intro y hy;cases r with
 | get y' b =>
  obtain⟨z,ez,mz⟩:=bD (sI W) (bY ok ex mr (k:=0) (t:=b) rfl)
  exact⟨z.1,by simp only[met,ez,Uz],(W.bx z mz).1⟩
 | fetch y' l =>
  obtain⟨z,ez,mz⟩:=bD (l:=S.cU) (ns:=P.nm 2) W.l2 (bY ok ex mr (k:=2) (t:=l) rfl)
  obtain⟨a,b,i,ls,rfl⟩:=pS ex es er hw ez
  exact⟨i,by simp only[met,ez,Uz,Yc],(W.ln _ mz).2.2.2 i Uk⟩
 | clock _=>exact gi rfl
 | lot _ _=>exact gi rfl
 | hear _ _=>exact gi rfl
 | _=>exact nomatch hy
theorem Rep.JU{H:PH}{n:Nat}{P:Pg}{S:Wd}{ss:List aF}(R:Rep H n P S ss){j:Nat}{s s':aF}(es:ss[j]?=some s)(hp:s'.ps=s.ps)(hh:s'.held=s.held):Rep H n P S (ss.set j s'):=by
 refine⟨R.c,λi y t ey et=>?_⟩;have lj:=(T1.mp es).1;by_cases z:j=i
 . subst z;rw[UO lj] at et;cases et;obtain⟨D,hl,h1,h2,h3,h4,h5,h6⟩:=R.p j y s ey es;exact⟨D,hl,h1,h2,h3,by rw[hp];exact h4,h5,by rw[hh];exact h6⟩
 . rw[Vb z] at et;exact R.p i y t ey et
theorem Dd{hl:List Str}(nd:hl.Nodup)(a y:Str):y∈qE hl a↔y∈hl/\y≠a:=by
 unfold qE;rw[<- List.erase_eq_eraseIdx_of_idxOf rfl,nd.mem_erase_iff];exact And.comm
theorem HQ{hl:List Str}(nd:hl.Nodup)(a:Str):(qE hl a).Nodup:=by
 unfold qE;exact nd.sublist (List.eraseIdx_sublist ..)
noncomputable def Bj:MS:=(bU (aE (aj ja (eX 7 0) (au (a2 (eS "get") (eS "put"))))) (ak (ae "_law_boxed" (ab (aa 0) (ab (aa 1) (a3 (aa 7) (aa 8) (aa 5))))) (gN 9)) (bU (aE (aj ja (eX 7 0) (au (a2 (eS "take") (eS "free"))))) (ak (ae "_law_locked" (ab (aa 0) (ab (aa 1) (a3 (aa 7) (aa 8) (aa 6))))) (gN 9)) (bU (aE (aj ja (eX 7 0) (au (a2 (eS "send") (eS "fetch"))))) (ak (ae "_law_laned" (ab (aa 0) (a3 (aa 1) (aa 7) (aa 5)))) (gN 9)) (bU (mQ (eX 7 0) (eS "say")) (ag (ak (E8 (eX 0 3) (a1 (eX 7 1))) (gN 10))
  (ag (ak (au (ab (eS "say") (ab (eX 7 1) (ab (ae "_law_worth" (a2 (eX 7 2) (aa 5))) (ab (aj ay (aj ay (aa 1) (eS "doors")) (aa 10)) ah))))) (gN 9))
  (fm dZ (aj ay (aa 1) (eS "doors")) (aa 10) (aj aY (aj ay (aj ay (aa 1) (eS "doors")) (aa 10)) (eI 1))))) (ag (fm dZ (aa 5) (eX 7 1) (aa 3))
  (ak (au (ab (eX 7 0) (ab (uc (mQ (eX 7 0) (eS "hear")) (eX 7 2) (eS "")) (a2 (aa 3) (eC .non))))) (gN 9)))))))
theorem EE(a b c:Str)(h:PH):ja (.str a) (.tup [.str b,.str c]) h= .ok (.bl (decide (a=b\/a=c))) h:=by
 have:=wq (a:=a) (ss:=[b,c]) (h:=h);simpa using this
section
variable{pg:Tb}(T:cj pg)
include T
theorem MB(k:Nat){H:PH}{n:Nat}{P:Pg}(ok:P.Ok){S:Wd}{N:Nat}(W:ia P N S)(N9:N<=60)(R:Rep H n P S S.bL){j:Nat}{x:Str × List Rw}{s:aF}{c:Int}{r:Rw}(ex:P.hs[j]?=some x)(es:S.bL[j]?=some s)(ec:S.cD[j]?=some c)(er:x.2[s.row]?=some r)(hw:bE P S j= .non){g:PV}(hg:gH r g)(e4:Option PV) :
  ∃(H1:PH)(f10:Option PV),Fr n P.hs.length H H1/\Rep H1 n P (met P S j c s g r).1 (S.bL.set j (after s (met P S j c s g r).2.1 r)) /\
   Bj (run pg (k+10)) [some P.v,some (.ref n),some (.int j),some g,e4,some (.ref (n+7+3*j)),some (.ref (n+9+3*j)),some (bh r),some (ji j c),none,none] H= .ok (.nx [some P.v,some (.ref n),some (.int j),some g,e4,some (.ref (n+7+3*j)),some (.ref (n+9+3*j)),some (bh r),some (ji j c),some (cZ r (met P S j c s g r).2.1 (met P S j c s g r).2.2),f10]) H1:=by
 have so:=W.se j x s ex es;have mr:=Ue er;have C:=R.cells;have lj:=(T1.mp ex).1;obtain⟨l1,l2,l3⟩:=gI (ok.hd x (Ue ex));obtain⟨D,hl,p1,p2,p3,p4,p5,p6⟩:=R.p j x s ex es;have hr:=l3 r mr;have hv:=wQ ok W (c:=c) ex es er hw hg;have ow:=(i7 so.re er).1;have cl:=(i7 so.re er).2;obtain⟨v1,v2,v3,v4,v5,v6⟩:=dH n;have ff:fP D=fP s.ps:=funext p4;have ld:=aG p1;have ll:=aG p2;have hl9:=nN (by omega) p3;have gi:d6 r=true-> ∀ y,r.fZ=some y->(∀ h,ay (bh r) (.int 1) h= .ok (.str y) h)-> ∃(H1:PH),Fr n P.hs.length H H1/\Rep H1 n P (met P S j c s g r).1 (S.bL.set j (after s (met P S j c s g r).2.1 r))/\ ∃ i:Int,g= .int i/\H1=H.set (n+7+3*j) (.dct (eL (putD D y i))):=λhq y hy _=>by
  obtain⟨i,rfl,h0,h9,_⟩:=hg.1 hq;refine⟨_,Fr.refl.set (by omega) (by omega),?_,i,rfl,rfl⟩;rw[(jz hq).2.2];exact R.put ex es (nM p3 (hr.pk hy) h0 h9) (λz=>by rw[iP hy,nP,p4];exact(rU so.so.pk.nd y i z).symm) (by rw[iP hy])
 cases r with
 | get y b =>
  have m:=bY ok ex mr (k:=0) (t:=b) rfl
  obtain⟨z,ez,mz⟩:=bD (sI W) m
  have hz:=(W.bx z mz).1
  have st:=Av T (k+9) ok W C (by omega) p1 p3 (y:=y) m ez (ji j c)
  refine⟨_,none,Fr.refl.set (i:=n+7+3*j) (o:= .dct (eL (putD D y z.1))) (by omega) (by omega),?_,?_⟩
  . simp only[met,ez,Uz];exact R.put ex es (nM p3 hr hz.1 hz.2) (λq=>by rw[nP,p4];exact(rU so.so.pk.nd y z.1 q).symm) rfl
  . simp only[bh,Rw.w,Rw.ps] at st;simp? [Bj,bh,Rw.w,Rw.ps,EE,st,met,ez,Uz,cZ,Rw.tg,Rw.th,true_or,or_true,or_false,false_or]
 | put b e =>
  have m:=bY ok ex mr (k:=0) (t:=b) rfl
  obtain⟨z,ez,mz⟩:=bD (sI W) m
  have st:=An T (k+1) ok W C p1 p3 hr m ez (ev:=ji j c) rfl
  rw[ff] at st
  refine⟨_,none,Fr.refl.set (i:=n+4) (o:= .lst ((S.iO.set ((P.nm 0).idxOf b) (e.val (fP s.ps),ji j c)).map gO)) (by omega) (by omega),?_,?_⟩
  . refine Rep.JU (s:=s) ?_ es rfl rfl;exact R.set (i:=4) (S':={ S with iO:=S.iO.set ((P.nm 0).idxOf b) (e.val (fP s.ps),ji j c) }) (by decide) (by rintro (_ | _ | _ | _ | _ | _ | _ | _) a b<;>first | rfl | omega)
  . simp only[bh,Rw.w,Rw.ps] at st;simp? [Bj,bh,Rw.w,Rw.ps,EE,st,met,ez,Uz,cZ,Rw.tg,Rw.th,true_or,or_true,or_false,false_or]
 | take l =>
  have m:l∈P.s1:=bY ok ex mr (k:=1) (t:=l) rfl
  obtain⟨z,ez,mz⟩:=bD (l:=S.dX) (ns:=P.s1) W.l1 m
  have ez':S.dX[(P.nm 1).idxOf l]?=some z:=ez
  have nl:l ∉ s.held:=by simpa [own] using ow
  have hh:hl.length<=1000:=by
   have:=WJ p5 (l₂ :=s.held) λy hy=>(p6 y).mp hy;have:=so.le;omega
  have st:=uN T (k+9) (P:=P) C p2 (by omega) hh m ez j c
  refine⟨_,none,(Fr.refl.set (i:=n+5) (o:= .lst ((S.dX.set (P.s1.idxOf l) (some (j:Int),z.2)).map ft)) (by omega) (by omega)).set (i:=n+9+3*j) (o:= .lst ((hl++[l]).map PV.str)) (by omega) (by omega),?_,?_⟩
  . simp only[met,ez',Uz];refine(R.set (i:=5) (S':={ S with dX:=S.dX.set (P.s1.idxOf l) (some (j:Int),z.2) }) (by decide) (by rintro (_ | _ | _ | _ | _ | _ | _ | _) a b<;>first | rfl | omega)).hold ex es ?_ (λy=>?_) rfl
    . exact W2.mpr ⟨p5,by simp,λa ha b hb e=>nl (by rw[<- UX.mp hb,<- e];exact(p6 a).mp ha)⟩
    . show y∈hl++[l]↔y∈eZ (s.held++[l]);rw[(ib _).mem_iff,Va,Va,p6]
  . simp only[bh,Rw.w,Rw.ps] at st;simp? [Bj,bh,Rw.w,Rw.ps,EE,st,met,ez',Uz,cZ,Rw.tg,Rw.th,true_or,or_true,or_false,false_or]
 | free l =>
  have m:l∈P.s1:=bY ok ex mr (k:=1) (t:=l) rfl
  obtain⟨z,ez,mz⟩:=bD (l:=S.dX) (ns:=P.s1) W.l1 m
  have ih:l∈s.held:=by simpa [own] using ow
  have st:=uK T (k+9) (P:=P) C p2 (by omega) ((p6 l).mpr ih) m ez j c
  refine⟨_,none,(Fr.refl.set (i:=n+5) (o:= .lst ((S.dX.set (P.s1.idxOf l) (none,ji j c)).map ft)) (by omega) (by omega)).set (i:=n+9+3*j) (o:= .lst ((qE hl l).map PV.str)) (by omega) (by omega),?_,?_⟩
  . refine(R.set (i:=5) (S':={ S with dX:=S.dX.set (P.s1.idxOf l) (none,ji j c) }) (by decide) (by rintro (_ | _ | _ | _ | _ | _ | _ | _) a b<;>first | rfl | omega)).hold ex es (HQ p5 l) (λy=>?_) rfl;rw[Dd p5,p6];show _↔y∈s.held.filter λz=> !decide (z=l);rw[VE];simp
  . simp only[bh,Rw.w,Rw.ps] at st;simp? [Bj,bh,Rw.w,Rw.ps,EE,st,met,cZ,Rw.tg,Rw.th,true_or,or_true,or_false,false_or]
 | send l e =>
  have m:l∈P.s2:=bY ok ex mr (k:=2) (t:=l) rfl
  obtain⟨z,ez,mz⟩:=bD (l:=S.cU) (ns:=P.s2) W.l2 m
  have ez':S.cU[(P.nm 2).idxOf l]?=some z:=ez
  have hz:=(W.ln z mz).2.2.1
  have st:=v8 T (k+1) (P:=P) C p1 p3 hr m ez (by omega)
  rw[ff] at st
  refine⟨_,none,Fr.refl.set (i:=n+6) (o:= .lst ((S.cU.set (P.s2.idxOf l) (z.1+1,z.2.1,z.2.2++[e.val (fP s.ps)])).map fq)) (by omega) (by omega),?_,?_⟩
  . simp only[met,ez',Uz];refine Rep.JU (s:=s) ?_ es rfl rfl;exact R.set (i:=6) (S':={ S with cU:=S.cU.set (P.s2.idxOf l) (z.1+1,z.2.1,z.2.2++[e.val (fP s.ps)]) }) (by decide) (by rintro (_ | _ | _ | _ | _ | _ | _ | _) a b<;>first | rfl | omega)
  . simp only[bh,Rw.w,Rw.ps] at st;simp? [Bj,bh,Rw.w,Rw.ps,EE,st,met,ez',Uz,cZ,Rw.tg,Rw.th,true_or,or_true,or_false,false_or]
 | fetch y l =>
  have m:l∈P.s2:=bY ok ex mr (k:=2) (t:=l) rfl
  obtain⟨z,ez,mz⟩:=bD (l:=S.cU) (ns:=P.s2) W.l2 m
  obtain⟨a,b,i,ls,rfl⟩:=pS ex es er hw (z:=z) ez
  have ez':S.cU[(P.nm 2).idxOf l]?=some (a,b,i::ls):=ez
  have hi:=(W.ln _ mz).2.2.2 i Uk
  have st:=vR T (k+9) (P:=P) C p1 (by omega) (by omega) p3 (y:=y) m ez
  refine⟨_,none,(Fr.refl.set (i:=n+6) (o:= .lst ((S.cU.set (P.s2.idxOf l) (a,b+1,ls)).map fq)) (by omega) (by omega)).set (i:=n+7+3*j) (o:= .dct (eL (putD D y i))) (by omega) (by omega),?_,?_⟩
  . simp only[met,ez',Uz,abr,Yc];refine(R.set (i:=6) (S':={ S with cU:=S.cU.set (P.s2.idxOf l) (a,b+1,ls) }) (by decide) (by rintro (_ | _ | _ | _ | _ | _ | _ | _) a b<;>first | rfl | omega)).put ex es (nM p3 hr hi.1 hi.2) (λq=>?_) rfl;rw[nP,p4];exact(rU so.so.pk.nd y i q).symm
  . simp only[bh,Rw.w,Rw.ps] at st;simp? [Bj,bh,Rw.w,Rw.ps,EE,st,met,ez',Uz,Yc,cZ,Rw.tg,Rw.th,true_or,or_true,or_false,false_or]
 | say d e =>
  have m:d∈P.s3:=bY ok ex mr (k:=3) (t:=d) rfl
  obtain⟨z,ez,mz⟩:=bD (l:=S.kl) (ns:=P.s3) W.l3 m
  have ez':S.kl[(P.nm 3).idxOf d]?=some z:=ez
  have j3: ∀ g,ay P.v (.int 3) g= .ok (.tup (P.s3.map PV.str)) g:=λg=>zW
  have at_:=bz (f:=PV.int) ez
  have lk:P.s3.idxOf d < S.kl.length:=(T1.mp ez).1
  have w:run pg (k+10) "_law_worth" [gP e,.ref (n+7+3*j)] H= .ok (.int (e.val (fP s.ps))) H:=by
   rw[<- ff];exact oQ T p3.Bb e (k+9) _ p1 hr.1 (by have:=hr.2;omega)
  have pl:=λh v=>ko (h:=h) (n:=n+3) (xs:=S.kl.map PV.int) (v:=v) (i:=(P.s3.idxOf d:Int)) rfl (by rw[TZ];exact lk)
  have bB:(S.kl.map PV.int).set (P.s3.idxOf d) (.int (z+1))=(S.kl.set (P.s3.idxOf d) (z+1)).map PV.int:=bJ PV.int S.kl _ (z+1)
  refine⟨_,some (.int (P.s3.idxOf d:Nat)),Fr.refl.set (i:=n+3) (o:= .lst ((S.kl.set (P.s3.idxOf d) (z+1)).map PV.int)) (by omega) (by omega),?_,?_⟩
  . simp only[met,ez',Uz];refine Rep.JU (s:=s) ?_ es rfl rfl;exact R.set (i:=3) (S':={ S with kl:=S.kl.set (P.s3.idxOf d) (z+1) }) (by decide) (by rintro (_ | _ | _ | _ | _ | _ | _ | _) a b<;>first | rfl | omega)
  . simp? [Bj,bh,Rw.w,Rw.ps,EE,j3,kq,hJ,iw m,w,C.e0,v3,C.e3,at_,pl,bB,met,ez',Uz,cZ,Rw.tg,Rw.th,true_or,or_true,or_false,false_or]
 | clock y =>
  obtain⟨H1,f,rp,i,rfl,rfl⟩:=gi rfl y rfl (λh=>jD)
  refine⟨_,none,f,rp,?_⟩
  simp? [Bj,bh,Rw.w,Rw.ps,EE,p1,kJ hl9,jr,met,cZ,Rw.tg,Rw.th,true_or,or_true,or_false,false_or]
 | lot y q =>
  obtain⟨H1,f,rp,i,rfl,rfl⟩:=gi rfl y rfl (λh=>jD)
  refine⟨_,none,f,rp,?_⟩
  simp? [Bj,bh,Rw.w,Rw.ps,EE,p1,kJ hl9,jr,met,cZ,Rw.tg,Rw.th,true_or,or_true,or_false,false_or]
 | hear y d =>
  obtain⟨H1,f,rp,i,rfl,rfl⟩:=gi rfl y rfl (λh=>jD)
  refine⟨_,none,f,rp,?_⟩
  simp? [Bj,bh,Rw.w,Rw.ps,EE,p1,kJ hl9,jr,met,cZ,Rw.tg,Rw.th,true_or,or_true,or_false,false_or]
 | let_ _ _=>exact nomatch ow
 | leap _ _=>exact nomatch ow
end
section
variable{pg:Tb}(T:cj pg)
include T
theorem zw(k:Nat){H:PH}{n:Nat}{P:Pg}(ok:P.Ok){S:Wd}{N:Nat}(W:ia P N S)(N9:N<=60)(R:Rep H n P S S.bL){j:Nat}{x:Str × List Rw}{s:aF}{c:Int}{r:Rw}(ex:P.hs[j]?=some x)(es:S.bL[j]?=some s)(ec:S.cD[j]?=some c)(er:x.2[s.row]?=some r)(hw:bE P S j= .non){g:PV}(hg:gH r g) :
  ∃ H1:PH,Fr n P.hs.length H H1/\Rep H1 n P (fY P S j c x.2 s g r) (fY P S j c x.2 s g r).bL/\run pg (k+11) "_law_go" [P.v,.ref n,.int j,g] H= .ok (cZ r (met P S j c s g r).2.1 (met P S j c s g r).2.2) H1:=by
 have C:=R.cells;have lj:=(T1.mp ex).1;have so:=W.se j x s ex es;obtain⟨l1,l2,l3⟩:=gI (ok.hd x (Ue ex));obtain⟨v1,v2,v3,v4,v5,v6⟩:=dH n;obtain⟨H1,f10,F1,R1,A4⟩:=MB T k ok W N9 R ex es ec er hw hg (some (.int s.row));have hv:=wQ ok W (c:=c) ex es er hw hg;have mc:(met P S j c s g r).1.cD=S.cD/\(met P S j c s g r).1.bL=S.bL:=by cases r<;>exact⟨rfl,rfl⟩
 let M:=(met P S j c s g r).1
 let v:=(met P S j c s g r).2.1
 let m:=(met P S j c s g r).2.2
 let t:=after s v r
 have lc:j < S.cD.length:=(T1.mp ec).1;have ls:j < S.bL.length:=(T1.mp es).1;have R2:Rep (H1.set (n+1) (.lst ((S.cD.set j (c+1)).map PV.int))) n P { M with cD:=S.cD.set j (c+1) } (S.bL.set j t):=R1.set (i:=1) (S':={ M with cD:=S.cD.set j (c+1) }) (by decide) (by rintro (_ | _ | _ | _ | _ | _ | _ | _) a b<;>first | rfl | omega)
 let H2:=H1.set (n+1) (.lst ((S.cD.set j (c+1)).map PV.int))
 have et:(S.bL.set j t)[j]?=some t:=UO ls;have hs1:cR (IQ x) x.2 t:=uE so.so er (l3 r (Ue er)) hv;obtain⟨D,hl,p1,p2,p3,p4,p5,p6⟩:=R2.p j x t ex et;obtain⟨D',d1,d2,d3⟩:=yn T k H2 (d:=n+7+3*j) (l:=n+9+3*j) (by omega) (by omega) l3 p1 p2 p6 hs1 p3 p4
 let t':=aX x.2 200 t
 have R3:Rep (H2.set (n+7+3*j) (.dct (eL D'))) n P { M with cD:=S.cD.set j (c+1) } ((S.bL.set j t).set j t'):=R2.put ex et d1 d2 (dw 200 t);rw[List.set_set] at R3
 let H3:=H2.set (n+7+3*j) (.dct (eL D'))
 have R4:Rep (H3.set (n+2) (.lst (sL n (S.bL.set j t')))) n P { M with cD:=S.cD.set j (c+1),bL:=S.bL.set j t' } (S.bL.set j t'):=R3.set (i:=2) (S':={ M with cD:=S.cD.set j (c+1),bL:=S.bL.set j t' }) (by decide) (by rintro (_ | _ | _ | _ | _ | _ | _ | _) a b<;>first | rfl | omega);have Sw:fY P S j c x.2 s g r={ M with cD:=S.cD.set j (c+1),bL:=S.bL.set j t' }:=by
  show jN M j c t'=_;unfold jN;have e1:M.cD=S.cD:=mc.1;have e2:M.bL=S.bL:=mc.2;rw[e1,e2]
 refine⟨H3.set (n+2) (.lst (sL n (S.bL.set j t'))),((F1.set (by omega) (by omega)).set (by omega) (by omega)).set (by omega) (by omega),by rw[Sw];exact R4,?_⟩;have ro:=jV T (k+9) W C lj;rw[dN ex es,er] at ro;have ro':run pg (k+10) "_law_row" [P.v,.ref n,.int j] H= .ok (bh r) H:=ro;have C1:=R1.cells;have C2:=R2.cells;have C3:=R3.cells;have se:dC (sL n S.bL) (j:Int)=some (Hu n j s):=P3.eE rfl (IY es);have ac:dC (S.cD.map PV.int) (j:Int)=some (.int c):=bz ec;have i4: ∀ g,ay P.v (.int 4) g= .ok (.tup (P.hs.map bF)) g:=λg=>sr;have ih: ∀ g,ay (.tup (P.hs.map bF)) (.int j) g= .ok (bF x) g:=λg=>ka (bz ex);have i1: ∀ g,ay (bF x) (.int 1) g= .ok (bH x.2) g:=λg=>jD;have up:((s.row:Int)+1)=((t.row:Nat):Int):=by show _=(((after s v r).row:Nat):Int);rw[Bf];omega
 have pc:=λh w=>ko (h:=h) (n:=n+1) (xs:=S.cD.map PV.int) (v:=w) (i:=(j:Int)) rfl (by rw[TZ];exact lc);have bc:(S.cD.map PV.int).set j (.int (c+1))=(S.cD.set j (c+1)).map PV.int:=bJ PV.int S.cD j (c+1);have ps:=λh w=>ko (h:=h) (n:=n+2) (xs:=sL n S.bL) (v:=w) (i:=(j:Int)) rfl (by rw[Cd];exact ls);have bs:(sL n S.bL).set j (.tup [.int t'.row,.ref (n+7+3*j),.ref (n+9+3*j)])=sL n (S.bL.set j t'):=Nm n j S.bL t';have c11:H1[n+1]?=some (.lst (S.cD.map PV.int)):=by have:=C1.e1;rw[mc.1] at this;exact this
 have c32:H3[n+2]?=some (.lst (sL n S.bL)):=by
  have:=C3.e2;have e2:M.bL=S.bL:=mc.2;show _=some (PO.lst (sL n S.bL));rw[<- e2];exact this
 have c10:=C1.e0;have c30:H3[n]?=some (.dct (qu n)):=C3.e0;have d3':run pg (k+10) "_law_rest" [bH x.2,.int t.row,.ref (n+7+3*j),.ref (n+9+3*j)] H2= .ok (.int t'.row) H3:=d3;have h2:H1.set (n+1) (.lst ((S.cD.set j (c+1)).map PV.int))=H2:=rfl;have A:lN (run pg (k+10)) [some P.v,some (.ref n),some (.int j),some g,none,none,none,none,none,none,none] H= .ok (.rt (cZ r v m)) (H3.set (n+2) (.lst (sL n (S.bL.set j t')))):=by
  show ag _ (ag _ (ag _ (ag Bj (ag _ (ag _ _))))) _ _ _=_;refine(bp (e1:=[some P.v,some (.ref n),some (.int j),some g,some (.int s.row),some (.ref (n+7+3*j)),some (.ref (n+9+3*j)),none,none,none,none]) (h1:=H) ?_).trans ?_
  . simp? [C.e0,v2,C.e2,se,Hu]
  refine(bp (e1:=[some P.v,some (.ref n),some (.int j),some g,some (.int s.row),some (.ref (n+7+3*j)),some (.ref (n+9+3*j)),some (bh r),none,none,none]) (h1:=H) ?_).trans ?_
  . simp? [ro']
  refine(bp (e1:=[some P.v,some (.ref n),some (.int j),some g,some (.int s.row),some (.ref (n+7+3*j)),some (.ref (n+9+3*j)),some (bh r),some (ji j c),none,none]) (h1:=H) ?_).trans ?_
  . simp? [C.e0,v1,C.e1,ac,ji]
  refine(bp A4).trans ?_;refine(bp (e1:=[some P.v,some (.ref n),some (.int j),some g,some (.int s.row),some (.ref (n+7+3*j)),some (.ref (n+9+3*j)),some (bh r),some (ji j c),some (cZ r v m),f10]) (h1:=H2) ?_).trans ?_
  . simp? [c10,v1,c11,ji,pc,bc,h2];rfl
  clear_value H3 t t' v m
  clear_value H2
  simp? [i4,ih,i1,up,d3',c30,v2,c32,ps,bs]
 rw[run_eq T.zv rfl];show fin _ (lN (run pg (k+10)) [some P.v,some (.ref n),some (.int j),some g,none,none,none,none,none,none,none] H)=_;rw[A,lZ];exact fJ (by rw[UI,UI,UI];exact F1.len)
end
theorem uG.up{N:Nat}{v:PV}(h:uG N v):uG (N+1) v:=by
 rcases h with h | ⟨a,b,h,h1,h2,h3,h4⟩
 . exact .inl h
 . exact .inr ⟨a,b,h,h1,h2,h3,by omega⟩
theorem OX.up{P:Pg}{N:Nat}{x:Str × List Rw}{s:aF}(h:OX P N x s):OX P (N+1) x s:=⟨h.so,h.nd,by have:=h.le;omega,h.re,h.nm⟩
theorem ia.up{P:Pg}{N:Nat}{S:Wd}(W:ia P N S):ia P (N+1) S where
 lc:=W.lc
 ls:=W.ls
 l0:=W.l0
 l1:=W.l1
 l2:=W.l2
 l3:=W.l3
 ct c m:=by have:=W.ct c m;omega
 bx b m:=⟨(W.bx b m).1,(W.bx b m).2.up⟩
 lk l m:=⟨(W.lk l m).1,(W.lk l m).2.up⟩
 ln n m:=by have:=W.ln n m;exact⟨by omega,by omega,by omega,this.2.2.2⟩
 dr d m:=by have:=W.dr d m;omega
 se j x s e1 e2:=(W.se j x s e1 e2).up
theorem Nf{P:Pg}(ok:P.Ok){N:Nat}{S:Wd}(W:ia P N S){j:Nat}{x:Str × List Rw}{s:aF}{c:Int}{r:Rw}(ex:P.hs[j]?=some x)(es:S.bL[j]?=some s)(ec:S.cD[j]?=some c)(er:x.2[s.row]?=some r)(hw:bE P S j= .non){g:PV}(hg:gH r g):ia P (N+1) (met P S j c s g r).1:=by
 have mr:=Ue er;have U:=W.up;have lj:=(T1.mp ex).1;have hm:=ok.many;have hc:=W.ct c (Ue ec);have so:=W.se j x s ex es;obtain⟨l1,l2,l3⟩:=gI (ok.hd x (Ue ex));have hr:=l3 r mr;have Bb: ∀ e:Sm,jG e->0<=e.val (fP s.ps)/\e.val (fP s.ps)<=999:=λe he=>Sm.ox (yC λq m=>(so.so.pk.mem q m).2) e he.1;have mk:uG (N+1) (ji j c):= .inr ⟨j,c,rfl,by omega,by omega,by omega,by omega⟩;cases r with
 | get y b=>exact U
 | put b e=>exact{ U with
   l0:=by rw[<- U.l0];exact UI
   bx:=λq m=>by
    rcases U8 m with m | rfl
    . exact U.bx q m
    . exact⟨Bb e hr,mk⟩ }
 | take l =>
  obtain⟨z,ez,mz⟩:=bD (l:=S.dX) (ns:=P.nm 1) W.l1 (bY ok ex mr (k:=1) (t:=l) rfl)
  simp only[met,ez,Uz]
  exact{ U with
   l1:=by rw[<- U.l1];exact UI
   lk:=λq m=>by
    rcases U8 m with m | rfl
    . exact U.lk q m
    . exact⟨λi e=>by cases e;omega,(U.lk z mz).2⟩ }
 | free l=>exact{ U with
   l1:=by rw[<- U.l1];exact UI
   lk:=λq m=>by
    rcases U8 m with m | rfl
    . exact U.lk q m
    . exact⟨λi e=>(nomatch e),mk⟩ }
 | send l e =>
  obtain⟨z,ez,mz⟩:=bD (l:=S.cU) (ns:=P.nm 2) W.l2 (bY ok ex mr (k:=2) (t:=l) rfl)
  have hz:=W.ln z mz
  simp only[met,ez,Uz]
  exact{ U with
   l2:=by rw[<- U.l2];exact UI
   ln:=λq m=>by
    rcases U8 m with m | rfl
    . exact U.ln q m
    . refine⟨by show 0<=z.1+1/\z.1+1<=((N+1:Nat):Int);omega,by show 0<=z.2.1/\z.2.1<=((N+1:Nat):Int);omega,by show(z.2.2++[_]).length<=N+1;rw[Ur];have:=hz.2.2.1;simp;omega,λv mv=>?_⟩;rcases Va.mp mv with mv | mv
      . exact hz.2.2.2 v mv
      . rw[UX.mp mv];exact Bb e hr }
 | fetch y l =>
  obtain⟨z,ez,mz⟩:=bD (l:=S.cU) (ns:=P.nm 2) W.l2 (bY ok ex mr (k:=2) (t:=l) rfl)
  have hz:=W.ln z mz
  simp only[met,ez,Uz]
  exact{ U with
   l2:=by rw[<- U.l2];exact UI
   ln:=λq m=>by
    rcases U8 m with m | rfl
    . exact U.ln q m
    . refine⟨by show 0<=z.1/\z.1<=((N+1:Nat):Int);omega,by show 0<=z.2.1+1/\z.2.1+1<=((N+1:Nat):Int);omega,by show z.2.2.tail.length<=N+1;rw[List.length_tail];have:=hz.2.2.1;omega,λv mv=>hz.2.2.2 v (List.mem_of_mem_tail mv)⟩ }
 | say d e =>
  obtain⟨z,ez,mz⟩:=bD (l:=S.kl) (ns:=P.nm 3) W.l3 (bY ok ex mr (k:=3) (t:=d) rfl)
  have hz:=W.dr z mz
  simp only[met,ez,Uz]
  exact{ U with
   l3:=by rw[<- U.l3];exact UI
   dr:=λq m=>by
    rcases U8 m with m | rfl
    . exact U.dr q m
    . omega }
 | _=>exact U
theorem Ft{P:Pg}(ok:P.Ok){N:Nat}{S:Wd}(W:ia P N S){j:Nat}{x:Str × List Rw}{s:aF}{c:Int}{r:Rw}(ex:P.hs[j]?=some x)(es:S.bL[j]?=some s)(ec:S.cD[j]?=some c)(er:x.2[s.row]?=some r)(hw:bE P S j= .non){g:PV}(hg:gH r g):ia P (N+1) (fY P S j c x.2 s g r):=by
 have mr:=Ue er;have M:=Nf ok W ex es ec er hw hg;have mc:(met P S j c s g r).1.cD=S.cD/\(met P S j c s g r).1.bL=S.bL:=by cases r<;>exact⟨rfl,rfl⟩
 have so:=W.se j x s ex es;have hc:=W.ct c (Ue ec);obtain⟨l1,l2,l3⟩:=gI (ok.hd x (Ue ex));have hv:=wQ ok W (c:=c) ex es er hw hg;have ow:=(i7 so.re er).1;have ls:j < S.bL.length:=(T1.mp es).1;unfold fY jN;have hh:(after s (met P S j c s g r).2.1 r).held.Nodup/\(after s (met P S j c s g r).2.1 r).held.length<=N+1/\ ∀ l∈(after s (met P S j c s g r).2.1 r).held,l∈P.s1:=by
  have le:=so.le;rcases rw_cls r with⟨y,hy⟩ | ⟨l,rfl⟩ | ⟨l,rfl⟩ | ⟨_,af⟩
  . rw[iP hy];exact⟨so.nd,by show s.held.length<=_;omega,so.nm⟩
  . have nl:l ∉ s.held:=by simpa [own] using ow
    refine⟨?_,?_,λy hy=>?_⟩
    . show(eZ (s.held++[l])).Nodup;rw[(ib _).nodup_iff];exact W2.mpr ⟨so.nd,by simp,λa ha b hb e=>nl (by rw[<- UX.mp hb,<- e];exact ha)⟩
    . show(eZ (s.held++[l])).length<=_;rw[(ib _).length_eq,Ur];simp;omega
    . have hy':y∈eZ (s.held++[l]):=hy;rw[(ib _).mem_iff,Va] at hy';rcases hy' with hy' | hy'
      . exact so.nm y hy'
      . rw[UX.mp hy'];exact bY ok ex mr (k:=1) (t:=l) rfl
  . refine⟨so.nd.sublist aai,?_,λy hy=>so.nm y (VE.mp hy).1⟩;show(s.held.filter _).length<=_;exact UM (Wk _ _) (by omega)
  . rw[af];exact⟨so.nd,by show s.held.length<=_;omega,so.nm⟩
 exact{ M with
  lc:=by rw[<- M.lc];exact UI
  ls:=by rw[<- M.ls];exact UI
  ct:=λq m=>by
   rcases U8 m with m | rfl
   . exact M.ct q m
   . omega
  se:=λi y t ey et=>by
   have et':(S.bL.set j (aX x.2 200 (after s (met P S j c s g r).2.1 r)))[i]?=some t:=by rw[<- mc.2];exact et
   by_cases z:j=i
   . subst z;rw[UO ls] at et';rw[ex] at ey;cases et';cases ey;exact⟨oH l3 200 _ (uE so.so er (l3 r mr) hv),by rw[dw];exact hh.1,by rw[dw];exact hh.2.1,iB 200 _,by rw[dw];exact hh.2.2⟩
   . rw[Vb z] at et';exact(W.se i y t ey et').up }
noncomputable def dR(x:Str × List Rw):aF:=aX x.2 200 ⟨0,[],[]⟩
noncomputable def N0(bs:List (Str × Int))(s1 s2 s3:List Str)(hs:List (Str × List Rw)):PV:= .tup [.tup (hs.map λ_=>PV.int 0),.tup (hs.map λx=>aC (dR x)),.tup (bs.map λb=>PV.tup [.int b.2,.non]),.tup (s1.map λ_=>PV.tup [.non,.non]),.tup (s2.map λ_=>PV.tup [.int 0,.int 0,.tup []]),.tup (s3.map λ_=>PV.int 0)]
theorem rF{α :Type}(hs:List α)(f: α ->PV)(d:PV):(UR hs.length).filterMap (λi=>some ((hs[i]?.map f).getD d))=hs.map f:=by
 rw[Wa];refine aa6 (by simp) λi h1 h2=>?_;simp at h1 h2 ⊢;rw[Uj (by omega)];rfl
theorem gb{α :Type}(f: α ->PV)(hf: ∀ x,(f x).flat=true): ∀ l:List α,PV.bC (l.map f)=true
 | []=>rfl
 | x::r=>by rw[T9,PV.bC,hf,gb f hf r];rfl
theorem B4(bs:List (Str × Int))(s1 s2 s3:List Str)(hs:List (Str × List Rw)):(N0 bs s1 s2 s3 hs).flat=true:=by
 unfold N0;simp only[PV.flat,PV.bC,XX,Ut];exact⟨gb _ (λ_=>rfl) _,gb _ (λx=>j6 _) _,gb _ (λ_=>rfl) _,gb _ (λ_=>rfl) _,gb _ (λ_=>rfl) _,gb _ (λ_=>rfl) _⟩
noncomputable def hU(P:Pg):Wd:=⟨P.hs.map λ_=>0,P.hs.map dR,P.bs.map λz=>(z.2,.non),P.s1.map λ_=>(none,.non),P.s2.map λ_=>(0,0,[]),P.s3.map λ_=>0⟩
theorem AE(P:Pg):aI (hU P)=N0 P.bs P.s1 P.s2 P.s3 P.hs:=by
 unfold aI hU N0;simp only[U5];rfl
theorem yy{P:Pg}(ok:P.Ok):ia P 0 (hU P) where
 lc:=TZ ..
 ls:=TZ ..
 l0:=TZ ..
 l1:=TZ ..
 l2:=TZ ..
 l3:=TZ ..
 ct c m:=by obtain⟨_,_,rfl⟩:=UP.mp m;decide
 bx b m:=by obtain⟨z,mz,rfl⟩:=UP.mp m;exact⟨(ok.bx.2 z mz).2,.inl rfl⟩
 lk l m:=by obtain⟨_,_,rfl⟩:=UP.mp m;exact⟨λi e=>(nomatch e),.inl rfl⟩
 ln n m:=by obtain⟨_,_,rfl⟩:=UP.mp m;exact⟨by decide,by decide,by decide,λv mv=>(nomatch mv)⟩
 dr d m:=by obtain⟨_,_,rfl⟩:=UP.mp m;decide
 se j x s e1 e2:=by
  have e2':(P.hs.map dR)[j]?=some s:=e2;rw[Uq,e1] at e2';cases e2';obtain⟨l1,l2,l3⟩:=gI (ok.hd x (Ue e1));have h0:(dR x).held=[]:=dw 200 ⟨0,[],[]⟩;exact⟨oH l3 200 _ ⟨.nil,UQ _⟩,by rw[h0];exact .nil,by rw[h0];exact Ua _,iB 200 _,by rw[h0];exact λl m=>(nomatch m)⟩
section
variable{pg:Tb}(T:cj pg)
include T
theorem iW(k:Nat)(h:PH){P:Pg}(ok:P.Ok):run pg (k+12) "first_stand" [P.v] h= .ok (aI (hU P)) h:=by
 rw[AE];obtain⟨bs,s1,s2,s3,hs⟩:=P;obtain⟨p,pa⟩: ∃ p,p=Pg.v ⟨bs,s1,s2,s3,hs⟩:=⟨_,rfl⟩
 rw[<- pa];show _=RV.ok (N0 bs s1 s2 s3 hs) h;have hm:1<=hs.length/\hs.length<=4:=ok.many;have ho:run pg (k+11) "hands_of" [p] h= .ok (.ref h.length) (h++[.lst (aw 0 hs.length)]):=by
  rw[run_eq T.pA rfl,pa];unfold Pg.v;have tn:XS ((hs.length:Nat):Int)=hs.length:=Vc _;simp? [fN,jU,Jj,DP,TZ,tn];exact bR rfl
 have lc: ∀(H:PH)(e:ME)(f:Nat->PV),H[h.length]?=some (.lst (aw 0 hs.length))->(∀ i < hs.length,e (run pg (k+11)) [some p,some (.ref h.length),some (.int (0+(i:Int)))] H= .ok (f i) H)->fT ⟨some h.length,aw 0 hs.length⟩ (aN 1 (gN 2) aP e (run pg (k+11)) [some p,some (.ref h.length)]) (aw 0 hs.length) [] H= .ok ((UR hs.length).filterMap λi=>some (f i)) H:=λH e f hH he=>by
  refine(cL (eJ hH) (UR hs.length) [] (f:=λi=>some (f i)) (g:=λi:Nat=>PV.int (0+(i:Int))) (λi m=>?_) (by simp;omega)).trans (by rw[UL]);have:=he i (Vj.mp m);simp? [this]
 have lt: ∀{α :Type}(l:List α)(g f: α ->PV)(e:ME)(H:PH),l.length<=1000->(∀ x∈l,e (run pg (k+11)) [some p,some (.ref h.length),some (g x)] H= .ok (f x) H)->fT ⟨none,l.map g⟩ (aN 1 (gN 2) aP e (run pg (k+11)) [some p,some (.ref h.length)]) (l.map g) [] H= .ok (l.map f) H:=λl g f e H hl he=>by
  refine(cL rfl l [] (f:=λx=>some (f x)) (g:=g) (λx m=>?_) (by simp;omega)).trans (by rw[UL,Wa]);have:=he x m;simp? [this]
 let A:List PV:=hs.map λ_=>PV.int 0
 let B:List PV:=hs.map λx=>aC (dR x)
 have n0: ∀ Y:PH,(h++ .lst (aw 0 hs.length)::Y)[h.length]?=some (.lst (aw 0 hs.length)):=λY=>bA;have c1: ∀ Y:PH,fT ⟨some h.length,aw 0 hs.length⟩ (aN 1 (gN 2) aP (eI 0) (run pg (k+11)) [some p,some (.ref h.length)]) (aw 0 hs.length) [] (h++ .lst (aw 0 hs.length)::Y)= .ok A (h++ .lst (aw 0 hs.length)::Y):=λY=>by
  rw[lc _ (eI 0) (λi=>((hs[i]?.map λ_=>PV.int 0).getD (.int 0))) (n0 Y) (λi hi=>by rw[IF,Uj hi];rfl),rF]
 have c2: ∀ Y:PH,fT ⟨some h.length,aw 0 hs.length⟩ (aN 1 (gN 2) aP (ae "first_seat" (a2 (aa 0) (aa 2))) (run pg (k+11)) [some p,some (.ref h.length)]) (aw 0 hs.length) [] (h++ .lst (aw 0 hs.length)::Y)= .ok B (h++ .lst (aw 0 hs.length)::Y):=λY=>by
  rw[lc _ (ae "first_seat" (a2 (aa 0) (aa 2))) (λi=>((hs[i]?.map λx=>aC (dR x)).getD .non)) (n0 Y) (λi hi=>?_),rF];have e:=Uj hi;obtain⟨_,L,l1,_,l3⟩:=ok.hd _ (WI hi);have fs:run pg (k+11) "first_seat" [p,.int i] (h++ .lst (aw 0 hs.length)::Y)=_:=qN T k _ (L:=L) (by omega) (by rw[pa];exact Pg.hand _ e) (λr m=>(l3 r m).1);rw[e];have iz:(0:Int)+(i:Int)=(i:Int):=Wv _;simp? [iz,fs];rfl
 have b20:bs.length<=20:=ok.bx.1;have n1:s1.length<=20:=ok.nm.1.1;have n2:s2.length<=20:=ok.nm.2.1.1;have n3:s3.length<=20:=ok.nm.2.2.1;have c3: ∀ H:PH,fT ⟨none,bs.map eA⟩ (aN 1 (gN 2) aP (au (a2 (eX 2 1) (eC .non))) (run pg (k+11)) [some p,some (.ref h.length)]) (bs.map eA) [] H= .ok (bs.map λb=>PV.tup [.int b.2,.non]) H:=λH=>lt bs eA _ _ H (by omega) λx _=>by simp? [eA]
 have c4: ∀ H:PH,fT ⟨none,s1.map PV.str⟩ (aN 1 (gN 2) aP (au (a2 (eC .non) (eC .non))) (run pg (k+11)) [some p,some (.ref h.length)]) (s1.map PV.str) [] H= .ok (s1.map λ_=>PV.tup [.non,.non]) H:=λH=>lt s1 PV.str _ _ H (by omega) λx _=>by simp? [UN]
 have c5: ∀ H:PH,fT ⟨none,s2.map PV.str⟩ (aN 1 (gN 2) aP (au (a3 (eI 0) (eI 0) (au ah))) (run pg (k+11)) [some p,some (.ref h.length)]) (s2.map PV.str) [] H= .ok (s2.map λ_=>PV.tup [.int 0,.int 0,.tup []]) H:=λH=>lt s2 PV.str _ _ H (by omega) λx _=>by simp? [UN]
 have c6: ∀ H:PH,fT ⟨none,s3.map PV.str⟩ (aN 1 (gN 2) aP (eI 0) (run pg (k+11)) [some p,some (.ref h.length)]) (s3.map PV.str) [] H= .ok (s3.map λ_=>PV.int 0) H:=λH=>lt s3 PV.str _ _ H (by omega) λx _=>rfl;have i0: ∀ H,ay p (.int 0) H= .ok (.tup (bs.map eA)) H:=λH=>by rw[pa];exact tH
 have i1: ∀ H,ay p (.int 1) H= .ok (.tup (s1.map PV.str)) H:=λH=>by rw[pa];exact jD
 have i2: ∀ H,ay p (.int 2) H= .ok (.tup (s2.map PV.str)) H:=λH=>by rw[pa];exact vd
 have i3: ∀ H,ay p (.int 3) H= .ok (.tup (s3.map PV.str)) H:=λH=>by rw[pa];exact zW
 rw[run_eq T.qi rfl];simp? [eF,jM,ho,c1,c2,c3,c4,c5,c6,i0,i1,i2,i3];exact bI (v:=N0 bs s1 s2 s3 hs) (B4 ..)
end
structure FI(dn:List (Str × List Rw))(R:PH):Prop where
 len:R.length=4+3*dn.length
 at_: ∀(j:Nat)(x:Str × List Rw),dn[j]?=some x-> ∃ D:Pk,R[4+3*j]?=some (.dct (eL D))/\R[6+3*j]?=some (.lst [])/\qD (IQ x) D/\ ∀ y,fP D y=fP (dR x).ps y
theorem FI.more{dn:List (Str × List Rw)}{R:PH}(h:FI dn R){x:Str × List Rw}{D:Pk}(hD:qD (IQ x) D)(hf: ∀ y,fP D y=fP (dR x).ps y):FI (dn++[x]) (R++[.dct (eL D),.lst [],.lst []]):=by
 have l:=h.len;refine⟨by simp only[Ur,Ub,UE];omega,λj y e=>?_⟩;by_cases z:j < dn.length
 . rw[UT z] at e;obtain⟨D0,h1,h2,h3⟩:=h.at_ j y e;exact⟨D0,(aD (aG h1)).trans h1,(aD (aG h2)).trans h2,h3⟩
 . rw[UD (by omega)] at e;have j0:j=dn.length:=by
    have:=(T1.mp e).1;simp at this;omega
   subst j0;rw[Nat.sub_self] at e;cases e;refine⟨D,?_,?_,hD,hf⟩
   . rw[show 4+3*dn.length=R.length by omega];exact bA
   . rw[show 6+3*dn.length=R.length+2 by omega,bw];rfl
theorem Nu(n:Nat)(ss:List aF)(s:aF):sL n (ss++[s])=sL n ss++[Hu n ss.length s]:=by
 unfold sL;rw[List.mapIdx_append];simp
noncomputable def fB:MS:=(ag (ak sA (gN 3)) (ag (ak (ae "_law_rest" (ab (eX 2 1) (a3 (eI 0) (aa 3) (bG ah)))) (gN 4)) (ag (cJ (eM bj b6 (aj ay (aa 1) (eS "counts")) (a1 (eI 0)))) (cJ (eM bj b6 (aj ay (aa 1) (eS "seats")) (ab (au (a3 (aa 4) (aa 3) (bG ah))) ah))))))
section
variable{pg:Tb}(T:cj pg)
include T
theorem xj(k:Nat)(h:PH)(xs0:List PV)(e0:Option PV){s0 s1 s2 s3:List Str}: ∀(hs dn:List (Str × List Rw))(R:PH)(e2 e3 e4:Option PV),dn.length+hs.length<=1000->(∀ x∈hs,kf s0 s1 s2 s3 x)->FI dn R ->
  ∃(X:PH)(f2 f3 f4:Option PV),FI (dn++hs) (R++X) /\
   bT ⟨none,xs0⟩ (bM (gN 2) fB (run pg (k+10))) (hs.map bF) [e0,some (.ref h.length),e2,e3,e4] (h++ .dct (qu h.length):: .lst (dn.map λ_=>PV.int 0):: .lst (sL h.length (dn.map dR))::R)= .ok (.nx [e0,some (.ref h.length),f2,f3,f4]) (h++ .dct (qu h.length):: .lst ((dn++hs).map λ_=>PV.int 0):: .lst (sL h.length ((dn++hs).map dR))::(R++X)):=by
 obtain⟨vc,vs,_⟩:=dH h.length;intro hs
 induction hs with
 | nil=>intro dn R e2 e3 e4 _ _ f;exact⟨[],e2,e3,e4,by simpa using f,by simp only[UN,Vd];exact gJ⟩
 | cons x hs ih =>
  intro dn R e2 e3 e4 hc hH f
  rw[Ub] at hc
  have lR:=f.len
  obtain⟨l1,l2,l3⟩:=gI (hH x Uk)
  let cD:List PV:=dn.map λ_=>PV.int 0
  let bL:List PV:=sL h.length (dn.map dR)
  let W:PH:=h++ .dct (qu h.length):: .lst cD:: .lst bL::R
  have lW:W.length=h.length+(R.length+1+1+1):=by simp[W]
  obtain⟨D,a1,a2,a3⟩:=yn T k (W++[.dct [],.lst []]) (d:=W.length) (l:=W.length+1) (hl:=[]) (L:=IQ x) (rs:=x.2) (t:=⟨0,[],[]⟩) (D:=[]) (by omega) (by omega) l3 bA (by rw[bw];rfl) (λy=>Iff.rfl) ⟨.nil,UQ _⟩ ⟨.nil,λq m=>nomatch m⟩ (λ_=>rfl)
  rw[jv] at a3
  let v:PV:= .tup [.int (dR x).row,.ref (h.length+(R.length+1+1+1)),.ref (h.length+(R.length+(0+1+1)+1+1+1))]
  obtain⟨X,f2,f3,f4,i1,i2⟩:=ih (dn++[x]) (R++[.dct (eL D),.lst [],.lst []]) (some (bF x)) (some (.ref (h.length+(R.length+1+1+1)))) (some (.int (dR x).row)) (by simp only[Ur,Ub,UE];omega) (λz m=>hH z (Uo _ m)) (f.more a1 a2)
  refine⟨[.dct (eL D),.lst [],.lst []]++X,f2,f3,f4,?_,?_⟩
  . rw[<- UA];rw[UA dn] at i1;exact i1
  have hz1:cD.length < 16777216:=by simp only[cD,TZ];omega
  have hz2:bL.length < 16777216:=by simp only[bL];rw[Cd,TZ];omega
  have h1: ∀ H,ay (bF x) (.int 1) H= .ok (bH x.2) H:=λH=>jD
  have st:bM (gN 2) fB (run pg (k+10)) (bF x) [e0,some (.ref h.length),e2,e3,e4] W= .ok (.nx [e0,some (.ref h.length),some (bF x),some (.ref (h.length+(R.length+1+1+1))),some (.int (dR x).row)]) (h++ .dct (qu h.length):: .lst (cD++[.int 0]):: .lst (bL++[v])::(R++[.dct (eL D),.lst [],.lst []])):=by
   have a3':run pg (k+10) "_law_rest" [bH x.2,.int 0,.ref (h.length+(R.length+1+1+1)),.ref (h.length+(R.length+(0+1)+1+1+1))] (h++ .dct (qu h.length):: .lst cD:: .lst bL::(R++[.dct [],.lst []]))= .ok (.int (dR x).row) (h++ .dct (qu h.length):: .lst cD:: .lst bL::(R++[.dct (eL D),.lst []])):=by
    rw[lW] at a3;simp only[W,UA,Vm,aaC] at a3;exact a3
   clear_value cD bL
   simp? [fB,W,v,h1,a3',vc,vs,oJ hz1,oJ hz2]
  have ec:(dn++[x]).map (λ_=>PV.int 0)=cD++[.int 0]:=by rw[U3];rfl
  have es:sL h.length ((dn++[x]).map dR)=bL++[v]:=by
   rw[U3,T9,UN,Nu,TZ];show bL++[_]=bL++[v];unfold Hu;rw[show h.length+7+3*dn.length=h.length+(R.length+1+1+1) by omega,show h.length+9+3*dn.length=h.length+(R.length+(0+1+1)+1+1+1) by omega]
  rw[ec,es] at i2
  rw[T9,fI]
  show(bM (gN 2) fB (run pg (k+10)) (bF x) [e0,some (.ref h.length),e2,e3,e4] W).bind _=_
  rw[st,eN,dc,i2]
  simp
end
noncomputable def lG(n:Nat):List (Key × PV):=[(.inr "counts",.ref (n+1)),(.inr "seats",.ref (n+2)),(.inr "doors",.ref (n+3))]
theorem M6(n:Nat):cq [] (lG n)=lG n/\gY (lG n) (.inr "boxes") (.ref (n+4))=lG n++[(.inr "boxes",.ref (n+4))]/\gY (lG n++[(.inr "boxes",.ref (n+4))]) (.inr "locks") (.ref (n+5))=lG n++[(.inr "boxes",.ref (n+4)),(.inr "locks",.ref (n+5))]/\gY (lG n++[(.inr "boxes",.ref (n+4)),(.inr "locks",.ref (n+5))]) (.inr "lanes") (.ref (n+6))=qu n:=by
 refine⟨?_,?_,?_,?_⟩<;>simp[lG,qu,cq,gY,cw]
section
variable{pg:Tb}(T:cj pg)
include T
theorem lq(k:Nat)(h:PH){P:Pg}(ok:P.Ok) :
  ∃ X:PH,X.length=7+3*P.hs.length/\Rep (h++X) h.length P (hU P) (hU P).bL/\run pg (k+11) "_law_first" [P.v] h= .ok (.ref h.length) (h++X):=by
 have b20:=ok.bx.1;have n1:=ok.nm.1.1;have n2:=ok.nm.2.1.1;have n3:=ok.nm.2.2.1;have hm:=ok.many
 let n:=h.length
 let A3:PO:= .lst (P.s3.map λ_=>PV.int 0)
 let A0:PO:= .lst (P.bs.map λb=>PV.tup [.int b.2,.non])
 let A1:PO:= .lst (P.s1.map λ_=>PV.tup [.non,.non])
 let A2:PO:= .lst (P.s2.map λ_=>PV.tup [.int 0,.int 0,.tup []])
 obtain⟨X,f2,f3,f4,i1,i2⟩:=xj T k h (P.hs.map bF) (some P.v) P.hs [] [A3,A0,A1,A2] none none none (by simp;omega) ok.hd ⟨rfl,λj x e=>nomatch e⟩;rw[UL] at i1;have lX:=i1.len
 let Y:PH:= .dct (qu n):: .lst (P.hs.map λ_=>PV.int 0):: .lst (sL n (P.hs.map dR))::([A3,A0,A1,A2]++X)
 refine⟨Y,by simp only[Y,Ub];omega,⟨λi hi=>?_,λj x s ex es=>?_⟩,?_⟩
 . rw[bw]
   match i,hi with
   | 0,_=>rfl
   | 1,_=>show some (PO.lst (P.hs.map λ_=>PV.int 0))=some (.lst ((P.hs.map λ_=>(0:Int)).map PV.int));rw[U5];rfl
   | 2,_=>rfl
   | 3,_=>show some A3=some (.lst ((P.s3.map λ_=>(0:Int)).map PV.int));rw[U5];rfl
   | 4,_=>show some A0=some (.lst ((P.bs.map λz=>(z.2,PV.non)).map gO));rw[U5];rfl
   | 5,_=>show some A1=some (.lst ((P.s1.map λ_=>((none:Option Int),PV.non)).map ft));rw[U5];rfl
   | 6,_=>show some A2=some (.lst ((P.s2.map λ_=>((0:Int),(0:Int),([]:List Int))).map fq));rw[U5];rfl
 . have es':(P.hs.map dR)[j]?=some s:=es;rw[Uq,ex] at es';cases es';obtain⟨D,h1,h2,h3,h4⟩:=i1.at_ j x ex;have h0:(dR x).held=[]:=dw 200 ⟨0,[],[]⟩;refine⟨D,[],?_,?_,h3,h4,.nil,by rw[h0];exact λy=>Iff.rfl⟩
   . rw[show h.length+7+3*j=h.length+(4+3*j+1+1+1) by omega,bw];exact h1
   . rw[show h.length+9+3*j=h.length+(6+3*j+1+1+1) by omega,bw];exact h2
 obtain⟨p0,p1,p2,p3⟩:=M6 n;have c3: ∀(E:aq)(H:PH),fT ⟨none,P.s3.map PV.str⟩ (aN 1 (gN 5) aP (eI 0) (run pg (k+10)) E) (P.s3.map PV.str) [] H= .ok (P.s3.map λ_=>PV.int 0) H:=λE H=>IM (by omega) λx _=>rfl;have c0: ∀(e1:Option PV)(H:PH),fT ⟨none,P.bs.map eA⟩ (aN 1 (gN 5) aP (au (a2 (eX 5 1) (eC .non))) (run pg (k+10)) [some P.v,e1,none,none,none]) (P.bs.map eA) [] H= .ok (P.bs.map λb=>PV.tup [.int b.2,.non]) H:=λe1 H=>IM (by omega) λx _=>by simp? [eA]
 have c1: ∀(e1:Option PV)(H:PH),fT ⟨none,P.s1.map PV.str⟩ (aN 1 (gN 5) aP (au (a2 (eC .non) (eC .non))) (run pg (k+10)) [some P.v,e1,none,none,none]) (P.s1.map PV.str) [] H= .ok (P.s1.map λ_=>PV.tup [.non,.non]) H:=λe1 H=>IM (by omega) λx _=>by simp? [UN]
 have c2: ∀(e1:Option PV)(H:PH),fT ⟨none,P.s2.map PV.str⟩ (aN 1 (gN 5) aP (au (a3 (eI 0) (eI 0) (au ah))) (run pg (k+10)) [some P.v,e1,none,none,none]) (P.s2.map PV.str) [] H= .ok (P.s2.map λ_=>PV.tup [.int 0,.int 0,.tup []]) H:=λe1 H=>IM (by omega) λx _=>by simp? [UN]
 have i0: ∀ H,ay P.v (.int 0) H= .ok (.tup (P.bs.map eA)) H:=λH=>tH;have j1: ∀ H,ay P.v (.int 1) H= .ok (.tup (P.s1.map PV.str)) H:=λH=>jD;have j2: ∀ H,ay P.v (.int 2) H= .ok (.tup (P.s2.map PV.str)) H:=λH=>vd;have j3: ∀ H,ay P.v (.int 3) H= .ok (.tup (P.s3.map PV.str)) H:=λH=>zW;have j4: ∀ H,ay P.v (.int 4) H= .ok (.tup (P.hs.map bF)) H:=λH=>sr;have dk:NZ h.length [((.inr "counts" :Key),PV.ref (h.length+(0+1))),(.inr "seats",.ref (h.length+(0+1+1))),(.inr "doors",.ref (h.length+(0+1+1+1)))] (h++[.dct [],.lst [],.lst [],A3])= .ok (.ref h.length) (h++[.dct (lG n),.lst [],.lst [],A3]):=by
  rw[Dj bA (by simp),jv];show RV.ok (PV.ref h.length) (h++[.dct (cq [] (lG n)),.lst [],.lst [],A3])=_;rw[p0]
 have l3:(lG n).length < 16777216:=by simp[lG]
 have l4:(lG n++[((.inr "boxes" :Key),PV.ref (n+4))]).length < 16777216:=by simp[lG]
 have l5:(lG n++[((.inr "boxes" :Key),PV.ref (n+4)),(.inr "locks",.ref (n+5))]).length < 16777216:=by simp[lG]
 have A:iG (run pg (k+10)) [some P.v,none,none,none,none] h= .ok (.rt (.ref h.length)) (h++Y):=by
  show ag _ (ag _ (ag _ (ag _ (ag _ _)))) _ _ _=_;refine(bp (e1:=[some P.v,some (.ref h.length),none,none,none]) (h1:=h++[.dct (lG n),.lst [],.lst [],A3]) ?_).trans ?_
  . simp? [kO,ou,kn,oA,oy,pJ,j3,c3,A3,dk]
  refine(bp (e1:=[some P.v,some (.ref h.length),none,none,none]) (h1:=h++[.dct (lG n++[(.inr "boxes",.ref (n+4))]),.lst [],.lst [],A3,A0]) ?_).trans ?_
  . have q:gY (lG n) (.inr "boxes") (.ref (h.length+(0+1+1+1+1)))=_:=p1;simp? [A0,i0,c0,kJ l3,q]
  refine(bp (e1:=[some P.v,some (.ref h.length),none,none,none]) (h1:=h++[.dct (lG n++[(.inr "boxes",.ref (n+4)),(.inr "locks",.ref (n+5))]),.lst [],.lst [],A3,A0,A1]) ?_).trans ?_
  . have q:gY (lG n++[(.inr "boxes",.ref (n+4))]) (.inr "locks") (.ref (h.length+(0+1+1+1+1+1)))=_:=p2;simp? [A1,j1,c1,kJ l4,q]
  refine(bp (e1:=[some P.v,some (.ref h.length),none,none,none]) (h1:=h++[.dct (qu n),.lst [],.lst [],A3,A0,A1,A2]) ?_).trans ?_
  . have q:gY (lG n++[(.inr "boxes",.ref (n+4)),(.inr "locks",.ref (n+5))]) (.inr "lanes") (.ref (h.length+(0+1+1+1+1+1+1)))=_:=p3;simp? [A2,j2,c2,kJ l5,q]
  . unfold fB at i2;simp only[UL,Vm,UN] at i2;have sn:sL h.length []=[]:=rfl;rw[sn] at i2;simp? [j4,i2,n,Y]
 rw[run_eq T.sO rfl];show fin _ (iG (run pg (k+10)) [some P.v,none,none,none,none] h)=_;rw[A,lZ];exact bR rfl
end
theorem Lq{h:PH}{n:Nat}{xs:List PV}(e:h[n]?=some (.lst xs)):qm [.ref n,.ty "list"] h= .ok (.bl true) h:=by
 unfold qm tyP;simp only[e];rfl
theorem wb{b:Bool}{h:PH}:bS [.bl b] h= .ok (.str (if b=true then Ul "True" else Ul "False")) h:=rfl
theorem rK{h:PH}{n m:Nat}{xs:List PV}{ds:List V1}(e1:h[n]?=some (.lst xs))(e2:h[m]?=some (.lst []))(d: ∀ sub,bK sub xs=some ds)(c:U0 ds=true):alike (.ref n) (.ref m) h=some (decide (xs=[])):=by
 have d1:dat 6 h (.ref n)=some (.list ds):=by unfold dat;simp only[ir,e1,d,V4]
 have d2:dat 6 h (.ref m)=some (.list []):=by unfold dat;simp only[ir,e2,bK,V4]
 have c1:(WK ds).canLay0=true/\(WK []).canLay0=true/\min (WK ds).depth (WK []).depth<=64:=⟨by rw[W6];exact c,rfl,UM (XN _ _) (by decide)⟩
 unfold alike;rw[show iI (.ref n) (.ref m)=false from rfl,d1,d2];simp only[VG,if_false];rw[if_pos c1];cases xs with
 | nil =>
  have:=d λ_=>none
  cases this
  rfl
 | cons x r =>
  have q:=d λ_=>none
  cases ds with
  | nil =>
   rw[bK] at q
   split at q
   . cases q
   . exact nomatch q
  | cons a b=>rfl
theorem F7{h:PH}{n m:Nat}{xs:List PV}{ds:List V1}(e1:h[n]?=some (.lst xs))(e2:h[m]?=some (.lst []))(d: ∀ sub,bK sub xs=some ds)(c:U0 ds=true):ki (.ref n) (.ref m) h= .ok (.bl (decide (xs=[]))) h:=by
 unfold ki;rw[rK e1 e2 d c]
theorem yq{h:PH}{n m:Nat}{xs:List PV}{ds:List V1}(e1:h[n]?=some (.lst xs))(e2:h[m]?=some (.lst []))(d: ∀ sub,bK sub xs=some ds)(c:U0 ds=true):gu (.ref n) (.ref m) h= .ok (.bl (!decide (xs=[]))) h:=by
 have nd:fG h (.ref n)=false:=by simp only[fG,e1]
 unfold gu;rw[rK e1 e2 d c,nd];rfl
theorem En(l:List Nat):l.map gU=(l.map λj:Nat=>(j:Int)).map PV.int:=by rw[U5];rfl
theorem Jc(l:List Nat): ∃ ds:List V1,(∀ sub,bK sub (l.map gU)=some ds)/\U0 ds=true:=by
 rw[En];exact⟨_,λsub=>jY _,lay_ints _⟩
theorem sD{α :Type}{f: α ->PV}: ∀{l:List α},(∀ x∈l,Es (f x)=true)->jT (l.map f)=true
 | [],_=>rfl
 | x::r,h=>by rw[T9,jT,h x Uk,sD λz m=>h z (Uo _ m)];rfl
theorem sR{α :Type}{f: α ->PV}{c:Nat}: ∀{l:List α},(∀ x∈l,LN (f x)<=c)->Ez (l.map f)<=(c+1)*l.length
 | [],_=>UQ _
 | x::r,h=>by
  have h1:=h x Uk;have h2:=sR (l:=r) λz m=>h z (Uo _ m);rw[T9,Ez,Ub,Nat.mul_succ];omega
theorem tS{α :Type}{f: α ->PV}{c:Nat}: ∀{l:List α},(∀ x∈l,Lw (f x)<=c)->qJ (l.map f)<=c
 | [],_=>UQ _
 | x::r,h=>by
  have h1:=h x Uk;have h2:=tS (l:=r) λz m=>h z (Uo _ m);rw[T9,qJ];omega
theorem lg.sh{v:PV}(h:lg v):Es v=true/\LN v<=40/\Lw v<=1:=by
 have hw:ub "end" =true/\ub "lock" =true/\ub "letter" =true:=by decide +kernel
 have h1:=nZ hw.1;have h2:=nZ hw.2.1;have h3:=nZ hw.2.2;have s1:(Ul "lock").cps.size<=6/\(Ul "letter").cps.size<=6:=by decide +kernel
 rcases h with rfl | rfl | ⟨l,i,rfl,g1,_,g3,g4⟩ | ⟨l,rfl,g1,_⟩
 . exact⟨rfl,by decide,by decide⟩
 . exact⟨hw.1,by show(Ul "end").cps.size<=40;omega,UQ _⟩
 . have:=nZ g1;simp only[Es,jT,LN,Ez,Lw,qJ,hw.2.1,g1,XX,Xn,decide_eq_true_eq];omega
 . have:=nZ g1;simp only[Es,jT,LN,Ez,Lw,qJ,hw.2.2,g1,XX,Xn,true_and];omega
theorem E4{ws:List PV}(h: ∀ v∈ws,lg v)(hl:ws.length<=4): ∃ x:Str,∀ g,bS [.tup ws] g= .ok (.str x) g:=by
 have e:ws.map id=ws:=YM ws;rw[<- e];have b:=sR (f:=id) (l:=ws) (c:=40) λv m=>(h v m).sh.2.1;have d:=tS (f:=id) (l:=ws) (c:=1) λv m=>(h v m).sh.2.2;exact HG (sD λv m=>(h v m).sh.1) (by omega) (by omega)
theorem zt{P:Pg}(ok:P.Ok)(S:Wd): ∃ x:Str,∀(g:PH)(n:Nat),g[n]?=some (.lst ((cO P S).map gU))->bS [.ref n] g= .ok (.str x) g:=by
 have hm:=ok.many;have hl:(cO P S).length<=4:=by
  unfold cO;exact UM (Wk _ _) (by rw[VB];omega)
 have hj: ∀ j∈cO P S,j < 4:=λj m=>by
  have:=Vj.mp (VE.mp m).1;omega
 have b:=sR (f:=gU) (l:=cO P S) (c:=0) λv m=>Ua _;have d:=tS (f:=gU) (l:=cO P S) (c:=0) λv m=>Ua _;refine JK (sD λj m=>?_) (by omega) (by omega);have:=hj j m;show decide (0<=(j:Int)/\(j:Int)<=1000000)=true;rw[decide_eq_true_eq];omega
noncomputable def we(ws:List PV):List PV:=ws.filter λv=> !decide (v= .str "end")
theorem CW(P:Pg)(S:Wd):sT (jW P S)=(decide ((cO P S).map gU=[])&& !decide (we (jW P S)=[])):=by
 unfold sT we;have e1:(!decide (PV.non∈jW P S))=decide ((cO P S).map gU=[]):=by
  rw[Wo];simp only[VA,decide_eq_false_iff_not,decide_eq_true_eq,List.map_eq_nil_iff,jW,cO,UP,ZC,not_exists,not_and]
 have e2:((jW P S).any λv=> !decide (v= .str "end"))= !decide ((jW P S).filter (λv=> !decide (v= .str "end"))=[]):=by
  rw[Wo];simp only[Zh,VA,decide_eq_false_iff_not,ZC];constructor
  . rintro ⟨v,m,h⟩ h2;exact h2 v m h
  . intro h;apply Classical.byContradiction;intro h2;exact h λv m h3=>h2 ⟨v,m,h3⟩
 rw[e1,e2]
noncomputable def HA:MS:=(ag (ak (ae "can_go" (a2 (aa 0) (aa 1))) (gN 6))
  (ag (bU (IA (vj (aE (eB qm (ab (aa 6) (ab (eC (.ty "list")) ah))))) (aE (aj gu (eB bS (a1 (aa 6))) (eB bS (a1 (aa 4)))))) (ax (eC (.bl false))) cz)
  (cJ (eM bj b6 (aa 6) (a1 (eC .non))))))
noncomputable def G6:MS:=(bU (aE (aj gu (eB bS (ab (ae "may_go" (a3 (aa 0) (aa 1) (aa 7))) ah)) (eB bS (ab (rO (ee false) (aj ay (aa 3) (aa 7))) ah)))) (ax (eC (.bl false))) cz)
section
variable{pg:Tb}(T:cj pg)
include T
theorem xx(k:Nat){P:Pg}(ok:P.Ok){N:Nat}{S:Wd}(W:ia P N S){H:PH}{b:Nat}(eb:H[b]?=some (.lst ((cO P S).map gU)))(xs0:List PV)(e2 e3 e7 e8:Option PV): ∀(ai:List PV)(X:PH)(e5 e6:Option PV),∃(X':PH)(f5 f6:Option PV),
  bT ⟨none,xs0⟩ (bM (gN 5) HA (run pg (k+13))) ai [some P.v,some (aI S),e2,e3,some (.ref b),e5,e6,e7,e8] (H++X)= .ok (.nx [some P.v,some (aI S),e2,e3,some (.ref b),f5,f6,e7,e8]) (H++X'):=by
 obtain⟨x,sx⟩:=zt ok S;have hm:=ok.many;have hl:((cO P S).map gU).length < 16777216:=by
  rw[TZ];unfold cO;exact WL (Wk _ _) (by rw[VB];omega)
 intro ai
 induction ai with
 | nil=>intro X e5 e6;exact⟨X,e5,e6,gJ⟩
 | cons y ai ih =>
  intro X e5 e6
  have cg:=zD T k (H++X) ok W
  let C:PO:= .lst ((cO P S).map gU)
  have s1:=sx (H++X++[C]) b (by rw[UA,aD (aG eb)];exact eb)
  have s2:=sx (H++X++[C]) (H++X).length bA
  have is_:=Lq (h:=H++X++[C]) (n:=(H++X).length) (xs:=(cO P S).map gU) bA
  obtain⟨X',f5,f6,i1⟩:=ih (X++[.lst ((cO P S).map gU++[.non])]) (some y) (some (.ref (H++X).length))
  refine⟨X',f5,f6,?_⟩
  have st:bM (gN 5) HA (run pg (k+13)) y [some P.v,some (aI S),e2,e3,some (.ref b),e5,e6,e7,e8] (H++X)= .ok (.nx [some P.v,some (aI S),e2,e3,some (.ref b),some y,some (.ref (H++X).length),e7,e8]) (H++(X++[.lst ((cO P S).map gU++[.non])])):=by
   rw[<- UA];generalize H++X=G at *;simp only[C] at s1 s2 is_;simp? [HA,cg,s1,s2,is_,oJ hl]
  rw[fI,st,eN,dc]
  exact i1
theorem xK(k:Nat){P:Pg}(ok:P.Ok){N:Nat}{S:Wd}(W:ia P N S){H:PH}{a:Nat}(ea:H[a]?=some (.lst (jW P S)))(xs0:List PV)(e2 e4 e5 e6 e8:Option PV): ∀(ai:List Nat)(e7:Option PV),(∀ i∈ai,i < P.hs.length)-> ∃ f7:Option PV,
  bT ⟨none,xs0⟩ (bM (gN 7) G6 (run pg (k+13))) (ai.map λi:Nat=>PV.int (0+(i:Int))) [some P.v,some (aI S),e2,some (.ref a),e4,e5,e6,e7,e8] H= .ok (.nx [some P.v,some (aI S),e2,some (.ref a),e4,e5,e6,f7,e8]) H:=by
 intro ai
 induction ai with
 | nil=>intro e7 _;exact⟨e7,gJ⟩
 | cons i ai ih =>
  intro e7 hi
  have h0:=hi i Uk
  have iz:(0:Int)+(i:Int)=(i:Int):=Wv _
  have mg:=As T (k+1) H ok W h0
  have at_:dC (jW P S) (i:Int)=some (bE P S i):=bz (by rw[Xe h0])
  obtain⟨f7,i1⟩:=ih (some (.int i)) λz m=>hi z (Uo _ m)
  refine⟨f7,?_⟩
  have st:bM (gN 7) G6 (run pg (k+13)) (.int i) [some P.v,some (aI S),e2,some (.ref a),e4,e5,e6,e7,e8] H= .ok (.nx [some P.v,some (aI S),e2,some (.ref a),e4,e5,e6,some (.int i),e8]) H:=by
   simp? [G6,mg,ea,at_,mU,wb]
  rw[T9,fI,iz,st,eN,dc]
  exact i1
theorem mX(k:Nat){H:PH}{n:Nat}{P:Pg}(ok:P.Ok){S:Wd}{N:Nat}(W:ia P N S)(C:Cells H n S):run pg (k+14) "_law_is_told" [P.v,aI S,.ref n] H= .ok (.bl true) H:=by
 have hm:=ok.many;have lw:(jW P S).length=P.hs.length:=by unfold jW;rw[TZ,VB]
 have wo:=DG ok W;have i4: ∀ g,ay P.v (.int 4) g= .ok (.tup (P.hs.map bF)) g:=λg=>sr;have tn:XS ((P.hs.length:Nat):Int)=P.hs.length:=Vc _
 let ws:=jW P S
 let cs:=(cO P S).map gU
 have c1:fT ⟨none,aw 0 P.hs.length⟩ (aN 1 (gN 9) aP (ae "_law_wait" (a3 (aa 0) (aa 2) (aa 9))) (run pg (k+13)) [some P.v,some (aI S),some (.ref n),none,none,none,none,none,none]) (aw 0 P.hs.length) [] H= .ok ws H:=by
  refine(cL rfl (UR P.hs.length) [] (f:=λi=>some (bE P S i)) (g:=λi:Nat=>PV.int (0+(i:Int))) (λi m=>?_) (by simp;omega)).trans (by rw[UL,Wa];rfl);have iz:(0:Int)+(i:Int)=(i:Int):=Wv _;have w:=mW T (k+11) ok W C (Vj.mp m);simp? [iz,w]
 have c2:fT ⟨none,aw 0 P.hs.length⟩ (aN 1 (gN 9) (aE (rO (ee false) (aj ay (aa 3) (aa 9)))) (aa 9) (run pg (k+13)) [some P.v,some (aI S),some (.ref n),some (.ref H.length),none,none,none,none,none]) (aw 0 P.hs.length) [] (H++[.lst ws])= .ok cs (H++[.lst ws]):=by
  refine(cL rfl (UR P.hs.length) [] (f:=λj=>if decide (bE P S j= .non)=true then some (gU j) else none) (g:=λi:Nat=>PV.int (0+(i:Int))) (λi m=>?_) (by simp;omega)).trans (by rw[UL,fD];rfl);have iz:(0:Int)+(i:Int)=(i:Int):=Wv _;have at_:dC ws (i:Int)=some (bE P S i):=bz (by rw[Xe (Vj.mp m)])
  clear_value ws
  by_cases z:bE P S i= .non
  . simp? [iz,at_,z,mU,gU]
  . simp? [iz,at_,z,mU,gU]
 let G:PH:=H++[.lst ws,.lst cs]
 have ea:G[H.length]?=some (.lst ws):=bA;have eb:G[H.length+1]?=some (.lst cs):=by show(H++_)[_]?=_;rw[bw];rfl
 obtain⟨X,f5,f6,lp1⟩:=xx T k ok W (H:=G) (b:=H.length+1) eb (aw 0 2) (some (.ref n)) (some (.ref H.length)) none none (aw 0 2) [] none none;rw[Vd] at lp1;have ea':(G++X)[H.length]?=some (.lst ws):=(aD (aG ea)).trans ea;obtain⟨f7,lp2⟩:=xK T k ok W (H:=G++X) (a:=H.length) ea' (aw 0 P.hs.length) (some (.ref n)) (some (.ref (H.length+1))) f5 f6 none (UR P.hs.length) none (λi m=>Vj.mp m);obtain⟨x,sx⟩:=E4 wo (by omega);have wt:=oE T (k+1) (G++X) ok W
 let hu:=we ws
 have c3:fT ⟨some H.length,ws⟩ (aN 1 (gN 9) (aE (aj gu (aa 9) (eS "end"))) (aa 9) (run pg (k+13)) [some P.v,some (aI S),some (.ref n),some (.ref H.length),some (.ref (H.length+1)),f5,f6,f7,none]) ws [] (G++X)= .ok hu (G++X):=by
  have:=cL (it:=⟨some H.length,ws⟩) (eJ ea') (step:=aN 1 (gN 9) (aE (aj gu (aa 9) (eS "end"))) (aa 9) (run pg (k+13)) [some P.v,some (aI S),some (.ref n),some (.ref H.length),some (.ref (H.length+1)),f5,f6,f7,none]) ws [] (f:=λv=>if (!decide (v= .str "end"))=true then some (id v) else none) (g:=id) (λv m=>by
   have q:=Cz (wo v m) (G++X);generalize G++X=K at q;by_cases z:v= .str "end"
   . simp? [id,q,z]
   . simp? [id,q,z]) (by simp only[ws,UE];omega)
  rw[YM,fD,YM,UL] at this;exact this
 let K:PH:=G++X++[.lst hu]
 obtain⟨ds,d1,d2⟩:=Jc (cO P S);have huo: ∀ v∈hu,lg v:=λv m=>wo v (VE.mp m).1;obtain⟨dh,h1,h2,_,_⟩:=Lo huo;have ek1:(G++X)[H.length+1]?=some (.lst cs):=(aD (aG eb)).trans eb;have ek2:K[H.length+1]?=some (.lst cs):=(aD (aG ek1)).trans ek1;have ebK: ∀ Z:PH,(K++Z)[H.length+1]?=some (.lst cs):=λZ=>(aD (aG ek2)).trans ek2;have ehK: ∀ Z:PH,(K++Z)[(G++X).length]?=some (.lst hu):=λZ=>by
  have:K[(G++X).length]?=some (.lst hu):=bA;exact(aD (aG this)).trans this
 have q1:=F7 (h:=K++[.lst []]) (n:=H.length+1) (m:=K.length) (ebK _) bA d1 d2;have q2:=yq (h:=K++[.lst [],.lst []]) (n:=(G++X).length) (m:=K.length+(0+1)) (ehK _) (by rw[bw];rfl) h1 h2;have sk:=Ej T k K ok W;rw[CW] at sk;have sk:run pg (k+13) "is_stuck" [P.v,aI S] K= .ok (.bl (decide (cs=[])&& !decide (hu=[]))) K:=sk;have A: ∃ Z:PH,iT (run pg (k+13)) [some P.v,some (aI S),some (.ref n),none,none,none,none,none,none] H= .ok (.rt (.bl true)) (H++Z):=by
  have GX:G++X=H++([.lst ws,.lst cs]++X):=by show H++_++X=_;rw[UA]
  have fin4: ∃ Z:PH,∀ rest:MS,ag (ak (iN 1 (kj (aa 3)) (gN 9) (aE (aj gu (aa 9) (eS "end"))) (aa 9)) (gN 8)) (ax (aj ki (eB bS (ab (ae "is_stuck" (a2 (aa 0) (aa 1))) ah)) (eB bS (ab (sN (aj ki (aa 4) (bG ah)) (aj gu (aa 8) (bG ah))) ah)))) (run pg (k+13)) [some P.v,some (aI S),some (.ref n),some (.ref H.length),some (.ref (H.length+1)),f5,f6,f7,none] (G++X)= .ok (.rt (.bl true)) (G++X++Z):=by
   have it:qy (.ref H.length) (G++X)= .ok ⟨some H.length,ws⟩ (G++X):=by rw[DZ,ea',BO]
   have cn:decide (cs=[])=true\/decide (cs=[])=false:=by cases decide (cs=[])<;>simp
   have st8:ak (iN 1 (kj (aa 3)) (gN 9) (aE (aj gu (aa 9) (eS "end"))) (aa 9)) (gN 8) (run pg (k+13)) [some P.v,some (aI S),some (.ref n),some (.ref H.length),some (.ref (H.length+1)),f5,f6,f7,none] (G++X)= .ok (.nx [some P.v,some (aI S),some (.ref n),some (.ref H.length),some (.ref (H.length+1)),f5,f6,f7,some (.ref (G++X).length)]) K:=by
    show _=RV.ok _ (G++X++[.lst hu]);generalize G++X=Q at *;simp? [it,c3]
   rcases cn with cn | cn
   . refine⟨[.lst hu,.lst [],.lst []],λrest=>?_⟩;refine(bp st8).trans ?_;have e:G++X++[.lst hu,.lst [],.lst []]=K++[.lst [],.lst []]:=by show _=G++X++[.lst hu]++_;simp
     rw[e];rw[cn] at q1 sk
     clear_value K
     generalize G++X=Q at *;cases decide (hu=[])<;>simp? [sk,q1,q2,wb,Xn]
   . refine⟨[.lst hu,.lst []],λrest=>?_⟩;refine(bp st8).trans ?_;have e:G++X++[.lst hu,.lst []]=K++[.lst []]:=by show _=G++X++[.lst hu]++_;simp
     rw[e];rw[cn] at q1 sk
     clear_value K
     generalize G++X=Q at *;simp? [sk,q1,wb,Xz]
  obtain⟨Z,fin4⟩:=fin4;refine⟨[.lst ws,.lst cs]++X++Z,?_⟩;rw[UA [PO.lst ws,.lst cs],<- UA H,<- UA];show _=RV.ok _ (G++X++Z);show ag _ (ag _ (ag _ (ag _ (ag _ _)))) _ _ _=_;refine(bp (e1:=[some P.v,some (aI S),some (.ref n),some (.ref H.length),none,none,none,none,none]) (h1:=H++[.lst ws]) ?_).trans ?_
  . clear_value ws
    simp? [i4,TZ,tn,c1]
  refine(bp (e1:=[some P.v,some (aI S),some (.ref n),some (.ref H.length),some (.ref (H.length+1)),none,none,none,none]) (h1:=G) ?_).trans ?_
  . have lws:ws.length=P.hs.length:=lw;show _=RV.ok _ (H++[.lst ws,.lst cs])
    clear_value ws cs
    simp? [lws,tn,c2]
  refine(bp (e1:=[some P.v,some (aI S),some (.ref n),some (.ref H.length),some (.ref (H.length+1)),f5,f6,none,none]) (h1:=G++X) ?_).trans ?_
  . have r2:aw 0 (2:Int).toNat=aw 0 2:=rfl;unfold HA at lp1
    clear_value G
    simp? [↓oG,↓om,kA,eN,kL,r2];exact lp1
  refine(bp (e1:=[some P.v,some (aI S),some (.ref n),some (.ref H.length),some (.ref (H.length+1)),f5,f6,none,none]) (h1:=G++X) ?_).trans ?_
  . have tu:bf [.ref H.length] (G++X)= .ok (.tup ws) (G++X):=by rw[sZ,ea',nS]
    generalize G++X=Q at *;simp? [wt,sx,tu,ws]
  refine(bp (e1:=[some P.v,some (aI S),some (.ref n),some (.ref H.length),some (.ref (H.length+1)),f5,f6,f7,none]) (h1:=G++X) ?_).trans ?_
  . have ln:cx [.ref H.length] (G++X)= .ok (.int P.hs.length) (G++X):=by rw[Eo,ea',xD];show RV.ok (PV.int ((jW P S).length:Int)) _=_;rw[lw]
    unfold G6 at lp2;generalize G++X=Q at *;simp? [↓oG,↓om,↓pv,↓QN,↓xU,tY,kA,eN,kL,ln,tn];exact lp2
  exact fin4 cz
 obtain⟨Z,A⟩:=A;rw[run_eq T.pF rfl];simp? [dJ,A,bI];exact bI rfl
end
noncomputable def room:Nat:=20
noncomputable def NY:MS:=(ag (ak (aj ay (aa 2) (aj fh (aa 5) (eI 2))) (gN 6))
  (ag (ak (aj ay (aa 3) (aj fh (aa 5) (eI 2))) (gN 7))
  (ag (bU (vj (aE (ae "_law_is_told" (ab (aa 6) (ab (aj ay (aa 4) (aj fh (aa 5) (eI 2))) (a1 (aa 7))))))) (ax (eC (.bl false))) cz)
  (ag (ak (ae "_law_can" (a2 (aa 6) (aa 7))) (gN 8))
  (bU (aE (aj gu (aa 8) (bG ah))) (ag (ak (aj ay (aa 8) (ae "_law_take" (ab (aa 1) (ab (eB cx (a1 (aa 8))) ah)))) (gN 9))
  (ag (ak (ae "_law_gift" (ab (aa 1) (ab (ae "_law_row" (a3 (aa 6) (aa 7) (aa 9))) ah))) (gN 10))
  (ag (fm dZ (aa 4) (aj fh (aa 5) (eI 2)) (aj ay (ae "gone" (ab (aa 6) (ab (aj ay (aa 4) (aj fh (aa 5) (eI 2))) (a2 (aa 9) (aa 10))))) (eI 0)))
  (cJ (ae "_law_go" (ab (aa 6) (a3 (aa 7) (aa 9) (aa 10)))))))) cz)))))
structure Po(sl:Nat)(n:Nat->Nat)(P:Nat->Pg):Prop where
 n0:n 0=3
 n1:n 1=n 0+7+3*(P 0).hs.length
 s:sl=n 1+7+3*(P 1).hs.length
 ok: ∀ b,b < 2->(P b).Ok
structure Inv(sl:Nat)(n:Nat->Nat)(P:Nat->Pg)(N:Nat)(S:Nat->Wd)(H:PH):Prop where
 e2:H[2]?=some (.lst [(P 0).v,(P 1).v])
 es:H[sl]?=some (.lst [.ref (n 0),.ref (n 1)])
 ed:H[sl+1]?=some (.lst [aI (S 0),aI (S 1)])
 W: ∀ b,b < 2->ia (P b) N (S b)
 R: ∀ b,b < 2->Rep H (n b) (P b) (S b) (S b).bL
theorem two{b:Nat}(h:b < 2):b=0\/b=1:=by omega
theorem sX{f:Nat->PV}{b:Nat}(h:b < 2):dC [f 0,f 1] (b:Int)=some (f b):=by
 rcases two h with rfl | rfl<;>rfl
theorem Inv.up{sl:Nat}{n:Nat->Nat}{P:Nat->Pg}{N:Nat}{S:Nat->Wd}{H:PH}(I:Inv sl n P N S H)(q:List PO):Inv sl n P (N+1) S (H++q) :=
 ⟨(aD (aG I.e2)).trans I.e2,(aD (aG I.es)).trans I.es,(aD (aG I.ed)).trans I.ed,λb h=>(I.W b h).up,λb h=>(I.R b h).app q⟩
theorem Inv.box{sl:Nat}{n:Nat->Nat}{P:Nat->Pg}{N:Nat}{S:Nat->Wd}{fr:PO}{q q':Int × Int × Int}{G:PH}(g:Po sl n P)(I:Inv sl n P N S (fr::bg q::G)):Inv sl n P N S (fr::bg q'::G):=by
 have off: ∀ i,2<=i->(fr::bg q'::G)[i]?=(fr::bg q::G)[i]?:=λi hi=>by
  obtain⟨k,rfl⟩: ∃ k,i=k+1+1:=⟨i - 2,by omega⟩
  rfl
 have n0:=g.n0;have n1:=g.n1;have s:=g.s;refine⟨I.e2,by rw[off _ (by omega)];exact I.es,by rw[off _ (by omega)];exact I.ed,I.W,λb h=>(I.R b h).same λi h1 h2=>off i ?_⟩;rcases two h with rfl | rfl<;>omega
theorem QR{sl:Nat}{n:Nat->Nat}{P:Nat->Pg}{N:Nat}{S:Nat->Wd}{H H4:PH}(g:Po sl n P)(I:Inv sl n P N S H){b:Nat}(hb:b < 2){S1:Wd}(F:Fr (n b) (P b).hs.length (H.set (sl+1) (.lst ([aI (S 0),aI (S 1)].set b (aI S1)))) H4)(W1:ia (P b) (N+1) S1)(R1:Rep H4 (n b) (P b) S1 S1.bL):Inv sl n P (N+1) (λi=>if i=b then S1 else S i) H4:=by
 have n0:=g.n0;have n1:=g.n1;have s:=g.s;have lb:n b+7+3*(P b).hs.length<=sl/\3<=n b:=by rcases two hb with rfl | rfl<;>omega
 have out: ∀ i,(i < n b\/n b+7+3*(P b).hs.length<=i)->i≠sl+1->H4[i]?=H[i]?:=λi h1 h2=>by rw[F.off i h1,br (λe=>h2 e.symm)]
 refine⟨by rw[out 2 (by omega) (by omega)];exact I.e2,by rw[out sl (by omega) (by omega)];exact I.es,?_,λi hi=>?_,λi hi=>?_⟩
 . rw[F.off _ (by omega),l7 (aG I.ed)];rcases two hb with rfl | rfl<;>rfl
 . show ia (P i) (N+1) (if i=b then S1 else S i);by_cases z:i=b
   . rw[if_pos z,z];exact W1
   . rw[if_neg z];exact(I.W i hi).up
 . show Rep H4 (n i) (P i) (if i=b then S1 else S i) (if i=b then S1 else S i).bL;by_cases z:i=b
   . rw[if_pos z,z];exact R1
   . rw[if_neg z];refine(I.R i hi).same λk h1 h2=>out k ?_ ?_
     . rcases two hb with rfl | rfl<;>rcases two hi with rfl | rfl<;>omega
     . rcases two hi with rfl | rfl<;>omega
theorem zG{H:PH}{a b:PO}(h0:H[0]?=some a)(h1:H[1]?=some b): ∃ G,H=a::b::G:=by
 match H,h0,h1 with
 | x::y::G,h0,h1=>cases h0;cases h1;exact⟨G,rfl⟩
section
variable{pg:Tb}(T:cj pg)
include T
theorem C4{sl:Nat}{n:Nat->Nat}{P:Nat->Pg}(g:Po sl n P){N:Nat}(N9:N<=50){S:Nat->Wd}{fr:PO}{q:Int × Int × Int}{G:PH}(I:Inv sl n P N S (fr::bg q::G)){k:Int}{b:Nat}(hb:b < 2)(kb:k % 2=(b:Int))(e0 e5 e6 e7 e8 e9 e10:Option PV) :
  ∃(S':Nat->Wd)(q':Int × Int × Int)(G':PH)(f6 f7 f8 f9 f10:Option PV),Inv sl n P (N+1) S' (fr::bg q'::G') /\
   bM (gN 5) NY (run pg 20) (.int k) [e0,some (.ref 1),some (.ref 2),some (.ref sl),some (.ref (sl+1)),e5,e6,e7,e8,e9,e10] (fr::bg q::G)= .ok (.nx [e0,some (.ref 1),some (.ref 2),some (.ref sl),some (.ref (sl+1)),some (.int k),f6,f7,f8,f9,f10]) (fr::bg q'::G'):=by
 have ok:=g.ok b hb;have W:=I.W b hb;have C:=(I.R b hb).cells;have hm:=ok.many;have km: ∀ h,fh (.int k) (.int 2) h= .ok (.int (b:Int)) h:=λh=>by rw[yI (by omega),kb]
 have told:=mX T 6 ok W C;have IS:=wF T 17 ok W C
 let cs:=(cO (P b) (S b)).map gU
 obtain⟨ds,d1,d2⟩:=Jc (cO (P b) (S b));obtain⟨H,hH⟩: ∃ H,H=fr::bg q::G:=⟨_,rfl⟩
 have a2:ay (.ref 2) (.int (b:Int)) H= .ok (P b).v H:=by rw[hH,qr,I.e2,sJ,sX (f:=λi=>(P i).v) hb];rfl
 have a3:ay (.ref sl) (.int (b:Int)) H= .ok (.ref (n b)) H:=by rw[hH,qr,I.es,sJ,sX (f:=λi=>PV.ref (n i)) hb];rfl
 have a4:ay (.ref (sl+1)) (.int (b:Int)) H= .ok (aI (S b)) H:=by rw[hH,qr,I.ed,sJ,sX (f:=λi=>aI (S i)) hb];rfl
 have ne:=yq (h:=H++[.lst cs,.lst []]) (n:=H.length) (m:=H.length+(0+1)) bA (by rw[bw];rfl) d1 d2;rw[<- hH] at told IS;have can':run pg 20 "_law_can" [(P b).v,.ref (n b)] H= .ok (.ref H.length) (H++[.lst cs]):=IS;by_cases z:cs=[]
 . refine⟨S,q,G++[PO.lst cs,.lst []],some (P b).v,some (.ref (n b)),some (.ref H.length),e9,e10,I.up [.lst cs,.lst []],?_⟩;have st:bM (gN 5) NY (run pg 20) (.int k) [e0,some (.ref 1),some (.ref 2),some (.ref sl),some (.ref (sl+1)),e5,e6,e7,e8,e9,e10] H= .ok (.nx [e0,some (.ref 1),some (.ref 2),some (.ref sl),some (.ref (sl+1)),some (.int k),some (P b).v,some (.ref (n b)),some (.ref H.length),e9,e10]) (H++[.lst cs,.lst []]):=by
    have dt:decide (cs=[])=true:=by rw[decide_eq_true_eq];exact z
    have ne':gu (.ref H.length) (.ref (H.length+(0+1))) (H++[.lst cs,.lst []])= .ok (.bl false) (H++[.lst cs,.lst []]):=by rw[ne,dt];rfl
    clear_value cs
    simp? [NY,km,a2,a3,a4,told,can',ne']
   rw[<- hH,st,hH];rfl
 . have hc:cO (P b) (S b)≠[]:=λe=>z (by show Z1 _ _=_;rw[e];rfl);have lc0:0 < (cO (P b) (S b)).length:=aaj.mpr hc;have lc4:(cO (P b) (S b)).length<=4:=by
    unfold cO;exact UM (Wk _ _) (by rw[VB];omega)
   obtain⟨v,q1,v0,v1,ev⟩:=cy T 19 fr q (cO (P b) (S b)).length (by omega) (by omega);obtain⟨vn,rfl⟩:=Vp v0;have vl:vn < (cO (P b) (S b)).length:=by omega
   obtain⟨j,ej⟩: ∃ j,(cO (P b) (S b))[vn]?=some j:=⟨_,Uj vl⟩
   have mj:=VE.mp (Ue ej);have hj:j < (P b).hs.length:=Vj.mp mj.1;have hw:bE (P b) (S b) j= .non:=by simpa using mj.2
   obtain⟨x,s,c,ex,es,ec,so⟩:=i8 W hj;obtain⟨r,er⟩: ∃ r,x.2[s.row]?=some r:=by
    cases e:x.2[s.row]? with
    | some r=>exact⟨r,rfl⟩
    | none =>
     unfold bE at hw
     rw[dN ex es,e] at hw
     exact nomatch hw
   obtain⟨l1,l2,l3⟩:=gI (ok.hd x (Ue ex));obtain⟨gf,q2,hg,eg⟩:=u0 T 18 fr q1 (l3 r (Ue er))
   let Y:PH:=[.lst cs,.lst []]
   have I0:Inv sl n P (N+1) S (fr::bg q::(G++Y)):=I.up Y;have I1:Inv sl n P (N+1) S (fr::bg q1::(G++Y)):=I0.box g;have I2:Inv sl n P (N+1) S (fr::bg q2::(G++Y)):=I0.box g;obtain⟨K1,hK1⟩: ∃ K,K=fr::bg q1::(G++Y):=⟨_,rfl⟩
   obtain⟨K2,hK2⟩: ∃ K,K=fr::bg q2::(G++Y):=⟨_,rfl⟩
   rw[<- hK1] at I1;rw[<- hK2] at I2;have W1:=I2.W b hb
   let S1:=fY (P b) (S b) j c x.2 s gf r
   have I2':Inv sl n P N S K2:=⟨I2.e2,I2.es,I2.ed,I.W,I2.R⟩
   let K3:=K2.set (sl+1) (.lst ([aI (S 0),aI (S 1)].set b (aI S1)))
   have gs:=g.s;have gn0:=g.n0;have gn1:=g.n1;have R3:Rep K3 (n b) (P b) (S b) (S b).bL:=(I2.R b hb).same λi h1 h2=>br (by rcases two hb with rfl | rfl<;>omega);obtain⟨K4,F4,R4,go⟩:=zw T 9 ok W (by omega) R3 ex es ec er hw hg;have I4:=QR g I2' hb F4 (Ft ok W ex es ec er hw hg) R4;have nb:3<=n b:=by rcases two hb with rfl | rfl<;>omega
   obtain⟨G4,hG4⟩:=zG (H:=K4) (a:=fr) (b:=bg q2) (by rw[F4.off 0 (by omega)];show(K2.set _ _)[0]?=_;rw[br (by omega),hK2];rfl) (by rw[F4.off 1 (by omega)];show(K2.set _ _)[1]?=_;rw[br (by omega),hK2];rfl);refine⟨_,q2,G4,some (P b).v,some (.ref (n b)),some (.ref H.length),some (gU j),some gf,by rw[<- hG4];exact I4,?_⟩;have gn:=Gn T 7 K2 ok W (by omega) ex es ec er hw hg;have gn':run pg 20 "gone" [(P b).v,aI (S b),gU j,gf] K2= .ok (.tup [aI S1,cZ r (met (P b) (S b) j c s gf r).2.1 (met (P b) (S b) j c s gf r).2.2]) K2:=gn;have ro:=jV T 19 W (I1.R b hb).cells hj;rw[dN ex es,er] at ro;have ro':run pg 20 "_law_row" [(P b).v,.ref (n b),gU j] K1= .ok (bh r) K1:=ro;have eg':run pg 20 "_law_gift" [.ref 1,bh r] K1= .ok gf K2:=by rw[hK1,hK2];exact eg (G++Y)
   have HY:H++[.lst cs,.lst []]=fr::bg q::(G++Y):=by rw[hH];rfl
   have ev':run pg 20 "_law_take" [.ref 1,.int ((cO (P b) (S b)).length:Int)] (H++[.lst cs,.lst []])= .ok (.int (vn:Int)) K1:=by rw[HY,hK1];exact ev (G++Y)
   have ln:cx [.ref H.length] (H++[.lst cs,.lst []])= .ok (.int ((cO (P b) (S b)).length:Int)) (H++[.lst cs,.lst []]):=by rw[Eo,bA,xD];show RV.ok (PV.int ((Z1 gU (cO (P b) (S b))).length:Int)) _=_;rw[TZ]
   have lK:K1[H.length]?=some (.lst cs):=by
    rw[hK1,hH];show(fr::bg q1::(G++Y))[G.length+1+1]?=_;rw[Us,Us];exact bA
   have ix1:ay (.ref H.length) (.int (vn:Int)) K1= .ok (gU j) K1:=by rw[qr,lK,sJ,bz (f:=gU) ej];rfl
   have a42:ay (.ref (sl+1)) (.int (b:Int)) K2= .ok (aI (S b)) K2:=by rw[qr,I2.ed,sJ,sX (f:=λi=>aI (S i)) hb];rfl
   have pu:dZ (.ref (sl+1)) (.int (b:Int)) (aI S1) K2= .ok () K3:=by rw[Ji,I2.ed,ko rfl (by simpa using hb)]
   have go':run pg 20 "_law_go" [(P b).v,.ref (n b),gU j,gf] K3= .ok (cZ r (met (P b) (S b) j c s gf r).2.1 (met (P b) (S b) j c s gf r).2.2) K4:=go;have dt:decide (cs=[])=false:=by rw[decide_eq_false_iff_not];exact z
   have ne':gu (.ref H.length) (.ref (H.length+(0+1))) (H++[.lst cs,.lst []])= .ok (.bl true) (H++[.lst cs,.lst []]):=by rw[ne,dt];rfl
   rw[<- hH,<- hG4]
   clear_value cs K3 S1
   simp? [NY,km,a2,a3,a4,told,can',ne',ln,ev',ix1,ro',eg',a42,gn',pu,go']
theorem C0{sl:Nat}{n:Nat->Nat}{P:Nat->Pg}(g:Po sl n P)(xs0:List PV)(e0:Option PV){fr:PO}: ∀(ai:List Nat)(N:Nat)(S:Nat->Wd)(q:Int × Int × Int)(G:PH)(e5 e6 e7 e8 e9 e10:Option PV),N+ai.length<=50->Inv sl n P N S (fr::bg q::G) ->
  ∃(N':Nat)(S':Nat->Wd)(q':Int × Int × Int)(G':PH)(f5 f6 f7 f8 f9 f10:Option PV),Inv sl n P N' S' (fr::bg q'::G') /\
   bT ⟨none,xs0⟩ (bM (gN 5) NY (run pg 20)) (ai.map λi:Nat=>PV.int (0+(i:Int))) [e0,some (.ref 1),some (.ref 2),some (.ref sl),some (.ref (sl+1)),e5,e6,e7,e8,e9,e10] (fr::bg q::G)= .ok (.nx [e0,some (.ref 1),some (.ref 2),some (.ref sl),some (.ref (sl+1)),f5,f6,f7,f8,f9,f10]) (fr::bg q'::G'):=by
 intro ai
 induction ai with
 | nil=>intro N S q G e5 e6 e7 e8 e9 e10 _ I;exact⟨N,S,q,G,e5,e6,e7,e8,e9,e10,I,gJ⟩
 | cons i ai ih =>
  intro N S q G e5 e6 e7 e8 e9 e10 hN I
  rw[Ub] at hN
  have iz:(0:Int)+(i:Int)=(i:Int):=Wv _
  obtain⟨S1,q1,G1,f6,f7,f8,f9,f10,I1,st⟩:=C4 T g (by omega) I (k:=(i:Int)) (b:=i % 2) (Nat.mod_lt _ (by decide)) (by omega) e0 e5 e6 e7 e8 e9 e10
  obtain⟨N',S',q',G',h5,h6,h7,h8,h9,h10,I',lp⟩:=ih (N+1) S1 q1 G1 (some (.int i)) f6 f7 f8 f9 f10 (by omega) I1
  refine⟨N',S',q',G',h5,h6,h7,h8,h9,h10,I',?_⟩
  rw[T9,fI,iz,st,eN,dc]
  exact lp
end
theorem t5{it:k4}{st:PV->PH->RV (Option PV)}{x y:PV}{xs ys:List PV}{h h1:PH}(hf:it.j8 h=true)(hl:ys.length<=100)(e:st x h= .ok (some y) h1):fT it st (x::xs) ys h=fT it st xs (ys++[y]) h1:=by
 rw[P3.fT,if_pos ⟨hf,WL hl (by decide)⟩,e,c9]
theorem BV{it:k4}{st:PV->PH->RV (Option PV)}{ys:List PV}{h:PH}(hf:it.j8 h=true):fT it st [] ys h= .ok ys h:=by rw[P3.fT,if_pos hf]
theorem Dz: ∀ ns:List Int,ns.length<=63->Ok (run tb (room+1) "law" [.ref 0] [.kD (ns.map PV.int)]) λv _=>v= .bl true:=by
 intro ns hn;have T:cj tb:=has;show Ok (run tb (20+1) "law" [.ref 0] [oS ns]) _;obtain⟨q0,bx⟩:=Jm T 19 ns hn;obtain⟨b1,s11,s12,s13,h1,p1,q1,D1,e1⟩:=pD T 13 (oS ns) q0 [];obtain⟨b2,s21,s22,s23,h2,p2,q2,D2,e2⟩:=pD T 13 (oS ns) q1 [];obtain⟨rfl,ok1⟩:=D1.pg;obtain⟨rfl,ok2⟩:=D2.pg;obtain⟨P1,hP1⟩: ∃ P,P=Pg.mk b1 s11 s12 s13 h1:=⟨_,rfl⟩
 obtain⟨P2,hP2⟩: ∃ P,P=Pg.mk b2 s21 s22 s23 h2:=⟨_,rfl⟩
 rw[<- hP1] at ok1 e1;rw[<- hP2] at ok2 e2
 let H0:PH:=[oS ns,bg q2,.lst [P1.v,P2.v]]
 obtain⟨X1,l1,R1,f1⟩:=lq T 9 H0 ok1;obtain⟨X2,l2,R2,f2⟩:=lq T 9 (H0++X1) ok2
 let n:Nat->Nat:=λb=>if b=0 then 3 else 3+7+3*P1.hs.length
 let P:Nat->Pg:=λb=>if b=0 then P1 else P2
 let S0:Nat->Wd:=λb=>hU (P b)
 let sl:Nat:=3+7+3*P1.hs.length+7+3*P2.hs.length
 have geo:Po sl n P:=⟨rfl,rfl,rfl,λb h=>(two h).elim (λe=>by rw[e];exact ok1) (λe=>by rw[e];exact ok2)⟩
 let H1:PH:=H0++X1++X2
 have lH0:(H0++X1).length=3+7+3*P1.hs.length:=by rw[Ur,l1];simp[H0];omega
 have lH1:H1.length=sl:=by show(H0++X1++X2).length=_;rw[Ur,lH0,l2];simp only[sl];omega
 let d1:PV:=aI (hU P1)
 let d2:PV:=aI (hU P2)
 let H2:PH:=H1++[.lst [.ref (n 0),.ref (n 1)],.lst [d1,d2]]
 have I0:Inv sl n P 0 S0 H2:=by
  refine⟨rfl,?_,?_,λb h=>?_,λb h=>?_⟩
  . rw[<- lH1];exact bA
  . rw[<- lH1];show(H1++_)[_]?=_;rw[bw];rfl
  . rcases two h with rfl | rfl
    . exact yy ok1
    . exact yy ok2
  . rcases two h with rfl | rfl
    . have:=(R1.app X2).app [.lst [.ref (n 0),.ref (n 1)],.lst [d1,d2]];exact this
    . have:=R2.app [.lst [.ref (n 0),.ref (n 1)],.lst [d1,d2]];rw[lH0] at this;exact this
 obtain⟨t,q3,t0,t1,et⟩:=cy T 19 (oS ns) q2 12 (by decide) (by decide)
 let G0:PH:= .lst [P1.v,P2.v]::(X1++(X2++[.lst [.ref (n 0),.ref (n 1)],.lst [d1,d2]]))
 have hH2:H2=oS ns::bg q2::G0:=by simp[H2,H1,H0,G0]
 have I1:Inv sl n P 0 S0 (oS ns::bg q3::G0):=by
  rw[hH2] at I0;exact I0.box geo
 obtain⟨tn,rfl⟩:=Vp t0;obtain⟨N',S',q',G',g5,g6,g7,g8,g9,g10,I',lp⟩:=C0 T geo (aw 0 (2*(1+tn))) (some (.ref 0)) (UR (2*(1+tn))) 0 S0 q3 G0 none none none none none none (by rw[VB];omega) I1;have c2:fT ⟨some 2,[P1.v,P2.v]⟩ (aN 1 (gN 11) aP (ae "_law_first" (a1 (aa 11))) (run tb 20) [some (.ref 0),some (.ref 1),some (.ref 2),none,none,none,none,none,none,none,none]) [P1.v,P2.v] [] H0= .ok [.ref (n 0),.ref (n 1)] H1:=by
  have st2:aN 1 (gN 11) aP (ae "_law_first" (a1 (aa 11))) (run tb 20) [some (.ref 0),some (.ref 1),some (.ref 2),none,none,none,none,none,none,none,none] P2.v (H0++X1)= .ok (some (.ref (n 1))) (H0++X1++X2):=by
   rw[lH0] at f2;have f2':run tb 20 "_law_first" [P2.v] (H0++X1)= .ok (.ref (n 1)) (H0++X1++X2):=f2;generalize H0++X1=K at f2';generalize K++X2=V at f2';simp? [f2']
  have f1':run tb 20 "_law_first" [P1.v] H0= .ok (.ref (n 0)) (H0++X1):=f1;rw[t5 (y:= .ref (n 0)) (h1:=H0++X1) (eJ rfl) (by simp) (by
   generalize H0++X1=K at f1';generalize H0=L at f1';simp? [f1']),t5 (y:= .ref (n 1)) (h1:=H1) (eJ rfl) (by simp) st2,BV (eJ rfl)]
  rfl
 have c3:fT ⟨some 2,[P1.v,P2.v]⟩ (aN 1 (gN 11) aP (ae "first_stand" (a1 (aa 11))) (run tb 20) [some (.ref 0),some (.ref 1),some (.ref 2),some (.ref sl),none,none,none,none,none,none,none]) [P1.v,P2.v] [] (H1++[.lst [.ref (n 0),.ref (n 1)]])= .ok [d1,d2] (H1++[.lst [.ref (n 0),.ref (n 1)]]):=by
  have s1:=λg=>iW T 8 g ok1;have s2:=λg=>iW T 8 g ok2;have fi:k4.j8 ⟨some 2,[P1.v,P2.v]⟩ (H1++[.lst [.ref (n 0),.ref (n 1)]])=true:=eJ rfl;generalize H1++[PO.lst [.ref (n 0),.ref (n 1)]]=K at fi;rw[t5 (y:=d1) (h1:=K) fi (by simp) (by simp? [s1,d1]),t5 (y:=d2) (h1:=K) fi (by simp) (by simp? [s2,d2]),BV fi];rfl
 have A: ∃ Z:PH,DT (run tb 20) [some (.ref 0),none,none,none,none,none,none,none,none,none,none] [oS ns]= .ok (.rt (.bl true)) Z:=by
  refine⟨oS ns::bg q'::G',?_⟩;show ag _ (ag _ (ag _ (ag _ (ag _ _)))) _ _ _=_;refine(bp (e1:=[some (.ref 0),some (.ref 1),none,none,none,none,none,none,none,none,none]) (h1:=[oS ns,bg q0]) ?_).trans ?_
  . simp? [bx]
  refine(bp (e1:=[some (.ref 0),some (.ref 1),some (.ref 2),none,none,none,none,none,none,none,none]) (h1:=H0) ?_).trans ?_
  . simp? [e1,e2];rfl
  refine(bp (e1:=[some (.ref 0),some (.ref 1),some (.ref 2),some (.ref sl),none,none,none,none,none,none,none]) (h1:=H1++[.lst [.ref (n 0),.ref (n 1)]]) ?_).trans ?_
  . have z0:qy (.ref 2) H0= .ok ⟨some 2,[P1.v,P2.v]⟩ H0:=rfl;rw[<- lH1];generalize n 0=n0 at c2;generalize n 1=n1 at c2;generalize H1=L at c2;generalize H0=K at z0 c2;simp? [z0,c2]
  refine(bp (e1:=[some (.ref 0),some (.ref 1),some (.ref 2),some (.ref sl),some (.ref (sl+1)),none,none,none,none,none,none]) (h1:=H2) ?_).trans ?_
  . have z0:qy (.ref 2) (H1++[.lst [.ref (n 0),.ref (n 1)]])= .ok ⟨some 2,[P1.v,P2.v]⟩ (H1++[.lst [.ref (n 0),.ref (n 1)]]):=rfl;have l2':(H1++[PO.lst [.ref (n 0),.ref (n 1)]]).length=sl+1:=by rw[Ur,lH1];rfl
    have hh:H2=H1++[.lst [.ref (n 0),.ref (n 1)]]++[.lst [d1,d2]]:=by show H1++[PO.lst [.ref (n 0),.ref (n 1)],.lst [d1,d2]]=_;generalize H1=K;simp
    rw[hh,<- l2'];generalize H1++[PO.lst [.ref (n 0),.ref (n 1)]]=K at z0 c3
    clear_value d1 d2
    simp? [z0,c3]
  rw[hH2];refine(bp (e1:=[some (.ref 0),some (.ref 1),some (.ref 2),some (.ref sl),some (.ref (sl+1)),g5,g6,g7,g8,g9,g10]) (h1:=oS ns::bg q'::G') ?_).trans ?_
  . have tk:run tb 20 "_law_take" [.ref 1,.int 12] (oS ns::bg q2::G0)= .ok (.int (tn:Int)) (oS ns::bg q3::G0):=et G0;have tt:XS (2*(1+(tn:Int)))=2*(1+tn):=by omega
    unfold NY at lp
    clear_value G0
    simp? [↓oG,↓om,↓pv,rJ,rC,↓IU,DQ,↓PQ,↓yh,↓xU,tY,↓yX,kA,eN,kL,tk,tt];exact lp
  have tl: ∀ b,b < 2->run tb 20 "_law_is_told" [(P b).v,aI (S' b),.ref (n b)] (oS ns::bg q'::G')= .ok (.bl true) (oS ns::bg q'::G'):=λb hb=>mX T 6 (geo.ok b hb) (I'.W b hb) (I'.R b hb).cells;have t0':=tl 0 (by decide);have t1':=tl 1 (by decide);have u2:=I'.e2;have u3:=I'.es;have u4:=I'.ed;generalize oS ns::bg q'::G'=K at *
  clear_value P n
  simp? [u2,u3,u4,o7,ud,t0',t1']
 obtain⟨Z,A⟩:=A;rw[run_eq T.IW rfl];show Ok (fin _ (DT (run tb 20) [some (.ref 0),none,none,none,none,none,none,none,none,none,none] [oS ns])) _;rw[A,lZ];unfold P3.settle;split<;>exact⟨_,_,rfl,rfl⟩
open PySem PySem.W PyProof.Rows
set_option maxHeartbeats 8000000
theorem all_mk{l:XZ}{w:World}{K:TV}{h:Heap}{mg:Str->Option Value}{fa:Addr}(X:K.In h)(G:h.Ns Uv mg)(hfa:mg "law" =some (.ref fa)){aSORTS:Addr}{nSORTS:Nat}{sSORTS:Array (Option Value)}{tSORTS0 tSORTS1 tSORTS2 tSORTS3 tSORTS4:Tok}{tWORTHS:Tok}{tMOST_OWN_ROWS:Tok}{aPOCKETING:Addr}{nPOCKETING:Nat}{sPOCKETING:Array (Option Value)}{tPOCKETING0 tPOCKETING1 tPOCKETING2 tPOCKETING3 tPOCKETING4:Tok}{tCOUNTS:Tok}{tSEATS:Tok}{aGIFTED:Addr}{nGIFTED:Nat}{sGIFTED:Array (Option Value)}{tGIFTED0 tGIFTED1 tGIFTED2:Tok}{aROW_PARTS:Addr}{eROW_PARTS:Nat}{qROW_PARTS0 qROW_PARTS1 qROW_PARTS2 qROW_PARTS3 qROW_PARTS4 qROW_PARTS5 qROW_PARTS6 qROW_PARTS7 qROW_PARTS8 qROW_PARTS9 qROW_PARTS10 qROW_PARTS11:Tok}{rROW_PARTS0:Addr}{nROW_PARTSv0_:Nat}{dROW_PARTSv0_:Option Addr}{sROW_PARTSv0_:Array (Option Value)}{tROW_PARTSv0_0 tROW_PARTSv0_1:Tok}{rROW_PARTS1:Addr}{nROW_PARTSv1_:Nat}{dROW_PARTSv1_:Option Addr}{sROW_PARTSv1_:Array (Option Value)}{tROW_PARTSv1_0 tROW_PARTSv1_1:Tok}{rROW_PARTS2:Addr}{nROW_PARTSv2_:Nat}{dROW_PARTSv2_:Option Addr}{sROW_PARTSv2_:Array (Option Value)}{tROW_PARTSv2_0 tROW_PARTSv2_1:Tok}{rROW_PARTS3:Addr}{nROW_PARTSv3_:Nat}{dROW_PARTSv3_:Option Addr}{sROW_PARTSv3_:Array (Option Value)}{tROW_PARTSv3_0 tROW_PARTSv3_1:Tok}{rROW_PARTS4:Addr}{nROW_PARTSv4_:Nat}{dROW_PARTSv4_:Option Addr}{sROW_PARTSv4_:Array (Option Value)}{tROW_PARTSv4_0:Tok}{rROW_PARTS5:Addr}{nROW_PARTSv5_:Nat}{dROW_PARTSv5_:Option Addr}{sROW_PARTSv5_:Array (Option Value)}{tROW_PARTSv5_0:Tok}{rROW_PARTS6:Addr}{nROW_PARTSv6_:Nat}{dROW_PARTSv6_:Option Addr}{sROW_PARTSv6_:Array (Option Value)}{tROW_PARTSv6_0 tROW_PARTSv6_1:Tok}{rROW_PARTS7:Addr}{nROW_PARTSv7_:Nat}{dROW_PARTSv7_:Option Addr}{sROW_PARTSv7_:Array (Option Value)}{tROW_PARTSv7_0 tROW_PARTSv7_1:Tok}{rROW_PARTS8:Addr}{nROW_PARTSv8_:Nat}{dROW_PARTSv8_:Option Addr}{sROW_PARTSv8_:Array (Option Value)}{tROW_PARTSv8_0 tROW_PARTSv8_1:Tok}{rROW_PARTS9:Addr}{nROW_PARTSv9_:Nat}{dROW_PARTSv9_:Option Addr}{sROW_PARTSv9_:Array (Option Value)}{tROW_PARTSv9_0:Tok}{rROW_PARTS10:Addr}{nROW_PARTSv10_:Nat}{dROW_PARTSv10_:Option Addr}{sROW_PARTSv10_:Array (Option Value)}{tROW_PARTSv10_0 tROW_PARTSv10_1:Tok}{rROW_PARTS11:Addr}{nROW_PARTSv11_:Nat}{dROW_PARTSv11_:Option Addr}{sROW_PARTSv11_:Array (Option Value)}{tROW_PARTSv11_0 tROW_PARTSv11_1:Tok}{aPLACE_OF:Addr}{ePLACE_OF:Nat}{qPLACE_OF0 qPLACE_OF1 qPLACE_OF2 qPLACE_OF3:Tok}{vPLACE_OF0:Tok}{vPLACE_OF1:Tok}{vPLACE_OF2:Tok}{vPLACE_OF3:Tok}{aMET_SORT:Addr}{eMET_SORT:Nat}{qMET_SORT0 qMET_SORT1 qMET_SORT2 qMET_SORT3 qMET_SORT4 qMET_SORT5 qMET_SORT6:Tok}{vMET_SORT0:Tok}{vMET_SORT1:Tok}{vMET_SORT2:Tok}{vMET_SORT3:Tok}{vMET_SORT4:Tok}{vMET_SORT5:Tok}{vMET_SORT6:Tok}
  (A0:At K mg "is_whole" (top 1))
  (A1:At K mg "is_between" (top 2))
  (A2:At K mg "is_value" (top 3))
  (A3:At K mg "worth" (top 8))
  (A4:At K mg "joined_worth" (top 9))
  (A5:At K mg "names_of" (top 11))
  (A6:At K mg "number_of" (top 12))
  (A7:At K mg "rows_of" (top 13))
  (A8:At K mg "first_seat" (top 17))
  (A9:At K mg "rested" (top 18))
  (A10:At K mg "is_rested" (top 19))
  (A11:At K mg "is_own_row" (top 20))
  (A12:At K mg "behind_own_row" (top 21))
  (A13:At K mg "laid" (top 22))
  (A14:At K mg "touch_of" (top 23))
  (A15:At K mg "seat_behind" (top 24))
  (A16:At K mg "may_come" (top 25))
  (A17:At K mg "first_stand" (top 30))
  (A18:At K mg "hands_of" (top 31))
  (A19:At K mg "state_of" (top 32))
  (A20:At K mg "wait_of" (top 33))
  (A21:At K mg "waits" (top 34))
  (A22:At K mg "can_go" (top 35))
  (A23:At K mg "is_stuck" (top 36))
  (A24:At K mg "may_go" (top 43))
  (A25:At K mg "gone" (top 44))
  (A26:At K mg "due_touch" (top 45))
  (A27:At K mg "takes_gift" (top 46))
  (A28:At K mg "meeting" (top 47))
  (A29:At K mg "with_hand_on" (top 48))
  (A30:At K mg "with_state" (top 49))
  (A31:At K mg "replaced" (top 50))
  (A32:At K mg "_law_box" (top 52))
  (A33:At K mg "_law_take" (top 53))
  (A34:At K mg "_law_sum" (top 54))
  (A35:At K mg "_law_touch_row" (top 55))
  (A36:At K mg "_law_rows" (top 56))
  (A37:At K mg "_law_program" (top 57))
  (A38:At K mg "_law_worth" (top 58))
  (A39:At K mg "_law_is_own" (top 59))
  (A40:At K mg "_law_rest" (top 60))
  (A41:At K mg "_law_first" (top 61))
  (A42:At K mg "_law_row" (top 62))
  (A43:At K mg "_law_wait" (top 63))
  (A44:At K mg "_law_boxed" (top 64))
  (A45:At K mg "_law_locked" (top 65))
  (A46:At K mg "_law_laned" (top 66))
  (A47:At K mg "_law_go" (top 67))
  (A48:At K mg "_law_can" (top 68))
  (A49:At K mg "_law_gift" (top 69))
  (A50:At K mg "_law_is_told" (top 70))
  (A51:At K mg "law" (top 71))
  (z0:UG K Uv "len" =some none)
  (z1:UG K Uv "range" =some none)
  (z2:UG K Uv "isinstance" =some none)
  (z3:UG K Uv "int" =some none)
  (z4:UG K Uv "bool" =some none)
  (z5:UG K Uv "tuple" =some none)
  (z6:UG K Uv "dict" =some none)
  (z7:UG K Uv "sorted" =some none)
  (z8:UG K Uv "min" =some none)
  (z9:UG K Uv "max" =some none)
  (z10:UG K Uv "abs" =some none)
  (z11:UG K Uv "all" =some none)
  (z12:UG K Uv "any" =some none)
  (z13:UG K Uv "sum" =some none)
  (z14:UG K Uv "str" =some none)
  (z15:UG K Uv "list" =some none)
  (z16:UG K Uv "zip" =some none)
  (z17:UG K Uv "set" =some none)
  (z18:UG K Uv "repr" =some none)
  (z19:UG K Uv "enumerate" =some none)
  (wSORTS:UG K Uv "SORTS" =some (some (.ref aSORTS))) (oSORTS:K.lookup aSORTS=some ⟨.type "tuple",none,.seq #[.str "box" tSORTS0,.str "lock" tSORTS1,.str "lane" tSORTS2,.str "door" tSORTS3,.str "hand" tSORTS4] nSORTS,sSORTS⟩)
  (wWORTHS:UG K Uv "WORTHS" =some (some (.int 1000 tWORTHS)))
  (wMOST_OWN_ROWS:UG K Uv "MOST_OWN_ROWS" =some (some (.int 200 tMOST_OWN_ROWS)))
  (wPOCKETING:UG K Uv "POCKETING" =some (some (.ref aPOCKETING))) (oPOCKETING:K.lookup aPOCKETING=some ⟨.type "tuple",none,.seq #[.str "get" tPOCKETING0,.str "fetch" tPOCKETING1,.str "clock" tPOCKETING2,.str "lot" tPOCKETING3,.str "hear" tPOCKETING4] nPOCKETING,sPOCKETING⟩)
  (wCOUNTS:UG K Uv "COUNTS" =some (some (.int 0 tCOUNTS)))
  (wSEATS:UG K Uv "SEATS" =some (some (.int 1 tSEATS)))
  (wGIFTED:UG K Uv "GIFTED" =some (some (.ref aGIFTED))) (oGIFTED:K.lookup aGIFTED=some ⟨.type "tuple",none,.seq #[.str "clock" tGIFTED0,.str "lot" tGIFTED1,.str "hear" tGIFTED2] nGIFTED,sGIFTED⟩)
  (oROW_PARTSv0_:K.lookup rROW_PARTS0=some ⟨.type "tuple",dROW_PARTSv0_,.seq #[.str "pocket" tROW_PARTSv0_0,.str "sum" tROW_PARTSv0_1] nROW_PARTSv0_,sROW_PARTSv0_⟩)
  (oROW_PARTSv1_:K.lookup rROW_PARTS1=some ⟨.type "tuple",dROW_PARTSv1_,.seq #[.str "target" tROW_PARTSv1_0,.str "sum" tROW_PARTSv1_1] nROW_PARTSv1_,sROW_PARTSv1_⟩)
  (oROW_PARTSv2_:K.lookup rROW_PARTS2=some ⟨.type "tuple",dROW_PARTSv2_,.seq #[.str "pocket" tROW_PARTSv2_0,.str "box" tROW_PARTSv2_1] nROW_PARTSv2_,sROW_PARTSv2_⟩)
  (oROW_PARTSv3_:K.lookup rROW_PARTS3=some ⟨.type "tuple",dROW_PARTSv3_,.seq #[.str "box" tROW_PARTSv3_0,.str "sum" tROW_PARTSv3_1] nROW_PARTSv3_,sROW_PARTSv3_⟩)
  (oROW_PARTSv4_:K.lookup rROW_PARTS4=some ⟨.type "tuple",dROW_PARTSv4_,.seq #[.str "lock" tROW_PARTSv4_0] nROW_PARTSv4_,sROW_PARTSv4_⟩)
  (oROW_PARTSv5_:K.lookup rROW_PARTS5=some ⟨.type "tuple",dROW_PARTSv5_,.seq #[.str "lock" tROW_PARTSv5_0] nROW_PARTSv5_,sROW_PARTSv5_⟩)
  (oROW_PARTSv6_:K.lookup rROW_PARTS6=some ⟨.type "tuple",dROW_PARTSv6_,.seq #[.str "lane" tROW_PARTSv6_0,.str "sum" tROW_PARTSv6_1] nROW_PARTSv6_,sROW_PARTSv6_⟩)
  (oROW_PARTSv7_:K.lookup rROW_PARTS7=some ⟨.type "tuple",dROW_PARTSv7_,.seq #[.str "pocket" tROW_PARTSv7_0,.str "lane" tROW_PARTSv7_1] nROW_PARTSv7_,sROW_PARTSv7_⟩)
  (oROW_PARTSv8_:K.lookup rROW_PARTS8=some ⟨.type "tuple",dROW_PARTSv8_,.seq #[.str "door" tROW_PARTSv8_0,.str "sum" tROW_PARTSv8_1] nROW_PARTSv8_,sROW_PARTSv8_⟩)
  (oROW_PARTSv9_:K.lookup rROW_PARTS9=some ⟨.type "tuple",dROW_PARTSv9_,.seq #[.str "pocket" tROW_PARTSv9_0] nROW_PARTSv9_,sROW_PARTSv9_⟩)
  (oROW_PARTSv10_:K.lookup rROW_PARTS10=some ⟨.type "tuple",dROW_PARTSv10_,.seq #[.str "pocket" tROW_PARTSv10_0,.str "chances" tROW_PARTSv10_1] nROW_PARTSv10_,sROW_PARTSv10_⟩)
  (oROW_PARTSv11_:K.lookup rROW_PARTS11=some ⟨.type "tuple",dROW_PARTSv11_,.seq #[.str "pocket" tROW_PARTSv11_0,.str "door" tROW_PARTSv11_1] nROW_PARTSv11_,sROW_PARTSv11_⟩)
  (wROW_PARTS:UG K Uv "ROW_PARTS" =some (some (.ref aROW_PARTS))) (oROW_PARTS:K.lookup aROW_PARTS=some { cls:= .type "dict",data:= .dict #[{ hash:=UJ w.params "let",key:= .str "let" qROW_PARTS0,val:= .ref rROW_PARTS0 },{ hash:=UJ w.params "leap",key:= .str "leap" qROW_PARTS1,val:= .ref rROW_PARTS1 },{ hash:=UJ w.params "get",key:= .str "get" qROW_PARTS2,val:= .ref rROW_PARTS2 },{ hash:=UJ w.params "put",key:= .str "put" qROW_PARTS3,val:= .ref rROW_PARTS3 },{ hash:=UJ w.params "take",key:= .str "take" qROW_PARTS4,val:= .ref rROW_PARTS4 },{ hash:=UJ w.params "free",key:= .str "free" qROW_PARTS5,val:= .ref rROW_PARTS5 },{ hash:=UJ w.params "send",key:= .str "send" qROW_PARTS6,val:= .ref rROW_PARTS6 },{ hash:=UJ w.params "fetch",key:= .str "fetch" qROW_PARTS7,val:= .ref rROW_PARTS7 },{ hash:=UJ w.params "say",key:= .str "say" qROW_PARTS8,val:= .ref rROW_PARTS8 },{ hash:=UJ w.params "clock",key:= .str "clock" qROW_PARTS9,val:= .ref rROW_PARTS9 },{ hash:=UJ w.params "lot",key:= .str "lot" qROW_PARTS10,val:= .ref rROW_PARTS10 },{ hash:=UJ w.params "hear",key:= .str "hear" qROW_PARTS11,val:= .ref rROW_PARTS11 }] eROW_PARTS }) (yROW_PARTS:(aROW_PARTS == Vq)=false)
  (wPLACE_OF:UG K Uv "PLACE_OF" =some (some (.ref aPLACE_OF))) (oPLACE_OF:K.lookup aPLACE_OF=some { cls:= .type "dict",data:= .dict #[{ hash:=UJ w.params "box",key:= .str "box" qPLACE_OF0,val:= .int 2 vPLACE_OF0 },{ hash:=UJ w.params "lock",key:= .str "lock" qPLACE_OF1,val:= .int 3 vPLACE_OF1 },{ hash:=UJ w.params "lane",key:= .str "lane" qPLACE_OF2,val:= .int 4 vPLACE_OF2 },{ hash:=UJ w.params "door",key:= .str "door" qPLACE_OF3,val:= .int 5 vPLACE_OF3 }] ePLACE_OF }) (yPLACE_OF:(aPLACE_OF == Vq)=false)
  (wMET_SORT:UG K Uv "MET_SORT" =some (some (.ref aMET_SORT))) (oMET_SORT:K.lookup aMET_SORT=some { cls:= .type "dict",data:= .dict #[{ hash:=UJ w.params "get",key:= .str "get" qMET_SORT0,val:= .str "box" vMET_SORT0 },{ hash:=UJ w.params "put",key:= .str "put" qMET_SORT1,val:= .str "box" vMET_SORT1 },{ hash:=UJ w.params "take",key:= .str "take" qMET_SORT2,val:= .str "lock" vMET_SORT2 },{ hash:=UJ w.params "free",key:= .str "free" qMET_SORT3,val:= .str "lock" vMET_SORT3 },{ hash:=UJ w.params "send",key:= .str "send" qMET_SORT4,val:= .str "lane" vMET_SORT4 },{ hash:=UJ w.params "fetch",key:= .str "fetch" qMET_SORT5,val:= .str "lane" vMET_SORT5 },{ hash:=UJ w.params "say",key:= .str "say" qMET_SORT6,val:= .str "door" vMET_SORT6 }] eMET_SORT }) (yMET_SORT:(aMET_SORT == Vq)=false) :
  ∃ fd:VU,(∀(s:T7)(v:Value),Zj s fd ⟨[v],[]⟩ [("_law_script",v)])/\ ∀ base:Heap,K.In base->base.Ns Uv mg->k8 l.prog w K mg base sd (room+1) fa fd ["_law_script"] (wY K tb (room+1) "law"):=by
 have T:Top l.prog w K mg tb:=⟨(TX.mpr ⟨UC X G z0,(TX.mpr ⟨UC X G z1,(TX.mpr ⟨UC X G z2,(TX.mpr ⟨UC X G z3,(TX.mpr ⟨UC X G z4,(TX.mpr ⟨UC X G z5,(TX.mpr ⟨UC X G z6,(TX.mpr ⟨UC X G z7,(TX.mpr ⟨UC X G z8,(TX.mpr ⟨UC X G z9,(TX.mpr ⟨UC X G z10,(TX.mpr ⟨UC X G z11,(TX.mpr ⟨UC X G z12,(TX.mpr ⟨UC X G z13,(TX.mpr ⟨UC X G z14,(TX.mpr ⟨UC X G z15,(TX.mpr ⟨UC X G z16,(TX.mpr ⟨UC X G z17,(TX.mpr ⟨UC X G z18,(TX.mpr ⟨UC X G z19,(by intro p m;cases m)⟩)⟩)⟩)⟩)⟩)⟩)⟩)⟩)⟩)⟩)⟩)⟩)⟩)⟩)⟩)⟩)⟩)⟩)⟩)⟩),Fg (conT:=conT) rfl (TX.mpr ⟨tJ (us:=[.str "box" tSORTS0,.str "lock" tSORTS1,.str "lane" tSORTS2,.str "door" tSORTS3,.str "hand" tSORTS4]) (VL X G wSORTS) oSORTS (by show 5<=sizeLine;decide) (.cons (.str _ _) (.cons (.str _ _) (.cons (.str _ _) (.cons (.str _ _) (.cons (.str _ _) .nil))))),(TX.mpr ⟨tq (VL X G wWORTHS) (.int _ _),(TX.mpr ⟨tq (VL X G wMOST_OWN_ROWS) (.int _ _),(TX.mpr ⟨tJ (us:=[.str "get" tPOCKETING0,.str "fetch" tPOCKETING1,.str "clock" tPOCKETING2,.str "lot" tPOCKETING3,.str "hear" tPOCKETING4]) (VL X G wPOCKETING) oPOCKETING (by show 5<=sizeLine;decide) (.cons (.str _ _) (.cons (.str _ _) (.cons (.str _ _) (.cons (.str _ _) (.cons (.str _ _) .nil))))),(TX.mpr ⟨tq (VL X G wCOUNTS) (.int _ _),(TX.mpr ⟨tq (VL X G wSEATS) (.int _ _),(TX.mpr ⟨tJ (us:=[.str "clock" tGIFTED0,.str "lot" tGIFTED1,.str "hear" tGIFTED2]) (VL X G wGIFTED) oGIFTED (by show 3<=sizeLine;decide) (.cons (.str _ _) (.cons (.str _ _) (.cons (.str _ _) .nil))),(by intro p m;cases m)⟩)⟩)⟩)⟩)⟩)⟩)⟩),HS (dcT:=dcT) rfl (TX.mpr ⟨xW (ls:=[("let",qROW_PARTS0,.ref rROW_PARTS0),("leap",qROW_PARTS1,.ref rROW_PARTS1),("get",qROW_PARTS2,.ref rROW_PARTS2),("put",qROW_PARTS3,.ref rROW_PARTS3),("take",qROW_PARTS4,.ref rROW_PARTS4),("free",qROW_PARTS5,.ref rROW_PARTS5),("send",qROW_PARTS6,.ref rROW_PARTS6),("fetch",qROW_PARTS7,.ref rROW_PARTS7),("say",qROW_PARTS8,.ref rROW_PARTS8),("clock",qROW_PARTS9,.ref rROW_PARTS9),("lot",qROW_PARTS10,.ref rROW_PARTS10),("hear",qROW_PARTS11,.ref rROW_PARTS11)]) (VL X G wROW_PARTS) oROW_PARTS yROW_PARTS (show([.inr "let",.inr "leap",.inr "get",.inr "put",.inr "take",.inr "free",.inr "send",.inr "fetch",.inr "say",.inr "clock",.inr "lot",.inr "hear"]:List Key).Nodup by decide +kernel) (.cons ⟨rfl,fe (us:=[.str "pocket" tROW_PARTSv0_0,.str "sum" tROW_PARTSv0_1]) oROW_PARTSv0_ (by show 2<=sizeLine;decide) (.cons (.str _ _) (.cons (.str _ _) .nil))⟩ (.cons ⟨rfl,fe (us:=[.str "target" tROW_PARTSv1_0,.str "sum" tROW_PARTSv1_1]) oROW_PARTSv1_ (by show 2<=sizeLine;decide) (.cons (.str _ _) (.cons (.str _ _) .nil))⟩ (.cons ⟨rfl,fe (us:=[.str "pocket" tROW_PARTSv2_0,.str "box" tROW_PARTSv2_1]) oROW_PARTSv2_ (by show 2<=sizeLine;decide) (.cons (.str _ _) (.cons (.str _ _) .nil))⟩ (.cons ⟨rfl,fe (us:=[.str "box" tROW_PARTSv3_0,.str "sum" tROW_PARTSv3_1]) oROW_PARTSv3_ (by show 2<=sizeLine;decide) (.cons (.str _ _) (.cons (.str _ _) .nil))⟩ (.cons ⟨rfl,fe (us:=[.str "lock" tROW_PARTSv4_0]) oROW_PARTSv4_ (by show 1<=sizeLine;decide) (.cons (.str _ _) .nil)⟩ (.cons ⟨rfl,fe (us:=[.str "lock" tROW_PARTSv5_0]) oROW_PARTSv5_ (by show 1<=sizeLine;decide) (.cons (.str _ _) .nil)⟩ (.cons ⟨rfl,fe (us:=[.str "lane" tROW_PARTSv6_0,.str "sum" tROW_PARTSv6_1]) oROW_PARTSv6_ (by show 2<=sizeLine;decide) (.cons (.str _ _) (.cons (.str _ _) .nil))⟩ (.cons ⟨rfl,fe (us:=[.str "pocket" tROW_PARTSv7_0,.str "lane" tROW_PARTSv7_1]) oROW_PARTSv7_ (by show 2<=sizeLine;decide) (.cons (.str _ _) (.cons (.str _ _) .nil))⟩ (.cons ⟨rfl,fe (us:=[.str "door" tROW_PARTSv8_0,.str "sum" tROW_PARTSv8_1]) oROW_PARTSv8_ (by show 2<=sizeLine;decide) (.cons (.str _ _) (.cons (.str _ _) .nil))⟩ (.cons ⟨rfl,fe (us:=[.str "pocket" tROW_PARTSv9_0]) oROW_PARTSv9_ (by show 1<=sizeLine;decide) (.cons (.str _ _) .nil)⟩ (.cons ⟨rfl,fe (us:=[.str "pocket" tROW_PARTSv10_0,.str "chances" tROW_PARTSv10_1]) oROW_PARTSv10_ (by show 2<=sizeLine;decide) (.cons (.str _ _) (.cons (.str _ _) .nil))⟩ (.cons ⟨rfl,fe (us:=[.str "pocket" tROW_PARTSv11_0,.str "door" tROW_PARTSv11_1]) oROW_PARTSv11_ (by show 2<=sizeLine;decide) (.cons (.str _ _) (.cons (.str _ _) .nil))⟩ .nil)))))))))))),(TX.mpr ⟨xW (ls:=[("box",qPLACE_OF0,.int 2 vPLACE_OF0),("lock",qPLACE_OF1,.int 3 vPLACE_OF1),("lane",qPLACE_OF2,.int 4 vPLACE_OF2),("door",qPLACE_OF3,.int 5 vPLACE_OF3)]) (VL X G wPLACE_OF) oPLACE_OF yPLACE_OF (show([.inr "box",.inr "lock",.inr "lane",.inr "door"]:List Key).Nodup by decide +kernel) (.cons ⟨rfl,iY (.int _ _)⟩ (.cons ⟨rfl,iY (.int _ _)⟩ (.cons ⟨rfl,iY (.int _ _)⟩ (.cons ⟨rfl,iY (.int _ _)⟩ .nil)))),(TX.mpr ⟨xW (ls:=[("get",qMET_SORT0,.str "box" vMET_SORT0),("put",qMET_SORT1,.str "box" vMET_SORT1),("take",qMET_SORT2,.str "lock" vMET_SORT2),("free",qMET_SORT3,.str "lock" vMET_SORT3),("send",qMET_SORT4,.str "lane" vMET_SORT4),("fetch",qMET_SORT5,.str "lane" vMET_SORT5),("say",qMET_SORT6,.str "door" vMET_SORT6)]) (VL X G wMET_SORT) oMET_SORT yMET_SORT (show([.inr "get",.inr "put",.inr "take",.inr "free",.inr "send",.inr "fetch",.inr "say"]:List Key).Nodup by decide +kernel) (.cons ⟨rfl,iY (.str _ _)⟩ (.cons ⟨rfl,iY (.str _ _)⟩ (.cons ⟨rfl,iY (.str _ _)⟩ (.cons ⟨rfl,iY (.str _ _)⟩ (.cons ⟨rfl,iY (.str _ _)⟩ (.cons ⟨rfl,iY (.str _ _)⟩ (.cons ⟨rfl,iY (.str _ _)⟩ .nil))))))),(by intro p m;cases m)⟩)⟩)⟩)⟩
 have gs: ∀ p∈Lk,∃ st N,aU l.prog w K mg tb p.1 p.2 st N:=(TX.mpr ⟨⟨_,_,wy has A0⟩,(TX.mpr ⟨⟨_,_,sV has A1⟩,(TX.mpr ⟨⟨_,_,wJ has A2⟩,(TX.mpr ⟨⟨_,_,FG has A3⟩,(TX.mpr ⟨⟨_,_,oU has A4⟩,(TX.mpr ⟨⟨_,_,wO has A5⟩,(TX.mpr ⟨⟨_,_,ui has A6⟩,(TX.mpr ⟨⟨_,_,Ar has A7⟩,(TX.mpr ⟨⟨_,_,t4 has A8⟩,(TX.mpr ⟨⟨_,_,Dx has A9⟩,(TX.mpr ⟨⟨_,_,uo has A10⟩,(TX.mpr ⟨⟨_,_,tD has A11⟩,(TX.mpr ⟨⟨_,_,lT has A12⟩,(TX.mpr ⟨⟨_,_,Ls has A13⟩,(TX.mpr ⟨⟨_,_,xX has A14⟩,(TX.mpr ⟨⟨_,_,qM has A15⟩,(TX.mpr ⟨⟨_,_,xB has A16⟩,(TX.mpr ⟨⟨_,_,qe has A17⟩,(TX.mpr ⟨⟨_,_,ya has A18⟩,(TX.mpr ⟨⟨_,_,wB has A19⟩,(TX.mpr ⟨⟨_,_,zA has A20⟩,(TX.mpr ⟨⟨_,_,G8 has A21⟩,(TX.mpr ⟨⟨_,_,Bn has A22⟩,(TX.mpr ⟨⟨_,_,xM has A23⟩,(TX.mpr ⟨⟨_,_,Co has A24⟩,(TX.mpr ⟨⟨_,_,KU has A25⟩,(TX.mpr ⟨⟨_,_,uU has A26⟩,(TX.mpr ⟨⟨_,_,s9 has A27⟩,(TX.mpr ⟨⟨_,_,zZ has A28⟩,(TX.mpr ⟨⟨_,_,pB has A29⟩,(TX.mpr ⟨⟨_,_,rY has A30⟩,(TX.mpr ⟨⟨_,_,wG has A31⟩,(TX.mpr ⟨⟨_,_,vZ has A32⟩,(TX.mpr ⟨⟨_,_,vT has A33⟩,(TX.mpr ⟨⟨_,_,xT has A34⟩,(TX.mpr ⟨⟨_,_,mn has A35⟩,(TX.mpr ⟨⟨_,_,vy has A36⟩,(TX.mpr ⟨⟨_,_,pN has A37⟩,(TX.mpr ⟨⟨_,_,tM has A38⟩,(TX.mpr ⟨⟨_,_,qo has A39⟩,(TX.mpr ⟨⟨_,_,uX has A40⟩,(TX.mpr ⟨⟨_,_,sf has A41⟩,(TX.mpr ⟨⟨_,_,x8 has A42⟩,(TX.mpr ⟨⟨_,_,uP has A43⟩,(TX.mpr ⟨⟨_,_,tL has A44⟩,(TX.mpr ⟨⟨_,_,qO has A45⟩,(TX.mpr ⟨⟨_,_,sS has A46⟩,(TX.mpr ⟨⟨_,_,AH has A47⟩,(TX.mpr ⟨⟨_,_,xn has A48⟩,(TX.mpr ⟨⟨_,_,ug has A49⟩,(TX.mpr ⟨⟨_,_,oV has A50⟩,(TX.mpr ⟨⟨_,_,Je has A51⟩,(by intro p m;cases m)⟩)⟩)⟩)⟩)⟩)⟩)⟩)⟩)⟩)⟩)⟩)⟩)⟩)⟩)⟩)⟩)⟩)⟩)⟩)⟩)⟩)⟩)⟩)⟩)⟩)⟩)⟩)⟩)⟩)⟩)⟩)⟩)⟩)⟩)⟩)⟩)⟩)⟩)⟩)⟩)⟩)⟩)⟩)⟩)⟩)⟩)⟩)⟩)⟩)⟩)⟩)⟩)
 exact Mx T (BL rfl gs) has.IW rfl (Je has A51) hfa
theorem walk{l:XZ}{q:Uy}{loose:List Str}{XP:(Str->Option Value)->Heap->Prop}{YP:World->Heap->Prop}{d:DefRec}{K:Params->TV}(hn:l.most=some 63)(hdf:d.params.defaults=[])
  (hY: ∀(w:World)(h:Heap),YP w h->(K w.params).In h)
  (F: ∀(w:World)(mg:Str->Option Value)(fa:Addr)(h:Heap),(K w.params).In h->h.Ns Uv mg->mg d.name=some (.ref fa) ->
   ∃ fd:VU,(∀(s:T7)(u:Value),Zj s fd ⟨[u],[]⟩ [("_law_script",u)])/\ ∀ base:Heap,(K w.params).In base->base.Ns Uv mg->k8 l.prog w (K w.params) mg base sd (room+1) fa fd ["_law_script"] (wY (K w.params) tb (room+1) "law")) :
  abu q loose XP YP l.row.toRowW d [] (λf vs=>abp f vs) :=
 L2.Gk (n:=63) (k:=room+1) (x:= "_law_script") (CX:=λ_=>sd) (sp:=λw=>wY (K w.params) tb (room+1) "law") hn (by decide) hdf ⟨rfl,by decide,by decide,rfl⟩ hY F (λ_ H a ns hl hO hS=>Ln Dz H a ns hl hO hS) λ_ _ _ _ _ z=>z
end K20
open PySem PySem.W PyProof.Rows
set_option maxRecDepth 100000 in
set_option maxHeartbeats 0 in
theorem PySem.Challenge.cw_leastrecord_k20_who_waits_holds : PySem.Challenge.rw_leastrecord_k20_who_waits.Holds := by
 w_on;o_law;k_head;(case hw=>w_witness2)
 k_fill
 refine K20.walk (l:=PySem.Challenge.rw_leastrecord_k20_who_waits) rfl rfl (λw h Y=>PySem.W.kIn_of Y) ?F
 case F =>
  intro w mg fa h KX G hmg
  refine' K20.all_mk KX G hmg (L2.aM KX G ?_ ?_ ?_ ?_) (L2.aM KX G ?_ ?_ ?_ ?_) (L2.aM KX G ?_ ?_ ?_ ?_) (L2.aM KX G ?_ ?_ ?_ ?_) (L2.aM KX G ?_ ?_ ?_ ?_) (L2.aM KX G ?_ ?_ ?_ ?_) (L2.aM KX G ?_ ?_ ?_ ?_) (L2.aM KX G ?_ ?_ ?_ ?_) (L2.aM KX G ?_ ?_ ?_ ?_) (L2.aM KX G ?_ ?_ ?_ ?_) (L2.aM KX G ?_ ?_ ?_ ?_) (L2.aM KX G ?_ ?_ ?_ ?_) (L2.aM KX G ?_ ?_ ?_ ?_) (L2.aM KX G ?_ ?_ ?_ ?_) (L2.aM KX G ?_ ?_ ?_ ?_) (L2.aM KX G ?_ ?_ ?_ ?_) (L2.aM KX G ?_ ?_ ?_ ?_) (L2.aM KX G ?_ ?_ ?_ ?_) (L2.aM KX G ?_ ?_ ?_ ?_) (L2.aM KX G ?_ ?_ ?_ ?_) (L2.aM KX G ?_ ?_ ?_ ?_) (L2.aM KX G ?_ ?_ ?_ ?_) (L2.aM KX G ?_ ?_ ?_ ?_) (L2.aM KX G ?_ ?_ ?_ ?_) (L2.aM KX G ?_ ?_ ?_ ?_) (L2.aM KX G ?_ ?_ ?_ ?_) (L2.aM KX G ?_ ?_ ?_ ?_) (L2.aM KX G ?_ ?_ ?_ ?_) (L2.aM KX G ?_ ?_ ?_ ?_) (L2.aM KX G ?_ ?_ ?_ ?_) (L2.aM KX G ?_ ?_ ?_ ?_) (L2.aM KX G ?_ ?_ ?_ ?_) (L2.aM KX G ?_ ?_ ?_ ?_) (L2.aM KX G ?_ ?_ ?_ ?_) (L2.aM KX G ?_ ?_ ?_ ?_) (L2.aM KX G ?_ ?_ ?_ ?_) (L2.aM KX G ?_ ?_ ?_ ?_) (L2.aM KX G ?_ ?_ ?_ ?_) (L2.aM KX G ?_ ?_ ?_ ?_) (L2.aM KX G ?_ ?_ ?_ ?_) (L2.aM KX G ?_ ?_ ?_ ?_) (L2.aM KX G ?_ ?_ ?_ ?_) (L2.aM KX G ?_ ?_ ?_ ?_) (L2.aM KX G ?_ ?_ ?_ ?_) (L2.aM KX G ?_ ?_ ?_ ?_) (L2.aM KX G ?_ ?_ ?_ ?_) (L2.aM KX G ?_ ?_ ?_ ?_) (L2.aM KX G ?_ ?_ ?_ ?_) (L2.aM KX G ?_ ?_ ?_ ?_) (L2.aM KX G ?_ ?_ ?_ ?_) (L2.aM KX G ?_ ?_ ?_ ?_) (L2.aM KX G ?_ ?_ ?_ ?_) ?z0 ?z1 ?z2 ?z3 ?z4 ?z5 ?z6 ?z7 ?z8 ?z9 ?z10 ?z11 ?z12 ?z13 ?z14 ?z15 ?z16 ?z17 ?z18 ?z19 ?wSORTS ?oSORTS ?wWORTHS ?wMOST_OWN_ROWS ?wPOCKETING ?oPOCKETING ?wCOUNTS ?wSEATS ?wGIFTED ?oGIFTED ?oROW_PARTSv0_ ?oROW_PARTSv1_ ?oROW_PARTSv2_ ?oROW_PARTSv3_ ?oROW_PARTSv4_ ?oROW_PARTSv5_ ?oROW_PARTSv6_ ?oROW_PARTSv7_ ?oROW_PARTSv8_ ?oROW_PARTSv9_ ?oROW_PARTSv10_ ?oROW_PARTSv11_ ?wROW_PARTS ?oROW_PARTS ?yROW_PARTS ?wPLACE_OF ?oPLACE_OF ?yPLACE_OF ?wMET_SORT ?oMET_SORT ?yMET_SORT
  all_goals try k_is
  all_goals try k_is
  all_goals exact rfl
end
end
end
